import PyProof.Rows.All
import PyProof.StrLawsIdx
import Wide.All
import OpenK.AllK
import Wide.FinOn
import Lean
import PyProof.EqAt
import PyProof.EqKinds
import PyProof.TupleCall
import PyProof.NeKinds
import PySem.Challenge.RW_homeslopes_k12_ways_with_others
set_option Elab.async false
set_option linter.all false
set_option maxRecDepth 100000
set_option maxHeartbeats 4000000
set_option genSizeOf false
set_option genInjectivity false
noncomputable section
open PySem PySem.Spec PyProof.Rows
section
namespace L2
open PySem PySem.Spec PyProof.Rows
abbrev Key:=Sum Int Str
def keyIs:Key→Value→Bool
 | .inl k,v=>Value.isInt k v
 | .inr x,v=>Value.isStrOf x v
def keyH (w:World):Key→Int
 | .inl k=>hashInt k
 | .inr x=>hashStr w x
theorem keyIs_shape: ∀ {k:Key} {v:Value},keyIs k v=true→(∃ i t,k=Sum.inl i∧v=Value.int i t)∨(∃ x t,k=Sum.inr x∧v=Value.str x t)
 | .inl i,v,h=>by
  obtain⟨t,e⟩:=Value.isInt_shape (k:=i) (v:=v) h
  exact .inl ⟨i,t,rfl,e⟩
 | .inr x,v,h=>by
  obtain⟨t,e⟩:=Value.isStrOf_shape (x:=x) (v:=v) h
  exact .inr ⟨x,t,rfl,e⟩
theorem keyIs_int (i:Int) (t:Tok):keyIs (.inl i) (.int i t)=true:=by simp[keyIs,Value.isInt]
theorem keyIs_str (x:Str) (t:Tok):keyIs (.inr x) (.str x t)=true:=by simp[keyIs,Value.isStrOf]
theorem key_ll (a b:Int):decide ((Sum.inl a:Key)=Sum.inl b)=(a==b):=by
 by_cases e:a=b
 ·subst e;simp
 ·have h: ¬ (Sum.inl a:Key)=Sum.inl b:=fun q=>e (Sum.inl.inj q)
  rw[decide_eq_false h]
  exact(beq_eq_false_iff_ne.mpr e).symm
theorem key_rr (a b:Str):decide ((Sum.inr a:Key)=Sum.inr b)=decide (a=b):=by
 by_cases e:a=b
 ·subst e;simp
 ·have h: ¬ (Sum.inr a:Key)=Sum.inr b:=fun q=>e (Sum.inr.inj q)
  rw[decide_eq_false h,decide_eq_false e]
theorem key_lr (a:Int) (b:Str):decide ((Sum.inl a:Key)=Sum.inr b)=false:=decide_eq_false (fun q=>nomatch q)
theorem key_rl (a:Str) (b:Int):decide ((Sum.inr a:Key)=Sum.inl b)=false:=decide_eq_false (fun q=>nomatch q)
noncomputable def mixKind (prog:Program) (w:World):PySem.KeyKind prog w Key where
 is:=keyIs
 hash:=keyH w
 inj:=fun v a b ha hb=>by
  rcases keyIs_shape ha with⟨i,t,rfl,rfl⟩|⟨x,t,rfl,rfl⟩
  ·rcases keyIs_shape hb with⟨j,u,rfl,e⟩|⟨y,u,rfl,e⟩
   ·injection e with e1 _;rw[e1]
   ·exact nomatch e
  ·rcases keyIs_shape hb with⟨j,u,rfl,e⟩|⟨y,u,rfl,e⟩
   ·exact nomatch e
   ·injection e with e1 _;rw[e1]
 byValue:=fun k v h=>by
  rcases keyIs_shape h with⟨i,t,rfl,rfl⟩|⟨x,t,rfl,rfl⟩<;>rfl
 pyHash:=fun hv h=>by
  rcases keyIs_shape hv with⟨i,t,rfl,rfl⟩|⟨x,t,rfl,rfl⟩
  ·exact wpAny_pyHash_int h
  ·exact wpAny_pyHash_str h
 eqBool:=fun hu hv h=>by
  rcases keyIs_shape hu with⟨i,t,rfl,rfl⟩|⟨x,t,rfl,rfl⟩
  ·rcases keyIs_shape hv with⟨j,u,rfl,rfl⟩|⟨y,u,rfl,rfl⟩
   ·rw[key_ll] at h;exact wpAny_eqBool_int h
   ·rw[key_lr] at h;exact SeqAt.EqAt.int_str i t y u _ _ _ _ h
  ·rcases keyIs_shape hv with⟨j,u,rfl,rfl⟩|⟨y,u,rfl,rfl⟩
   ·rw[key_rl] at h;exact SeqAt.EqAt.str_int x t j u _ _ _ _ h
   ·rw[key_rr] at h;exact wpAny_eqBool_str h
 «strs»:=fun k x t v h=>by
  rcases keyIs_shape h with⟨i,u,rfl,e⟩|⟨y,u,rfl,e⟩
  ·exact nomatch e
  ·injection e with e1 _
   subst e1
   cases v<;>rfl
theorem mixKind_is (prog:Program) (w:World) (k:Key) (v:Value):(mixKind prog w).is k v=keyIs k v:=rfl
theorem mixKind_int (prog:Program) (w:World) (i:Int) (t:Tok):(mixKind prog w).is (.inl i) (.int i t)=true:=keyIs_int i t
theorem mixKind_str (prog:Program) (w:World) (x:Str) (t:Tok):(mixKind prog w).is (.inr x) (.str x t)=true:=keyIs_str x t
end L2
namespace L2
open PySem PySem.Spec PyProof.Rows
set_option genInjectivity true in
inductive V where
 |non|bl (b:Bool)|int (i:Int)|str (x:Str)|byt (b:Array UInt8)|flt (b:UInt64)|ref (a:Addr)|ty (n:String)
 deriving DecidableEq
noncomputable def RelV:V→Value→Prop
 | .non,u=>u=Value.none
 | .bl b,u=>u=Value.bool b
 | .int i,u=> ∃ t,u=Value.int i t
 | .str x,u=> ∃ t,u=Value.str x t
 | .byt b,u=> ∃ t,u=Value.bytes b t
 | .flt b,u=> ∃ t,u=Value.float b t
 | .ref a,u=>u=Value.ref a
 | .ty n,u=>u=Value.type n
abbrev Vals:List V→List Value→Prop:=Paired RelV
theorem Vals.length {xs:List V} {us:List Value} (r:Vals xs us):xs.length=us.length:=Paired.length r
theorem Vals.get: ∀ {xs:List V} {us:List Value} {i:Nat} {x:V},Vals xs us→xs[i]?=some x→∃ u,us[i]?=some u∧RelV x u
 |_,_,_,_,.nil,e=>by simp at e
 |_,_,0,_,.cons r _,e=>by simp at e;subst e;exact⟨_,rfl,r⟩
 |_,_,i+1,x,.cons _ t,e=>by
  obtain⟨u,h1,h2⟩:=Vals.get (i:=i) (x:=x) t (by simpa using e)
  exact⟨u,by simpa using h1,h2⟩
theorem Vals.set (r:RelV x u): ∀ {xs:List V} {us:List Value} (i:Nat),Vals xs us→Vals (xs.set i x) (us.set i u)
 |_,_,_,.nil=>.nil
 |_,_,0,.cons _ t=>.cons r t
 |_,_,i+1,.cons q t=>.cons q (Vals.set r i t)
theorem Vals.append: ∀ {xs ys:List V} {us ws:List Value},Vals xs us→Vals ys ws→Vals (xs++ys) (us++ws)
 |_,_,_,_,.nil,s=>s
 |_,_,_,_,.cons r t,s=>.cons r (Vals.append t s)
theorem Vals.take: ∀ {xs:List V} {us:List Value} (n:Nat),Vals xs us→Vals (xs.take n) (us.take n)
 |_,_,0,_=>.nil
 |_,_,_+1,.nil=>.nil
 |_,_,n+1,.cons r t=>.cons r (Vals.take n t)
theorem Vals.drop: ∀ {xs:List V} {us:List Value} (n:Nat),Vals xs us→Vals (xs.drop n) (us.drop n)
 |_,_,0,r=>r
 |_,_,_+1,.nil=>.nil
 |_,_,n+1,.cons _ t=>Vals.drop n t
def RelO:Option V→Option Value→Prop
 |some v,some u=>RelV v u
 |none,none=>True
 |_,_=>False
def KV {κ:Type}:List (κ×V)→List (κ×Value)→Prop:=Paired fun (p:κ×V) (q:κ×Value)=>p.1=q.1∧RelV p.2 q.2
def kV:Key→V
 | .inl i=>.int i
 | .inr x=>.str x
inductive HO where
  |lst (xs:List V)
  |tup (xs:List V)
  |dK (kvs:List (Key×V))|dT (kvs:List (List Key×V))
  |set (S:Int→Bool) (n:Nat)
  |ins (C dx:Addr) (fs:List (Str×V))
  |own (x:Addr)
  |xd (fs:List (Str×V))
  |met (f x:Addr)
  |rng (lo hi:Int)
  |frz (o:Obj) (u:HO)
  |tbl (ps:Array Value)
  |ext (φ:Heap→Prop)
abbrev Hp:=Addr→Option HO
def upd (H:Hp) (a:Addr) (o:HO):Hp:=fun b=>if b=a then some o else H b
theorem upd_same:upd H a o a=some o:=by unfold upd;rw[if_pos rfl]
theorem upd_ne (h:b≠a):upd H a o b=H b:=by unfold upd;rw[if_neg h]
theorem upd_upd:upd (upd H a o) a u=upd H a u:=by
 funext b;unfold upd;split<;>rfl
theorem ne_of {H:Hp} (h:H a=some o) (h':H b=some u) (d:o≠u):a≠b:=by
 intro e;subst e;rw[h] at h';exact d (Option.some.inj h')
theorem ne_of_none {H:Hp} (h:H a=some o) (h':H b=none):a≠b:=by
 intro e;subst e;rw[h] at h';cases h'
section
variable (P:Program) (w:World)
noncomputable def ObjOk (H:Hp) (h:Heap) (a:Addr):HO→Prop
 | .lst xs=>xs.length≤sizeLine∧∃ (its:List Value) (n:Nat),Vals xs its∧h.get? a=some {cls:=.type "list",data:=.seq its.toArray n}
 | .tup xs=>xs.length≤sizeLine∧∃ its:List Value,Vals xs its∧IsTup h a its.toArray
 | .dK kvs=>kvs.length≤sizeLine∧(a==sysModules)=false∧∃ vs,KV kvs vs∧h.DictOf (mixKind P w) a vs
 | .dT kvs=>kvs.length≤sizeLine∧(a==sysModules)=false∧∃ xs:List (List Key×Addr×Value),
   Paired (fun (p:List Key×V) (q:List Key×Addr×Value)=>p.1=q.1∧H q.2.1=some (.tup (p.1.map kV))∧RelV p.2 q.2.2) kvs xs∧
   ∃ o es ep,h.get? a=some o∧o.ExactDict∧o.data= .dict es ep∧es.toList=xs.map (entryOfKey (tupleKind (mixKind P w)))∧(xs.map (·.1)).Nodup
 | .set S n=>h.SetOf (intKind P w) a S n
 | .ins C dx fs=>H dx=some (.own a)∧fs.length≤1000∧dx≠a∧h.get? a=some (PySem.W.instObj C dx)∧
   ∃ mA,h.Ns1 dx mA∧(∀ f,RelO (fs.lookup f) (mA f))∧PySem.Within mA (fs.map (·.1))
 | .own _=> ∃ o,h.get? a=some o
 | .xd fs=> ∃ mA,h.Ns1 a mA∧∀ f,RelO (fs.lookup f) (mA f)
 | .rng lo hi=> ∃ t u v,h.get? a=some {cls:=.type "range",data:=.fields #[.int lo t,.int hi u,.int 1 v]}
 | .frz o u=>h.get? a=some o∧ObjOk H h a u
 | .tbl ps=>h.get? a=some {cls:=.none,data:=.fields ps}
 | .met f x=>h.get? a=some (PySem.W.methodObj (.ref f) (.ref x))
 | .ext φ=>φ h∧(∃ o,h.get? a=some o)∧∀ h1 h2:Heap,φ h1→(∀ o,h1.get? a=some o→h2.get? a=some o)→φ h2
def HOk (H:Hp) (h:Heap):Prop:= ∀ a o,H a=some o→ObjOk P w H h a o
end
section
variable {P:Program} {w:World} {H H':Hp} {h h':Heap} {a:Addr} {o:HO}
theorem ObjOk.lt (x:ObjOk P w H h a o):a < h.objs.size:=by
 cases o with
 |lst xs=>obtain⟨_,_,_,_,e⟩:=x;exact Heap.lt_size e
 |tup xs=>obtain⟨_,_,_,p⟩:=x;exact p.lt
 |dK kvs=>obtain⟨_,_,_,_,o,_,_,e,_⟩:=x;exact Heap.lt_size e
 |dT kvs=>obtain⟨_,_,_,_,o,_,_,e,_⟩:=x;exact Heap.lt_size e
 |set S n=>obtain⟨o,_,_,_,e,_⟩:=x;exact Heap.lt_size e
 |ins C dx fs=>obtain⟨_,_,_,e,_⟩:=x;exact Heap.lt_size e
 |own y=>obtain⟨_,e⟩:=x;exact Heap.lt_size e
 |xd fs=>obtain⟨_,⟨_,_,_,e,_⟩,_⟩:=x;exact Heap.lt_size e
 |rng lo hi=>obtain⟨_,_,_,e⟩:=x;exact Heap.lt_size e
 |frz ob u=>obtain⟨e,_⟩:=x;exact Heap.lt_size e
 |tbl ps=>exact Heap.lt_size (show h.get? a=some _ from x)
 |met f y=>exact Heap.lt_size (show h.get? a=some _ from x)
 |ext φ=>obtain⟨_,⟨_,e⟩,_⟩:=x;exact Heap.lt_size e
theorem Paired.mapP: ∀ {l₁:List α} {l₂:List β},Paired F l₁ l₂→(∀ a b,F a b→G a b)→Paired G l₁ l₂
 |_,_,.nil,_=>.nil
 |_,_,.cons r t,f=>.cons (f _ _ r) (Paired.mapP t f)
theorem ObjOk.stay (x:ObjOk P w H h a o) (k: ∀ b u,(b=a∨H b=some (.own a))→h.get? b=some u→h'.get? b=some u)
  (ho: ∀ b,H b=some (.own a)→H' b=some (.own a)) (ht: ∀ b xs,H b=some (.tup xs)→H' b=some (.tup xs)):ObjOk P w H' h' a o:=by
 induction o with
 |lst xs=>obtain⟨z,its,n,r,e⟩:=x;exact⟨z,its,n,r,k _ _ (.inl rfl) e⟩
 |tup xs=>obtain⟨z,its,r,ob,e,c⟩:=x;exact⟨z,its,r,ob,k _ _ (.inl rfl) e,c⟩
 |dK kvs=>obtain⟨z,y,vs,r,ob,es,ep,e,c⟩:=x;exact⟨z,y,vs,r,ob,es,ep,k _ _ (.inl rfl) e,c⟩
 |dT kvs=>
  obtain⟨z,y,xs,r,ob,es,ep,e,c⟩:=x
  exact⟨z,y,xs,Paired.mapP r fun p q z=>⟨z.1,ht _ _ z.2.1,z.2.2⟩,ob,es,ep,k _ _ (.inl rfl) e,c⟩
 |set S n=>obtain⟨ob,es,ep,t,e,c⟩:=x;exact⟨ob,es,ep,t,k _ _ (.inl rfl) e,c⟩
 |ins C dx fs=>
  obtain⟨d,z,ne,e,mA,⟨od,es,ep,e2,c⟩,r⟩:=x
  exact⟨ho _ d,z,ne,k _ _ (.inl rfl) e,mA,⟨od,es,ep,k _ _ (.inr d) e2,c⟩,r⟩
 |own y=>obtain⟨ob,e⟩:=x;exact⟨ob,k _ _ (.inl rfl) e⟩
 |xd fs=>obtain⟨mA,⟨od,es,ep,e,c⟩,r⟩:=x;exact⟨mA,⟨od,es,ep,k _ _ (.inl rfl) e,c⟩,r⟩
 |rng lo hi=>obtain⟨t,u,v,e⟩:=x;exact⟨t,u,v,k _ _ (.inl rfl) e⟩
 |frz ob u ih=>obtain⟨e,q⟩:=x;exact⟨k _ _ (.inl rfl) e,ih q⟩
 |tbl ps=>
  have e:h.get? a=some {cls:=.none,data:=.fields ps}:=x
  show h'.get? a=some {cls:=.none,data:=.fields ps}
  exact k a _ (.inl rfl) e
 |met f y=>
  have e:h.get? a=some (PySem.W.methodObj (.ref f) (.ref y)):=x
  show h'.get? a=some (PySem.W.methodObj (.ref f) (.ref y))
  exact k a _ (.inl rfl) e
 |ext φ=>obtain⟨p,⟨o,e⟩,st⟩:=x;exact⟨st _ _ p fun o q=>k _ _ (.inl rfl) q,⟨o,k _ _ (.inl rfl) e⟩,st⟩
theorem HOk.lt (x:HOk P w H h) (e:H a=some o):a < h.objs.size:=(x a o e).lt
theorem HOk.fresh (x:HOk P w H h) (e:h.objs.size≤a):H a=none:=by
 cases q:H a with
 |none=>rfl
 |some u=>exact absurd (Nat.lt_of_lt_of_le (x.lt q) e) (Nat.lt_irrefl _)
theorem HOk.kept (x:HOk P w H h) (k: ∀ b u,h.get? b=some u→h'.get? b=some u):HOk P w H h':=fun a o e=>
 (x a o e).stay (fun b u _ q=>k b u q) (fun _ q=>q) fun _ _ q=>q
theorem HOk.laid (x:HOk P w H h) (k: ∀ b u,h.get? b=some u→h'.get? b=some u) (hp:h.objs.size≤a) (new:ObjOk P w (upd H a o) h' a o):HOk P w (upd H a o) h':=fun b u e=>by
 have hn:=x.fresh hp
 by_cases hb:b=a
 ·subst hb;rw[upd_same] at e;cases e;exact new
 ·rw[upd_ne hb] at e
  exact(x b u e).stay (fun c v _ q=>k c v q) (fun c q=>by rw[upd_ne (ne_of_none q hn)];exact q) fun c xs q=>by rw[upd_ne (ne_of_none q hn)];exact q
end
def Rd (H:Hp) (a:Addr) (u:HO):Prop:=H a=some u∨∃ o,H a=some (.frz o u)
theorem Rd.ok {P:Program} {w:World} {H:Hp} {h:Heap} {a:Addr} {u:HO} (r:Rd H a u) (x:HOk P w H h):ObjOk P w H h a u:=by
 rcases r with r|⟨o,r⟩
 ·exact x a u r
 ·obtain⟨_,q⟩:=x a _ r
  exact q
def Mut:Option HO→Prop
 |some (.lst _)=>True
 |some (.dK _)=>True
 |some (.dT _)=>True
 |some (.set _ _)=>True
 |some (.ins _ _ _)=>True
 |some (.ext _)=>True
 |_=>False
section
variable {P:Program} {w:World} {H:Hp} {h h':Heap} {x e:Addr} {o':HO}
theorem HOk.write (ok:HOk P w H h) (mu:Mut (H x)) (he:e=x∨H e=some (.own x)) (k: ∀ b u,b≠e→h.get? b=some u→h'.get? b=some u) (heo: ∃ u,h'.get? e=some u)
  (new:ObjOk P w (upd H x o') h' x o'):HOk P w (upd H x o') h':=fun b u q=>by
 have nown: ∀ c y,H c=some (.own y)→c≠x:=fun c y r z=>by subst z;rw[r] at mu;exact mu
 have ntup: ∀ c xs,H c=some (.tup xs)→c≠x:=fun c xs r z=>by subst z;rw[r] at mu;exact mu
 by_cases hb:b=x
 ·subst hb;rw[upd_same] at q;cases q;exact new
 ·rw[upd_ne hb] at q
  by_cases hbe:b=e
  ·have q':H b=some (.own x):=by
    rcases he with z|z
    ·exact absurd (hbe.trans z) hb
    ·rw[hbe];exact z
   rw[q] at q';cases q'
   obtain⟨v,hv⟩:=heo
   exact⟨v,by rw[hbe];exact hv⟩
  ·refine(ok b u q).stay (fun c v hc r=>k c v ?_ r) (fun c r=>by rw[upd_ne (nown c b r)];exact r) fun c xs r=>by rw[upd_ne (ntup c xs r)];exact r
   rcases hc with rfl|hc
   ·exact hbe
   ·rintro rfl
    rcases he with z|z
    ·exact nown c b hc z
    ·rw[hc] at z;cases z;exact hb rfl
end
structure Un (fs ex:List Addr) (H H':Hp) (h h':Heap):Prop where
 keep: ∀ b o,h.get? b=some o→H b=none→b∉fs→b∉ex→h'.get? b=some o
 slot: ∀ b o,h.get? b=some o→H b=none→b∈fs→b∉ex→∃ sl,h'.get? b=some {o with slots:=sl}
 free: ∀ b o,h.get? b=some o→H b=none→b∉ex→H' b=none
 there: ∀ b o,h.get? b=some o→b∉ex→∃ o',h'.get? b=some o'
 tups: ∀ b xs,H b=some (.tup xs)→H' b=some (.tup xs)
 frzs: ∀ b o u,H b=some (.frz o u)→H' b=some (.frz o u)
 tbls: ∀ b ps,H b=some (.tbl ps)→∃ more,H' b=some (.tbl (ps++more))
section
variable {fs fs' ex ex':List Addr} {H H1 H2:Hp} {h h1 h2 h':Heap} {a x e:Addr} {o:HO}
theorem Un.any (u:Un fs ex H H1 h h1) {b:Addr} {ob:Obj} (q:h.get? b=some ob) (n:H b=none) (hx:b∉ex): ∃ sl,h1.get? b=some {ob with slots:=sl}:=by
 by_cases hb:b∈fs
 ·exact u.slot b ob q n hb hx
 ·exact⟨ob.slots,u.keep b ob q n hb hx⟩
theorem Un.kept (k: ∀ b u,h.get? b=some u→h'.get? b=some u):Un fs ex H H h h':=
 ⟨fun b ob q _ _ _=>k b ob q,fun b ob q _ _ _=>⟨ob.slots,k b ob q⟩,fun _ _ _ n _=>n,fun b ob q _=>⟨ob,k b ob q⟩,fun _ _ q=>q,fun _ _ _ q=>q,fun _ ps q=>⟨#[],by rw[q];simp⟩⟩
theorem Un.refl:Un fs ex H H h h:=Un.kept fun _ _ q=>q
theorem Un.laid (k: ∀ b u,h.get? b=some u→h'.get? b=some u) (hp:h.objs.size≤a) (hn:H a=none):Un fs ex H (upd H a o) h h' where
 keep:=fun b u q _ _ _=>k b u q
 slot:=fun b u q _ _ _=>⟨u.slots,k b u q⟩
 free:=fun b u q n _=>by rw[upd_ne (Nat.ne_of_lt (Nat.lt_of_lt_of_le (Heap.lt_size q) hp))];exact n
 there:=fun b u q _=>⟨u,k b u q⟩
 tups:=fun b xs q=>by rw[upd_ne (ne_of_none q hn)];exact q
 frzs:=fun b u xs q=>by rw[upd_ne (ne_of_none q hn)];exact q
 tbls:=fun b ps q=>⟨#[],by rw[upd_ne (ne_of_none q hn),q];simp⟩
theorem Un.write (mu:Mut (H x)) (he:e=x∨H e=some (.own x)) (k: ∀ b u,b≠e→h.get? b=some u→h'.get? b=some u) (heo: ∃ u,h'.get? e=some u):Un fs ex H (upd H x o) h h':=by
 have hx: ∀ b,H b=none→b≠x:=fun b n z=>by subst z;rw[n] at mu;exact mu
 have hb: ∀ b,H b=none→b≠e:=fun b n z=>by
  subst z
  rcases he with r|r
  ·exact hx b n r
  ·rw[n] at r;cases r
 have hm: ∀ b u,H b=some u→¬ Mut (some u)→b≠x:=fun b u q nm z=>by subst z;rw[q] at mu;exact nm mu
 refine⟨fun b u q n _ _=>k b u (hb b n) q,fun b u q n _ _=>⟨u.slots,k b u (hb b n) q⟩,fun b u q n _=>by rw[upd_ne (hx b n)];exact n,fun b u q _=>?_,
  fun b xs q=>by rw[upd_ne (hm b _ q fun z=>z)];exact q,fun b u xs q=>by rw[upd_ne (hm b _ q fun z=>z)];exact q,fun b ps q=>⟨#[],by rw[upd_ne (hm b _ q fun z=>z),q];simp⟩⟩
 by_cases hbe:b=e
 ·subst hbe;exact heo
 ·exact⟨u,k b u hbe q⟩
end
def trk (h:Heap) (H:Hp):List Addr:=(List.range h.objs.size).filter fun a=>(H a).isSome
def hidT (h:Heap) (H:Hp):Heap:=PySem.W.hideAll h (trk h H)
theorem hidT_size (h:Heap) (H:Hp):(hidT h H).objs.size=h.objs.size:=PySem.W.hideAll_size _ _
theorem hidT_get (e:h.get? b=some o) (n:H b=none):(hidT h H).get? b=some o:=
 PySem.W.hideAll_get _ e fun hm=>by
  have q:(H b).isSome=true:=(List.mem_filter.mp hm).2
  rw[n] at q;simp at q
theorem of_hidT (e:(hidT h H).get? b=some o):h.get? b=some o∧H b=none:=by
 have e':h.get? b=some o:=PySem.W.of_hideAll (trk h H) e
 refine⟨e',?_⟩
 cases q:H b with
 |none=>rfl
 |some x=>
  have hm:b∈trk h H:=List.mem_filter.mpr ⟨List.mem_range.mpr (Heap.lt_size e'),by simp[q]⟩
  have z:(hidT h H).get? b=none:=PySem.W.hideAll_none (trk h H) hm
  rw[z] at e;cases e
def allNews (g h:Heap) (L:Addr):List (Addr×Obj):=(List.range h.objs.size).filterMap fun a=>if a=L∨(g.get? a).isSome=true then none else(h.get? a).map fun o=>(a,o)
def rest (g h:Heap) (L d:Addr):List (Addr×Obj):=(allNews g h L).filter fun p=>decide (p.1≠d)
end L2
namespace L2
open PySem PySem.Spec PyProof.Rows
structure Mod (K:PySem.W.Frag) (mg:Str→Option Value) (base:Heap):Prop where
  kin:K.In base
  glob:base.Ns mainGlobals mg
  blt: ∃ mb,base.Ns builtinsNs mb∧∀ x:Str,x≠"__name__"→mb x=bootBuiltins x
  nolimit:base.NoLimit
structure Cx where
 prog:Program
 w:World
 K:PySem.W.Frag
 mg:Str→Option Value
 base:Heap
 A:Around
 N:List Str
 s₀:Shared
 H₀:Hp
 env:Env
 outer:List Env
 stack:List Env
 ex:List Addr
 fn:Str→Bool
 calm:Bool
 pn:List (Addr×Obj)
 xe:Value→Shared→Prop
def frs (l:List Env):List Addr:=l.filterMap (·.frame)
abbrev Cx.fs (X:Cx):List Addr:=frs X.outer
def Vis (sc:Scope) (x:Str):Prop:=sc.names.lookup x=some .local∨sc.names.lookup x=some .cell∨sc.names.lookup x=some .free
def Loc (sc:Scope) (x:Str):Prop:=sc.names.lookup x=some .local∨sc.names.lookup x=some .cell
def Look (env:Env) (h:Heap) (m:Str→Option Value) (x:Str) (u:Value):Prop:=
 (env.kindOf x=some .local∧m x=some u)∨((env.kindOf x=some .cell∨env.kindOf x=some .free)∧∃ c,env.cells.lookup x=some c∧h.IsCell c (some u))
structure Cx.Ok (X:Cx):Prop where
 mod:Mod X.K X.mg X.base
 kind:X.env.scope.kind= .function
 glob:X.env.globals=mainGlobals
 blt:X.env.builtins=builtinsNs
 above:X.s₀.heap.objs.size≤X.env.locals
 inj: ∀ x y c,X.env.cells.lookup x=some c→X.env.cells.lookup y=some c→x=y
 has: ∀ x,(X.env.kindOf x=some .cell∨X.env.kindOf x=some .free)→∃ c,X.env.cells.lookup x=some c
 cab: ∀ x c,X.fn x=true→X.env.cells.lookup x=some c→X.s₀.heap.objs.size≤c
 hd:X.calm=true→X.A.handled=none
 frames:X.A.frames=some X.stack
 stk:X.stack=X.outer∨(X.stack=X.env::X.outer∧X.env.frame=some X.env.locals)
 exf: ∀ b∈X.ex,b≠X.env.locals∧∀ x c,X.env.cells.lookup x=some c→c≠b
 bs: ∀ b o,X.base.get? b=some o→X.s₀.heap.get? b=some o∧X.H₀ b=none
 bsz:X.base.objs.size≤X.s₀.heap.objs.size
 noex: ∀ b o,X.base.get? b=some o→b∉X.ex
 exfs: ∀ b∈X.ex,b∉X.fs
 funs:X.s₀.heap.FunFrames X.base X.outer
 frf: ∀ b∈X.fs,X.H₀ b=none
structure Inv (X:Cx) (pZ:List (Addr×Obj)) (σ:List (Option V)) (H:Hp) (s:Shared):Prop where
 ok:X.Ok
 os:s.os=X.s₀.os
 bare:AllBare s.gens
 base:Un X.fs X.ex X.H₀ H X.s₀.heap s.heap
 loc: ∃ m,s.heap.Ns X.env.locals m∧∀ (i:Nat) (x:Str) (v:V),X.N[i]?=some x→σ[i]?=some (some v)→Vis X.env.scope x→∃ u,RelV v u∧Look X.env s.heap m x u
 cell: ∀ x c,X.env.cells.lookup x=some c→∃ v,s.heap.IsCell c v
 free:H X.env.locals=none
 freeC: ∀ x c,X.env.cells.lookup x=some c→H c=none
 pin: ∀ p∈X.pn++pZ,s.heap.get? p.1=some p.2∧H p.1=none∧p.1≠X.env.locals∧p.1∉X.fs∧∀ v,p.2.data≠.cell v
 hok:HOk X.prog X.w H s.heap
 len:σ.length=X.N.length
section
variable {X:Cx} {pZ:List (Addr×Obj)} {σ:List (Option V)} {H H':Hp} {s:Shared} {h':Heap}
theorem Cx.Ok.nofr (ok:X.Ok) (e:X.base.get? b=some o):b∉X.fs:=fun hb=>by
 have:=(ok.funs.mem hb).1
 rw[e] at this;cases this
theorem Inv.bs (I:Inv X pZ σ H s): ∀ b o,X.base.get? b=some o→s.heap.get? b=some o∧H b=none:=fun b o e=>
 ⟨I.base.keep b o (I.ok.bs b o e).1 (I.ok.bs b o e).2 (I.ok.nofr e) (I.ok.noex b o e),I.base.free b o (I.ok.bs b o e).1 (I.ok.bs b o e).2 (I.ok.noex b o e)⟩
theorem Inv.bk (I:Inv X pZ σ H s): ∀ b o,X.base.get? b=some o→s.heap.get? b=some o:=fun b o e=>(I.bs b o e).1
theorem Inv.mod (I:Inv X pZ σ H s):Mod X.K X.mg X.base:=I.ok.mod
theorem Inv.kIn (I:Inv X pZ σ H s):X.K.In s.heap:=I.ok.mod.kin.keeps I.bk
theorem Inv.lt (I:Inv X pZ σ H s):X.env.locals < s.heap.objs.size:=let ⟨_,hn,_⟩:=I.loc;hn.lt
theorem Inv.sz (I:Inv X pZ σ H s):X.s₀.heap.objs.size≤s.heap.objs.size:=Nat.le_trans I.ok.above (Nat.le_of_lt I.lt)
theorem Inv.nofs (I:Inv X pZ σ H s) (h:s.heap.objs.size≤a):a∉X.fs:=fun hb=>by
 obtain⟨_,o,ho,_⟩:=I.ok.funs.mem hb
 exact absurd (Nat.lt_of_lt_of_le (Heap.lt_size ho) (Nat.le_trans I.sz h)) (Nat.lt_irrefl _)
theorem Inv.cne (I:Inv X pZ σ H s): ∀ x c,X.env.cells.lookup x=some c→c≠X.env.locals:=fun x c e z=>by
 obtain⟨v,o,ho,hd⟩:=I.cell x c e
 obtain⟨m,⟨o',es,ep,ho',hd',_⟩,_⟩:=I.loc
 rw[z,ho'] at ho;cases ho;rw[hd'] at hd;cases hd
theorem Inv.funs (I:Inv X pZ σ H s):s.heap.FunFrames X.base X.outer:=by
 have all: ∀ (l:List Env),(∀ b∈frs l,b∈X.fs)→X.s₀.heap.FunFrames X.base l→s.heap.FunFrames X.base l:=by
  intro l
  induction l with
  |nil=>intro _ _;trivial
  |cons env r ih=>
   intro hs hl
   obtain⟨hk,⟨L,o,hf,hn,ho,hd⟩,hr⟩:=hl
   have hL:L∈X.fs:=hs L (by unfold frs;rw[List.filterMap_cons,hf];exact List.mem_cons_self)
   obtain⟨sl,e⟩:=I.base.slot L o ho (I.ok.frf L hL) hL fun z=>I.ok.exfs L z hL
   exact⟨hk,⟨L,_,hf,hn,e,hd⟩,ih (fun b hb=>hs b (by unfold frs;rw[List.filterMap_cons,hf];exact List.mem_cons_of_mem _ hb)) hr⟩
 exact all X.outer (fun _ hb=>hb) I.ok.funs
theorem Inv.stack (I:Inv X pZ σ H s):s.heap.FunFrames X.base X.stack:=by
 rcases I.ok.stk with e|⟨e,hf⟩
 ·rw[e];exact I.funs
 ·rw[e]
  obtain⟨m,hn,_⟩:=I.loc
  refine .cons (by rw[I.ok.kind];decide) hf hn ?_ I.funs
  exact Heap.get?_none_of_le (Nat.le_trans I.ok.bsz I.ok.above)
theorem Inv.stkSub (I:Inv X pZ σ H s): ∀ b∈frs X.stack,b∈X.env.locals::X.fs:=fun b hb=>by
 rcases I.ok.stk with e|⟨e,hf⟩
 ·rw[e] at hb;exact List.mem_cons_of_mem _ hb
 ·rw[e] at hb
  unfold frs at hb
  rw[List.filterMap_cons,hf] at hb
  exact hb
theorem Inv.stkFree (I:Inv X pZ σ H s): ∀ b∈frs X.stack,H b=none:=fun b hb=>by
 rcases List.mem_cons.mp (I.stkSub b hb) with e|hb
 ·rw[e];exact I.free
 ·obtain⟨_,o,ho,_⟩:=I.ok.funs.mem hb
  exact I.base.free b o ho (I.ok.frf b hb) fun z=>I.ok.exfs b z hb
theorem Inv.step {g':Array GenState} {t':Nat} {d':Drawn} {ch:List Addr} (I:Inv X pZ σ H s)
  (hch: ∀ b∈ch,(b∈X.ex∨X.s₀.heap.objs.size≤b)∧b≠X.env.locals∧(∀ x c,X.env.cells.lookup x=some c→c≠b)∧∀ p∈X.pn++pZ,p.1≠b)
  (keep: ∀ b o,b≠X.env.locals→b∉X.fs→b∉ch→s.heap.get? b=some o→H b=none→h'.get? b=some o)
  (slot: ∀ b o,b≠X.env.locals→b∈X.fs→b∉ch→s.heap.get? b=some o→H b=none→∃ sl,h'.get? b=some {o with slots:=sl}) (free: ∀ b o,b∉ch→s.heap.get? b=some o→H b=none→H' b=none)
  (there: ∀ b o,b∉ch→s.heap.get? b=some o→∃ o',h'.get? b=some o')
  (tups: ∀ b xs,H b=some (.tup xs)→H' b=some (.tup xs)) (frzs: ∀ b o u,H b=some (.frz o u)→H' b=some (.frz o u)) (tbls: ∀ b ps,H b=some (.tbl ps)→∃ more,H' b=some (.tbl (ps++more)))
  (ns: ∀ m,s.heap.Ns X.env.locals m→h'.Ns X.env.locals m) (hok:HOk X.prog X.w H' h') (hg:AllBare g'):
  Inv X pZ σ H' {s with heap:=h',gens:=g',drawn:=d',toks:=t'}:=by
 have neL: ∀ b o,X.s₀.heap.get? b=some o→b≠X.env.locals:=fun b o e=>Nat.ne_of_lt (Nat.lt_of_lt_of_le (Heap.lt_size e) I.ok.above)
 have neC: ∀ b o,X.s₀.heap.get? b=some o→b∉X.ex→b∉ch:=fun b o e hx hb=>by
  rcases(hch b hb).1 with z|z
  ·exact hx z
  ·exact absurd (Nat.lt_of_lt_of_le (Heap.lt_size e) z) (Nat.lt_irrefl _)
 have cellK: ∀ x c,X.env.cells.lookup x=some c→∀ v,s.heap.IsCell c v→h'.IsCell c v:=fun x c e v hq0=>by
  obtain⟨o,ho,hd⟩:=hq0
  have nch:c∉ch:=fun z=>(hch c z).2.2.1 x c e rfl
  by_cases hc:c∈X.fs
  ·obtain⟨sl,q⟩:=slot c o (I.cne x c e) hc nch ho (I.freeC x c e)
   exact⟨_,q,hd⟩
  ·exact⟨o,keep c o (I.cne x c e) hc nch ho (I.freeC x c e),hd⟩
 refine⟨I.ok,I.os,hg,⟨fun b o e n hb hx=>?_,fun b o e n hb hx=>?_,fun b o e n hx=>?_,fun b o e hx=>?_,fun b xs e=>tups b xs (I.base.tups b xs e),fun b o xs e=>frzs b o xs (I.base.frzs b o xs e),fun b ps e=>?_⟩,?_,fun x c e=>?_,?_,fun x c e=>?_,fun p hp=>?_,hok,I.len⟩
 ·exact keep b o (neL b o e) hb (neC b o e hx) (I.base.keep b o e n hb hx) (I.base.free b o e n hx)
 ·obtain⟨sl,e1⟩:=I.base.slot b o e n hb hx
  obtain⟨sl',e2⟩:=slot b _ (neL b o e) hb (neC b o e hx) e1 (I.base.free b o e n hx)
  exact⟨sl',e2⟩
 ·obtain⟨o',e1⟩:=I.base.there b o e hx
  exact free b o' (neC b o e hx) e1 (I.base.free b o e n hx)
 ·obtain⟨o',e1⟩:=I.base.there b o e hx
  exact there b o' (neC b o e hx) e1
 ·obtain⟨m1,e1⟩:=I.base.tbls b ps e
  obtain⟨m2,e2⟩:=tbls b _ e1
  exact⟨m1++m2,by rw[e2,Array.append_assoc]⟩
 ·obtain⟨m,hn,hl⟩:=I.loc
  refine⟨m,ns m hn,fun i x v e1 e2 e3=>?_⟩
  obtain⟨u,r,l⟩:=hl i x v e1 e2 e3
  refine⟨u,r,?_⟩
  rcases l with l|⟨k,c,e,z⟩
  ·exact .inl l
  ·exact .inr ⟨k,c,e,cellK x c e _ z⟩
 ·obtain⟨v,z⟩:=I.cell x c e
  exact⟨v,cellK x c e v z⟩
 ·obtain⟨m,⟨o,_,_,ho,_⟩,_⟩:=I.loc
  exact free _ o (fun z=>(hch _ z).2.1 rfl) ho I.free
 ·obtain⟨v,o,ho,hd⟩:=I.cell x c e
  exact free c o (fun z=>(hch c z).2.2.1 x c e rfl) ho (I.freeC x c e)
 ·obtain⟨e,n,ne,nf,d⟩:=I.pin p hp
  have nch:p.1∉ch:=fun z=>(hch p.1 z).2.2.2 p hp rfl
  exact⟨keep p.1 p.2 ne nf nch e n,free p.1 p.2 nch e n,ne,nf,d⟩
theorem Inv.un {t':Nat} (I:Inv X pZ σ H s) (u:Un X.fs [] H H' s.heap h') (hok:HOk X.prog X.w H' h'):Inv X pZ σ H' {s with heap:=h',toks:=t'}:=by
 obtain⟨m,⟨o,es,ep,ho,r⟩,_⟩:=id I.loc
 obtain⟨sl,hL⟩:=u.any ho I.free (by simp)
 exact I.step (g':=s.gens) (d':=s.drawn) (ch:=[]) (fun _ z=>nomatch z) (fun b o _ hb _ e n=>u.keep b o e n hb (by simp)) (fun b o _ hb _ e n=>u.slot b o e n hb (by simp)) (fun b o _ e n=>u.free b o e n (by simp)) (fun b o _ e=>u.there b o e (by simp)) u.tups u.frzs u.tbls (fun m' hm=>by
  obtain⟨o',es',ep',ho',r'⟩:=hm
  rw[ho] at ho';cases ho'
  exact⟨_,es',ep',hL,r'⟩) hok I.bare
theorem Inv.call {g':Array GenState} {t':Nat} {d':Drawn} {ch:List Addr} (I:Inv X pZ σ H s) (u:Un (frs X.stack) ch H H' s.heap h') (hok:HOk X.prog X.w H' h') (hg:AllBare g')
  (hch: ∀ b∈ch,(b∈X.ex∨X.s₀.heap.objs.size≤b)∧b≠X.env.locals∧(∀ x c,X.env.cells.lookup x=some c→c≠b)∧∀ p∈X.pn++pZ,p.1≠b):
  Inv X pZ σ H' {s with heap:=h',gens:=g',drawn:=d',toks:=t'}:=by
 obtain⟨m,⟨o,es,ep,ho,r⟩,_⟩:=id I.loc
 obtain⟨sl,hL⟩:=u.any ho I.free fun z=>(hch _ z).2.1 rfl
 exact I.step (ch:=ch) hch (fun b o hL hb hc e n=>u.keep b o e n (fun z=>(List.mem_cons.mp (I.stkSub b z)).elim hL hb) hc) (fun b o _ _ hc e n=>u.any e n hc) (fun b o hc e n=>u.free b o e n hc) (fun b o hc e=>u.there b o e hc) u.tups u.frzs u.tbls (fun m' hm=>by
  obtain⟨o',es',ep',ho',r'⟩:=hm
  rw[ho] at ho';cases ho'
  exact⟨_,es',ep',hL,r'⟩) hok hg
theorem Inv.turned {t':Nat} {it:Addr} (I:Inv X pZ σ H s) (k: ∀ b o,b≠it→s.heap.get? b=some o→h'.get? b=some o) (hn:H it=none) (hL:it≠X.env.locals)
  (h1:it∈X.ex∨X.s₀.heap.objs.size≤it) (h2: ∀ x c,X.env.cells.lookup x=some c→c≠it) (h3: ∀ p∈X.pn++pZ,p.1≠it):Inv X pZ σ H {s with heap:=h',toks:=t'}:=by
 have nit: ∀ b u,H b=some u→b≠it:=fun b u e z=>by rw[z,hn] at e;cases e
 refine I.step (g':=s.gens) (d':=s.drawn) (ch:=[it]) (fun b hb=>?_) (fun b o _ _ hc e _=>k b o (fun z=>hc (by simp[z])) e) (fun b o _ _ hc e _=>⟨o.slots,k b o (fun z=>hc (by simp[z])) e⟩) (fun _ _ _ _ n=>n)
  (fun b o hc e=>⟨o,k b o (fun z=>hc (by simp[z])) e⟩) (fun _ _ e=>e) (fun _ _ _ e=>e) (fun b ps e=>⟨#[],by rw[e];simp⟩) (fun m hm=>?_) (fun b u e=>?_) I.bare
 ·have e:b=it:=by simpa using hb
  subst e
  exact⟨h1,hL,h2,h3⟩
 ·obtain⟨o,es,ep,ho,r⟩:=hm
  exact⟨o,es,ep,k _ o (Ne.symm hL) ho,r⟩
 ·refine(I.hok b u e).stay (fun c v hc q=>k c v ?_ q) (fun _ q=>q) fun _ _ q=>q
  rcases hc with z|z
  ·rw[z];exact nit b u e
  ·exact nit c _ z
theorem Inv.tok (I:Inv X pZ σ H s) (t:Nat):Inv X pZ σ H {s with toks:=t}:=I.un (h':=s.heap) (t':=t) Un.refl I.hok
theorem Inv.kept {t':Nat} (I:Inv X pZ σ H s) (k: ∀ b u,s.heap.get? b=some u→h'.get? b=some u):Inv X pZ σ H {s with heap:=h',toks:=t'}:=I.un (Un.kept k) (I.hok.kept k)
theorem Inv.laid {a:Addr} {o:HO} {t':Nat} (I:Inv X pZ σ H s) (k: ∀ b u,s.heap.get? b=some u→h'.get? b=some u) (hp:s.heap.objs.size≤a) (new:ObjOk X.prog X.w (upd H a o) h' a o):
  Inv X pZ σ (upd H a o) {s with heap:=h',toks:=t'}:=I.un (Un.laid k hp (I.hok.fresh hp)) (I.hok.laid k hp new)
theorem Inv.write {t':Nat} (I:Inv X pZ σ H s) (mu:Mut (H x)) (he:e=x∨H e=some (.own x)) (k: ∀ b u,b≠e→s.heap.get? b=some u→h'.get? b=some u) (heo: ∃ u,h'.get? e=some u)
  (new:ObjOk X.prog X.w (upd H x o) h' x o):Inv X pZ σ (upd H x o) {s with heap:=h',toks:=t'}:=I.un (Un.write mu he k heo) (I.hok.write mu he k heo new)
theorem Inv.pins_of (I:Inv X pZ σ H s) (h: ∀ p∈pins',s.heap.get? p.1=some p.2∧H p.1=none∧p.1≠X.env.locals∧p.1∉X.fs∧∀ v,p.2.data≠.cell v):Inv X pins' σ H s:=
 ⟨I.ok,I.os,I.bare,I.base,I.loc,I.cell,I.free,I.freeC,fun p hp=>(List.mem_append.mp hp).elim (fun z=>I.pin p (List.mem_append_left _ z)) (h p),I.hok,I.len⟩
theorem nodup_ix {N:List Str} (hN:N.Nodup) {i j:Nat} (a:N[i]?=some x) (b:N[j]?=some x):i=j:=by
 obtain⟨h1,e1⟩:=List.getElem?_eq_some_iff.mp a
 obtain⟨h2,e2⟩:=List.getElem?_eq_some_iff.mp b
 exact(List.getElem_inj hN).mp (e1.trans e2.symm)
theorem store_ok2 {i:Nat} {Q:Unit→Shared→Prop} (I:Inv X pZ σ H s) (hN:X.N.Nodup) (hi:X.N[i]?=some x) (hx:Loc X.env.scope x) (r:RelV v u)
  (h: ∀ s',Inv X pZ (σ.set i (some v)) H s'→(∃ a,Heap.SameBut a s.heap s'.heap∧(a=X.env.locals∨X.env.cells.lookup x=some a))→Q () s') (hf:X.fn x=true∨X.env.scope.names.lookup x=some .local:=by first|exact .inl rfl|exact .inr rfl|assumption):wpAny M A (storeName X.env x u) Q E s:=by
 obtain⟨m,hn,hl⟩:=id I.loc
 have hcls:(X.env.scope.kind== .class||(X.env.scope.kind== .module&&X.env.locals !=X.env.globals))=false:=by rw[I.ok.kind];rfl
 have hiσ:i < σ.length:=by rw[I.len];exact(List.getElem?_eq_some_iff.mp hi).1
 have cne:=I.cne
 have tracked: ∀ {a:Addr} {h':Heap},(∃ o,s.heap.get? a=some o∧H a=none)→Heap.SameBut a s.heap h'→HOk X.prog X.w H h':=fun {a h'} ha hs b ob e=>by
  obtain⟨_,_,hfree⟩:=ha
  refine(I.hok b ob e).stay (fun c w' hc q=>(hs.2 c ?_).trans q) (fun _ q=>q) fun _ _ q=>q
  rintro rfl
  rcases hc with rfl|hc
  ·rw[hfree] at e;cases e
  ·rw[hfree] at hc;cases hc
 rcases hx with hk|hk
 ·refine wpAny_storeName_local hk hn (fun h' hn' hs=>?_) hcls
  obtain⟨oL,_,_,hoL,_⟩:=id hn
  refine h _ ⟨I.ok,I.os,I.bare,⟨fun b o e n hb hx=>?_,fun b o e n hb hx=>?_,I.base.free,fun b o e hx=>?_,I.base.tups,I.base.frzs,I.base.tbls⟩,⟨_,hn',fun j y v' e1 e2 e3=>?_⟩,fun y c e=>?_,I.free,I.freeC,fun p hp=>?_,tracked ⟨oL,hoL,I.free⟩ hs,by simpa using I.len⟩ ⟨_,hs,.inl rfl⟩
  ·exact(hs.2 b (Nat.ne_of_lt (Nat.lt_of_lt_of_le (Heap.lt_size e) I.ok.above))).trans (I.base.keep b o e n hb hx)
  ·obtain⟨sl,e1⟩:=I.base.slot b o e n hb hx
   exact⟨sl,(hs.2 b (Nat.ne_of_lt (Nat.lt_of_lt_of_le (Heap.lt_size e) I.ok.above))).trans e1⟩
  ·obtain⟨o',e1⟩:=I.base.there b o e hx
   exact⟨o',(hs.2 b (Nat.ne_of_lt (Nat.lt_of_lt_of_le (Heap.lt_size e) I.ok.above))).trans e1⟩
  ·by_cases hj:j=i
   ·subst hj
    rw[hi] at e1;cases e1
    rw[List.getElem?_set_self hiσ] at e2
    cases e2
    exact⟨u,r,.inl ⟨hk,by simp⟩⟩
   ·rw[List.getElem?_set_ne (Ne.symm hj)] at e2
    obtain⟨u',r',q⟩:=hl j y v' e1 e2 e3
    refine⟨u',r',?_⟩
    rcases q with⟨k,e⟩|⟨k,c,e,z⟩
    ·refine .inl ⟨k,?_⟩
     have:y≠x:=fun e=>hj (nodup_ix hN e1 (e▸hi))
     simp[this,e]
    ·exact .inr ⟨k,c,e,z.sameBut hs (cne y c e)⟩
  ·obtain⟨w',z⟩:=I.cell y c e
   exact⟨w',z.sameBut hs (cne y c e)⟩
  ·obtain⟨e,n,ne,nf,d⟩:=I.pin p hp
   exact⟨(hs.2 p.1 ne).trans e,n,ne,nf,d⟩
 ·have hfn:X.fn x=true:=by
   rcases hf with z|z
   ·exact z
   ·rw[z] at hk;cases hk
  obtain⟨c,hc⟩:=I.ok.has x (.inl hk)
  obtain⟨w',z⟩:=I.cell x c hc
  refine wpAny_storeName_cell I.ok.kind hk hc z (fun h' hc' hs=>?_)
  obtain⟨oc,hoc,hocd⟩:=id z
  refine h {s with heap:=h'} ⟨I.ok,I.os,I.bare,⟨fun b o e n hb hx=>?_,fun b o e n hb hx=>?_,I.base.free,fun b o e hx=>?_,I.base.tups,I.base.frzs,I.base.tbls⟩,⟨m,hn.sameBut hs (Ne.symm (cne x c hc)),fun j y v' e1 e2 e3=>?_⟩,fun y c' e=>?_,I.free,I.freeC,fun p hp=>?_,tracked ⟨oc,hoc,I.freeC x c hc⟩ hs,by simpa using I.len⟩ ⟨c,hs,.inr hc⟩
  ·exact(hs.2 b (Nat.ne_of_lt (Nat.lt_of_lt_of_le (Heap.lt_size e) (I.ok.cab x c hfn hc)))).trans (I.base.keep b o e n hb hx)
  ·obtain⟨sl,e1⟩:=I.base.slot b o e n hb hx
   exact⟨sl,(hs.2 b (Nat.ne_of_lt (Nat.lt_of_lt_of_le (Heap.lt_size e) (I.ok.cab x c hfn hc)))).trans e1⟩
  ·obtain⟨o',e1⟩:=I.base.there b o e hx
   exact⟨o',(hs.2 b (Nat.ne_of_lt (Nat.lt_of_lt_of_le (Heap.lt_size e) (I.ok.cab x c hfn hc)))).trans e1⟩
  ·by_cases hj:j=i
   ·subst hj
    rw[hi] at e1;cases e1
    rw[List.getElem?_set_self hiσ] at e2
    cases e2
    exact⟨u,r,.inr ⟨.inl hk,c,hc,hc'⟩⟩
   ·rw[List.getElem?_set_ne (Ne.symm hj)] at e2
    obtain⟨u',r',q⟩:=hl j y v' e1 e2 e3
    refine⟨u',r',?_⟩
    rcases q with q|⟨k,c',e,z'⟩
    ·exact .inl q
    ·refine .inr ⟨k,c',e,z'.sameBut hs ?_⟩
     rintro rfl
     exact hj (nodup_ix hN e1 (I.ok.inj _ _ _ e hc▸hi))
  ·by_cases hcc:c'=c
   ·subst hcc;exact⟨_,hc'⟩
   ·obtain⟨w2,z2⟩:=I.cell y c' e
    exact⟨w2,z2.sameBut hs hcc⟩
  ·obtain⟨e,n,ne,nf,d⟩:=I.pin p hp
   refine⟨(hs.2 p.1 ?_).trans e,n,ne,nf,d⟩
   intro q
   rw[q,hoc] at e
   have q':oc=p.2:=Option.some.inj e
   exact d w' (by rw[←q'];exact hocd)
theorem store_ok {M:Model} {A:Around} {E:Value→Shared→Prop} {i:Nat} {x:Str} {v:V} {u:Value} {Q:Unit→Shared→Prop} (I:Inv X pZ σ H s) (hN:X.N.Nodup) (hi:X.N[i]?=some x) (hx:Loc X.env.scope x) (r:RelV v u)
  (h: ∀ s',Inv X pZ (σ.set i (some v)) H s'→Q () s') (hf:X.fn x=true∨X.env.scope.names.lookup x=some .local:=by first|exact .inl rfl|exact .inr rfl|assumption):wpAny M A (storeName X.env x u) Q E s:=
 store_ok2 I hN hi hx r (fun s' I' _=>h s' I') hf
theorem Inv.call' (I:Inv X pZ σ H s) (ho:s'.os=s.os) (u:Un (frs X.stack) ch H H' s.heap s'.heap) (hok:HOk X.prog X.w H' s'.heap) (hg:AllBare s'.gens)
  (hch: ∀ b∈ch,(b∈X.ex∨X.s₀.heap.objs.size≤b)∧b≠X.env.locals∧(∀ x c,X.env.cells.lookup x=some c→c≠b)∧∀ p∈X.pn++pZ,p.1≠b):Inv X pZ σ H' s':=by
 obtain⟨h',g',d',t',o'⟩:=s'
 have e:o'=s.os:=ho
 subst e
 exact I.call (g':=g') (t':=t') (d':=d') u hok hg hch
end
abbrev XK:=Value→Option Addr→Hp→Prop
abbrev St:=List (Option V)
abbrev VK:=V→Hp→Prop
abbrev TE:=St→Hp→VK→Prop
abbrev TT:=St→Hp→(Bool→Hp→Prop)→Prop
abbrev TA:=St→Hp→(List V→Hp→Prop)→Prop
structure Ends where
 nx:St→Hp→Prop
 rt:VK
 bk:St→Hp→Prop:=fun _ _=>False
 ct:St→Hp→Prop:=fun _ _=>False
abbrev TS:=Ends→St→Hp→Prop
def EP (X:Cx) (pZ:List (Addr×Obj)) (σ:St) (Q:VK) (u:Value) (s':Shared):Prop:= ∃ v H',Inv X pZ σ H' s'∧RelV v u∧Q v H'
def TP (X:Cx) (pZ:List (Addr×Obj)) (σ:St) (Q:Bool→Hp→Prop) (b:Bool) (s':Shared):Prop:= ∃ H',Inv X pZ σ H' s'∧Q b H'
def AP (X:Cx) (pZ:List (Addr×Obj)) (σ:St) (Q:List V→Hp→Prop) (us:List Value) (s':Shared):Prop:= ∃ vs H',Inv X pZ σ H' s'∧Vals vs us∧Q vs H'
def SP (X:Cx) (pZ:List (Addr×Obj)) (D:Ends) (f:Flow) (s':Shared):Prop:=
 match f with
 | .next=> ∃ σ' H',Inv X pZ σ' H' s'∧D.nx σ' H'
 | .brk=> ∃ σ' H',Inv X pZ σ' H' s'∧D.bk σ' H'
 | .cont=> ∃ σ' H',Inv X pZ σ' H' s'∧D.ct σ' H'
 | .ret u=> ∃ v σ' H',Inv X pZ σ' H' s'∧RelV v u∧D.rt v H'
def PE (X:Cx) (e:Expr) (t:TE):Prop:=
 ∀ (pZ:List (Addr×Obj)) (s:Shared) (σ:St) (H:Hp) (Q:VK),Inv X pZ σ H s→t σ H Q→wpAny (model X.prog X.w) X.A (eval e X.env) (EP X pZ σ Q) X.xe s
def PT (X:Cx) (e:Expr) (t:TT):Prop:=
 ∀ (pZ:List (Addr×Obj)) (s:Shared) (σ:St) (H:Hp) (Q:Bool→Hp→Prop),Inv X pZ σ H s→t σ H Q→wpAny (model X.prog X.w) X.A (isTrue e X.env (eval e X.env)) (TP X pZ σ Q) X.xe s
def PW (X:Cx) (e:Expr) (t:TT):Prop:=
 ∀ (whole:Sem Value) (pZ:List (Addr×Obj)) (s:Shared) (σ:St) (H:Hp) (Q:Bool→Hp→Prop),Inv X pZ σ H s→t σ H Q→wpAny (model X.prog X.w) X.A (isTrue e X.env whole) (TP X pZ σ Q) X.xe s
theorem PW.pt {X:Cx} {e:Expr} {t:TT} (h:PW X e t):PT X e t:=h _
def PA (X:Cx) (es:List Expr) (t:TA):Prop:=
 ∀ (pos:Pos) (pZ:List (Addr×Obj)) (s:Shared) (σ:St) (H:Hp) (Q:List V→Hp→Prop),Inv X pZ σ H s→t σ H Q→wpAny (model X.prog X.w) X.A (spliced (backTo pos (starEach es X.env))) (AP X pZ σ Q) X.xe s
def PS (X:Cx) (st:Stmt) (t:TS):Prop:=
 ∀ (pZ:List (Addr×Obj)) (s:Shared) (σ:St) (H:Hp) (D:Ends),Inv X pZ σ H s→t D σ H→wpAny (model X.prog X.w) X.A (exec st X.env) (SP X pZ D) X.xe s
def PSs (X:Cx) (st:List Stmt) (t:TS):Prop:=
 ∀ (pZ:List (Addr×Obj)) (s:Shared) (σ:St) (H:Hp) (D:Ends),Inv X pZ σ H s→t D σ H→wpAny (model X.prog X.w) X.A (execs st X.env) (SP X pZ D) X.xe s
theorem thn {α:Type} {t:Sem α} {Q Q':α→Shared→Prop} {M:Model} {A:Around} {E:Value→Shared→Prop} {s:Shared} (h:wpAny M A t Q E s) (hQ: ∀ a s,Q a s→Q' a s):wpAny M A t Q' E s:=wpAny_mono h hQ fun _ _ x=>x
end L2
namespace L2
open PySem PySem.Spec PyProof.Rows
section
variable {X:Cx}
def tVar (i:Nat):TE:=fun σ H Q=> ∃ v,σ[i]?=some (some v)∧Q v H
def tC (v:V):TE:=fun _ H Q=>Q v H
theorem pe_var (hN:X.N[i]?=some x) (hv:Vis X.env.scope x) (hd:(x==("__debug__":Str))=false:=by decide) (hcd:(x==("__classdict__":Str))=false:=by decide):PE X (.Name x pos) (tVar i):=by
 intro pZ s σ H Q I h
 obtain⟨v,e,h⟩:=h
 obtain⟨m,hn,hl⟩:=I.loc
 obtain⟨u,r,l⟩:=hl i x v hN e hv
 have fin:EP X pZ σ Q u s:=⟨v,H,I,r,h⟩
 rcases l with⟨hk,hm⟩|⟨hk,c,hc,hcell⟩
 ·exact wpAny_Name (wpAny_loadName_local I.ok.kind hk hn hm fin) hd
 ·rcases hk with hk|hk
  ·exact wpAny_Name (wpAny_loadName_cell I.ok.kind hk hc hcell fin) hd
  ·exact wpAny_Name (wpAny_loadName_free I.ok.kind hk hc hcell fin hcd) hd
theorem pe_int {i j pos}:PE X (.Constant (.int i) j pos) (tC (.int i)):=fun _ _ _ H _ I h=>wpAny_Constant_int ⟨.int i,H,I.tok _,⟨_,rfl⟩,h⟩
theorem pe_bl {b j pos}:PE X (.Constant (.bool b) j pos) (tC (.bl b)):=fun _ _ _ H _ I h=>Constant_bool ⟨.bl b,H,I,rfl,h⟩
theorem pe_non {j pos}:PE X (.Constant .none j pos) (tC .non):=fun _ _ _ H _ I h=>Constant_none ⟨.non,H,I,rfl,h⟩
theorem pe_str {x j pos}:PE X (.Constant (.str x) j pos) (tC (.str x)):=fun _ _ _ H _ I h=>Calls.Constant_str ⟨.str x,H,I.tok _,⟨_,rfl⟩,h⟩
def Gl (X:Cx) (x:Str):Prop:=X.env.kindOf x=some .globalImplicit
theorem ld_glob {E:Value→Shared→Prop} {pZ:List (Addr×Obj)} {s:Shared} {σ:St} {H:Hp} {x:Str} {u:Value} {pos:Pos} {Q:Value→Shared→Prop} (I:Inv X pZ σ H s) (hg:Gl X x) (hm:X.mg x=some u) (h:Q u s)
  (hd:(x==("__debug__":Str))=false:=by decide):wpAny (model X.prog X.w) X.A (eval (.Name x pos) X.env) Q E s:=
 Calls.Name_function_global I.ok.kind hg (Calls.loadGlobal_global (by rw[I.ok.glob];exact I.mod.glob.keeps I.bk) hm h) hd
theorem ld_blt {E:Value→Shared→Prop} {pZ:List (Addr×Obj)} {s:Shared} {σ:St} {H:Hp} {x:Str} {u:Value} {pos:Pos} {Q:Value→Shared→Prop} (I:Inv X pZ σ H s) (hg:Gl X x) (hm:X.mg x=none) (hv:bootBuiltins x=some u) (h:Q u s)
  (hn:x≠"__name__":=by decide) (hd:(x==("__debug__":Str))=false:=by decide):wpAny (model X.prog X.w) X.A (eval (.Name x pos) X.env) Q E s:=by
 obtain⟨mb,h1,h2⟩:=I.mod.blt
 exact Calls.Name_function_global I.ok.kind hg (Calls.loadGlobal_builtin (by rw[I.ok.glob];exact I.mod.glob.keeps I.bk) hm (by rw[I.ok.blt];exact h1.keeps I.bk) ((h2 x hn).trans hv) h) hd
variable {a b:Expr} {ta tb:TE} {pos:Pos}
def PC (X:Cx) (op:CmpOp) (a b:Expr) (t:TE):Prop:=
 ∀ (pZ:List (Addr×Obj)) (s:Shared) (σ:St) (H:Hp) (Q:VK),Inv X pZ σ H s→t σ H Q→
  wpAny (model X.prog X.w) X.A (eval a X.env) (fun v s₁=>wpAny (model X.prog X.w) X.A (eval b X.env) (fun u s₂=>wpAny (model X.prog X.w) X.A (compareOp op v u) (EP X pZ σ Q) X.xe s₂) X.xe s₁) X.xe s
theorem nobehind (b:Expr) {op:CmpOp} (h:op≠.In) (h2:op≠.NotIn):behindInMarks op b=false:=by
 have e1:(op==CmpOp.In)=false:=by cases op<;>first|rfl|exact absurd rfl h
 have e2:(op==CmpOp.NotIn)=false:=by cases op<;>first|rfl|exact absurd rfl h2
 cases b<;>simp[behindInMarks,e1,e2]
def tB (t:TE):TT:=fun σ H Q=>t σ H fun x H1=> ∃ c,x= .bl c∧Q c H1
theorem pe_cmp (h:PC X op a b t) (h1:behindInMarks op b=false:=by first|exact nobehind _ (by decide) (by decide)|rfl):PE X (.Compare a [op] [b] pos) t:=fun pZ s σ H Q I hw=>wpAny_Compare1 (h pZ s σ H Q I hw) h1
theorem pt_cmp {op:CmpOp} {t:TE} (h:PC X op a b t) (h1:behindInMarks op b=false:=by first|exact nobehind _ (by decide) (by decide)|rfl):PT X (.Compare a [op] [b] pos) (tB t):=by
 intro pZ s σ H Q I hw
 refine wpAny_isTrue_Compare1 (thn (h pZ s σ H _ I hw) fun v s1 h1=>thn h1 fun u s2 h2=>thn h2 fun c s3 ⟨x,H1,I1,r1,q1⟩=>?_) h1
 obtain⟨d,rfl,q⟩:=q1
 cases r1
 exact wpAny_truthy_bool ⟨H1,I1,q⟩
theorem pt_val {e:Expr} {t:TE} (h:PE X e t) (he: ∀ whole,isTrue e X.env whole=(do let v ←whole;standAt e.pos;holding [v] (truthy v)):=by intro _;rfl):PT X e (tB t):=by
 intro pZ s σ H Q I hw
 refine isTrue_plain (thn (h pZ s σ H _ I hw) fun v s1 ⟨x,H1,I1,r1,q1⟩=>?_) (he _)
 obtain⟨d,rfl,q⟩:=q1
 cases r1
 exact wpAny_truthy_bool ⟨H1,I1,q⟩
variable {tA tB':TT} {rest:List Expr}
def tAnd (t u:TT):TT:=fun σ H Q=>t σ H fun c H1=>if c=true then u σ H1 Q else Q false H1
def tOr (t u:TT):TT:=fun σ H Q=>t σ H fun c H1=>if c=true then Q true H1 else u σ H1 Q
def tNot (t:TT):TT:=fun σ H Q=>t σ H fun c H1=>Q (!c) H1
theorem pw_and1 (ha:PT X a tA):PW X (.BoolOp .And [a] pos) tA:=by
 intro wh pZ s σ H Q I h
 refine isTrue_and (thn (ha pZ s σ H Q I h) fun c s1 e=>?_)
 cases c with
 |true=>exact isTrue_and_nil e
 |false=>exact e
theorem pw_or1 (ha:PT X a tA):PW X (.BoolOp .Or [a] pos) tA:=by
 intro wh pZ s σ H Q I h
 refine isTrue_or (thn (ha pZ s σ H Q I h) fun c s1 e=>?_)
 cases c with
 |false=>exact isTrue_or_nil e
 |true=>exact e
theorem pw_and (ha:PT X a tA) (hb:PW X (.BoolOp .And (b::rest) pos) tB'):PW X (.BoolOp .And (a::b::rest) pos) (tAnd tA tB'):=by
 intro wh pZ s σ H Q I h
 refine isTrue_and (thn (ha pZ s σ H _ I h) fun c s1 ⟨H1,I1,q1⟩=>?_)
 cases c with
 |true=>exact hb wh pZ s1 σ H1 Q I1 q1
 |false=>exact⟨H1,I1,q1⟩
theorem pw_or (ha:PT X a tA) (hb:PW X (.BoolOp .Or (b::rest) pos) tB'):PW X (.BoolOp .Or (a::b::rest) pos) (tOr tA tB'):=by
 intro wh pZ s σ H Q I h
 refine isTrue_or (thn (ha pZ s σ H _ I h) fun c s1 ⟨H1,I1,q1⟩=>?_)
 cases c with
 |true=>exact⟨H1,I1,q1⟩
 |false=>exact hb wh pZ s1 σ H1 Q I1 q1
theorem pt_not (ha:PT X a tA):PT X (.UnaryOp .Not a pos) (tNot tA):=by
 intro pZ s σ H Q I h
 exact isTrue_not (ha pZ s σ H (fun c H1=>Q (!c) H1) I h)
def tAndV (ta tb:TE):TE:=fun σ H Q=>ta σ H fun x H1=> ∃ c,x= .bl c∧if c=true then tb σ H1 Q else Q (.bl false) H1
theorem pe_one {op} (h:PE X a t):PE X (.BoolOp op [a] pos) t:=fun pZ s σ H Q I hw=>BoolOp_one (h pZ s σ H Q I hw)
theorem pe_and (ha:PE X a ta) (hb:PE X (.BoolOp .And (b::rest) pos) tb):PE X (.BoolOp .And (a::b::rest) pos) (tAndV ta tb):=by
 intro pZ s σ H Q I h
 refine BoolOp_and (thn (ha pZ s σ H _ I h) fun v s1 ⟨x,H1,I1,r1,q1⟩=>?_)
 obtain⟨c,rfl,q1⟩:=q1
 cases r1
 refine wpAny_truthy_bool ?_
 cases c with
 |true=>exact hb pZ s1 σ H1 Q I1 q1
 |false=>exact⟨.bl false,H1,I1,rfl,q1⟩
def tIf (t:TT) (ta tb:TE):TE:=fun σ H Q=>t σ H fun c H1=>if c=true then ta σ H1 Q else tb σ H1 Q
theorem pe_ifExp {c:Expr} (hc:PT X c tA) (ha:PE X a ta) (hb:PE X b tb):PE X (.IfExp c a b pos) (tIf tA ta tb):=by
 intro pZ s σ H Q I h
 refine wpAny_IfExp (thn (hc pZ s σ H _ I h) fun d s1 ⟨H1,I1,q1⟩=>?_)
 cases d with
 |true=>exact ha pZ s1 σ H1 Q I1 q1
 |false=>exact hb pZ s1 σ H1 Q I1 q1
end
end L2
namespace L2
open PySem PySem.Spec PyProof.Rows
def SqL (K:PySem.W.Frag) (H:Hp) (a:Addr) (xs:List V):Prop:=
 Rd H a (.lst xs)∨
  ∃ (o:Obj) (its:Array Value) (n:Nat),K.lookup a=some o∧o.cls= .type "list"∧o.dict=none∧o.data= .seq its n∧its.size≤sizeLine∧Vals xs its.toList
def SqT (K:PySem.W.Frag) (H:Hp) (a:Addr) (xs:List V):Prop:=
 Rd H a (.tup xs)∨
  ∃ (o:Obj) (its:Array Value) (n:Nat),K.lookup a=some o∧o.cls= .type "tuple"∧o.data= .seq its n∧its.size≤sizeLine∧Vals xs its.toList
noncomputable def absV:Value→Option V
 | .none=>some .non
 | .bool b=>some (.bl b)
 | .int i _=>some (.int i)
 | .str x _=>some (.str x)
 | .bytes b _=>some (.byt b)
 | .float b _=>some (.flt b)
 | .ref a=>some (.ref a)
 | .type n=>some (.ty n)
 |_=>none
theorem RelV.abs (r:RelV x u):absV u=some x:=by
 cases x with
 |non=>cases r;rfl
 |bl _=>cases r;rfl
 |int _=>obtain⟨t,rfl⟩:=r;rfl
 |str _=>obtain⟨t,rfl⟩:=r;rfl
 |byt _=>obtain⟨t,rfl⟩:=r;rfl
 |flt _=>obtain⟨t,rfl⟩:=r;rfl
 |ref _=>cases r;rfl
 |ty _=>cases r;rfl
theorem RelV.inj {x y:V} {u:Value} (r:RelV x u) (q:RelV y u):x=y:=Option.some.inj (r.abs.symm.trans q.abs)
theorem Vals.inj: ∀ {xs ys:List V} {us:List Value},Vals xs us→Vals ys us→xs=ys
 |_,_,_,.nil,.nil=>rfl
 |_,_,_,.cons r t,.cons r' t'=>by rw[r.inj r',Vals.inj t t']
section
variable {X:Cx} {pZ:List (Addr×Obj)} {σ:St} {H:Hp} {s:Shared} {a:Addr} {xs ys:List V}
theorem SqL.of {K:PySem.W.Frag} (h:H a=some (.lst xs)):SqL K H a xs:=.inl (.inl h)
theorem SqT.of {K:PySem.W.Frag} (h:H a=some (.tup xs)):SqT K H a xs:=.inl (.inl h)
theorem Inv.list (I:Inv X pZ σ H s) (h:SqL X.K H a xs): ∃ its:List Value,Vals xs its∧PlainL s.heap a its.toArray∧xs.length≤sizeLine:=by
 rcases h with h|⟨o,its,n,hk,hc,hd,hs,hz,r⟩
 ·obtain⟨z,its,n,r,e⟩:=h.ok I.hok
  exact⟨its,r,⟨_,n,e,rfl,rfl,rfl⟩,z⟩
 ·refine⟨its.toList,r,⟨o,n,I.kIn a o hk,hc,hd,by simpa using hs⟩,?_⟩
  have e:=r.length
  simp only[Array.length_toList] at e
  lia
theorem Inv.tuple (I:Inv X pZ σ H s) (h:SqT X.K H a xs): ∃ its:List Value,Vals xs its∧IsTup s.heap a its.toArray∧xs.length≤sizeLine:=by
 rcases h with h|⟨o,its,n,hk,hc,hs,hz,r⟩
 ·obtain⟨z,its,r,p⟩:=h.ok I.hok
  exact⟨its,r,p,z⟩
 ·refine⟨its.toList,r,⟨o,I.kIn a o hk,hc,n,by simpa using hs⟩,?_⟩
  have e:=r.length
  simp only[Array.length_toList] at e
  lia
theorem Inv.list_inj (I:Inv X pZ σ H s) (h:SqL X.K H a xs) (h':SqL X.K H a ys):xs=ys:=by
 obtain⟨its,r,⟨o,n,e,_,_,d⟩,_⟩:=I.list h
 obtain⟨its',r',⟨o',n',e',_,_,d'⟩,_⟩:=I.list h'
 rw[e] at e';cases e'
 rw[d] at d'
 injection d' with d1 _
 have:its=its':=by simpa using congrArg Array.toList d1
 subst this
 exact r.inj r'
theorem Inv.tuple_inj (I:Inv X pZ σ H s) (h:SqT X.K H a xs) (h':SqT X.K H a ys):xs=ys:=by
 obtain⟨its,r,⟨o,e,_,n,d⟩,_⟩:=I.tuple h
 obtain⟨its',r',⟨o',e',_,n',d'⟩,_⟩:=I.tuple h'
 rw[e] at e';cases e'
 rw[d] at d'
 injection d' with d1 _
 have:its=its':=by simpa using congrArg Array.toList d1
 subst this
 exact r.inj r'
end
abbrev Cx.wish (X:Cx) (E:Value→Shared→Prop):Cx:={X with xe:=E}
abbrev Cx.nox (X:Cx):Cx:=X.wish fun _ _=>False
theorem Cx.Ok.wish {X:Cx} (ok:X.Ok) (E:Value→Shared→Prop):(X.wish E).Ok:=
 ⟨ok.mod,ok.kind,ok.glob,ok.blt,ok.above,ok.inj,ok.has,ok.cab,ok.hd,ok.frames,ok.stk,ok.exf,ok.bs,ok.bsz,ok.noex,ok.exfs,ok.funs,ok.frf⟩
theorem Cx.Ok.unwish {X:Cx} (ok:(X.wish E).Ok):X.Ok:=
 ⟨ok.mod,ok.kind,ok.glob,ok.blt,ok.above,ok.inj,ok.has,ok.cab,ok.hd,ok.frames,ok.stk,ok.exf,ok.bs,ok.bsz,ok.noex,ok.exfs,ok.funs,ok.frf⟩
section
variable {X:Cx} {pZ:List (Addr×Obj)} {σ:St} {H:Hp} {s:Shared} {E:Value→Shared→Prop}
theorem Inv.wish (I:Inv X pZ σ H s) (E:Value→Shared→Prop):Inv (X.wish E) pZ σ H s:=⟨I.ok.wish E,I.os,I.bare,I.base,I.loc,I.cell,I.free,I.freeC,I.pin,I.hok,I.len⟩
theorem Inv.unwish (I:Inv (X.wish E) pZ σ H s):Inv X pZ σ H s:=⟨I.ok.unwish,I.os,I.bare,I.base,I.loc,I.cell,I.free,I.freeC,I.pin,I.hok,I.len⟩
theorem SP.unwish (h:SP (X.wish E) pZ D f s'):SP X pZ D f s':=by
 cases f with
 |next=>obtain⟨σ',H',I,q⟩:=h;exact⟨σ',H',I.unwish,q⟩
 |brk=>obtain⟨σ',H',I,q⟩:=h;exact⟨σ',H',I.unwish,q⟩
 |cont=>obtain⟨σ',H',I,q⟩:=h;exact⟨σ',H',I.unwish,q⟩
 |ret u=>obtain⟨v,σ',H',I,r,q⟩:=h;exact⟨v,σ',H',I.unwish,r,q⟩
theorem PE.nox (h:PE X.nox e t):PE X e t:=fun pZ s σ H Q I hw=>
 wpAny_mono (h pZ s σ H Q (I.wish _) hw) (fun _ _ ⟨v,H',I',r,q⟩=>⟨v,H',I'.unwish,r,q⟩) fun _ _ z=>False.elim z
theorem PSs.nox {st:List Stmt} {t:TS} (h:PSs X.nox st t):PSs X st t:=fun pZ s σ H D I hw=>
 wpAny_mono (h pZ s σ H D (I.wish _) hw) (fun _ _ q=>q.unwish) fun _ _ z=>False.elim z
end
section
variable {X:Cx} {st:Stmt} {rest:List Stmt} {t u:TS} {e:Expr} {te:TE} {pos:Pos}
def tNext:TS:=fun D σ H=>D.nx σ H
def tSeq (t u:TS):TS:=fun D σ H=>t {D with nx:=u D} σ H
theorem pss_nil:PSs X [] tNext:=fun _ _ σ H _ I h=>wpAny_execs_nil ⟨σ,H,I,h⟩
theorem pss_cons (h1:PS X st t) (h2:PSs X rest u):PSs X (st::rest) (tSeq t u):=by
 intro pZ s σ H D I h
 refine wpAny_execs_cons (thn (h1 pZ s σ H {D with nx:=u D} I h) fun f s1 q=>?_)
 cases f with
 |next=>
  obtain⟨σ',H',I',q⟩:=q
  exact h2 pZ s1 σ' H' D I' q
 |ret v=>exact q
 |brk=>exact q
 |cont=>exact q
theorem pss_one (h1:PS X st t):PSs X [st] t:=by
 intro pZ s σ H D I h
 refine wpAny_execs_cons (thn (h1 pZ s σ H D I h) fun f s1 q=>?_)
 cases f with
 |next=>exact wpAny_execs_nil q
 |ret v=>exact q
 |brk=>exact q
 |cont=>exact q
theorem Inv.quiet {pZ:List (Addr×Obj)} {σ:St} {H:Hp} {s:Shared} (I:Inv X pZ σ H s):interactive X.env=false:=by simp[interactive,I.ok.kind]
def tDrop (te:TE):TS:=fun D σ H=>te σ H fun _ H1=>D.nx σ H1
theorem ps_expr (he:PE X e te) (hs:swapsWith e none pos.line X.env=pure false:=by rfl):PS X (.Expr e pos) (tDrop te):=by
 intro pZ s σ H D I h
 exact wpAny_Expr_any (thn (he pZ s σ H _ I h) fun v s1 ⟨x,H1,I1,r1,q1⟩=>⟨σ,H1,I1,q1⟩) I.quiet hs
def tRet (te:TE):TS:=fun D σ H=>te σ H D.rt
theorem ps_ret (he:PE X e te):PS X (.Return (some e) pos) (tRet te):=by
 intro pZ s σ H D I h
 exact wpAny_Return_some (thn (he pZ s σ H _ I h) fun v s1 ⟨x,H1,I1,r1,q1⟩=>⟨x,σ,H1,I1,r1,q1⟩)
def tIfS (c:TT) (t u:TS):TS:=fun D σ H=>c σ H fun b H1=>if b=true then t D σ H1 else u D σ H1
theorem ps_if {c:Expr} {a b:List Stmt} {tc:TT} (hc:PT X c tc) (ha:PSs X a t) (hb:PSs X b u):PS X (.If c a b pos) (tIfS tc t u):=by
 intro pZ s σ H D I h
 refine wpAny_If (thn (hc pZ s σ H _ I h) fun d s1 ⟨H1,I1,q1⟩=>?_)
 cases d with
 |true=>exact ha pZ s1 σ H1 D I1 q1
 |false=>exact hb pZ s1 σ H1 D I1 q1
end
abbrev TG:=V→St→Hp→(St→Hp→Prop)→Prop
abbrev TGs:=List V→St→Hp→(St→Hp→Prop)→Prop
def PG (X:Cx) (target:Expr) (t:TG):Prop:=
 ∀ (pZ:List (Addr×Obj)) (s:Shared) (σ:St) (H:Hp) (v:V) (u:Value) (Q:St→Hp→Prop),Inv X pZ σ H s→RelV v u→t v σ H Q→
  wpAny (model X.prog X.w) X.A (assign target X.env u) (fun _ s'=> ∃ σ' H',Inv X pZ σ' H' s'∧Q σ' H') X.xe s
def PGs (X:Cx) (ts:List Expr) (t:TGs):Prop:=
 ∀ (pZ:List (Addr×Obj)) (s:Shared) (σ:St) (H:Hp) (vs:List V) (us:List Value) (Q:St→Hp→Prop),Inv X pZ σ H s→Vals vs us→t vs σ H Q→
  wpAny (model X.prog X.w) X.A (assignInOrder ((assignEach ts X.env).map (·.2)) us) (fun _ s'=> ∃ σ' H',Inv X pZ σ' H' s'∧Q σ' H') X.xe s
abbrev TSet:=V→V→V→Hp→(Hp→Prop)→Prop
def PSet (X:Cx) (t:TSet):Prop:=
 ∀ (pZ:List (Addr×Obj)) (s:Shared) (σ:St) (H:Hp) (o i v:V) (ov iv u:Value) (Q:Hp→Prop),Inv X pZ σ H s→RelV o ov→RelV i iv→RelV v u→t o i v H Q→
  wpAny (model X.prog X.w) X.A (setItem ov iv u) (fun _ s'=> ∃ H',Inv X pZ σ H' s'∧Q H') X.xe s
section
variable {X:Cx} {pos:Pos}
def gName (i:Nat):TG:=fun v σ H Q=>Q (σ.set i (some v)) H
theorem pg_name (hN:X.N.Nodup) (hi:X.N[i]?=some x) (hx:Loc X.env.scope x) (hf:X.fn x=true∨X.env.scope.names.lookup x=some .local:=by first|exact .inl rfl|exact .inr rfl|assumption):PG X (.Name x pos) (gName i):=by
 intro pZ s σ H v u Q I r h
 exact wpAny_assign_Name (store_ok I hN hi hx r (fun s' I'=>⟨_,H,I',h⟩) hf)
def gNil:TGs:=fun vs σ H Q=>vs=[]∧Q σ H
def gCons (t:TG) (u:TGs):TGs:=fun vs σ H Q=> ∃ v r,vs=v::r∧t v σ H fun σ' H'=>u r σ' H' Q
theorem pgs_nil:PGs X [] gNil:=by
 intro pZ s σ H vs us Q I r h
 obtain⟨e,h⟩:=h
 subst e
 cases r
 exact assignInOrder_nil ⟨σ,H,I,h⟩
theorem pgs_cons {e:Expr} {es:List Expr} {t:TG} {u:TGs} (h1:PG X e t) (h2:PGs X es u)
  (hs:(assignEach (e::es) X.env).map (·.2)=assign e X.env::(assignEach es X.env).map (·.2):=by rfl):PGs X (e::es) (gCons t u):=by
 intro pZ s σ H vs us Q I r h
 obtain⟨v,vr,e1,h⟩:=h
 subst e1
 cases r with
 |cons r rr=>
  rw[hs]
  refine assignInOrder_cons (thn (h1 pZ s σ H _ _ _ I r h) fun _ s1 ⟨σ1,H1,I1,q1⟩=>?_)
  exact h2 pZ s1 σ1 H1 _ _ Q I1 rr q1
def gTup (K:PySem.W.Frag) (n:Nat) (t:TGs):TG:=fun v σ H Q=> ∃ a xs,v= .ref a∧SqT K H a xs∧xs.length=n∧t xs σ H Q
theorem pg_tup (hc:X.calm=true) (h:PGs X es t)
  (hn:(assignEach es X.env).length=n:=by rfl) (hst:(assignEach es X.env).findIdx? (·.1)=none:=by rfl):PG X (.Tuple es k pos) (gTup X.K n t):=by
 intro pZ s σ H v u Q I r hw
 obtain⟨a,xs,e1,hq,hl,hw⟩:=hw
 subst e1
 cases r
 obtain⟨its,rv,ht,hz⟩:=I.tuple hq
 refine assign_Tuple_tuple (I.ok.hd hc) ht (by simp[hn,←hl,rv.length]) hst fun h' hx=>?_
 have I1:Inv X pZ σ H {s with heap:=h'}:=I.kept (t':=s.toks) fun b o e=>hx b o (Nat.ne_of_lt (Heap.lt_size e)) e
 exact h pZ _ σ H xs _ Q I1 (by simpa using rv) hw
def gSub (to ti:TE) (t:TSet):TG:=fun v σ H Q=>to σ H fun o H1=>ti σ H1 fun i H2=>t o i v H2 fun H3=>Q σ H3
theorem pg_sub {o i:Expr} {to ti:TE} {t:TSet} (ho:PE X o to) (hi:PE X i ti) (hs:PSet X t)
  (ha: ∀ v,assign (.Subscript o i pos) X.env v=(do
   let ov ←holding [v] (eval o X.env)
   let iv ←holding [v,ov] (eval i X.env)
   standAt pos
   holding [v,ov,iv] (setItem ov iv v)
   release [v,ov,iv] []):=by intro _;rfl):PG X (.Subscript o i pos) (gSub to ti t):=by
 intro pZ s σ H v u Q I r h
 rw[ha]
 refine wpAny_bind (wpAny_holding (thn (ho pZ s σ H _ I h) fun ov s1 ⟨x,H1,I1,r1,q1⟩=>?_))
 refine wpAny_bind (wpAny_holding (thn (hi pZ s1 σ H1 _ I1 q1) fun iv s2 ⟨y,H2,I2,r2,q2⟩=>?_))
 refine wpAny_bind (wpAny_standAt (wpAny_bind (wpAny_holding (thn (hs pZ s2 σ H2 x y v ov iv u _ I2 r1 r2 r q2) fun _ s3 ⟨H3,I3,q3⟩=>?_))))
 exact wpAny_release ⟨σ,H3,I3,q3⟩
def tAsg (te:TE) (g:TG):TS:=fun D σ H=>te σ H fun x H1=>g x σ H1 D.nx
theorem ps_asg {tg e:Expr} {te:TE} {g:TG} (he:PE X e te) (hg:PG X tg g) (hs:swapsWithSole [tg] e pos.line X.env=pure false:=by rfl) (hw:swappedStores [tg] e X.env=pure none:=by rfl)
  (h1:(assignEach [tg] X.env).map (·.2)=[assign tg X.env]:=by rfl):PS X (.Assign [tg] e pos) (tAsg te g):=by
 intro pZ s σ H D I h
 refine wpAny_Assign_stores (thn (he pZ s σ H _ I h) fun v s1 ⟨x,H1,I1,r1,q1⟩=>?_) hs hw
 rw[h1]
 exact thn (hg pZ s1 σ H1 x v _ I1 r1 q1) fun _ s2 q=>q
theorem ps_set {i:Nat} {x:Str} {e:Expr} {te:TE} {pos':Pos} (hN:X.N.Nodup) (hi:X.N[i]?=some x) (hx:Loc X.env.scope x) (he:PE X e te) (hs:swapsWith e (some (.Name x pos')) pos.line X.env=pure false:=by rfl) (hf:X.fn x=true∨X.env.scope.names.lookup x=some .local:=by first|exact .inl rfl|exact .inr rfl|assumption):
  PS X (.Assign [.Name x pos'] e pos) (tAsg te (gName i)):=by
 intro pZ s σ H D I h
 refine wpAny_Assign_Name (thn (he pZ s σ H _ I h) fun v s1 ⟨y,H1,I1,r1,q1⟩=>?_) hs
 exact store_ok I1 hN hi hx r1 (fun s2 I2=>⟨_,H1,I2,q1⟩) hf
end
section
variable {X:Cx} {pos:Pos}
noncomputable def tWhile (c:TT) (tb:TS):TS:=fun D σ H=> ∃ W:Nat→St→Hp→Prop,(∃ m,W m σ H)∧∀ m σ H,W m σ H→
 c σ H fun b H1=>if b=true then ∃ N:St→Hp→Prop,(∀ σ' H',N σ' H'→∃ m',m' < m∧W m' σ' H')∧tb {D with nx:=N,ct:=N,bk:=D.nx} σ H1 else D.nx σ H1
theorem ps_while {c:Expr} {body:List Stmt} {tc:TT} {tb:TS} (hp:PassesOwn (model X.prog X.w) X.A X.env X.xe) (hc:PT X c tc) (hb:PSs X body tb):PS X (.While c body [] pos) (tWhile tc tb):=by
 intro pZ s σ H D I h
 obtain⟨W,⟨m0,w0⟩,turn⟩:=h
 refine wpAny_While (codeAny_whileLoop (fun n s'=> ∃ σ' H',Inv X pZ σ' H' s'∧W n σ' H') ?_ m0 ⟨σ,H,I,w0⟩)
 rintro n s1 ⟨σ1,H1,I1,w1⟩
 refine wpAny_passesOwn hp (thn (hc pZ s1 σ1 H1 _ I1 (turn n σ1 H1 w1)) fun b s2 ⟨H2,I2,q2⟩=>?_)
 cases b with
 |true=>
  obtain⟨N,hN,q2⟩:=q2
  rw[if_pos rfl]
  refine wpAny_passesOwn hp (thn (hb pZ s2 σ1 H2 _ I2 q2) fun f s3 q3=>?_)
  cases f with
  |next=>
   obtain⟨σ3,H3,I3,n3⟩:=q3
   obtain⟨m',hm,w3⟩:=hN σ3 H3 n3
   exact⟨m',hm,σ3,H3,I3,w3⟩
  |cont=>
   obtain⟨σ3,H3,I3,n3⟩:=q3
   obtain⟨m',hm,w3⟩:=hN σ3 H3 n3
   exact⟨m',hm,σ3,H3,I3,w3⟩
  |brk=>exact q3
  |ret v=>exact q3
 |false=>
  rw[if_neg Bool.false_ne_true]
  exact wpAny_execs_nil ⟨σ1,H2,I2,q2⟩
end
structure It where
 go:Nat→Hp→Prop
 yld:Nat→Hp→V→Hp→Prop
 stop:Nat→Hp→Prop
def FpOk (X:Cx) (pZ:List (Addr×Obj)) (H:Hp) (b:Addr):Prop:=
 H b=none∧b≠X.env.locals∧b∉X.fs∧(b∈X.ex∨X.s₀.heap.objs.size≤b)∧(∀ x c,X.env.cells.lookup x=some c→c≠b)∧∀ p∈X.pn++pZ,p.1≠b
theorem Inv.fpOk {X:Cx} {pZ:List (Addr×Obj)} {σ:St} {H H':Hp} {s:Shared} {b:Addr} (I:Inv X pZ σ H s) (hb:s.heap.objs.size≤b) (hn:H' b=none):FpOk X pZ H' b:=by
 refine⟨hn,Nat.ne_of_gt (Nat.lt_of_lt_of_le I.lt hb),I.nofs hb,.inr (Nat.le_trans I.sz hb),fun x c e z=>?_,fun p hp z=>?_⟩
 ·obtain⟨v,q⟩:=I.cell x c e
  exact absurd (Nat.lt_of_lt_of_le q.lt (by rw[z];exact hb)) (Nat.lt_irrefl _)
 ·exact absurd (Nat.lt_of_lt_of_le (Heap.lt_size (I.pin p hp).1) (by rw[z];exact hb)) (Nat.lt_irrefl _)
structure Turn (P:Program) (w:World) (K:PySem.W.Frag) (tg:Expr) (J:It) (fp:List Addr) (it:Addr) (tn:Nat→Heap→Prop):Prop where
 mem:it∈fp
 obj: ∀ i h,tn i h→∀ b∈fp,∃ o,h.get? b=some o∧∀ v,o.data≠.cell v
 keep: ∀ i h h',tn i h→(∀ b∈fp,∀ o,h.get? b=some o→h'.get? b=some o)→tn i h'
 item: ∀ (X:Cx),X.prog=P→X.w=w→X.K=K→X.calm=true→∀ (i:Nat) (pZ:List (Addr×Obj)) (s:Shared) (σ:St) (H:Hp) (E:Value→Shared→Prop),Inv X pZ σ H s→(∀ b∈fp,FpOk X pZ H b)→tn i s.heap→J.go i H→
  wpAny (model P w) X.A (pyNext (.ref it)) (fun r s1=> ∃ u,r=some u∧
   wpAny (model P w) X.A (letOwnedTupleGo tg (.ref it) u) (fun _ s2=> ∃ x H',Inv X pZ σ H' s2∧RelV x u∧J.yld i H x H'∧tn (i+1) s2.heap∧∀ b∈fp,H' b=none) E s1) E s
 done: ∀ (X:Cx),X.prog=P→X.w=w→X.K=K→X.calm=true→∀ (i:Nat) (pZ:List (Addr×Obj)) (s:Shared) (σ:St) (H:Hp) (E:Value→Shared→Prop),Inv X pZ σ H s→(∀ b∈fp,FpOk X pZ H b)→tn i s.heap→J.stop i H→
  wpAny (model P w) X.A (pyNext (.ref it)) (fun r s1=>r=none∧Inv X pZ σ H s1) E s
 self: ∀ (A:Around) (i:Nat) (s:Shared) (Q:Value→Shared→Prop) (E:Value→Shared→Prop),tn i s.heap→Q (.ref it) s→wpAny (model P w) A (pyIter (.ref it)) Q E s
abbrev TI:=St→Hp→(It→Hp→Prop)→Prop
def PIE (X:Cx) (pZ:List (Addr×Obj)) (σ:St) (tg:Expr) (R:It→Hp→Prop) (itv:Value) (s2:Shared):Prop:=
 ∃ (it:Addr) (fp:List Addr) (tn:Nat→Heap→Prop) (J:It) (H':Hp),itv= .ref it∧Inv X pZ σ H' s2∧Turn X.prog X.w X.K tg J fp it tn∧tn 0 s2.heap∧(∀ b∈fp,FpOk X pZ H' b)∧R J H'
def PI (X:Cx) (tg iter:Expr) (wi:TI):Prop:=
 ∀ (pZ:List (Addr×Obj)) (s:Shared) (σ:St) (H:Hp) (R:It→Hp→Prop),Inv X pZ σ H s→wi σ H R→
  wpAny (model X.prog X.w) X.A (eval iter X.env) (fun v s1=>wpAny (model X.prog X.w) X.A (pyIter v) (PIE X pZ σ tg R) X.xe s1) X.xe s
theorem go_of (ho : s.heap.get? it = some o) (hc : o.cls = .type n) (hd : o.data = .fields vs)
    (hn : ["enumerate", "zip", "dict_itemiterator", "dict_reverseitemiterator", "odict_iterator", "itertools.zip_longest", "itertools.pairwise"].contains n = false) (hQ : Q () s): wpAny M A (letOwnedTupleGo tg (.ref it) u) Q E s := by
  unfold letOwnedTupleGo
  cases tg <;> first
    | exact wpAny_pure hQ
    | (cases u <;> first
        | exact wpAny_pure hQ
        | (refine wpAny_bind (wpAny_load ho ?_)
           rw [hc, hd]
           show wpAny M A (if (["enumerate", "zip", "dict_itemiterator", "dict_reverseitemiterator", "odict_iterator", "itertools.zip_longest", "itertools.pairwise"].contains n && vs[0]? == some (rawInt _)) = true then _ else _) Q E s
           rw [if_neg (by intro h; rw [hn, Bool.false_and] at h; cases h)]
           exact wpAny_pure hQ))
def Itl (K:PySem.W.Frag) (a:Addr):It:=
 ⟨fun i H=> ∃ xs x,SqL K H a xs∧xs[i]?=some x,fun i H x H'=>H'=H∧∀ xs,SqL K H a xs→xs[i]?=some x,fun i H=> ∃ xs,SqL K H a xs∧xs.length≤i⟩
def Itt (K:PySem.W.Frag) (a:Addr):It:=
 ⟨fun i H=> ∃ xs x,SqT K H a xs∧xs[i]?=some x,fun i H x H'=>H'=H∧∀ xs,SqT K H a xs→xs[i]?=some x,fun i H=> ∃ xs,SqT K H a xs∧xs.length≤i⟩
def Itr (lo:Int) (n:Nat):It:=⟨fun i _=>i < n,fun i H x H'=>H'=H∧x= .int (lo+i),fun i _=>n≤i⟩
theorem turn_list {P:Program} {w:World} {K:PySem.W.Frag} {tg:Expr} (a it:Addr):Turn P w K tg (Itl K a) [it] it (fun i h=>h.IsListIter it a i) where
 mem:=by simp
 obj:=fun i h st b hb=>by
  have e:b=it:=by simpa using hb
  subst e
  obtain⟨o,e,c,d⟩:=st
  exact⟨o,e,fun v z=>by rw[d] at z;cases z⟩
 keep:=fun i h h' st k=>st.at fun o e=>k it (by simp) o e
 item:=by
  intro X hP hw hK hc i pZ s σ H E I hf st hg
  subst hP hw hK
  obtain⟨xs,x,hq,hx⟩:=hg
  obtain⟨its,rv,p,hz⟩:=I.list hq
  obtain⟨u,hu,ru⟩:=rv.get hx
  obtain⟨f0,f1,f2,f3,f4,f5⟩:=hf it (by simp)
  refine wpAny_pyNext_list_item st p.isList (x:=u) (by simpa using hu) fun h' st' sb=>?_
  have I1:Inv X pZ σ H {s with heap:=h'}:=I.turned (t':=s.toks) (fun b o hb e=>(sb.2 b hb).trans e) f0 f1 f3 f4 f5
  obtain⟨o,e,c,d⟩:=id st'
  exact⟨u,rfl,go_of (s:={s with heap:=h'}) e c d (by decide) ⟨x,H,I1,ru,⟨rfl,fun ys hy=>by rw[I.list_inj hy hq];exact hx⟩,st',fun b hb=>(hf b hb).1⟩⟩
 done:=by
  intro X hP hw hK hc i pZ s σ H E I hf st hg
  subst hP hw hK
  obtain⟨xs,hq,hx⟩:=hg
  obtain⟨its,rv,p,hz⟩:=I.list hq
  obtain⟨f0,f1,f2,f3,f4,f5⟩:=hf it (by simp)
  have hl:=rv.length
  exact wpAny_pyNext_list_end (I.ok.hd hc) st p.isList (by simp;lia) fun h' eb=>⟨rfl,I.turned (t':=s.toks) (fun b o hb e=>eb b o hb e) f0 f1 f3 f4 f5⟩
 self:=fun _ _ _ _ _ st h=>wpAny_pyIter_listiter st h
theorem turn_tuple {P:Program} {w:World} {K:PySem.W.Frag} {tg:Expr} (a it:Addr):Turn P w K tg (Itt K a) [it] it (fun i h=>h.IsTupleIter it a i) where
 mem:=by simp
 obj:=fun i h st b hb=>by
  have e:b=it:=by simpa using hb
  subst e
  obtain⟨o,e,c,d⟩:=st
  exact⟨o,e,fun v z=>by rw[d] at z;cases z⟩
 keep:=fun i h h' st k=>st.at fun o e=>k it (by simp) o e
 item:=by
  intro X hP hw hK hc i pZ s σ H E I hf st hg
  subst hP hw hK
  obtain⟨xs,x,hq,hx⟩:=hg
  obtain⟨its,rv,p,hz⟩:=I.tuple hq
  obtain⟨u,hu,ru⟩:=rv.get hx
  obtain⟨f0,f1,f2,f3,f4,f5⟩:=hf it (by simp)
  refine wpAny_pyNext_tuple_item st (show s.heap.IsTuple a its.toArray from p) (x:=u) (by simpa using hu) fun h' st' sb=>?_
  have I1:Inv X pZ σ H {s with heap:=h'}:=I.turned (t':=s.toks) (fun b o hb e=>(sb.2 b hb).trans e) f0 f1 f3 f4 f5
  obtain⟨o,e,c,d⟩:=id st'
  exact⟨u,rfl,go_of (s:={s with heap:=h'}) e c d (by decide) ⟨x,H,I1,ru,⟨rfl,fun ys hy=>by rw[I.tuple_inj hy hq];exact hx⟩,st',fun b hb=>(hf b hb).1⟩⟩
 done:=by
  intro X hP hw hK hc i pZ s σ H E I hf st hg
  subst hP hw hK
  obtain⟨xs,hq,hx⟩:=hg
  obtain⟨its,rv,p,hz⟩:=I.tuple hq
  obtain⟨f0,f1,f2,f3,f4,f5⟩:=hf it (by simp)
  have hl:=rv.length
  exact wpAny_pyNext_tuple_end (I.ok.hd hc) st (show s.heap.IsTuple a its.toArray from p) (by simp;lia) fun h' eb=>⟨rfl,I.turned (t':=s.toks) (fun b o hb e=>eb b o hb e) f0 f1 f3 f4 f5⟩
 self:=fun _ _ _ _ _ st h=>wpAny_pyIter_tupleiter st h
theorem turn_range {P:Program} {w:World} {K:PySem.W.Frag} {tg:Expr} (it:Addr) (lo:Int) (n:Nat):Turn P w K tg (Itr lo n) [it] it (fun i h=>IsRangeIter h it (lo+(i:Nat) * 1) ((n:Int) - (i:Nat)) 1) where
 mem:=by simp
 obj:=fun i h st b hb=>by
  have e:b=it:=by simpa using hb
  subst e
  exact⟨_,st,fun v z=>by
   have z':Data.fields _=Data.cell v:=z
   cases z'⟩
 keep:=fun i h h' st k=>k it (by simp) _ st
 item:=by
  intro X hP hw hK hc i pZ s σ H E I hf st hg
  subst hP hw hK
  obtain⟨f0,f1,f2,f3,f4,f5⟩:=hf it (by simp)
  have W:=Walks.range (prog:=X.prog) (w:=X.w) (I.ok.hd hc) it lo 1 n
  refine W.item i s _ _ hg st fun v h' tk hv st' kk=>?_
  obtain⟨t,rfl⟩:=hv
  have I1:Inv X pZ σ H {s with heap:=h',toks:=tk}:=I.turned (fun b o hb e=>kk b o (by simpa using hb) e) f0 f1 f3 f4 f5
  refine⟨_,rfl,go_of (s:={s with heap:=h',toks:=tk}) (n:="range_iterator") st' rfl rfl (by decide) ⟨.int (lo+i),H,I1,⟨t,?_⟩,⟨rfl,rfl⟩,st',fun b hb=>(hf b hb).1⟩⟩
  rw[Int.mul_one]
 done:=by
  intro X hP hw hK hc i pZ s σ H E I hf st hg
  subst hP hw hK
  obtain⟨f0,f1,f2,f3,f4,f5⟩:=hf it (by simp)
  exact wpAny_pyNext_range_end (I.ok.hd hc) st (by have:n≤i:=hg;lia) fun h' eb=>⟨rfl,I.turned (t':=s.toks) (fun b o hb e=>eb b o hb e) f0 f1 f3 f4 f5⟩
 self:=fun _ _ _ _ _ st h=>wpAny_pyIter_rangeiter st h
end L2
namespace L2
open PySem PySem.Spec PyProof.Rows
section
variable {X:Cx} {tg:Expr}
theorem range_it {pZ:List (Addr×Obj)} {σ:St} {H:Hp} {s:Shared} {R:It→Hp→Prop} {E:Value→Shared→Prop} {lo hi:Int} {t u v:Tok} {tk:Nat} (I:Inv X pZ σ H s) (h1: -(2 ^ 62)≤lo) (h2:lo < 2 ^ 62) (h3: -(2 ^ 62)≤hi) (h4:hi < 2 ^ 62)
  (q:R (Itr lo (hi - lo).toNat) H):wpAny (model X.prog X.w) X.A (pyIter (.ref s.heap.objs.size)) (PIE X pZ σ tg R) E {s with heap:=s.heap.push {cls:=.type "range",data:=.fields #[.int lo t,.int hi u,.int 1 v]},toks:=tk}:=by
 refine wpAny_pyIter_range (IsRange.new ..) (small_one h1 h2 h3 h4) ?_
 have I1:Inv X pZ σ H {s with heap:=s.heap.push {cls:=.type "range",data:=.fields #[.int lo t,.int hi u,.int 1 v]},toks:=tk}:=I.kept fun b o e=>Heap.get?_push_of_some _ e
 refine⟨(s.heap.push {cls:=.type "range",data:=.fields #[.int lo t,.int hi u,.int 1 v]}).objs.size,[(s.heap.push {cls:=.type "range",data:=.fields #[.int lo t,.int hi u,.int 1 v]}).objs.size],_,_,H,rfl,
  I1.kept (t':=tk) fun b o e=>Heap.get?_push_of_some _ e,turn_range _ lo (hi - lo).toNat,?_,fun b hb=>?_,q⟩
 ·have e1:lo+((0:Nat):Int) * 1=lo:=by simp
  have e2:(((hi - lo).toNat:Nat):Int) - ((0:Nat):Int)=Builtin.Range.rangeSize lo hi 1:=by rw[rangeSize_one];split<;>lia
  show IsRangeIter _ _ (lo+((0:Nat):Int) * 1) ((((hi - lo).toNat:Nat):Int) - ((0:Nat):Int)) 1
  rw[e1,e2]
  exact Heap.get?_push_size _ rfl
 ·have e:b=(s.heap.push {cls:=.type "range",data:=.fields #[.int lo t,.int hi u,.int 1 v]}).objs.size:=by simpa using hb
  subst e
  exact I1.fpOk (Nat.le_refl _) (I1.hok.fresh (Nat.le_refl _))
def iRng1 (ta:TA):TI:=fun σ H R=>ta σ H fun vs H1=> ∃ j:Int,vs=[.int j]∧-(2 ^ 62)≤j∧j < 2 ^ 62∧R (Itr 0 j.toNat) H1
theorem pi_range1 {a:Expr} {ta:TA} {p pos:Pos} (hg:Gl X "range") (hm:X.mg "range"=none) (ha:PA X [a] ta) (hs:starEach [a] X.env=[(false,eval a X.env)]:=by rfl):PI X tg (.Call (.Name "range" p) [a] [] pos) (iRng1 ta):=by
 intro pZ s σ H R I h
 refine Call_ (ld_blt I hg hm boot_range (PyProof.Rows.callWith_type1 (thn (ha pos pZ s σ H _ I h) fun us s1 ⟨vs,H1,I1,r1,q1⟩=>?_) hs rfl))
 obtain⟨j,e,q1,q2,q⟩:=q1
 subst e
 cases r1 with
 |cons r rr=>
  cases rr
  obtain⟨t,rfl⟩:=r
  exact call_range_1 (range_it I1 (by lia) (by lia) q1 q2 (by simpa using q))
noncomputable def tFor (wi:TI) (g:TG) (tb:TS):TS:=fun D σ H=>wi σ H fun J H1=> ∃ W:Nat→Nat→St→Hp→Prop,(∃ m,W 0 m σ H1)∧∀ i m σ H,W i m σ H→
 (J.stop i H∧D.nx σ H)∨(J.go i H∧∃ N:St→Hp→Prop,(∀ σ' H',N σ' H'→∃ m',m' < m∧W (i+1) m' σ' H')∧∀ x H',J.yld i H x H'→g x σ H' fun σ2 H2=>tb {D with nx:=N,ct:=N,bk:=D.nx} σ2 H2)
def pinsAt (fp:List Addr) (h:Heap):List (Addr×Obj):=fp.filterMap fun b=>(h.get? b).map fun o=>(b,o)
theorem mem_pinsAt {fp:List Addr} {h:Heap} {b:Addr} {o:Obj} (hb:b∈fp) (e:h.get? b=some o):(b,o)∈pinsAt fp h:=List.mem_filterMap.mpr ⟨b,hb,by rw[e];rfl⟩
theorem of_pinsAt (hp:p∈pinsAt fp h):p.1∈fp∧h.get? p.1=some p.2:=by
 obtain⟨b,hb,e⟩:=List.mem_filterMap.mp hp
 cases q:h.get? b with
 |none=>rw[q] at e;cases e
 |some o=>
  rw[q] at e
  have e':(b,o)=p:=Option.some.inj e
  subst e'
  exact⟨hb,q⟩
theorem Inv.pinned {pZ:List (Addr×Obj)} {σ:St} {H:Hp} {s:Shared} {fp:List Addr} (I:Inv X pZ σ H s) (hf: ∀ b∈fp,FpOk X pZ H b) (ho: ∀ b∈fp,∃ o,s.heap.get? b=some o∧∀ v,o.data≠.cell v):Inv X (pZ++pinsAt fp s.heap) σ H s:=
 I.pins_of fun p hp=>(List.mem_append.mp hp).elim (fun z=>I.pin p (List.mem_append_right _ z)) fun z=>by
  obtain⟨hb,e⟩:=of_pinsAt z
  obtain⟨f0,f1,f2,_⟩:=hf p.1 hb
  obtain⟨o,e',d⟩:=ho p.1 hb
  rw[e] at e';cases e'
  exact⟨e,f0,f1,f2,d⟩
theorem Inv.unpinned {pZ pl:List (Addr×Obj)} {σ:St} {H:Hp} {s:Shared} (I:Inv X (pZ++pl) σ H s):Inv X pZ σ H s:=I.pins_of fun p hp=>I.pin p (List.mem_append_right _ (List.mem_append_left _ hp))
theorem ps_for {iter:Expr} {body:List Stmt} {wi:TI} {g:TG} {tb:TS} {pos:Pos} (hp:PassesOwn (model X.prog X.w) X.A X.env X.xe) (hc:X.calm=true) (hi:PI X tg iter wi) (hg:PG X tg g) (hb:PSs X body tb)
  (hs: ∀ x,foldedSetIterable iter X.env x=pure x:=by intro _;rfl):PS X (.For tg iter body [] pos) (tFor wi g tb):=by
 intro pZ s σ H D I h
 refine wpAny_For (thn (hi pZ s σ H _ I h) fun v s1 h1=>thn h1 fun itv s2 h2=>?_) hs
 obtain⟨it,fp,tn,J,H2,e,I2,T,st2,f2,W,⟨m0,w0⟩,turn⟩:=h2
 subst e
 have stat: ∀ {H':Hp},(∀ b∈fp,H' b=none)→∀ b∈fp,FpOk X pZ H' b:=fun hn b hb=>⟨hn b hb,(f2 b hb).2⟩
 refine codeAny_forLoop_any (fun n s'=> ∃ i σ' H',Inv X pZ σ' H' s'∧tn i s'.heap∧(∀ b∈fp,H' b=none)∧W i n σ' H') ?_ m0 ⟨0,σ,H2,I2,st2,fun b hb=>(f2 b hb).1,w0⟩
 rintro n s3 ⟨i,σ3,H3,I3,st3,fr3,w3⟩
 rcases turn i n σ3 H3 w3 with⟨stop,qn⟩|⟨go,N,hN,step⟩
 ·refine wpAny_passesOwn hp (thn (T.done X rfl rfl rfl hc i pZ s3 σ3 H3 X.xe I3 (stat fr3) st3 stop) fun r s4 ⟨hr,I4⟩=>?_)
  subst hr
  exact wpAny_execs_nil ⟨σ3,H3,I4,qn⟩
 ·refine wpAny_passesOwn hp (thn (T.item X rfl rfl rfl hc i pZ s3 σ3 H3 X.xe I3 (stat fr3) st3 go) fun r s4 ⟨u,hr,h4⟩=>?_)
  subst hr
  refine wpAny_passesOwn hp (thn h4 fun _ s5 ⟨x,H5,I5,r5,y5,st5,fr5⟩=>?_)
  have I5':=I5.pinned (stat fr5) (T.obj _ _ st5)
  refine wpAny_passesOwn hp (thn (hg _ s5 σ3 H5 x u _ I5' r5 (step x H5 y5)) fun _ s6 ⟨σ6,H6,I6,q6⟩=>?_)
  refine wpAny_passesOwn hp (thn (hb _ s6 σ6 H6 _ I6 q6) fun f s7 q7=>?_)
  have again: ∀ {σ7:St} {H7:Hp},Inv X (pZ++pinsAt fp s5.heap) σ7 H7 s7→N σ7 H7→∃ m,m < n∧∃ i σ' H',Inv X pZ σ' H' s7∧tn i s7.heap∧(∀ b∈fp,H' b=none)∧W i m σ' H':=fun {σ7 H7} I7 n7=>by
   obtain⟨m',hm,w7⟩:=hN σ7 H7 n7
   refine⟨m',hm,i+1,σ7,H7,I7.unpinned,T.keep _ _ _ st5 fun b hb o e=>(I7.pin (b,o) (List.mem_append_right _ (List.mem_append_right _ (mem_pinsAt hb e)))).1,fun b hb=>?_,w7⟩
   obtain⟨o,e,d⟩:=T.obj _ _ st5 b hb
   exact(I7.pin (b,o) (List.mem_append_right _ (List.mem_append_right _ (mem_pinsAt hb e)))).2.1
  cases f with
  |next=>obtain⟨σ7,H7,I7,n7⟩:=q7;exact again I7 n7
  |cont=>obtain⟨σ7,H7,I7,n7⟩:=q7;exact again I7 n7
  |brk=>obtain⟨σ7,H7,I7,q7⟩:=q7;exact⟨σ7,H7,I7.unpinned,q7⟩
  |ret v=>obtain⟨x7,σ7,H7,I7,r7,q7⟩:=q7;exact⟨x7,σ7,H7,I7.unpinned,r7,q7⟩
end
end L2
namespace L2
open PySem PySem.Spec PyProof.Rows
abbrev R2:=V→V→Hp→VK→Prop
def OpR (X:Cx) (f:Value→Value→Sem Value) (r:R2):Prop:=
 ∀ (pZ:List (Addr×Obj)) (s:Shared) (σ:St) (H:Hp) (x y:V) (v u:Value) (Q:VK),Inv X pZ σ H s→RelV x v→RelV y u→r x y H Q→
  wpAny (model X.prog X.w) X.A (f v u) (EP X pZ σ Q) X.xe s
def UnR (X:Cx) (f:Value→Sem Value) (r:V→Hp→VK→Prop):Prop:=
 ∀ (pZ:List (Addr×Obj)) (s:Shared) (σ:St) (H:Hp) (x:V) (v:Value) (Q:VK),Inv X pZ σ H s→RelV x v→r x H Q→
  wpAny (model X.prog X.w) X.A (f v) (EP X pZ σ Q) X.xe s
def CallR (X:Cx) (f:Value) (r:List V→Hp→VK→Prop):Prop:=
 ∀ (pZ:List (Addr×Obj)) (s:Shared) (σ:St) (H:Hp) (xs:List V) (us:List Value) (Q:VK),Inv X pZ σ H s→Vals xs us→r xs H Q→
  wpAny (model X.prog X.w) X.A (call f us) (EP X pZ σ Q) X.xe s
def tOp (r:R2) (ta tb:TE):TE:=fun σ H Q=>ta σ H fun x H1=>tb σ H1 fun y H2=>r x y H2 Q
def tUn (r:V→Hp→VK→Prop) (ta:TE):TE:=fun σ H Q=>ta σ H fun x H1=>r x H1 Q
def rI (C:Int→Int→Prop) (g:Int→Int→V):R2:=fun x y H Q=> ∃ i j,x= .int i∧y= .int j∧C i j∧Q (g i j) H
def rI0 (g:Int→Int→V):R2:=fun x y H Q=> ∃ i j,x= .int i∧y= .int j∧Q (g i j) H
def rU (g:Int→V):V→Hp→VK→Prop:=fun x H Q=> ∃ i,x= .int i∧Q (g i) H
section
variable {X:Cx} {a b c:Expr} {ta tb tc:TE} {pos:Pos}
theorem binT (ha:PE X a ta) (hb:PE X b tb) {pZ:List (Addr×Obj)} {s:Shared} {σ:St} {H:Hp} {R:V→V→Hp→Prop} (I:Inv X pZ σ H s)
  (h:ta σ H fun x H1=>tb σ H1 fun y H2=>R x y H2) {Q:Value→Shared→Prop} {f:Value→Value→Sem Value}
  (hf: ∀ v u s2 x y H2,Inv X pZ σ H2 s2→RelV x v→RelV y u→R x y H2→wpAny (model X.prog X.w) X.A (f v u) Q X.xe s2):
  wpAny (model X.prog X.w) X.A (eval a X.env) (fun v s₁=>wpAny (model X.prog X.w) X.A (eval b X.env) (fun u s₂=>wpAny (model X.prog X.w) X.A (f v u) Q X.xe s₂) X.xe s₁) X.xe s:=by
 refine thn (ha pZ s σ H _ I h) fun v s1 ⟨x,H1,I1,r1,q1⟩=>?_
 refine thn (hb pZ s1 σ H1 _ I1 q1) fun u s2 ⟨y,H2,I2,r2,q2⟩=>?_
 exact hf v u s2 x y H2 I2 r1 r2 q2
theorem pe_op (ho:OpR X (binaryOp op) r) (ha:PE X a ta) (hb:PE X b tb):PE X (.BinOp a op b pos) (tOp r ta tb):=by
 intro pZ s σ H Q I h
 exact wpAny_BinOp (binT ha hb I h fun v u s2 x y H2 I2 rx ry q=>ho pZ s2 σ H2 x y v u Q I2 rx ry q)
theorem pe_un {op:UnaryOp} {r:V→Hp→VK→Prop} (ho:UnR X (unaryOp op) r) (ha:PE X a ta):PE X (.UnaryOp op a pos) (tUn r ta):=by
 intro pZ s σ H Q I h
 exact UnaryOp_ (thn (ha pZ s σ H _ I h) fun v s1 ⟨x,H1,I1,r1,q1⟩=>ho pZ s1 σ H1 x v Q I1 r1 q1)
theorem opI {f:Value→Value→Sem Value} {C:Int→Int→Prop} {g:Int→Int→Int}
  (rule: ∀ (i j:Int) (t u:Tok) (s:Shared) (Q:Value→Shared→Prop) (E:Value→Shared→Prop),C i j→Q (.int (g i j) s.toks) {s with toks:=s.toks+1}→wpAny (model X.prog X.w) X.A (f (.int i t) (.int j u)) Q E s):
  OpR X f (rI C fun i j=>.int (g i j)):=by
 intro pZ s σ H x y v u Q I rx ry h
 obtain⟨i,j,rfl,rfl,hc,q⟩:=h
 obtain⟨t,rfl⟩:=rx
 obtain⟨t',rfl⟩:=ry
 exact rule i j t t' s _ _ hc ⟨.int (g i j),H,I.tok _,⟨_,rfl⟩,q⟩
theorem opI0 {f:Value→Value→Sem Value} {g:Int→Int→Int}
  (rule: ∀ (i j:Int) (t u:Tok) (s:Shared) (Q:Value→Shared→Prop) (E:Value→Shared→Prop),Q (.int (g i j) s.toks) {s with toks:=s.toks+1}→wpAny (model X.prog X.w) X.A (f (.int i t) (.int j u)) Q E s):
  OpR X f (rI0 fun i j=>.int (g i j)):=by
 intro pZ s σ H x y v u Q I rx ry h
 obtain⟨i,j,rfl,rfl,q⟩:=h
 obtain⟨t,rfl⟩:=rx
 obtain⟨t',rfl⟩:=ry
 exact rule i j t t' s _ _ ⟨.int (g i j),H,I.tok _,⟨_,rfl⟩,q⟩
theorem opB0 {f:Value→Value→Sem Value} {g:Int→Int→Bool}
  (rule: ∀ (i j:Int) (t u:Tok) (s:Shared) (Q:Value→Shared→Prop) (E:Value→Shared→Prop),Q (.bool (g i j)) s→wpAny (model X.prog X.w) X.A (f (.int i t) (.int j u)) Q E s):
  OpR X f (rI0 fun i j=>.bl (g i j)):=by
 intro pZ s σ H x y v u Q I rx ry h
 obtain⟨i,j,rfl,rfl,q⟩:=h
 obtain⟨t,rfl⟩:=rx
 obtain⟨t',rfl⟩:=ry
 exact rule i j t t' s _ _ ⟨.bl (g i j),H,I,rfl,q⟩
def CDiv (i j:Int):Prop:=0 < j∧j < 1073741824
def CPow (i j:Int):Prop:=0≤j∧j≤1000000∧i.natAbs < 2 ^ 64
def CMul (i j:Int):Prop:=(-(2 ^ 64) < i∧i < 2 ^ 64)∨(-(2 ^ 64) < j∧j < 2 ^ 64)
theorem CMul.ok {i j:Int} (h:CMul i j):IntMulOk i j:=by
 rcases h with⟨h1,h2⟩|⟨h1,h2⟩
 ·exact .of_left (intBits_le_64 h1 h2)
 ·exact .of_right (intBits_le_64 h1 h2)
theorem op_add:OpR X (binaryOp .Add) (rI0 fun i j=>.int (i+j)):=opI0 fun _ _ _ _ _ _ _ q=>add_int q
theorem op_mul:OpR X (binaryOp .Mult) (rI CMul fun i j=>.int (i * j)):=opI fun _ _ _ _ _ _ _ hc q=>mul_int q hc.ok
theorem op_fdiv:OpR X (binaryOp .FloorDiv) (rI CDiv fun i j=>.int (i / j)):=opI fun i j _ _ _ _ _ hc q=>by
 have h1:(0:Int) < j:=hc.1
 have h2:j < 1073741824:=hc.2
 exact floordiv_int (by lia) (by rw[Int.fdiv_eq_ediv_of_nonneg i (by lia)];exact q) (.inl (PyProof.noPylong_small (by lia)))
theorem op_mod:OpR X (binaryOp .Mod) (rI (fun _ j=>0 < j) fun i j=>.int (i % j)):=opI fun i j _ _ _ _ _ hc q=>by
 have h1:(0:Int) < j:=hc
 exact mod_int' (by lia) (by rw[Int.fmod_eq_emod_of_nonneg i (by lia)];exact q)
theorem unI {f:Value→Sem Value} {g:Int→Int}
  (rule: ∀ (i:Int) (t:Tok) (s:Shared) (Q:Value→Shared→Prop) (E:Value→Shared→Prop),Q (.int (g i) s.toks) {s with toks:=s.toks+1}→wpAny (model X.prog X.w) X.A (f (.int i t)) Q E s):
  UnR X f (rU fun i=>.int (g i)):=by
 intro pZ s σ H x v Q I rx h
 obtain⟨i,rfl,q⟩:=h
 obtain⟨t,rfl⟩:=rx
 exact rule i t s _ _ ⟨.int (g i),H,I.tok _,⟨_,rfl⟩,q⟩
theorem un_neg:UnR X (unaryOp .USub) (rU fun i=>.int (-i)):=unI fun _ _ _ _ _ q=>neg_int q
end
section
variable {X:Cx} {a b c:Expr} {ta tb tc:TE} {pos:Pos}
theorem fin_bl (I:Inv X pZ σ H s) (q:Q (.bl k) H) (e:k=k'):EP X pZ σ Q (.bool k') s:=by
 subst e
 exact⟨.bl k,H,I,rfl,q⟩
theorem op_lt:OpR X (compareOp .Lt) (rI0 fun i j=>.bl (decide (i < j))):=opB0 fun _ _ _ _ _ _ _ q=>lt_int q
theorem op_le:OpR X (compareOp .LtE) (rI0 fun i j=>.bl (decide (i≤j))):=opB0 fun _ _ _ _ _ _ _ q=>le_int q
theorem op_gt:OpR X (compareOp .Gt) (rI0 fun i j=>.bl (decide (j < i))):=opB0 fun _ _ _ _ _ _ _ q=>gt_int q
theorem op_ge:OpR X (compareOp .GtE) (rI0 fun i j=>.bl (decide (j≤i))):=opB0 fun _ _ _ _ _ _ _ q=>ge_int q
theorem op_in_str:OpR X (compareOp .In) (fun x y H Q=> ∃ i j,x= .str i∧y= .str j∧Q (.bl (!(Builtin.Str.occurrences j i 0 j.length 1).isEmpty)) H):=by
 intro pZ s σ H x y v u Q I rx ry h
 obtain⟨i,j,rfl,rfl,q⟩:=h
 obtain⟨t,rfl⟩:=rx
 obtain⟨t',rfl⟩:=ry
 exact in_str (fin_bl I q rfl)
theorem op_isN:OpR X (compareOp .Is) (fun x y H Q=>y= .non∧Q (.bl (decide (x= .non))) H):=by
 intro pZ s σ H x y v u Q I rx ry h
 obtain⟨rfl,q⟩:=h
 cases ry
 refine is_none_gen (fin_bl I q ?_)
 cases x<;>first
  |(cases rx;rfl)
  |(obtain⟨t,rfl⟩:=rx;rfl)
theorem op_notN:OpR X (compareOp .IsNot) (fun x y H Q=>y= .non∧Q (.bl (!decide (x= .non))) H):=by
 intro pZ s σ H x y v u Q I rx ry h
 obtain⟨rfl,q⟩:=h
 cases ry
 refine isnot_none_gen (fin_bl I q ?_)
 cases x<;>first
  |(cases rx;rfl)
  |(obtain⟨t,rfl⟩:=rx;rfl)
theorem OpR.or {f:Value→Value→Sem Value} {r r':R2} (h:OpR X f r) (h':OpR X f r'):OpR X f (fun x y H Q=>r x y H Q∨r' x y H Q):=by
 intro pZ s σ H x y v u Q I rx ry q
 rcases q with q|q
 ·exact h pZ s σ H x y v u Q I rx ry q
 ·exact h' pZ s σ H x y v u Q I rx ry q
theorem nomark (b:Expr) (h:op≠.In:=by decide) (h2:op≠.NotIn:=by decide):behindInMarks op b=false:=by
 have e1:(op==CmpOp.In)=false:=by cases op<;>first|rfl|exact absurd rfl h
 have e2:(op==CmpOp.NotIn)=false:=by cases op<;>first|rfl|exact absurd rfl h2
 cases b<;>simp[behindInMarks,e1,e2]
theorem pe_cmpR (ho:OpR X (compareOp op) r) (ha:PE X a ta) (hb:PE X b tb) (hm:behindInMarks op b=false):PE X (.Compare a [op] [b] pos) (tOp r ta tb):=by
 intro pZ s σ H Q I h
 exact wpAny_Compare1 (binT ha hb I h fun v u s2 x y H2 I2 rx ry q=>ho pZ s2 σ H2 x y v u Q I2 rx ry q) hm
def tTest (t:TE):TT:=fun σ H Q=>t σ H fun x H'=> ∃ k,x= .bl k∧Q k H'
theorem pt_cmpR {op:CmpOp} {r:R2} (ho:OpR X (compareOp op) r) (ha:PE X a ta) (hb:PE X b tb) (hm:behindInMarks op b=false):PT X (.Compare a [op] [b] pos) (tTest (tOp r ta tb)):=by
 intro pZ s σ H Q I h
 refine wpAny_isTrue_Compare1 (thn (ha pZ s σ H _ I h) fun v s1 ⟨x,H1,I1,r1,q1⟩=>thn (hb pZ s1 σ H1 _ I1 q1) fun u s2 ⟨y,H2,I2,r2,q2⟩=>
  thn (ho pZ s2 σ H2 x y v u _ I2 r1 r2 q2) fun c s3 ⟨z,H3,I3,r3,k,e,q3⟩=>?_) hm
 subst e
 cases r3
 exact wpAny_truthy_bool ⟨H3,I3,q3⟩
noncomputable def tChain (r r':R2) (ta tb tc:TE):TE:=fun σ H Q=>ta σ H fun x H1=>tb σ H1 fun y H2=>r x y H2 fun z H3=> ∃ k,z= .bl k∧
 (if k=true then tc σ H3 fun w' H4=>r' y w' H4 Q else Q (.bl false) H3)
theorem pe_chain {op op':CmpOp} {r r':R2} (ho:OpR X (compareOp op) r) (ho':OpR X (compareOp op') r') (ha:PE X a ta) (hb:PE X b tb) (hc:PE X c tc)
  (hm:lastMarks [op,op'] [b,c]=false:=by with_unfolding_all rfl):PE X (.Compare a [op,op'] [b,c] pos) (tChain r r' ta tb tc):=by
 intro pZ s σ H Q I h
 refine Compare_chain (thn (ha pZ s σ H _ I h) fun v s1 ⟨x,H1,I1,r1,q1⟩=>chain_link (thn (hb pZ s1 σ H1 _ I1 q1) fun u s2 ⟨y,H2,I2,r2,q2⟩=>
  thn (ho pZ s2 σ H2 x y v u _ I2 r1 r2 q2) fun d s3 ⟨z,H3,I3,r3,k,e,q3⟩=>?_)) hm
 subst e
 cases r3
 refine wpAny_truthy_bool ?_
 cases k with
 |false=>exact ite_ff ⟨.bl false,H3,I3,rfl,q3⟩
 |true=>exact ite_tt (chain_last (thn (hc pZ s3 σ H3 _ I3 q3) fun w' s4 ⟨z',H4,I4,r4,q4⟩=>ho' pZ s4 σ H4 y z' u w' Q I4 r2 r4 q4))
theorem line63:(sizeLine:Nat) < 2 ^ 63:=by rw[sizeLine_eq];decide
theorem op_add_str:OpR X (binaryOp .Add) (fun x y H Q=> ∃ i j,x= .str i∧y= .str j∧i.length+j.length≤sizeLine∧Q (.str (i++j)) H):=by
 intro pZ s σ H x y v u Q I rx ry h
 obtain⟨i,j,rfl,rfl,hz,q⟩:=h
 obtain⟨t,rfl⟩:=rx
 obtain⟨t',rfl⟩:=ry
 exact add_str (fun t' tk=>⟨.str (i++j),H,I.tok _,⟨_,rfl⟩,q⟩) hz
theorem vals1 (r:Vals [x] us): ∃ u,us=[u]∧RelV x u:=by
 cases r with
 |cons r1 r2=>cases r2;exact⟨_,rfl,r1⟩
theorem call_abs:CallR X (.builtin "abs") (fun xs H Q=> ∃ i,xs=[.int i]∧Q (.int (if i < 0 then -i else i)) H):=by
 intro pZ s σ H xs us Q I r h
 obtain⟨i,rfl,q⟩:=h
 obtain⟨u,rfl,t,rfl⟩:=vals1 r
 exact call_abs_int fun u tk=>⟨.int (if i < 0 then -i else i),H,I.tok _,⟨_,rfl⟩,q⟩
def LenV (K:PySem.W.Frag) (x:V) (H:Hp) (n:Nat):Prop:=
 match x with
 | .str y=>y.length≤sizeLine∧n=y.length
 | .byt y=>y.size≤sizeLine∧n=y.size
 | .ref p=>(∃ xs,SqL K H p xs∧n=xs.length)∨∃ xs,SqT K H p xs∧n=xs.length
 |_=>False
theorem call_len:CallR X (.builtin "len") (fun xs H Q=> ∃ x n,xs=[x]∧LenV X.K x H n∧Q (.int n) H):=by
 intro pZ s σ H xs us Q I r h
 obtain⟨x,n,rfl,e,q⟩:=h
 obtain⟨u,rfl,rx⟩:=vals1 r
 have hl:=line63
 have hs:sizeLine=16777216:=sizeLine_eq
 cases x with
 |str y=>
  obtain⟨t,rfl⟩:=rx
  obtain⟨hy,e'⟩:y.length≤sizeLine∧n=y.length:=e
  subst e'
  exact len_str (by lia) ⟨.int _,H,I.tok _,⟨_,rfl⟩,q⟩
 |byt y=>
  obtain⟨t,rfl⟩:=rx
  obtain⟨hy,e'⟩:y.size≤sizeLine∧n=y.size:=e
  subst e'
  exact PySem.W.len_bytes (by lia) ⟨.int _,H,I.tok _,⟨_,rfl⟩,q⟩
 |ref p=>
  cases rx
  have e':(∃ xs,SqL X.K H p xs∧n=xs.length)∨∃ xs,SqT X.K H p xs∧n=xs.length:=e
  rcases e' with⟨xs,hx,e'⟩|⟨xs,hx,e'⟩
  ·subst e'
   obtain⟨its,r',pl,hz⟩:=I.list hx
   have hlen:=r'.length
   exact Calls.call_len_list pl.isList (by simp only[List.size_toArray];lia) ⟨.int xs.length,H,I.tok _,⟨_,by simp only[List.size_toArray];rw[hlen]⟩,q⟩
  ·subst e'
   obtain⟨its,r',pl,hz⟩:=I.tuple hx
   have hlen:=r'.length
   exact len_tuple pl (by simp only[List.size_toArray];lia) ⟨.int xs.length,H,I.tok _,⟨_,by simp only[List.size_toArray];rw[hlen]⟩,q⟩
 |_=>exact(show False from e).elim
end
end L2
namespace L2
open PySem PySem.Spec PyProof.Rows
theorem RelO.some_of (r:RelO (some v) o): ∃ u,o=some u∧RelV v u:=by
 cases o with
 |none=>exact(show False from r).elim
 |some u=>exact⟨u,rfl,r⟩
end L2
namespace L2
open PySem PySem.Spec PyProof.Rows
structure Room (k:Nat) (A:Around):Prop where
 hd:A.handled=none
 dp:A.depth+3 * k+5 < recursionLimit
 un:A.units+16 * k+200 < cLine
 gd:A.guards=some []
theorem Room.mono (r:Room k A) (h:j≤k):Room j A:=⟨r.hd,by have:=r.dp;lia,by have:=r.un;lia,r.gd⟩
theorem Room.deeper (r:Room (k+1) A) (env:Env):Room k (A.deeper env):=
 ⟨r.hd,by have:=r.dp;show A.depth+1+3 * k+5 < _;lia,by have:=r.un;show A.units+3+16 * k+200 < _;lia,r.gd⟩
theorem Room.in1 (r:Room (k+1) A):Room k A.in1:=
 ⟨r.hd,by have:=r.dp;show A.depth+3 * k+5 < _;lia,by have:=r.un;show A.units+1+16 * k+200 < _;lia,by first|exact r.gd|(simp[Around.in1,r.gd])⟩
theorem Room.depth (r:Room k A):A.depth < recursionLimit:=by have:=r.dp;lia
theorem Room.units (r:Room k A):A.units+64 < cLine:=by have:=r.un;lia
def tNil:TA:=fun _ H Q=>Q [] H
def tCons (ta:TE) (tr:TA):TA:=fun σ H Q=>ta σ H fun x H1=>tr σ H1 fun xs H2=>Q (x::xs) H2
section
variable {X:Cx} {e:Expr} {es:List Expr} {te:TE} {t:TA} {pos:Pos}
theorem pa_nil:PA X [] tNil:=fun _ _ _ _ H Q I h=>Calls.spliced_nil ⟨[],H,I,.nil,h⟩
theorem pa_cons (ha:PE X e te) (hr:PA X es t) (hs:starEach (e::es) X.env=(false,eval e X.env)::starEach es X.env:=by rfl):PA X (e::es) (tCons te t):=by
 intro pos pZ s σ H Q I h
 rw[hs]
 show wpAny _ _ (spliced ((false,eval e X.env)::backTo pos (starEach es X.env))) _ _ s
 refine Calls.spliced_cons (thn (ha pZ s σ H _ I h) fun u s1 ⟨x,H1,I1,r1,q1⟩=>?_)
 exact thn (hr pos pZ s1 σ H1 _ I1 q1) fun us s2 ⟨xs,H2,I2,r2,q2⟩=>⟨x::xs,H2,I2,.cons r1 r2,q2⟩
def tTup (t:TA):TE:=fun σ H Q=>t σ H fun xs H1=>xs.length≤sizeLine∧∀ p,H1 p=none→Q (.ref p) (upd H1 p (.tup xs))
def tLst (t:TA):TE:=fun σ H Q=>t σ H fun xs H1=>xs.length≤sizeLine∧∀ p,H1 p=none→Q (.ref p) (upd H1 p (.lst xs))
theorem pe_tup {x1} (h:PA X es t):PE X (.Tuple es x1 pos) (tTup t):=by
 intro pZ s σ H Q I hq
 refine wpAny_Tuple_spliced (thn (h pos pZ s σ H _ I hq) fun us s1 ⟨xs,H1,I1,r,z,q⟩=>⟨by rw[←r.length];exact z,?_⟩)
 have hf:H1 s1.heap.objs.size=none:=I1.hok.fresh (Nat.le_refl _)
 refine⟨.ref s1.heap.objs.size,upd H1 s1.heap.objs.size (.tup xs),I1.laid (t':=s1.toks) (fun b u e=>Heap.get?_push_of_some _ e) (Nat.le_refl _) ?_,rfl,q _ hf⟩
 exact⟨z,us,r,⟨_,Heap.get?_push_size _ rfl,rfl,_,rfl⟩⟩
theorem pe_lst (h:PA X es t):PE X (.List es pos) (tLst t):=by
 intro pZ s σ H Q I hq
 refine wpAny_List_spliced (thn (h pos pZ s σ H _ I hq) fun us s1 ⟨xs,H1,I1,r,z,q⟩=>⟨by rw[←r.length];exact z,?_⟩)
 have hf:H1 s1.heap.objs.size=none:=I1.hok.fresh (Nat.le_refl _)
 refine⟨.ref s1.heap.objs.size,upd H1 s1.heap.objs.size (.lst xs),I1.laid (t':=s1.toks) (fun b u e=>Heap.get?_push_of_some _ e) (Nat.le_refl _) ?_,rfl,q _ hf⟩
 exact⟨z,us,0,r,Heap.get?_push_size _ rfl⟩
end
abbrev Sp:=List V→Hp→VK→XK→Prop
abbrev CXT:=List Env→Hp→Shared→XK→Value→Shared→Prop
structure Env0 (P:Program) (w:World) (K:PySem.W.Frag) (mg:Str→Option Value) (base:Heap) (A:Around) (outer:List Env) (s:Shared) (H:Hp):Prop where
 frames:A.frames=some outer
 mod:Mod K mg base
 bs: ∀ b o,base.get? b=some o→s.heap.get? b=some o∧H b=none
 bsz:base.objs.size≤s.heap.objs.size
 funs:s.heap.FunFrames base outer
 frf: ∀ b∈frs outer,H b=none
 hok:HOk P w H s.heap
 bare:AllBare s.gens
def CE (outer:List Env) (P:Program) (w:World) (H:Hp) (s:Shared) (Q:VK) (u:Value) (s':Shared):Prop:=
 ∃ v H',s'.os=s.os∧AllBare s'.gens∧Un (frs outer) [] H H' s.heap s'.heap∧HOk P w H' s'.heap∧RelV v u∧Q v H'
def CR (CX:CXT) (outer:List Env) (P:Program) (w:World) (H:Hp) (s:Shared) (Q:VK) (E:XK) (r:Result) (s':Shared):Prop:=
 match r with
 | .ok (.ret u)=>CE outer P w H s Q u s'
 | .ok _=>False
 | .error e=>CX outer H s E e s'
structure FnOk (P:Program) (w:World) (K:PySem.W.Frag) (mg:Str→Option Value) (base:Heap) (CX:CXT) (k:Nat) (f:Addr) (fd:FuncData) (ps:List Str) (sp:Sp):Prop where
 len: ∀ vs H Q E,sp vs H Q E→vs.length=ps.length
 run: ∀ (A:Around) (outer:List Env) (s:Shared) (H:Hp) (args:Args) (us:List Value) (vs:List V) (Q:VK) (E:XK),Room k A→Env0 P w K mg base A outer s H→BindsTo s fd args (ps.zip us)→Vals vs us→sp vs H Q E→
  codeAny (model P w) A (.call (.ref f) args) (CR CX outer P w H s Q E) s
theorem FnOk.imp {P:Program} {w:World} {K:PySem.W.Frag} {mg:Str→Option Value} {base:Heap} {CX:CXT} {k:Nat} {f:Addr} {fd:FuncData} {ps:List Str} {sp sp':Sp} (F:FnOk P w K mg base CX k f fd ps sp)
  (h: ∀ vs H Q E,sp' vs H Q E→sp vs H Q E):FnOk P w K mg base CX k f fd ps sp':=
 ⟨fun vs H Q E q=>F.len vs H Q E (h _ _ _ _ q),fun A outer s H args us vs Q E hr he hb hv hs=>F.run A outer s H args us vs Q E hr he hb hv (h _ _ _ _ hs)⟩
section
variable {X:Cx} {pZ:List (Addr×Obj)} {σ:St} {H:Hp} {s s':Shared}
theorem Inv.env0 (I:Inv X pZ σ H s):Env0 X.prog X.w X.K X.mg X.base X.A X.stack s H:=
 ⟨I.ok.frames,I.ok.mod,I.bs,Nat.le_trans I.ok.bsz I.sz,I.stack,I.stkFree,I.hok,I.bare⟩
theorem Inv.after (I:Inv X pZ σ H s) (h:CE X.stack X.prog X.w H s Q u s'):EP X pZ σ Q u s':=by
 obtain⟨v,H',os,bare,un,hok,r,q⟩:=h
 obtain⟨hh,g,d,t,os'⟩:=s'
 obtain rfl:os'=s.os:=os
 exact⟨v,H',I.call (h':=hh) (g':=g) (d':=d) (t':=t) (ch:=[]) un hok bare (fun b z=>absurd z (by simp)),r,q⟩
end
def tCall (sp:Sp) (dvs:List V) (E:XK) (t:TA):TE:=fun σ H Q=>t σ H fun vs H1=>sp (vs++dvs) H1 Q E
def Binds (K:PySem.W.Frag) (fd:FuncData) (ps:List Str) (ds:List Value):Prop:=
 ∀ (s:Shared) (us:List Value),K.In s.heap→(us++ds).length=ps.length→BindsTo s fd ⟨us,[]⟩ (ps.zip (us++ds))
theorem Binds.all {K:PySem.W.Frag} {fd:FuncData} {ps:List Str} (h: ∀ us:List Value,us.length=ps.length→bindArgs fd ⟨us,[]⟩=pure (ps.zip us)):Binds K fd ps []:=fun s us _ hl=>by
 rw[List.append_nil] at hl ⊢
 exact .of_eq (h us hl)
def Passes (CX:CXT) (X:Cx) (E:XK):Prop:= ∀ (pZ:List (Addr×Obj)) (σ:St) (H:Hp) (s:Shared) (e:Value) (s':Shared),Inv X pZ σ H s→CX X.stack H s E e s'→X.xe e s'
section
variable {X:Cx} {CX:CXT} {k:Nat} {f C:Addr} {fd:FuncData} {ps:List Str} {sp:Sp} {dvs:List V} {ds:List Value} {E:XK} {x m:Str} {p pos apos:Pos} {e o:Expr} {es:List Expr} {ta:TE} {t:TA}
theorem run_fn {pZ:List (Addr×Obj)} {σ:St} {H:Hp} {s:Shared} {Q:VK} {us:List Value} {vs:List V} (F:FnOk X.prog X.w X.K X.mg X.base CX k f fd ps sp) (hr:Room k X.A) (hb:Binds X.K fd ps ds) (hd:Vals dvs ds) (hx:Passes CX X E)
  (I:Inv X pZ σ H s) (r:Vals vs us) (h:sp (vs++dvs) H Q E):wpAny (model X.prog X.w) X.A (call (.ref f) us) (EP X pZ σ Q) X.xe s:=by
 have r2:Vals (vs++dvs) (us++ds):=r.append hd
 have hl:(us++ds).length=ps.length:=by rw[←r2.length];exact F.len _ _ _ _ h
 refine wpAny_call (codeAny_mono (F.run X.A X.stack s H ⟨us,[]⟩ (us++ds) (vs++dvs) Q E hr I.env0 (hb s us I.kIn hl) r2 h) fun r s' hq=>?_)
 cases r with
 |error e=>exact hx pZ σ H s e s' I hq
 |ok fl=>
  cases fl with
  |ret u=>exact I.after hq
  |next=>exact False.elim hq
  |brk=>exact False.elim hq
  |cont=>exact False.elim hq
theorem pe_call (F:FnOk X.prog X.w X.K X.mg X.base CX k f fd ps sp) (hr:Room k X.A) (hg:Gl X x) (hm:X.mg x=some (.ref f)) (hk:PySem.W.keepIn X.K (.ref f)=true) (hb:Binds X.K fd ps ds) (hd:Vals dvs ds) (hx:Passes CX X E)
  (ha:PA X (e::es) t) (hdb:(x==("__debug__":Str))=false:=by decide) (he:starEach (e::es) X.env=(false,eval e X.env)::starEach es X.env:=by rfl) (hpl:(backTo pos (starEach es X.env)).any (·.1)=false:=by rfl):
  PE X (.Call (.Name x p) (e::es) [] pos) (tCall sp dvs E t):=by
 intro pZ s σ H Q I h
 refine wpAny_Call_Name_kw (ld_glob I hg hm ?_ hdb)
 refine PySem.W.callWith_K (h₀:=X.base) I.ok.mod.kin hk (thn (ha pos pZ s σ H _ I h) fun us s1 ⟨vs,H1,I1,r,q⟩=>⟨I1.kIn,?_⟩) he hpl
 exact run_fn F hr hb hd hx I1 r q
end
structure FnScope (N P:List Str) (sc:Scope):Prop where
 kind:sc.kind= .function
 co:sc.isCoroutine=false
 gen:sc.isGenerator=false
 nd:N.Nodup
 pre:N.take P.length=P
 par: ∀ x∈P,sc.names.lookup x=some .local∨sc.names.lookup x=some .cell
 nofree: ∀ y∈sc.names,y.2≠.free
theorem bindL_out {kindOf:Str→Option NameKind} {x:Str}: ∀ {binds:List (Str×Value)} {m:Str→Option Value},(∀ v,(x,v)∉binds)→bindL kindOf binds m x=m x
 |[],_,_=>rfl
 |(n,v)::r,m,h=>by
  unfold bindL
  rw[bindL_out fun w hw=>h w (List.mem_cons_of_mem _ hw)]
  split
  ·have:x≠n:=by rintro rfl;exact h v List.mem_cons_self
   simp[this]
  ·rfl
theorem bindC_out {kindOf:Str→Option NameKind} {x:Str}: ∀ {binds:List (Str×Value)} {m:Str→Option Value},(∀ v,(x,v)∉binds)→bindC kindOf binds m x=m x
 |[],_,_=>rfl
 |(n,v)::r,m,h=>by
  unfold bindC
  rw[bindC_out fun w hw=>h w (List.mem_cons_of_mem _ hw)]
  split
  ·rfl
  ·have:x≠n:=by rintro rfl;exact h v List.mem_cons_self
   simp[this]
theorem bindL_get {kindOf:Str→Option NameKind}: ∀ {P:List Str} {vs:List Value} {i:Nat} {m:Str→Option Value},P.Nodup→P[i]?=some x→vs[i]?=some v→kindOf x=some .local→
  bindL kindOf (P.zip vs) m x=some v
 |[],_,_,_,_,h,_,_=>by simp at h
 |_::_,[],_,_,_,_,h,_=>by simp at h
 |p::P,w::vs,0,m,nd,h1,h2,hk=>by
  simp at h1 h2;subst h1;subst h2
  show bindL kindOf ((p,w)::P.zip vs) m p=_
  unfold bindL
  rw[bindL_out fun v hv=>(List.nodup_cons.mp nd).1 (List.of_mem_zip hv).1,if_pos hk]
  simp
 |p::P,w::vs,i+1,m,nd,h1,h2,hk=>by
  show bindL kindOf ((p,w)::P.zip vs) m x=_
  unfold bindL
  exact bindL_get (i:=i) (List.nodup_cons.mp nd).2 (by simpa using h1) (by simpa using h2) hk
theorem bindC_get {kindOf:Str→Option NameKind}: ∀ {P:List Str} {vs:List Value} {i:Nat} {m:Str→Option Value},P.Nodup→P[i]?=some x→vs[i]?=some v→kindOf x≠some .local→
  bindC kindOf (P.zip vs) m x=some v
 |[],_,_,_,_,h,_,_=>by simp at h
 |_::_,[],_,_,_,_,h,_=>by simp at h
 |p::P,w::vs,0,m,nd,h1,h2,hk=>by
  simp at h1 h2;subst h1;subst h2
  show bindC kindOf ((p,w)::P.zip vs) m p=_
  unfold bindC
  rw[bindC_out fun v hv=>(List.nodup_cons.mp nd).1 (List.of_mem_zip hv).1,if_neg hk]
  simp
 |p::P,w::vs,i+1,m,nd,h1,h2,hk=>by
  show bindC kindOf ((p,w)::P.zip vs) m x=_
  unfold bindC
  exact bindC_get (i:=i) (List.nodup_cons.mp nd).2 (by simpa using h1) (by simpa using h2) hk
def start (N:List Str) (vs:List V):St:=vs.map some++List.replicate (N.length - vs.length) none
noncomputable def cxOf (CX:CXT) (P:Program) (w:World) (K:PySem.W.Frag) (mg:Str→Option Value) (base:Heap) (N:List Str) (qual:Str) (scope:Scope) (f:Addr) (cd:Value) (A:Around) (outer:List Env) (s:Shared) (H:Hp) (E:XK):Cx where
 prog:=P
 w:=w
 K:=K
 mg:=mg
 base:=base
 A:=A.deeper (envOfC qual scope s.heap.objs.size f cd)
 N:=N
 s₀:=s
 H₀:=H
 env:=envOfC qual scope s.heap.objs.size f cd
 outer:=outer
 stack:=envOfC qual scope s.heap.objs.size f cd::outer
 ex:=[]
 calm:=true
 fn:=fun _=>true
 pn:=[]
 xe:=fun e s'=>wpAny (model P w) (A.deeper (envOfC qual scope s.heap.objs.size f cd)) (leaving (envOfC qual scope s.heap.objs.size f cd) e) (fun _ s''=>CX outer H s E e s'') (fun e' s''=>CX outer H s E e' s'') s'
theorem cell_has {sc:Scope} (h:sc.names.lookup x=some .cell): ∃ c,(cellsFrom n sc.names []).lookup x=some c:=by
 have q:=PySem.W.cellsFrom_some sc.names n [] (.inl h)
 exact Option.isSome_iff_exists.mp q
theorem inv_start {CX:CXT} {P:Program} {w:World} {K:PySem.W.Frag} {mg:Str→Option Value} {base:Heap} {N ps:List Str} {qual:Str} {scope:Scope} {f:Addr} {cd:Value} {A:Around} {outer:List Env} {s s1:Shared} {H:Hp} {E:XK} {us:List Value} {vs:List V}
  (S:FnScope N ps scope) (hd:A.handled=none) (e0:Env0 P w K mg base A outer s H) (hl:vs.length=ps.length) (r:Vals vs us)
  (x:InCallC s s.heap.objs.size (bindL (envOfC qual scope s.heap.objs.size f cd).kindOf (ps.zip us) fun _=>none) (cellsFrom (s.heap.objs.size+1) scope.names []) (bindC (envOfC qual scope s.heap.objs.size f cd).kindOf (ps.zip us) fun _=>none) s1):
  Inv (cxOf CX P w K mg base N qual scope f cd A outer s H E) [] (start N vs) H s1:=by
 have hpl:ps.length≤N.length:=by have:=congrArg List.length S.pre;rw[List.length_take] at this;lia
 obtain⟨h1,tk,rfl,hk⟩:=x.done
 have noA: ∀ b:Addr,b∉(cxOf CX P w K mg base N qual scope f cd A outer s H E).ex:=fun b z=>absurd (show b∈([]:List Addr) from z) (by simp)
 refine⟨⟨e0.mod,S.kind,rfl,rfl,Nat.le_refl _,fun y z c h1 h2=>?_,fun y hy=>?_,fun y c _ h=>?_,fun _=>hd,Around.frames_deeper e0.frames,.inr ⟨rfl,rfl⟩,fun b z=>absurd z (noA b),e0.bs,e0.bsz,fun b _ _=>noA b,fun b z=>absurd z (noA b),e0.funs,e0.frf⟩,
  rfl,e0.bare,Un.kept hk,⟨_,x.toInCall.ns,fun i y v h1 h2 h3=>?_⟩,fun y c h=>⟨_,x.cell y c h⟩,e0.hok.fresh (Nat.le_refl _),fun y c h=>?_,fun p hp=>absurd (show p∈([]:List (Addr×Obj)) from hp) (by simp),e0.hok.kept hk,?_⟩
 ·exact name_of_addr x.apart (PySem.mem_of_lookup h1) (PySem.mem_of_lookup h2)
 ·have hy:scope.names.lookup y=some .cell∨scope.names.lookup y=some .free:=hy
  rcases hy with hy|hy
  ·exact cell_has hy
  ·exact absurd rfl (S.nofree _ (PySem.mem_of_lookup hy))
 ·exact Nat.le_of_lt (x.above y c (PySem.mem_of_lookup h))
 ·have hi:i < vs.length:=by
   unfold start at h2
   by_cases hi:i < vs.length
   ·exact hi
   ·rw[List.getElem?_append_right (by simpa using hi)] at h2
    rw[List.getElem?_replicate] at h2
    split at h2<;>cases h2
  have ha:vs[i]?=some v:=by
   unfold start at h2
   rw[List.getElem?_append_left (by simpa using hi),List.getElem?_map] at h2
   cases e:vs[i]? with
   |none=>rw[e] at h2;cases h2
   |some a=>rw[e] at h2;cases h2;rfl
  obtain⟨u,hu,rv⟩:=r.get ha
  have hp:ps[i]?=some y:=by
   rw[←S.pre,List.getElem?_take_of_lt (by lia)];exact h1
  have ndP:ps.Nodup:=by rw[←S.pre];exact S.nd.sublist (List.take_sublist _ _)
  refine⟨u,rv,?_⟩
  rcases S.par y (List.mem_of_getElem? hp) with k|k
  ·exact .inl ⟨k,bindL_get ndP hp hu k⟩
  ·obtain⟨c,e⟩:=cell_has (n:=s.heap.objs.size+1) k
   refine .inr ⟨.inl k,c,e,?_⟩
   have q:=x.cell y c e
   rw[bindC_get ndP hp hu (by show scope.names.lookup y≠_;rw[k];decide)] at q
   exact q
 ·exact e0.hok.fresh (Nat.le_of_lt (x.above y c (PySem.mem_of_lookup h)))
 ·unfold start
  show _=N.length
  rw[List.length_append,List.length_map,List.length_replicate]
  lia
theorem fn_of {CX:CXT} {P:Program} {w:World} {K:PySem.W.Frag} {mg:Str→Option Value} {base:Heap} {k:Nat} {f:Addr} {name qual:Str} {params:Arguments} {body:List Stmt} {scope:Scope} {dV kV doc pm cdv ct oc:Value} {an od:Option Addr}
  {osl:Array (Option Value)} {N ps:List Str} {sp:Sp} (lk:K.lookup f=some ⟨oc,od,.func (PySem.W.fnOf name qual params body scope dV kV doc pm an cdv ct),osl⟩) (hcd:PySem.W.codeIn K cdv qual=true) (S:FnScope N ps scope)
  (len: ∀ vs H Q E,sp vs H Q E→vs.length=ps.length)
  (hbody: ∀ (A:Around) (outer:List Env) (s:Shared) (H:Hp) (vs:List V) (Q:VK) (E:XK),Room k (A.deeper (envOfC qual scope s.heap.objs.size f cdv))→sp vs H Q E→
   ∃ t,PSs (cxOf CX P w K mg base N qual scope f cdv A outer s H E) body t∧t {nx:=fun _ H'=>Q .non H',rt:=Q} (start N vs) H):
  FnOk P w K mg base CX (k+1) f (PySem.W.fnOf name qual params body scope dV kV doc pm an cdv ct) ps sp:=by
 refine⟨len,fun A outer s H args us vs Q E hr e0 hb r hsp=>?_⟩
 have hl:=len _ _ _ _ hsp
 have KX:K.In s.heap:=e0.mod.kin.keeps fun b o e=>(e0.bs b o e).1
 have lim:s.heap.NoLimit:=e0.mod.nolimit.keeps fun b o e=>(e0.bs b o e).1
 have hkind: ∀ y∈ps.zip us,scope.names.lookup y.1=some .local∨(scope.names.lookup y.1=some .cell∧((cellsFrom (s.heap.objs.size+1) scope.names []).lookup y.1).isSome=true):=fun hq0 hy=>by
  obtain⟨n,v⟩:=hq0
  rcases S.par n (List.of_mem_zip hy).1 with q|q
  ·exact .inl q
  ·exact .inr ⟨q,PySem.W.cellsFrom_some _ _ _ (.inl q)⟩
 refine codeAny_call_function hr.depth (KX _ _ lk) rfl S.co S.gen rfl (PySem.W.codeRec_of KX hcd) (hb _ _ _ _ ?_)
 refine wpAny_newFunctionEnv_cells S.kind hkind fun env he s1 x=>?_
 subst he
 refine⟨lim.keeps x.toInCall.keep,codeAny_func ?_⟩
 obtain⟨t,ht,hq⟩:=hbody A outer s H vs Q E (hr.deeper _) hsp
 have I:Inv (cxOf CX P w K mg base N qual scope f cdv A outer s H E) [] (start N vs) H s1:=inv_start S hr.hd e0 hl r x
 refine wpAny_mono (ht [] s1 (start N vs) H _ I hq) (fun fl s' hs=>?_) fun e s' hs=>hs
 have fin: ∀ {σ':St} {H':Hp} {v:V} {u:Value},Inv (cxOf CX P w K mg base N qual scope f cdv A outer s H E) [] σ' H' s'→RelV v u→Q v H'→CE outer P w H s Q u s':=
  fun {σ' H' v u} J rv q=>⟨v,H',J.os,J.bare,J.base,J.hok,rv,q⟩
 cases fl with
 |ret u=>
  obtain⟨v,σ',H',J,rv,q⟩:=hs
  exact fin J rv q
 |next=>
  obtain⟨σ',H',J,q⟩:=hs
  exact fin (v:=V.non) (u:=Value.none) J rfl q
 |brk=>
  obtain⟨_,_,_,q⟩:=hs
  exact False.elim q
 |cont=>
  obtain⟨_,_,_,q⟩:=hs
  exact False.elim q
end L2
namespace L2
open PySem PySem.Spec PyProof.Rows
section
variable {X:Cx} {x:Str} {p pos:Pos} {e:Expr} {es:List Expr} {t:TA} {id T:String} {r:List V→Hp→VK→Prop}
def tCB (r:List V→Hp→VK→Prop) (t:TA):TE:=fun σ H Q=>t σ H fun vs H1=>r vs H1 Q
theorem pe_callB (hc:CallR X (.builtin id) r) (hg:Gl X x) (hm:X.mg x=none) (hv:bootBuiltins x=some (.builtin id)) (ha:PA X (e::es) t) (hn:x≠"__name__":=by decide) (hdb:(x==("__debug__":Str))=false:=by decide)
  (he:starEach (e::es) X.env=(false,eval e X.env)::starEach es X.env:=by rfl) (hpl:(backTo pos (starEach es X.env)).any (·.1)=false:=by rfl):PE X (.Call (.Name x p) (e::es) [] pos) (tCB r t):=by
 intro pZ s σ H Q I h
 refine wpAny_Call_Name_kw (ld_blt I hg hm hv ?_ hn hdb)
 exact PyProof.Rows.callWith_builtin1 (thn (ha pos pZ s σ H _ I h) fun us s1 ⟨vs,H1,I1,r1,q1⟩=>hc pZ s1 σ H1 vs us Q I1 r1 q1) he hpl
theorem pe_callTy (hc:CallR X (.type T) r) (hg:Gl X x) (hm:X.mg x=none) (hv:bootBuiltins x=some (.type T)) (ha:PA X (e::es) t) (hn:x≠"__name__":=by decide) (hdb:(x==("__debug__":Str))=false:=by decide)
  (he:starEach (e::es) X.env=(false,eval e X.env)::starEach es X.env:=by rfl) (hpl:(backTo pos (starEach es X.env)).any (·.1)=false:=by rfl):PE X (.Call (.Name x p) (e::es) [] pos) (tCB r t):=by
 intro pZ s σ H Q I h
 refine wpAny_Call_Name_kw (ld_blt I hg hm hv ?_ hn hdb)
 exact PyProof.Rows.callWith_type1 (thn (ha pos pZ s σ H _ I h) fun us s1 ⟨vs,H1,I1,r1,q1⟩=>hc pZ s1 σ H1 vs us Q I1 r1 q1) he hpl
end
end L2
namespace HT
open PySem PyProof.Rows
section
variable {prog : Program} {w : World} {A : Around} {E : Value → Shared → Prop} {s : Shared}
theorem cat_tup (ht:IsTup s.heap t vs.toArray) (hb:IsTup s.heap b ws.toArray) (hv:vs≠[])
  (h1:ws=[]→Q (.ref t) s) (h2:ws≠[]→Q (.ref s.heap.objs.size) {s with heap:=s.heap.push {cls:=.type "tuple",data:=.seq (vs++ws).toArray}})
  (hsz:vs.length+ws.length≤sizeLine):wpAny (model prog w) A (binaryOp .Add (.ref t) (.ref b)) Q E s:=by
 obtain⟨⟨cls,dd,data,sl⟩,ho,hc,n,hd⟩:=id ht
 obtain⟨⟨cls2,dd2,data2,sl2⟩,ho2,hc2,n2,hd2⟩:=id hb
 simp only at hc hd hc2 hd2
 subst hc hd hc2 hd2
 have e:vs.toArray++ws.toArray=(vs++ws).toArray:=by simp
 by_cases hw:ws=[]
 ·exact concat_meets ⟨_,ho,rfl⟩ ⟨_,ho2,rfl⟩ noFill_tuple_add seq_tuple_add PySem.F.slot_tuple_add PySem.F.entry_tuple_add (PySem.F.args_tuple_add_2 _ _)
   (tuple_addW1 t b vs.toArray ws.toArray n n2 dd dd2 sl sl2 (by simpa using hv) (by simp[hw])) ⟨ho,ho2,h1 hw⟩
 ·refine concat_meets ⟨_,ho,rfl⟩ ⟨_,ho2,rfl⟩ noFill_tuple_add seq_tuple_add PySem.F.slot_tuple_add PySem.F.entry_tuple_add (PySem.F.args_tuple_add_2 _ _)
   (tuple_addW2 t b vs.toArray ws.toArray n n2 dd dd2 sl sl2 (by simpa using hv) (by simpa using hw) (by rw[List.size_toArray,List.size_toArray];exact hsz)) ⟨ho,ho2,?_⟩
  rw[e]
  exact h2 hw
def sIx (n d:Nat):Option Int→Nat
 |none=>d
 |some v=>if v < 0 then(v+(n:Int)).toNat else min v.toNat n
theorem sIx_none (n d:Nat):sIx n d none=d:=rfl
theorem sIx_nat (n d k:Nat):sIx n d (some (k:Int))=min k n:=by
 show (if(k:Int) < 0 then((k:Int)+(n:Int)).toNat else min (k:Int).toNat n)=min k n
 rw[if_neg (by lia),Int.toNat_natCast]
theorem sIx_le (n d:Nat) (hd:d≤n) (o:Option Int):sIx n d o≤n:=by
 cases o with
 |none=>exact hd
 |some v=>
  show (if v < 0 then(v+(n:Int)).toNat else min v.toNat n)≤n
  by_cases hv:v < 0
  ·rw[if_pos hv];lia
  ·rw[if_neg hv];exact Nat.min_le_right _ _
theorem clip_eq (v:Int) (n d:Nat):(if v < 0 then max (v+(n:Int)) 0 else min v (n:Int))=((sIx n d (some v):Nat):Int):=by
 show (if v < 0 then max (v+(n:Int)) 0 else min v (n:Int))=(((if v < 0 then(v+(n:Int)).toNat else min v.toNat n):Nat):Int)
 by_cases hv:v < 0
 ·simp only[if_pos hv];lia
 ·simp only[if_neg hv];lia
theorem adjust_gen (lo hi:Option Int) (n:Nat):Builtin.Slice.sliceAdjust lo hi 1 (n:Int)=(((sIx n 0 lo:Nat):Int),((sIx n n hi:Nat):Int)):=by
 have h1: ¬ ((1:Int) < 0):=by lia
 unfold Builtin.Slice.sliceAdjust
 simp only[h1,if_false]
 refine Prod.ext ?_ ?_
 ·cases lo with
  |none=>rfl
  |some v=>exact clip_eq v n 0
 ·cases hi with
  |none=>rfl
  |some v=>exact clip_eq v n n
theorem places_gen (i j:Nat):Builtin.Slice.slicePlaces (i:Int) (j:Int) 1=j - i:=by
 unfold Builtin.Slice.slicePlaces
 have h1:(1:Int) > 0:=by lia
 simp only[h1,if_true,Int.ediv_one]
 split<;>lia
theorem slicePart_ (p:IsPart v o) (h:Q o s):wpAny (model prog w) A (Builtin.Slice.slicePartIndex v) Q E s:=by
 cases p with
 |none=>exact slicePart_none h
 |int i t=>exact slicePart_int h
theorem sliceApplied_gen {sl:Addr} {vl vu:Value} {lo hi:Option Int} {n:Nat} {Q:Int×Int×Nat→Shared→Prop} (hs:s.heap.IsSliceOf sl vl vu .none) (pl:IsPart vl lo) (pu:IsPart vu hi)
  (h:Q (((sIx n 0 lo:Nat):Int),1,sIx n n hi - sIx n 0 lo) s):wpAny (model prog w) A (Builtin.Slice.sliceApplied (.ref sl) (pure (n:Int))) Q E s:=by
 obtain⟨os,hos,hcs,hds⟩:=id hs
 unfold Builtin.Slice.sliceApplied Builtin.Slice.sliceFields
 refine wpAny_bind (wpAny_bind (wpAny_field hos hds (x:=vl) rfl (wpAny_bind (wpAny_field hos hds (x:=vu) rfl (wpAny_bind (wpAny_field hos hds (x:=.none) rfl (wpAny_pure ?_)))))))
 refine wpAny_bind (slicePart_none ?_)
 show wpAny _ _ (if((1:Int)==0)=true then _ else _) _ _ s
 rw[if_neg (by decide)]
 refine wpAny_bind (slicePart_ pl (wpAny_bind (slicePart_ pu (wpAny_bind (wpAny_pure ?_)))))
 show wpAny _ _ (match Builtin.Slice.sliceAdjust lo hi 1 (n:Int) with|(lo,hi)=>pure (lo,(1:Int),Builtin.Slice.slicePlaces lo hi 1)) _ _ s
 rw[adjust_gen lo hi n]
 show wpAny _ _ (pure (((sIx n 0 lo:Nat):Int),(1:Int),Builtin.Slice.slicePlaces ((sIx n 0 lo:Nat):Int) ((sIx n n hi:Nat):Int) 1)) _ _ s
 rw[places_gen]
 exact wpAny_pure h
theorem pick_gen (xs:Array Value) (i k:Nat):((List.range k).filterMap fun (m:Nat)=>xs[((i:Int)+(m:Int) * 1).toNat]?).toArray=((xs.toList.drop i).take k).toArray:=by
 have e:(fun (m:Nat)=>xs[((i:Int)+(m:Int) * 1).toNat]?)=fun m=>xs[i+m]?:=by
  funext m
  have:((i:Int)+(m:Int) * 1).toNat=i+m:=by lia
  rw[this]
 rw[e]
 have:=pick_run xs i k
 rw[List.filterMap_map] at this
 have e2:((fun x=>xs[x]?)∘fun x=>i+x)=fun m=>xs[i+m]?:=rfl
 rw[e2] at this
 rw[this]
theorem getItem_tuple_cut {t sl:Addr} {items:Array Value} {vl vu:Value} {lo hi:Option Int} {Q:Value→Shared→Prop} (ht:IsTup s.heap t items) (hs:s.heap.IsSliceOf sl vl vu .none) (pl:IsPart vl lo) (pu:IsPart vu hi)
  (hw: ¬ (sIx items.size 0 lo=0∧sIx items.size items.size hi=items.size))
  (h:Q (.ref s.heap.objs.size) {s with heap:=s.heap.push {cls:=.type "tuple",data:=.seq ((items.toList.drop (sIx items.size 0 lo)).take (sIx items.size items.size hi - sIx items.size 0 lo)).toArray}})
  (hsz:items.size≤sizeLine):wpAny (model prog w) A (getItem (.ref t) (.ref sl)) Q E s:=by
 have htake:sizeOk (.seq ((items.toList.drop (sIx items.size 0 lo)).take (sIx items.size items.size hi - sIx items.size 0 lo)).toArray):=by
  show ((items.toList.drop (sIx items.size 0 lo)).take (sIx items.size items.size hi - sIx items.size 0 lo)).toArray.size≤sizeLine
  rw[List.size_toArray,List.length_take,List.length_drop,Array.length_toList]
  lia
 have hj:sIx items.size items.size hi≤items.size:=sIx_le _ _ (Nat.le_refl _) hi
 obtain⟨os,hos,hcs,hds⟩:=id hs
 have hTs:s.TypeIs (.ref sl) "slice":=⟨os,hos,hcs⟩
 unfold getItem
 try with_reducible refine wpAny_holding ?_
 first|refine wpAny_bind (wpAny_pure ?_)|skip
 refine wpAny_bind (wpAny_sequenceKey ht.typeIs (by decide) ?_)
 refine wpAny_bind (wpAny_callSpecial?_slot (name:=Str.ofString "__getitem__") ht.typeIs PyProof.Rows.slot_tuple_getitem
  (wpAny_call_entry PyProof.Rows.slot_tuple_getitem ht.typeIs entry_tuple_getitem ?_ (args_tuple_getitem _ _)))
 show wpAny _ _ (Builtin.Tuple.tupleItemsOf (.ref t) >>= _) _ _ s
 refine wpAny_bind (tupleItemsOf_ ht ?_)
 refine wpAny_bind (wpAny_typeOf hTs ?_)
 rw[if_pos (by decide)]
 refine wpAny_bind (sliceApplied_gen hs pl pu ?_)
 have hno: ¬ ((((sIx items.size 0 lo:Nat):Int)==0&&(1:Int)==1&&(sIx items.size items.size hi - sIx items.size 0 lo)==items.size)=true):=by
  intro q
  rw[Bool.and_eq_true,Bool.and_eq_true] at q
  have q1:((sIx items.size 0 lo:Nat):Int)=0:=eq_of_beq q.1.1
  have q2:sIx items.size items.size hi - sIx items.size 0 lo=items.size:=eq_of_beq q.2
  exact hw ⟨by lia,by lia⟩
 show wpAny _ _ (if(((sIx items.size 0 lo:Nat):Int)==0&&(1:Int)==1&&(sIx items.size items.size hi - sIx items.size 0 lo)==items.size)=true then _ else _) _ _ s
 rw[if_neg hno,pick_gen]
 first
  |exact wpAny_bind (m:=Builtin.Tuple.tupleExact _) (wpAny_newObj_type (wpAny_pure ⟨_,rfl,wpAny_pure h⟩) htake)
  |exact wpAny_bind (m:=Builtin.Tuple.tupleExact _) (wpAny_newObj_type (wpAny_bind (wpAny_pure (wpAny_pure ⟨_,rfl,wpAny_pure h⟩))) htake)
  |exact wpAny_bind (wpAny_bind (m:=Builtin.Tuple.tupleExact _) (wpAny_newObj_type (wpAny_pure (wpAny_pure ⟨_,rfl,wpAny_pure h⟩)) htake))
  |exact wpAny_bind (wpAny_bind (m:=Builtin.Tuple.tupleExact _) (wpAny_newObj_type (wpAny_pure ⟨_,rfl,wpAny_pure h⟩) htake))
end
end HT
namespace L2
open PySem PySem.Spec PyProof.Rows
abbrev TO:=St→Hp→(Option Int→Hp→Prop)→Prop
def PO (X:Cx) (e:Option Expr) (t:TO):Prop:=
 ∀ (pZ:List (Addr×Obj)) (s:Shared) (σ:St) (H:Hp) (Q:Option Int→Hp→Prop),Inv X pZ σ H s→t σ H Q→
  wpAny (model X.prog X.w) X.A (evalPart e X.env) (fun u s'=> ∃ o H',Inv X pZ σ H' s'∧IsPart u o∧Q o H') X.xe s
def tNoPart:TO:=fun _ H Q=>Q none H
def tPart (t:TE):TO:=fun σ H Q=>t σ H fun x H1=> ∃ i,x= .int i∧Q (some i) H1
section
variable {X:Cx} {e:Expr} {te:TE} {lo hi:Option Expr} {tl th:TO} {pos p2:Pos}
theorem po_none:PO X none tNoPart:=by
 intro pZ s σ H Q I h
 rw[evalPart_none]
 exact wpAny_pure ⟨none,H,I,.none,h⟩
theorem po_some (h:PE X e te):PO X (some e) (tPart te):=by
 intro pZ s σ H Q I hw
 rw[evalPart_some]
 refine thn (h pZ s σ H _ I hw) fun u s1 ⟨x,H1,I1,r1,q1⟩=>?_
 obtain⟨i,rfl,q⟩:=q1
 obtain⟨t,rfl⟩:=r1
 exact⟨some i,H1,I1,.int i t,q⟩
def SlR (X:Cx) (r:V→Option Int→Option Int→Hp→VK→Prop):Prop:=
 ∀ (pZ:List (Addr×Obj)) (s:Shared) (σ:St) (H:Hp) (x:V) (v vl vu:Value) (lo hi:Option Int) (sl:Addr) (Q:VK),Inv X pZ σ H s→RelV x v→s.heap.IsSliceOf sl vl vu .none→IsPart vl lo→IsPart vu hi→r x lo hi H Q→
  ∃ T id,typeLookup (.type T) "__getitem__"=pure (some (.builtin id))∧s.TypeIs v T∧wpAny (model X.prog X.w) X.A (getItem v (.ref sl)) (EP X pZ σ Q) X.xe s
theorem SlR.or {r r':V→Option Int→Option Int→Hp→VK→Prop} (h:SlR X r) (h':SlR X r'):SlR X (fun x lo hi H Q=>r x lo hi H Q∨r' x lo hi H Q):=by
 intro pZ s σ H x v vl vu lo hi sl Q I rx hs pl pu q
 rcases q with q|q
 ·exact h pZ s σ H x v vl vu lo hi sl Q I rx hs pl pu q
 ·exact h' pZ s σ H x v vl vu lo hi sl Q I rx hs pl pu q
def tSl (r:V→Option Int→Option Int→Hp→VK→Prop) (te:TE) (tl th:TO):TE:=fun σ H Q=>te σ H fun x H1=>tl σ H1 fun l H2=>th σ H2 fun u H3=>r x l u H3 Q
theorem pe_slice (hr:SlR X r) (he:PE X e te) (hl:PO X lo tl) (hu:PO X hi th):PE X (.Subscript e (.Slice lo hi none p2) pos) (tSl r te tl th):=by
 intro pZ s σ H Q I h
 refine Subscript_ (thn (he pZ s σ H _ I h) fun v s1 ⟨x,H1,I1,r1,q1⟩=>?_)
 refine wpAny_Slice (thn (hl pZ s1 σ H1 _ I1 q1) fun vl s2 ⟨l,H2,I2,pl,q2⟩=>thn (hu pZ s2 σ H2 _ I2 q2) fun vu s3 ⟨u,H3,I3,pu,q3⟩=>?_)
 rw[evalPart_none]
 refine wpAny_pure ?_
 have I4:Inv X pZ σ H3 {s3 with heap:=s3.heap.push {cls:=.type "slice",data:=.fields #[vl,vu,.none]}}:=I3.kept (t':=s3.toks) fun b ob q=>Heap.get?_push_of_some _ q
 obtain⟨T,id,hT,ht,hg⟩:=hr pZ {s3 with heap:=s3.heap.push {cls:=.type "slice",data:=.fields #[vl,vu,.none]}} σ H3 x v vl vu l u s3.heap.objs.size Q I4 r1 (Heap.IsSliceOf.new ..) pl pu q3
 show wpAny (model X.prog X.w) X.A (subscriptTail e (.Slice lo hi none p2) v (.ref s3.heap.objs.size)) (EP X pZ σ Q) X.xe {s3 with heap:=s3.heap.push {cls:=.type "slice",data:=.fields #[vl,vu,.none]}}
 exact tail_any (ops:=[.ref s3.heap.objs.size,v]) ht hT hg (by with_unfolding_all rfl)
def cutV (xs:List V) (lo hi:Option Int):List V:=(xs.drop (HT.sIx xs.length 0 lo)).take (HT.sIx xs.length xs.length hi - HT.sIx xs.length 0 lo)
theorem cutV_length (xs:List V) (lo hi:Option Int):(cutV xs lo hi).length≤xs.length:=by
 unfold cutV
 rw[List.length_take,List.length_drop]
 lia
noncomputable def rSlT (K:PySem.W.Frag):V→Option Int→Option Int→Hp→VK→Prop:=fun x lo hi H Q=> ∃ a xs,x= .ref a∧SqT K H a xs∧
 ¬ (HT.sIx xs.length 0 lo=0∧HT.sIx xs.length xs.length hi=xs.length)∧∀ p,H p=none→Q (.ref p) (upd H p (.tup (cutV xs lo hi)))
theorem sl_tup:SlR X (rSlT X.K):=by
 intro pZ s σ H x v vl vu lo hi sl Q I rx hs pl pu h
 obtain⟨a,xs,rfl,hx,hw,q⟩:=h
 cases rx
 obtain⟨its,r,ht,hz⟩:=I.tuple hx
 have hlen:its.toArray.size=xs.length:=by rw[List.size_toArray];exact r.length.symm
 refine⟨"tuple",_,PyProof.Rows.slot_tuple_getitem.lookup,ht.typeIs,?_⟩
 refine HT.getItem_tuple_cut ht hs pl pu (by rw[hlen];exact hw) ?_ (by rw[hlen];exact hz)
 rw[hlen]
 refine⟨.ref s.heap.objs.size,_,I.laid (t':=s.toks) (o:=.tup (cutV xs lo hi)) (fun b ob q=>Heap.get?_push_of_some _ q) (Nat.le_refl _) ?_,rfl,q _ (I.hok.fresh (Nat.le_refl _))⟩
 exact⟨Nat.le_trans (cutV_length xs lo hi) hz,_,(r.drop (HT.sIx xs.length 0 lo)).take (HT.sIx xs.length xs.length hi - HT.sIx xs.length 0 lo),IsTup.new _ _⟩
noncomputable def rCatT (K:PySem.W.Frag):R2:=fun x y H Q=> ∃ a b xs ys,x= .ref a∧y= .ref b∧SqT K H a xs∧SqT K H b ys∧xs≠[]∧xs.length+ys.length≤sizeLine∧
 (ys=[]→Q (.ref a) H)∧(ys≠[]→∀ p,H p=none→Q (.ref p) (upd H p (.tup (xs++ys))))
theorem Vals.nil_iff (r:Vals xs us):us=[]↔xs=[]:=by
 cases r with
 |nil=>simp
 |cons _ _=>simp
theorem op_catT:OpR X (binaryOp .Add) (rCatT X.K):=by
 intro pZ s σ H x y v u Q I rx ry h
 obtain⟨a,b,xs,ys,rfl,rfl,ha,hb,hx,hz,q1,q2⟩:=h
 cases rx
 cases ry
 obtain⟨its,r1,p1,_⟩:=I.tuple ha
 obtain⟨its2,r2,p2,_⟩:=I.tuple hb
 refine HT.cat_tup p1 p2 (fun z=>hx (r1.nil_iff.mp z)) (fun z=>⟨.ref a,H,I,rfl,q1 (r2.nil_iff.mp z)⟩) (fun z=>?_) (by rw[←r1.length,←r2.length];exact hz)
 refine⟨.ref s.heap.objs.size,_,I.laid (t':=s.toks) (o:=.tup (xs++ys)) (fun b ob q=>Heap.get?_push_of_some _ q) (Nat.le_refl _) ?_,rfl,q2 (fun w=>z (r2.nil_iff.mpr w)) _ (I.hok.fresh (Nat.le_refl _))⟩
 exact⟨by rw[List.length_append];exact hz,_,r1.append r2,IsTup.new _ _⟩
end
end L2
namespace L2
open PySem PySem.Spec PyProof.Rows
def ixN (n:Nat) (i:Int):Option Nat:=if 0≤i then(if i < n then some i.toNat else none) else if -(n:Int)≤i then some (i+n).toNat else none
def atI {α:Type} (xs:List α) (i:Int):Option α:=(ixN xs.length i).bind fun j=>xs[j]?
theorem ixN_seq (h:ixN n i=some j):seqIndex? i n=some j∧j < n∧-(n:Int)≤i∧i < n:=by
 unfold ixN at h
 by_cases h0:0≤i
 ·rw[if_pos h0] at h
  by_cases h1:i < n
  ·rw[if_pos h1] at h
   have e:i.toNat=j:=Option.some.inj h
   exact⟨by rw[seqIndex_of h0 h1,e],by lia,by lia,h1⟩
  ·rw[if_neg h1] at h;cases h
 ·rw[if_neg h0] at h
  by_cases h1: -(n:Int)≤i
  ·rw[if_pos h1] at h
   have e:(i+n).toNat=j:=Option.some.inj h
   exact⟨by rw[seqIndex_neg (by lia) h1,e],by lia,h1,by lia⟩
  ·rw[if_neg h1] at h;cases h
theorem atI_get {α:Type} {xs:List α} {i:Int} {v:α} (h:atI xs i=some v): ∃ j,seqIndex? i xs.length=some j∧xs[j]?=some v∧j < xs.length∧-(xs.length:Int)≤i∧i < xs.length:=by
 unfold atI at h
 cases e:ixN xs.length i with
 |none=>rw[e] at h;cases h
 |some j=>
  rw[e] at h
  obtain⟨h1,h2,h3,h4⟩:=ixN_seq e
  exact⟨j,h1,h,h2,h3,h4⟩
theorem atI_nat {α:Type} {xs:List α} {j:Nat} {v:α} (h:xs[j]?=some v):atI xs (j:Int)=some v:=by
 have hj:j < xs.length:=(List.getElem?_eq_some_iff.mp h).1
 have e:ixN xs.length (j:Int)=some j:=by
  unfold ixN
  rw[if_pos (by lia),if_pos (by lia)];simp
 unfold atI;rw[e];exact h
def PlainIx (b:Expr):Prop:= ∀ o i,subscripted b false o i=operate [o,i] (getItem o i)
def IxR (X:Cx) (r:R2):Prop:=
 ∀ (value slice:Expr) (pZ:List (Addr×Obj)) (s:Shared) (σ:St) (H:Hp) (x y:V) (v u:Value) (Q:VK),Inv X pZ σ H s→RelV x v→RelV y u→r x y H Q→
  subscripted slice false v u=operate [v,u] (getItem v u)→wpAny (model X.prog X.w) X.A (subscriptTail value slice v u) (EP X pZ σ Q) X.xe s
def MtR (X:Cx) (id:String) (r:V→List V→Hp→VK→Prop):Prop:=
 ∀ (pZ:List (Addr×Obj)) (s:Shared) (σ:St) (H:Hp) (x:V) (xs:List V) (v:Value) (us:List Value) (Q:VK),Inv X pZ σ H s→RelV x v→Vals xs us→r x xs H Q→
  wpAny (model X.prog X.w) X.A (call (.builtin id) (v::us)) (EP X pZ σ Q) X.xe s
section
variable {X:Cx} {a b:Expr} {ta tb:TE} {pos:Pos}
theorem IxR.or {r r':R2} (h:IxR X r) (h':IxR X r'):IxR X (fun x y H Q=>r x y H Q∨r' x y H Q):=by
 intro value slice pZ s σ H x y v u Q I rx ry q hs
 rcases q with q|q
 ·exact h value slice pZ s σ H x y v u Q I rx ry q hs
 ·exact h' value slice pZ s σ H x y v u Q I rx ry q hs
theorem pe_ix (hr:IxR X r) (ha:PE X a ta) (hb:PE X b tb) (hs:PlainIx b):PE X (.Subscript a b pos) (tOp r ta tb):=by
 intro pZ s σ H Q I h
 exact Subscript_ (binT ha hb I h fun v u s2 x y H2 I2 rx ry q=>hr a b pZ s2 σ H2 x y v u Q I2 rx ry q (hs _ _))
def rIxL (K:PySem.W.Frag):R2:=fun x y H Q=> ∃ p xs i v,x= .ref p∧y= .int i∧SqL K H p xs∧atI xs i=some v∧Q v H
def rIxT (K:PySem.W.Frag):R2:=fun x y H Q=> ∃ p xs i v,x= .ref p∧y= .int i∧SqT K H p xs∧atI xs i=some v∧Q v H
def rIxS:R2:=fun x y H Q=> ∃ z i c,x= .str z∧y= .int i∧z.length≤sizeLine∧atI z.cps.toList i=some c∧Q (.str ⟨#[c]⟩) H
theorem ix_list:IxR X (rIxL X.K):=by
 intro value slice pZ s σ H x y v u Q I rx ry h hs
 obtain⟨p,xs,i,z,rfl,rfl,hq,he,q⟩:=h
 cases rx
 obtain⟨t,rfl⟩:=ry
 obtain⟨its,r,pl,hz⟩:=I.list hq
 obtain⟨j,h1,h2,h3,h4,h5⟩:=atI_get he
 obtain⟨w,ew,rw'⟩:=r.get h2
 have hl:=r.length
 have hn:=line63
 have fin:EP X pZ σ Q w s:=⟨z,H,I,rw',q⟩
 by_cases h0:0≤i
 ·have hj:i.toNat=j:=by
   rw[seqIndex_of h0 h5] at h1
   exact Option.some.inj h1
  exact item_listR pl.isList h0 (by lia) (by rw[hj];simpa using ew) fin hs
 ·have hj:(i+(its.toArray.size:Int)).toNat=j:=by
   rw[seqIndex_neg (by lia) h4] at h1
   rw[List.size_toArray,←hl]
   exact Option.some.inj h1
  exact subscriptTail_builtinR (x:=w) pl.isList.typeIs slot_list_getitem.lookup
   (wpAny_getItem_list_neg (Q:=fun r s'=>r=w∧EP X pZ σ Q r s') pl.isList (by lia) (by rw[List.size_toArray]<;>lia) (by lia) (by rw[hj];simpa using ew) ⟨rfl,fin⟩) hs
theorem ix_tup:IxR X (rIxT X.K):=by
 intro value slice pZ s σ H x y v u Q I rx ry h hs
 obtain⟨p,xs,i,z,rfl,rfl,hq,he,q⟩:=h
 cases rx
 obtain⟨t,rfl⟩:=ry
 obtain⟨its,r,pl,hz⟩:=I.tuple hq
 obtain⟨j,h1,h2,h3,h4,h5⟩:=atI_get he
 obtain⟨w,ew,rw'⟩:=r.get h2
 have hl:=r.length
 have hn:=line63
 have fin:EP X pZ σ Q w s:=⟨z,H,I,rw',q⟩
 exact subscriptTail_builtinR (x:=w) pl.typeIs slot_tuple_getitem.lookup
  (getItem_tuple (j:=j) (Q:=fun r s'=>r=w∧EP X pZ σ Q r s') pl (by lia) (by lia) (by rw[List.size_toArray,←hl];exact h1) (by simpa using ew) ⟨rfl,fin⟩) hs
theorem ix_str:IxR X rIxS:=by
 intro value slice pZ s σ H x y v u Q I rx ry h hs
 obtain⟨z,i,c,rfl,rfl,hz,he,q⟩:=h
 obtain⟨t,rfl⟩:=rx
 obtain⟨t',rfl⟩:=ry
 obtain⟨j,h1,h2,h3,h4,h5⟩:=atI_get he
 have hl:z.cps.toList.length=z.length:=by simp[Str.length]
 rw[hl] at h1 h4 h5
 have hn:=line63
 exact tail_any (typeIs_str s z t) slot_str_getitem.lookup (getItem_str (c:=c) (by
  have e1:decide (i < -(2 ^ 63:Int))=false:=decide_eq_false (by lia)
  have e2:decide (i ≥ 2 ^ 63)=false:=decide_eq_false (by lia)
  rw[e1,e2,Bool.or_false]) (by rw[h1];simpa using h2) ⟨.str ⟨#[c]⟩,H,I.tok _,⟨_,rfl⟩,q⟩) hs
def rIx (K:PySem.W.Frag):R2:=fun x y H Q=>rIxL K x y H Q∨rIxT K x y H Q∨rIxS x y H Q
theorem ix_seq:IxR X (rIx X.K):=ix_list.or (ix_tup.or ix_str)
theorem mapSeq_set (its:List Value) (n j:Nat) (u:Value):Obj.mapSeq (·.setIfInBounds j u) {cls:=.type "list",data:=.seq its.toArray n}={cls:=.type "list",data:=.seq (its.set j u).toArray n}:=by
 simp[Obj.mapSeq]
theorem Inv.lst {pZ:List (Addr×Obj)} {σ:St} {H:Hp} {s:Shared} {p:Addr} {xs:List V} (I:Inv X pZ σ H s) (h:H p=some (.lst xs)):
  ∃ (its:List Value) (n:Nat),Vals xs its∧s.heap.get? p=some {cls:=.type "list",data:=.seq its.toArray n}∧xs.length≤sizeLine:=by
 obtain⟨z,its,n,r,e⟩:=I.hok p _ h
 exact⟨its,n,r,e,z⟩
theorem Inv.lstUpd {its its':List Value} {f:Obj→Obj} (I:Inv X pZ σ H s) (h:H p=some (.lst xs))
  (ho:s.heap.get? p=some {cls:=.type "list",data:=.seq its.toArray n}) (hf:f {cls:=.type "list",data:=.seq its.toArray n}={cls:=.type "list",data:=.seq its'.toArray n'}) (r:Vals ys its') (hz:ys.length≤sizeLine) (t:Nat):
  Inv X pZ σ (upd H p (.lst ys)) {s with heap:=s.heap.update p f,toks:=t}:=by
 have e:(s.heap.update p f).get? p=some {cls:=.type "list",data:=.seq its'.toArray n'}:=by
  rw[Heap.get?_update_self f ho (by rw[hf]<;>rfl),hf]
 refine I.write (x:=p) (e:=p) (by rw[h];trivial) (.inl rfl) (fun b u hb q=>(Heap.get?_update_other _ _ (Ne.symm hb)).trans q) ⟨_,e⟩ ?_
 exact⟨hz,its',n',r,e⟩
def rSetL:V→V→V→Hp→(Hp→Prop)→Prop:=fun o i v H Q=> ∃ p xs k j,o= .ref p∧i= .int k∧H p=some (.lst xs)∧ixN xs.length k=some j∧Q (upd H p (.lst (xs.set j v)))
theorem set_list:PSet X rSetL:=by
 intro pZ s σ H o i v ov iv u Q I ro ri rv h
 obtain⟨p,xs,k,j,rfl,rfl,hp,hj,q⟩:=h
 cases ro
 obtain⟨t,rfl⟩:=ri
 obtain⟨its,n,r,ho,hz⟩:=I.lst hp
 obtain⟨h1,h2,h3,h4⟩:=ixN_seq hj
 have hl:=r.length
 have hn:=line63
 have I':Inv X pZ σ (upd H p (.lst (xs.set j v))) {s with heap:=s.heap.update p (Obj.mapSeq (·.setIfInBounds j u))}:=
  I.lstUpd hp ho (mapSeq_set its n j u) (r.set rv j) (by rw[List.length_set];exact hz) s.toks
 by_cases h0:0≤k
 ·have hk:k.toNat=j:=by
   rw[seqIndex_of h0 h4] at h1
   exact Option.some.inj h1
  exact PySem.W.ki_setAt ho h0 (by lia) (by rw[List.size_toArray,←hl];exact h4) (by rw[hk];exact⟨_,I',q⟩)
 ·have hk:(k+(its.toArray.size:Int)).toNat=j:=by
   rw[seqIndex_neg (by lia) h3] at h1
   rw[List.size_toArray,←hl]
   exact Option.some.inj h1
  exact PySem.W.ki_setBack ho (by lia) (by rw[List.size_toArray,←hl];exact h3) (by lia) (by rw[hk];exact⟨_,I',q⟩)
theorem slice_bounds (lo hi:Option Int) (n:Nat):(sliceBounds lo hi none n).1=((HT.sIx n 0 lo:Nat):Int)∧(sliceBounds lo hi none n).2.1=((HT.sIx n n hi:Nat):Int)∧(sliceBounds lo hi none n).2.2=1:=by
 refine⟨?_,?_,rfl⟩
 ·cases lo with
  |none=>simp[sliceBounds,HT.sIx]
  |some i=>
   simp only[sliceBounds,HT.sIx,Option.getD_none,show (1:Int) > 0 by decide,if_true]
   by_cases h:i < 0
   ·simp only[h,if_true]<;>lia
   ·simp only[h,if_false]<;>lia
 ·cases hi with
  |none=>simp[sliceBounds,HT.sIx]
  |some i=>
   simp only[sliceBounds,HT.sIx,Option.getD_none,show (1:Int) > 0 by decide,if_true]
   by_cases h:i < 0
   ·simp only[h,if_true]<;>lia
   ·simp only[h,if_false]<;>lia
theorem slicePick_cut (its:List Value) (lo hi:Option Int):slicePick its.toArray lo hi none=((its.drop (HT.sIx its.length 0 lo)).take (HT.sIx its.length its.length hi - HT.sIx its.length 0 lo)).toArray:=by
 obtain⟨h1,h2,h3⟩:=slice_bounds lo hi its.toArray.size
 unfold slicePick
 rw[h1,h2,h3]
 simp only[sliceRange_one,pick_run,List.size_toArray]<;>rfl
def rSlL (K:PySem.W.Frag):V→Option Int→Option Int→Hp→VK→Prop:=fun x lo hi H Q=> ∃ a xs,x= .ref a∧SqL K H a xs∧∀ p,H p=none→Q (.ref p) (upd H p (.lst (cutV xs lo hi)))
theorem sl_list:SlR X (rSlL X.K):=by
 intro pZ s σ H x v vl vu lo hi sl Q I rx hs pl pu h
 obtain⟨a,xs,rfl,hx,q⟩:=h
 cases rx
 obtain⟨its,r,ht,hz⟩:=I.list hx
 have hlen:=r.length
 refine⟨"list",_,slot_list_getitem.lookup,ht.isList.typeIs,?_⟩
 refine wpAny_getItem_list_slice ht.isList hs pl pu .none (by simp) ?_ (by rw[List.size_toArray]<;>lia)
 rw[slicePick_cut,←hlen]
 refine⟨.ref s.heap.objs.size,_,I.laid (t':=s.toks) (o:=.lst (cutV xs lo hi)) (fun b ob q=>Heap.get?_push_of_some _ q) (Nat.le_refl _) ?_,rfl,q _ (I.hok.fresh (Nat.le_refl _))⟩
 exact⟨Nat.le_trans (cutV_length xs lo hi) hz,_,0,(r.drop (HT.sIx xs.length 0 lo)).take (HT.sIx xs.length xs.length hi - HT.sIx xs.length 0 lo),Heap.get?_push_size _ rfl⟩
def flatV:V→Bool
 | .non=>true
 | .bl _=>true
 | .int _=>true
 | .str _=>true
 |_=>false
noncomputable def eqV:V→V→Bool
 | .non,.non=>true
 | .bl a,.bl b=>a==b
 | .bl a,.int b=>(if a then 1 else 0)==b
 | .int a,.bl b=>a==(if b then 1 else 0)
 | .int a,.int b=>a==b
 | .str a,.str b=>a==b
 |_,_=>false
theorem eqAt_V (ry:RelV y u) (rx:RelV x v) (fy:flatV y=true) (fx:flatV x=true):SeqAt.EqAt A s u v (eqV y x):=by
 cases y with
 |non=>
  cases ry
  cases x with
  |non=>cases rx;exact SeqAt.EqAt.same _
  |bl b=>cases rx;exact SeqAt.EqAt.none_bool b
  |int b=>obtain⟨t,rfl⟩:=rx;exact SeqAt.EqAt.none_int b t
  |str b=>obtain⟨t,rfl⟩:=rx;exact SeqAt.EqAt.none_str b t
  |_=>exact absurd (show false=true from fx) Bool.false_ne_true
 |bl a=>
  cases ry
  cases x with
  |non=>cases rx;exact SeqAt.EqAt.bool_none a
  |bl b=>cases rx;exact SeqAt.EqAt.bool_bool a b
  |int b=>obtain⟨t,rfl⟩:=rx;exact SeqAt.EqAt.bool_int a b t
  |str b=>obtain⟨t,rfl⟩:=rx;exact SeqAt.EqAt.bool_str a b t
  |_=>exact absurd (show false=true from fx) Bool.false_ne_true
 |int a=>
  obtain⟨t',rfl⟩:=ry
  cases x with
  |non=>cases rx;exact SeqAt.EqAt.int_none a t'
  |bl b=>cases rx;exact SeqAt.EqAt.int_bool a t' b
  |int b=>obtain⟨t,rfl⟩:=rx;exact SeqAt.EqAt.int_int a t' b t
  |str b=>obtain⟨t,rfl⟩:=rx;exact SeqAt.EqAt.int_str a t' b t
  |_=>exact absurd (show false=true from fx) Bool.false_ne_true
 |str a=>
  obtain⟨t',rfl⟩:=ry
  cases x with
  |non=>cases rx;exact SeqAt.EqAt.str_none a t'
  |bl b=>cases rx;exact SeqAt.EqAt.str_bool a t' b
  |int b=>obtain⟨t,rfl⟩:=rx;exact SeqAt.EqAt.str_int a t' b t
  |str b=>obtain⟨t,rfl⟩:=rx;exact SeqAt.EqAt.str_str a t' b t
  |_=>exact absurd (show false=true from fx) Bool.false_ne_true
 |_=>exact absurd (show false=true from fy) Bool.false_ne_true
def eqU (x:V) (u:Value):Bool:=match u with
 | .none=>eqV .non x
 | .bool b=>eqV (.bl b) x
 | .int i _=>eqV (.int i) x
 | .str z _=>eqV (.str z) x
 |_=>false
theorem eqU_of (r:RelV y u) (f:flatV y=true):eqU x u=eqV y x:=by
 cases y with
 |non=>cases r;rfl
 |bl b=>cases r;rfl
 |int i=>obtain⟨t,rfl⟩:=r;rfl
 |str z=>obtain⟨t,rfl⟩:=r;rfl
 |_=>exact absurd (show false=true from f) Bool.false_ne_true
theorem any_eqU: ∀ {xs:List V} {us:List Value},Vals xs us→xs.all flatV=true→us.any (eqU x)=xs.any fun y=>eqV y x
 |_,_,.nil,_=>rfl
 |y::xs,u::us,.cons r t,f=>by
  rw[List.all_cons,Bool.and_eq_true] at f
  rw[List.any_cons,List.any_cons,eqU_of r f.1,any_eqU t f.2]
theorem mem_eqAt (rx:RelV x v) (fx:flatV x=true): ∀ {xs:List V} {us:List Value},Vals xs us→xs.all flatV=true→∀ u∈us,SeqAt.EqAt A s u v (eqU x u)
 |_,_,.nil,_=>fun u hu=>by cases hu
 |y::xs,u::us,.cons r t,f=>fun u' hu=>by
  rw[List.all_cons,Bool.and_eq_true] at f
  rcases List.mem_cons.mp hu with rfl|hu
  ·rw[eqU_of r f.1];exact eqAt_V r rx f.1 fx
  ·exact mem_eqAt rx fx t f.2 u' hu
def inV (x:V) (xs:List V):Bool:=xs.any fun y=>eqV y x
def rIn (K:PySem.W.Frag) (neg:Bool):R2:=fun x y H Q=> ∃ p xs,y= .ref p∧(SqL K H p xs∨SqT K H p xs)∧flatV x=true∧xs.all flatV=true∧Q (.bl (if neg then !inV x xs else inV x xs)) H
theorem op_in_seq:OpR X (compareOp .In) (rIn X.K false):=by
 intro pZ s σ H x y v u Q I rx ry h
 obtain⟨p,xs,rfl,hq,fx,fs,q⟩:=h
 cases ry
 rcases hq with hq|hq
 ·obtain⟨its,r,pl,hz⟩:=I.list hq
  refine SeqAt.in_listAt (eqU x) pl.isList (fun w hw=>mem_eqAt rx fx r fs w (by simpa using hw)) ⟨.bl _,H,I,rfl,?_⟩
  rw[show its.toArray.any (eqU x)=its.any (eqU x) by simp,any_eqU r fs]
  exact q
 ·obtain⟨its,r,pl,hz⟩:=I.tuple hq
  refine SeqAt.in_tupleAt (eqU x) pl (fun w hw=>mem_eqAt rx fx r fs w (by simpa using hw)) ⟨.bl _,H,I,rfl,?_⟩
  rw[show its.toArray.any (eqU x)=its.any (eqU x) by simp,any_eqU r fs]
  exact q
theorem op_notIn_seq:OpR X (compareOp .NotIn) (rIn X.K true):=by
 intro pZ s σ H x y v u Q I rx ry h
 obtain⟨p,xs,rfl,hq,fx,fs,q⟩:=h
 cases ry
 rcases hq with hq|hq
 ·obtain⟨its,r,pl,hz⟩:=I.list hq
  refine SeqAt.notIn_listAt (eqU x) pl.isList (fun w hw=>mem_eqAt rx fx r fs w (by simpa using hw)) ⟨.bl _,H,I,rfl,?_⟩
  rw[show its.toArray.any (eqU x)=its.any (eqU x) by simp,any_eqU r fs]
  exact q
 ·obtain⟨its,r,pl,hz⟩:=I.tuple hq
  refine SeqAt.notIn_tupleAt (eqU x) pl (fun w hw=>mem_eqAt rx fx r fs w (by simpa using hw)) ⟨.bl _,H,I,rfl,?_⟩
  rw[show its.toArray.any (eqU x)=its.any (eqU x) by simp,any_eqU r fs]
  exact q
theorem op_notIn_str:OpR X (compareOp .NotIn) (fun x y H Q=> ∃ i j,x= .str i∧y= .str j∧Q (.bl (!(!(Builtin.Str.occurrences j i 0 j.length 1).isEmpty))) H):=by
 intro pZ s σ H x y v u Q I rx ry h
 obtain⟨i,j,rfl,rfl,q⟩:=h
 obtain⟨t,rfl⟩:=rx
 obtain⟨t',rfl⟩:=ry
 exact notIn_str ⟨.bl _,H,I,rfl,q⟩
theorem call_list_of:CallR X (.type "list") (fun xs H Q=> ∃ p ys,xs=[.ref p]∧(SqL X.K H p ys∨SqT X.K H p ys)∧∀ l,H l=none→Q (.ref l) (upd H l (.lst ys))):=by
 intro pZ s σ H xs us Q I r h
 obtain⟨p,ys,rfl,hq,q⟩:=h
 obtain⟨u,rfl,rx⟩:=vals1 r
 cases rx
 have fin: ∀ (its:List Value),Vals ys its→ys.length≤sizeLine→∀ (h':Heap) (c':Nat),(∀ b o',s.heap.get? b=some o'→h'.get? b=some o')→
   h'.get? s.heap.objs.size=some {cls:=.type "list",dict:=none,data:=.seq its.toArray c',slots:= #[]}→EP X pZ σ Q (.ref s.heap.objs.size) {s with heap:=h'}:=fun its r' hz h' c' kp e=>
  ⟨.ref s.heap.objs.size,_,I.laid (t':=s.toks) kp (Nat.le_refl _) (show ObjOk X.prog X.w _ h' _ (.lst ys) from⟨hz,its,c',r',e⟩),rfl,q _ (I.hok.fresh (Nat.le_refl _))⟩
 rcases hq with hq|hq
 ·obtain⟨its,r',pl,hz⟩:=I.list hq
  have hlen:=r'.length
  obtain⟨o,ho,hc,n,hd⟩:=pl.isList
  exact call_list_seq p (.inl rfl) ho hc hd (fun h' c' kp e=>fin its r' hz h' c' kp e) (by simp only[List.size_toArray]<;>lia)
 ·obtain⟨its,r',pl,hz⟩:=I.tuple hq
  have hlen:=r'.length
  obtain⟨o,ho,hc,n,hd⟩:=pl
  exact call_list_seq p (.inr rfl) ho hc hd (fun h' c' kp e=>fin its r' hz h' c' kp e) (by simp only[List.size_toArray]<;>lia)
theorem call_tuple_of:CallR X (.type "tuple") (fun xs H Q=> ∃ p ys,xs=[.ref p]∧((SqL X.K H p ys∧∀ l,H l=none→Q (.ref l) (upd H l (.tup ys)))∨(SqT X.K H p ys∧Q (.ref p) H))):=by
 intro pZ s σ H xs us Q I r h
 obtain⟨p,ys,rfl,h⟩:=h
 obtain⟨u,rfl,rx⟩:=vals1 r
 cases rx
 rcases h with⟨hq,q⟩|⟨hq,q⟩
 ·obtain⟨its,r',pl,hz⟩:=I.list hq
  have hlen:=r'.length
  refine call_tuple_list pl.isList (fun h' kp=>?_) (by simp only[List.size_toArray]<;>lia)
  have I1:Inv X pZ σ H {s with heap:=h'}:=I.kept (t':=s.toks) kp
  have I2:Inv X pZ σ (upd H h'.objs.size (.tup ys)) {s with heap:=h'.push {cls:=.type "tuple",data:=.seq its.toArray}}:=
   I1.laid (t':=s.toks) (fun b o e=>Heap.get?_push_of_some _ e) (Nat.le_refl _) (show ObjOk X.prog X.w _ _ _ (.tup ys) from⟨hz,its,r',IsTup.new _ _⟩)
  exact⟨.ref h'.objs.size,_,I2,rfl,q _ (I1.hok.fresh (Nat.le_refl _))⟩
 ·obtain⟨its,r',pl,hz⟩:=I.tuple hq
  exact call_tuple_same pl ⟨.ref p,H,I,rfl,q⟩
def tyV (K:PySem.W.Frag) (T:String) (x:V) (H:Hp):Prop:=match x with
 | .str _=>T="str"
 | .int _=>T="int"
 | .ref p=>(T="list"∧∃ xs,SqL K H p xs)∨(T="tuple"∧∃ o,K.lookup p=some o∧o.cls= .type "tuple"∧o.dict=none)∨
   (T="dict"∧((∃ kvs,Rd H p (.dK kvs))∨∃ kvs,H p=some (.dT kvs)))∨(T="set"∧∃ S n,H p=some (.set S n))
 |_=>False
theorem tyV_is (I:Inv X pZ σ H s) (r:RelV x v) (ty:tyV X.K T x H):
  s.TypeIs v T∧∀ a,v= .ref a→∃ ob,s.heap.get? a=some ob∧ob.dict=none:=by
 cases x with
 |str z=>
  obtain⟨t,rfl⟩:=r
  cases (show T="str" from ty)
  exact⟨typeIs_str s z t,fun _ e=>nomatch e⟩
 |int i=>
  obtain⟨t,rfl⟩:=r
  cases (show T="int" from ty)
  exact⟨typeIs_int s i t,fun _ e=>nomatch e⟩
 |ref p=>
  cases r
  rcases ty with⟨rfl,xs,hq⟩|⟨rfl,o,hk,hc,hd⟩|⟨rfl,hk⟩|⟨rfl,S,n,hk⟩
  ·obtain⟨its,_,pl,_⟩:=I.list hq
   refine⟨pl.isList.typeIs,fun a e=>?_⟩
   cases e
   obtain⟨o,n,e,c,hd,_⟩:=pl
   exact⟨o,e,hd⟩
  ·refine⟨⟨o,I.kIn p o hk,hc⟩,fun a e=>?_⟩
   cases e
   exact⟨o,I.kIn _ o hk,hd⟩
  ·have z: ∃ o,s.heap.get? p=some o∧o.ExactDict:=by
    rcases hk with⟨kvs,hk⟩|⟨kvs,hk⟩
    ·obtain⟨_,_,_,_,o,_,_,e,ex,_⟩:=hk.ok I.hok
     exact⟨o,e,ex⟩
    ·obtain⟨_,_,_,_,o,_,_,e,ex,_⟩:=I.hok p _ hk
     exact⟨o,e,ex⟩
   obtain⟨o,e,ex⟩:=z
   refine⟨⟨o,e,ex.1⟩,fun a e2=>?_⟩
   cases e2
   exact⟨o,e,ex.2.1⟩
  ·obtain⟨o,_,_,_,e,ex,_⟩:=I.hok p _ hk
   refine⟨⟨o,e,ex.1⟩,fun a e2=>?_⟩
   cases e2
   exact⟨o,e,ex.2.1⟩
 |_=>exact False.elim ty
def tBM (K:PySem.W.Frag) (T:String) (r:V→List V→Hp→VK→Prop) (to:TE) (t:TA):TE:=fun σ H Q=>to σ H fun x H1=>tyV K T x H1∧t σ H1 fun xs H2=>r x xs H2 Q
variable {o e:Expr} {es:List Expr} {to:TE} {t:TA} {name:Str} {apos cpos:Pos} {T id:String} {r:V→List V→Hp→VK→Prop}
theorem pe_bm (pa:PlainAttrs T) (slot:Slot T name id) (hty:typeOf (.builtin id)=pure (.type "method_descriptor")) (hm:MtR X id r) (ho:PE X o to) (ha:PA X (e::es) t)
  (hbase:attributeBase o name X.env (eval o X.env)=eval o X.env:=by rfl)
  (hfew:((backTo cpos (starEach (e::es) X.env)).all (fun x=>!x.1)&&(backToKw cpos (keywordEach [] X.env)).all (fun x=>x.1.isSome)
   &&decide ((e::es).length+([]:List Keyword).length+(if([]:List Keyword).isEmpty then 0 else 1) < 30))=true:=by rfl)
  (hline:(apos.endLine==cpos.line)=true:=by rfl) (hs:starEach (e::es) X.env=(false,eval e X.env)::starEach es X.env:=by rfl) (hplain:(backTo cpos (starEach es X.env)).any (·.1)=false:=by rfl):
  PE X (.Call (.Attribute o name apos) (e::es) [] cpos) (tBM X.K T r to t):=by
 intro pZ s σ H Q I h
 refine wpAny_Call_method_late hbase hfew hline rfl (thn (ho pZ s σ H _ I h) fun v s1 ⟨x,H1,I1,r1,ty,q1⟩=>?_)
 obtain⟨h1,h2⟩:=tyV_is I1 r1 ty
 refine⟨T,id,pa,slot,hty,h1,h2,?_⟩
 have hA:=ha cpos pZ s1 σ H1 _ I1 q1
 rw[hs] at hA ⊢
 refine Calls.callWith_builtin (by show (false||(backTo cpos (starEach es X.env)).any (·.1))=false;rw[hplain]<;>rfl) (Calls.evalArgs_plain ?_)
 exact thn hA fun us s2 ⟨vs,H2,I2,r2,q2⟩=>hm pZ s2 σ H2 x vs v us Q I2 r1 r2 q2
end
end L2
namespace L2
open PySem PySem.Spec PyProof.Rows
def MtM (X:Cx) (id:String) (r:V→List V→Hp→VK→Prop):Prop:=
 ∀ (pZ:List (Addr×Obj)) (s:Shared) (σ:St) (H:Hp) (x:V) (xs:List V) (v:Value) (us:List Value) (Q:VK),Inv X pZ σ H s→RelV x v→Vals xs us→r x xs H Q→
  wpAny (model X.prog X.w) X.A (call (.builtin id) (v::us)) (EP X pZ σ Q) X.xe s
theorem Vals.one: ∀ {x:V} {us:List Value},Vals [x] us→∃ u,us=[u]∧RelV x u
 |_,_,.cons r .nil=>⟨_,rfl,r⟩
theorem Vals.two: ∀ {x y:V} {us:List Value},Vals [x,y] us→∃ u v,us=[u,v]∧RelV x u∧RelV y v
 |_,_,_,.cons r (.cons q .nil)=>⟨_,_,rfl,r,q⟩
theorem Vals.rep (h:Vals xs us): ∀ k:Nat,Vals (List.replicate k xs).flatten (List.replicate k us).flatten
 |0=>.nil
 |k+1=>by
  rw[List.replicate_succ,List.replicate_succ,List.flatten_cons,List.flatten_cons]
  exact Vals.append h (Vals.rep h k)
theorem foldl_rep (its:List Value): ∀ (k:Nat) (acc:List Value),
  List.foldl (fun x1 x2=>x1++x2) acc.toArray (List.replicate k its.toArray)=(acc++(List.replicate k its).flatten).toArray
 |0,acc=>by simp
 |k+1,acc=>by
  have e:acc.toArray++its.toArray=(acc++its).toArray:=by simp
  have e2:(acc++its)++(List.replicate k its).flatten=acc++(List.replicate (k+1) its).flatten:=by
   rw[List.replicate_succ,List.flatten_cons,List.append_assoc]
  rw[←e2,←foldl_rep its k (acc++its),←e,List.replicate_succ,List.foldl_cons]
section
variable {X:Cx} {pZ:List (Addr×Obj)} {σ:St} {H:Hp} {s:Shared} {l b:Addr} {xs ys zs:List V}
theorem Inv.lset {its its':List Value} {f:Array Value→Array Value} {t':Nat} (I:Inv X pZ σ H s) (hH:H l=some (.lst xs))
  (e:s.heap.get? l=some {cls:=.type "list",data:=.seq its.toArray n}) (hf:f its.toArray=its'.toArray) (hv:Vals ys its') (hz:ys.length≤sizeLine):
  Inv X pZ σ (upd H l (.lst ys)) {s with heap:=s.heap.update l (Obj.mapSeq f),toks:=t'}:=by
 have q:=PySem.IsL.update e f
 rw[hf] at q
 refine I.write (x:=l) (e:=l) (by rw[hH];exact trivial) (.inl rfl) (fun b' u hb hu=>(Heap.get?_update_other s.heap (Obj.mapSeq f) (Ne.symm hb)).trans hu) ⟨_,q⟩ ?_
 exact⟨hz,its',_,hv,q⟩
theorem Inv.lnew {t':Nat} (I:Inv X pZ σ H s) (hv:Vals ys its) (hz:ys.length≤sizeLine):
  Inv X pZ σ (upd H s.heap.objs.size (.lst ys)) {s with heap:=s.heap.push {cls:=.type "list",data:=.seq its.toArray},toks:=t'}:=
 I.laid (fun _ _ q=>Heap.get?_push_of_some _ q) (Nat.le_refl _) ⟨hz,its,0,hv,Heap.get?_push_size _ rfl⟩
theorem Inv.fresh (I:Inv X pZ σ H s):H s.heap.objs.size=none:=I.hok.fresh (Nat.le_refl _)
theorem Inv.lstM (I:Inv X pZ σ H s) (hH:H l=some (.lst xs)):xs.length≤sizeLine∧∃ (its:List Value) (n:Nat),Vals xs its∧xs.length=its.length∧s.heap.get? l=some {cls:=.type "list",data:=.seq its.toArray n}:=by
 obtain⟨z,its,n,r,e⟩:=I.hok l _ hH
 exact⟨z,its,n,r,r.length,e⟩
theorem notLongL (h:n≤sizeLine):Builtin.List.listTooLong n=false:=by
 unfold Builtin.List.listTooLong
 exact decide_eq_false (by lia)
end
section
variable {X:Cx}
def rAppend:V→List V→Hp→VK→Prop:=fun x vs H Q=> ∃ l xs y,x= .ref l∧vs=[y]∧H l=some (.lst xs)∧xs.length < sizeLine∧Q .non (upd H l (.lst (xs++[y])))
theorem mt_append:MtM X "list.append" rAppend:=by
 intro pZ s σ H x vs v us Q I rx rv h
 obtain⟨l,xs,y,rfl,rfl,hH,hz,q⟩:=h
 cases rx
 obtain⟨u,rfl,ru⟩:=rv.one
 obtain⟨z,its,n,r,hl,e⟩:=I.lstM hH
 refine call_meets F.slot_list_append ⟨_,e,rfl⟩ F.entry_list_append (F.args_list_append_2 _ _) (PySem.list_append l its.toArray n u (by rw[List.size_toArray];lia)) ⟨e,?_⟩
 refine⟨.non,_,I.lset (its':=its++[u]) hH e (by simp) (r.append (.cons ru .nil)) ?_,rfl,q⟩
 rw[List.length_append,List.length_singleton]
 lia
def rCat:R2:=fun x y H Q=> ∃ l b xs zs,x= .ref l∧y= .ref b∧H l=some (.lst xs)∧H b=some (.lst zs)∧xs.length+zs.length≤sizeLine∧∀ p,H p=none→Q (.ref p) (upd H p (.lst (xs++zs)))
theorem op_cat:OpR X (binaryOp .Add) rCat:=by
 intro pZ s σ H x y v u Q I rx ry h
 obtain⟨l,b,xs,zs,rfl,rfl,hH,hB,hz,q⟩:=h
 cases rx
 cases ry
 obtain⟨z,its,n,r,hl,e⟩:=I.lstM hH
 obtain⟨z2,its2,n2,r2,hl2,e2⟩:=I.lstM hB
 refine PySem.P.add_list e e2 ?_ (by rw[List.size_toArray,List.size_toArray];lia)
 have ea:its.toArray++its2.toArray=(its++its2).toArray:=by simp
 rw[ea]
 exact⟨.ref _,_,I.lnew (t':=s.toks) (r.append r2) (by rw[List.length_append];lia),rfl,q _ I.fresh⟩
noncomputable def rRep:R2:=fun x y H Q=> ∃ l k xs,x= .ref l∧y= .int k∧H l=some (.lst xs)∧-(2 ^ 63)≤k∧k < 2 ^ 63∧xs.length * k.toNat≤sizeLine∧
 ∀ p,H p=none→Q (.ref p) (upd H p (.lst (List.replicate k.toNat xs).flatten))
theorem len_rep (xs:List α) (k:Nat):(List.replicate k xs).flatten.length=k * xs.length:=by
 induction k with
 |zero=>simp
 |succ k ih=>rw[List.replicate_succ,List.flatten_cons,List.length_append,ih,Nat.succ_mul,Nat.add_comm]
theorem op_rep:OpR X (binaryOp .Mult) rRep:=by
 intro pZ s σ H x y v u Q I rx ry h
 obtain⟨l,k,xs,rfl,rfl,hH,h1,h2,hz,q⟩:=h
 cases rx
 obtain⟨t,rfl⟩:=ry
 obtain⟨z,its,n,r,hl,e⟩:=I.lstM hH
 have hlen:its.toArray.size * k.toNat≤sizeLine:=by rw[List.size_toArray,←hl];exact hz
 have hcap: ¬ its.toArray.size * k.toNat > (2 ^ 63 - 1) / 8:=by
  have:(sizeLine:Nat)≤(2 ^ 63 - 1) / 8:=by decide
  lia
 have hfit: ¬ (!Builtin.List.listFitsIndex k)=true:=by
  rw[fitsIndex_both h1 h2]
  exact Bool.false_ne_true
 have hlong: ¬ Builtin.List.listTooLong (its.toArray.size * k.toNat)=true:=by
  rw[notLongL hlen]
  exact Bool.false_ne_true
 have hnew:List.foldl (fun x1 x2=>x1++x2) #[] (List.replicate (if its.toArray.isEmpty=true then 0 else k.toNat) its.toArray)=(List.replicate k.toNat its).flatten.toArray:=by
  have f0: ∀ m:Nat,List.foldl (fun x1 x2=>x1++x2) #[] (List.replicate m its.toArray)=(List.replicate m its).flatten.toArray:=fun m=>by
   have:=foldl_rep its m []
   rw[List.nil_append] at this
   exact this
  rw[f0]
  cases its with
  |nil=>simp
  |cons a r'=>rw[if_neg (by simp)]
 refine wpAny_binaryOp_repeat_ref (T:="list") (U:="int") (by decide) ⟨_,e,rfl⟩ (fun s'=>typeIs_int s' k t) noFill_list_mul F.fills_int_mul F.slot_int_rmul repeat_list F.slot_int_index.lookup
  (call_meets F.slot_int_rmul (typeIs_int s k t) F.entry_int_rmul (F.args_int_rmul_2 _ _) (int___rmul___int_list k t l its.toArray n)
   ⟨e,rfl,⟨_,e,rfl⟩,call_meets F.slot_list_mul ⟨_,e,rfl⟩ F.entry_list_mul (F.args_list_mul_2 _ _) (AutoListH.list___mul___list_int_3 l its.toArray n k t hfit hcap hlong) ⟨e,?_⟩⟩)
 rw[hnew]
 exact⟨.ref _,_,I.lnew (t':=s.toks) (r.rep k.toNat) (by rw[len_rep,Nat.mul_comm];exact hz),rfl,q _ I.fresh⟩
end
end L2
namespace Att
open PySem PySem.W PySem.Calls PyProof.Rows
theorem ints_of_wellAll: ∀ (ns:List Int) (vs:List Value),WellAll P h vs (ns.map WData.int)→IntsAre vs ns:=by
 intro ns
 induction ns with
 |nil=>
  intro vs w
  rw[List.map_nil] at w
  cases w
  exact .nil
 |cons n ns ih=>
  intro vs w
  rw[List.map_cons] at w
  cases w with
  |cons a b=>
   cases a
   exact .cons _ _ (ih _ b)
theorem script_of {l:OpenLaw} (hn:l.most=some n)
  (hpre:l.row.toRowW.claim.pre args=true) (hwl:WellAll P h vals args):
  ∃ a vs ns,vals=[Value.ref a]∧args=[WData.list (ns.map WData.int)]∧h.get? a=some {cls:=.type "list",data:=.seq vs.toArray}∧IntsAre vs ns∧ns.length≤n:=by
 have hsh:WShape.hasAll [] args [.list .int]=true:=(pre_splitW hpre).1
 have hc:l.pre.holds [] {args:=args}=true:=(pre_splitW hpre).2
 obtain⟨d,r,rfl,h1,h2⟩:=hasAllW_cons hsh
 obtain rfl:=hasAllW_nil h2
 obtain⟨xs,rfl,h3⟩:=hasW_list h1
 obtain⟨ns,rfl⟩:=items_int h3
 have hlen:ns.length≤n:=by
  unfold OpenLaw.pre at hc
  have h4:(WTm.not (.lt (.lit (.int (n:Int))) (.len (.arg 0)))).holds [] {args:=[.list (ns.map .int)]}=true:=by
   have h4:=(holds_andW hc).1
   rw[hn] at h4
   exact h4
  have h5:=condW_of h4 (w_not (w_lt w_lit (w_len_list (w_arg rfl))))
  rw[List.length_map] at h5
  refine Nat.le_of_not_lt fun q=>?_
  have q':(n:Int) < ((ns.length:Nat):Int):=by lia
  first
   |(rw[decide_eq_true q'] at h5;exact absurd h5 (by decide))
   |(simp at h5;lia)
 cases hwl with
 |cons w1 w2=>
  cases w2
  cases w1 with
  |list ho hall=>exact⟨_,_,ns,rfl,rfl,ho,ints_of_wellAll ns _ hall,hlen⟩
theorem post_true (l:OpenLaw) (args:List WData):l.row.toRowW.claim.post args (.bool true) args=true:=
 postW_of (r:=l.row.toRowW) (X:=(true==true))
  (show WShape.has [] (.bool true) .bool=true by first|rfl|decide|simp[WShape.has,WShape.arms,WShape.armsAll])
  (show (WTm.eq .res (.lit (.bool true))).value [] {args:=args,res:=some (.bool true),after:=args}=some (.bool (true==true)) from w_eq_bool (w_res rfl) w_lit) rfl
theorem attach_call {l:OpenLaw} {YP:World→Heap→Prop} {d:DefRec}
  (hn:l.most=some n) (hdf:d.params.defaults=[])
  (call: ∀ (w:World) (s₀ s₁:Shared) (mg mb:Str→Option Value) (fa:Addr) (o:Obj) (pm cd doc:Value) (a:Addr) (vs:List Value) (ns:List Int),
   Ground q loose [] XP w s₀ mg mb s₁.heap→YP w s₁.heap→
   s₁.heap.get? fa=some o→o.data= .func (docDef d.name d.params d.body d.scope pm cd doc)→s₁.heap.CodeRec cd d.name→mg d.name=some (.ref fa)→
   s₁.heap.get? a=some {cls:=.type "list",data:=.seq vs.toArray}→IntsAre vs ns→ns.length≤n→s₁.gens= #[]→
   codeAny (model l.prog w) callerA (.call (.ref fa) ⟨[.ref a],[]⟩) (fun r s'=>r= .ok (.ret (.bool true))∧OldK s₁.heap s'.heap∧s'.os=s₁.os∧AllBare s'.gens) s₁):
  WalkO q loose XP YP l.row.toRowW d [] (fun f vs=>PySem.call f vs):=by
 intro w s₀ s₁ mg mb G Y fa o pm cd doc dV kV ho hd hcd hD hmg hg args vals as hpre hlay hrd hwl hlo
 obtain rfl:dV= .none:=Dflts.none hD hdf
 obtain rfl:kV= .none:=Dflts.noKw hD
 obtain⟨a,vs,ns,rfl,rfl,hobj,hints,hlen⟩:=script_of hn hpre hwl
 refine enter_call (codeAny_mono (call w s₀ s₁ mg mb fa o pm cd doc a vs ns G Y ho (fd_plain hd) hcd hmg hobj hints hlen hg) fun r s' hq=>?_)
 obtain⟨rfl,h2,h3,h4⟩:=hq
 exact⟨.inl ⟨.bool true,.bool true,[],rfl,fun _=>rfl,.bool true,post_true l _,fun _=>⟨List.Pairwise.nil,fun _ hm=>(nomatch hm)⟩⟩,h2,h3,h4⟩
end Att
namespace L2
open PySem PySem.Spec PyProof.Rows
theorem vals_ints: ∀ {vs:List Value} {ns:List Int},IntsAre vs ns→Vals (ns.map V.int) vs
 |_,_,.nil=>.nil
 |_,_,.cons n t h=>.cons ⟨t,rfl⟩ (vals_ints h)
end L2
namespace L2
open PySem PySem.Spec PyProof.Rows
end L2
namespace L2
open PySem PySem.Spec PyProof.Rows
noncomputable def defArgs (s:Stmt):Arguments:=match s with
 | .FunctionDef _ a _ _ _ _ _ _ _ _=>a
 |_=>{posonlyargs:=[],args:=[],vararg:=none,kwonlyargs:=[],kw_defaults:=[],kwarg:=none,defaults:=[]}
def defBody (s:Stmt):List Stmt:=match s with
 | .FunctionDef _ _ b _ _ _ _ _ _ _=>b
 |_=>[]
def defScope (s:Stmt):Scope:=match s with
 | .FunctionDef _ _ _ _ _ _ sc _ _ _=>sc
 |_=>{kind:=.function,names:=[],isGenerator:=false,isCoroutine:=false}
abbrev CX0:CXT:=fun _ _ _ _ _ _=>False
abbrev E0:XK:=fun _ _ _=>False
theorem pass0:Passes CX0 X E0:=fun _ _ _ _ _ _ _ h=>h.elim
structure Fun (K:PySem.W.Frag) (x qual:Str) (st:Stmt) (f:Addr) (fd:FuncData):Prop where
 ex: ∃ (oc:Value) (od:Option Addr) (kV doc pm:Value) (an:Option Addr) (cdv ct:Value) (osl:Array (Option Value)),
  fd=PySem.W.fnOf x qual (defArgs st) (defBody st) (defScope st) .none kV doc pm an cdv ct∧K.lookup f=some ⟨oc,od,.func fd,osl⟩∧PySem.W.codeIn K cdv qual=true
 kp:PySem.W.keepIn K (.ref f)=true
section
variable {P:Program} {w:World} {K:PySem.W.Frag} {mg:Str→Option Value} {base:Heap}
theorem Fun.ok {x qual:Str} {st:Stmt} {f:Addr} {fd:FuncData} {N ps:List Str} {k:Nat} {sp:Sp} (F:Fun K x qual st f fd) (S:FnScope N ps (defScope st)) (len: ∀ vs H Q E,sp vs H Q E→vs.length=ps.length)
  (hbody: ∀ (cdv:Value) (A:Around) (outer:List Env) (s:Shared) (H:Hp) (vs:List V) (Q:VK) (E:XK),Room k (A.deeper (envOfC qual (defScope st) s.heap.objs.size f cdv))→sp vs H Q E→
   ∃ t,PSs (cxOf CX0 P w K mg base N qual (defScope st) f cdv A outer s H E).nox (defBody st) t∧t {nx:=fun _ H'=>Q .non H',rt:=Q} (start N vs) H):FnOk P w K mg base CX0 (k+1) f fd ps sp:=by
 obtain⟨oc,od,kV,doc,pm,an,cdv,ct,osl,rfl,lk,hcd⟩:=F.ex
 refine fn_of lk hcd S len fun A outer s H vs Q E hr hsp=>?_
 obtain⟨t,h,q⟩:=hbody cdv A outer s H vs Q E hr hsp
 exact⟨t,h.nox,q⟩
theorem Fun.binds {x qual:Str} {st:Stmt} {f:Addr} {fd:FuncData} {ps:List Str} (F:Fun K x qual st f fd)
  (h: ∀ (kV doc pm:Value) (an:Option Addr) (cdv ct:Value) (us:List Value),us.length=ps.length→bindArgs (PySem.W.fnOf x qual (defArgs st) (defBody st) (defScope st) .none kV doc pm an cdv ct) ⟨us,[]⟩=pure (ps.zip us)):Binds K fd ps []:=by
 obtain⟨oc,od,kV,doc,pm,an,cdv,ct,osl,rfl,lk,hcd⟩:=F.ex
 exact .all (h kV doc pm an cdv ct)
theorem fun_mk {x qual:Str} {st:Stmt} {f:Addr} {oc:Value} {od an:Option Addr} {osl:Array (Option Value)} {kV doc pm cdv ct:Value} (l:K.lookup f=some ⟨oc,od,.func (PySem.W.fnOf x qual (defArgs st) (defBody st) (defScope st) .none kV doc pm an cdv ct),osl⟩)
  (c:PySem.W.codeIn K cdv qual=true) (k:PySem.W.keepIn K (.ref f)=true):Fun K x qual st f (PySem.W.fnOf x qual (defArgs st) (defBody st) (defScope st) .none kV doc pm an cdv ct):=⟨⟨oc,od,kV,doc,pm,an,cdv,ct,osl,rfl,l,c⟩,k⟩
end
theorem hu_of (hr:Room k A):A.units+1 < cLine:=Nat.lt_of_le_of_lt (Nat.add_le_add_left (by decide:1≤64) _) hr.units
section
variable {X:Cx}
theorem pv (i:Nat) (hN:X.N[i]?=some x:=by rfl) (hv:Vis X.env.scope x:=by first|exact Or.inl rfl|exact Or.inr (Or.inl rfl)|exact Or.inr (Or.inr rfl)) (hd:(x==("__debug__":Str))=false:=by decide)
  (hcd:(x==("__classdict__":Str))=false:=by decide):PE X (.Name x pos) (tVar i):=pe_var hN hv hd hcd
end
theorem ite2 {A B:Prop} [Decidable c] (h1:c→A) (h2: ¬ c→B):if c then A else B:=by
 by_cases h:c
 ·rw[if_pos h]
  exact h1 h
 ·rw[if_neg h]
  exact h2 h
def Same (H H':Hp):Prop:= ∀ b o,H b=some o→H' b=some o
theorem Same.trans (a:Same H H1) (b:Same H1 H2):Same H H2:=fun c o h=>b c o (a c o h)
theorem Same.seq {K:PySem.W.Frag} {H H':Hp} {a:Addr} {xs:List V} (e:Same H H') (h:SqL K H a xs):SqL K H' a xs:=by
 rcases h with(h|⟨o,h⟩)|h
 ·exact .inl (.inl (e _ _ h))
 ·exact .inl (.inr ⟨o,e _ _ h⟩)
 ·exact .inr h
end L2
end
namespace L2
section
variable {κ:Type} [DecidableEq κ]
def valV (kvs:List (κ×V)) (k:κ):Option V:=(kvs.find? fun kv=>decide (kv.1=k)).map (·.2)
def putK (kvs:List (κ×V)) (k:κ) (v:V):List (κ×V):=
 if(kvs.any fun kv=>decide (kv.1=k))=true then kvs.map (fun kv=>if kv.1=k then(kv.1,v) else kv) else kvs++[(k,v)]
theorem valV_pos {p:κ×V} {r:List (κ×V)} {k:κ} (e:p.1=k):valV (p::r) k=some p.2:=by simp[valV,List.find?_cons,e]
theorem valV_neg {p:κ×V} {r:List (κ×V)} {k:κ} (e: ¬ p.1=k):valV (p::r) k=valV r k:=by simp[valV,List.find?_cons,e]
theorem valV_any (k:κ): ∀ kvs:List (κ×V),(kvs.any fun kv=>decide (kv.1=k))=(valV kvs k).isSome
 |[]=>rfl
 |p::r=>by
  rw[List.any_cons]
  by_cases e:p.1=k
  ·simp only[valV_pos e,decide_eq_true e,Bool.true_or,Option.isSome_some]
  ·rw[valV_neg e,decide_eq_false e,Bool.false_or];exact valV_any k r
theorem length_putK (kvs:List (κ×V)) (k:κ) (v:V):(putK kvs k v).length≤kvs.length+1:=by
 unfold putK
 split
 ·rw[List.length_map];lia
 ·rw[List.length_append,List.length_cons,List.length_nil];lia
theorem RelO.isSome_eq (r:RelO o u):o.isSome=u.isSome:=by
 cases o with
 |none=>cases u with
  |none=>rfl
  |some _=>exact(show False from r).elim
 |some _=>cases u with
  |none=>exact(show False from r).elim
  |some _=>rfl
theorem KV.val (r:KV kvs vs) (k:κ):RelO (valV kvs k) (valueAt vs k):=by
 unfold KV at r
 induction r with
 |nil=>exact True.intro
 | @cons p q ps qs h t ih=>
  obtain⟨h1,h2⟩:=h
  by_cases e:p.1=k
  ·have e':q.1=k:=h1.symm.trans e
   have b:valueAt (q::qs) k=some q.2:=by simp[valueAt,List.find?_cons,e']
   rw[valV_pos e,b];exact h2
  ·have e': ¬ q.1=k:=fun z=>e (h1.trans z)
   have b:valueAt (q::qs) k=valueAt qs k:=by simp[valueAt,List.find?_cons,e']
   rw[valV_neg e,b];exact ih
theorem KV.any (r:KV kvs vs) (k:κ):(kvs.any fun kv=>decide (kv.1=k))=vs.any fun kv=>decide (kv.1=k):=by
 unfold KV at r
 induction r with
 |nil=>rfl
 |cons h t ih=>rw[List.any_cons,List.any_cons,ih,h.1]
theorem KV.repl (r:KV kvs vs) (k:κ) (ry:RelV y u):
  KV (kvs.map fun kv=>if kv.1=k then(kv.1,y) else kv) (vs.map fun kv=>if kv.1=k then(kv.1,u) else kv):=by
 unfold KV at r ⊢
 induction r with
 |nil=>exact .nil
 | @cons p q ps qs h t ih=>
  rw[List.map_cons,List.map_cons]
  refine .cons ?_ ih
  obtain⟨h1,h2⟩:=h
  by_cases e:p.1=k
  ·rw[if_pos e,if_pos (h1.symm.trans e)];exact⟨h1,ry⟩
  ·rw[if_neg e,if_neg (fun z=>e (h1.trans z))];exact⟨h1,h2⟩
theorem KV.put (r:KV kvs vs) (k:κ) (ry:RelV y u):KV (putK kvs k y) (stored vs k u):=by
 unfold putK stored
 rw[r.any k]
 by_cases e:(vs.any fun kv=>decide (kv.1=k))=true
 ·rw[if_pos e,if_pos e];exact r.repl k ry
 ·rw[if_neg e,if_neg e];exact Paired.snoc r ⟨rfl,ry⟩
theorem KV.keys {kvs:List (κ×V)} {vs:List (κ×Value)} (r:KV kvs vs):kvs.map (·.1)=vs.map (·.1):=by
 unfold KV at r
 induction r with
 |nil=>rfl
 |cons h t ih=>rw[List.map_cons,List.map_cons,ih,h.1]
theorem KV.length (r:KV kvs vs):kvs.length=vs.length:=Paired.length r
end
theorem kV_is (r:RelV (kV k) u):(mixKind P w).is k u=true:=by
 cases k with
 |inl i=>obtain⟨t,e⟩:=(show ∃ t,u=Value.int i t from r);subst e;exact mixKind_int P w i t
 |inr x=>obtain⟨t,e⟩:=(show ∃ t,u=Value.str x t from r);subst e;exact mixKind_str P w x t
theorem items_are: ∀ {ks:List Key} {us:List Value},Vals (ks.map kV) us→ItemsAre (mixKind P w) ks us
 |[],_,r=>by rw[List.map_nil] at r;cases r;exact .nil
 |k::ks,_,r=>by
  rw[List.map_cons] at r
  cases r with
  |cons h t=>exact .cons (kV_is h) (items_are t)
abbrev KT (H:Hp):List (List Key×V)→List (List Key×Addr×Value)→Prop:=Paired fun p q=>p.1=q.1∧H q.2.1=some (.tup (p.1.map kV))∧RelV p.2 q.2.2
theorem KT.val (r:KT H kvs xs) (k:List Key):RelO (valV kvs k) ((atKey xs k).map (·.2)):=by
 induction r with
 |nil=>exact True.intro
 | @cons p q ps qs h t ih=>
  obtain⟨h1,_,h2⟩:=h
  by_cases e:p.1=k
  ·have e':q.1=k:=h1.symm.trans e
   have b:atKey (q::qs) k=some q.2:=by simp[atKey,List.find?_cons,e']
   rw[valV_pos e,b];exact h2
  ·have e': ¬ q.1=k:=fun z=>e (h1.trans z)
   have b:atKey (q::qs) k=atKey qs k:=by simp[atKey,List.find?_cons,e']
   rw[valV_neg e,b];exact ih
theorem KT.repl (r:KT H kvs xs) (k:List Key) (ry:RelV y u):
  KT H (kvs.map fun kv=>if kv.1=k then(kv.1,y) else kv) (xs.map (putAt k u)):=by
 induction r with
 |nil=>exact .nil
 | @cons p q ps qs h t ih=>
  rw[List.map_cons,List.map_cons]
  refine .cons ?_ ih
  obtain⟨h1,h2,h3⟩:=h
  unfold putAt
  by_cases e:p.1=k
  ·rw[if_pos e,if_pos (h1.symm.trans e)];exact⟨h1,h2,ry⟩
  ·rw[if_neg e,if_neg (fun z=>e (h1.trans z))];exact⟨h1,h2,h3⟩
theorem KT.put (r:KT H kvs xs) (k:List Key) (hb:H b=some (.tup (k.map kV))) (ry:RelV y u):
  KT H (putK kvs k y) (storedH xs k b u):=by
 have e:(kvs.any fun kv=>decide (kv.1=k))=(atKey xs k).isSome:=by
  rw[valV_any,(r.val k).isSome_eq,Option.isSome_map]
 unfold putK storedH
 rw[e]
 by_cases q:(atKey xs k).isSome=true
 ·rw[if_pos q,if_pos q];exact r.repl k ry
 ·rw[if_neg q,if_neg q];exact Paired.snoc r ⟨rfl,hb,ry⟩
theorem KT.keeps (r:KT H kvs xs) (ht: ∀ b ys,H b=some (.tup ys)→H' b=some (.tup ys)):KT H' kvs xs:=
 Paired.mapP r fun _ _ z=>⟨z.1,ht _ _ z.2.1,z.2.2⟩
section
variable {P:Program} {w:World} {H:Hp} {h:Heap} {a:Addr}
theorem rd_of (ok:HOk P w H h) (e:Rd H a u):ObjOk P w H h a u:=e.ok ok
theorem dk_rd (ok:HOk P w H h) (e:Rd H a (.dK kvs)):kvs.length≤sizeLine∧(a==sysModules)=false∧∃ vs,KV kvs vs∧h.DictOf (mixKind P w) a vs:=
 show ObjOk P w H h a (.dK kvs) from rd_of ok e
theorem dk_of (ok:HOk P w H h) (e:H a=some (.dK kvs)):kvs.length≤sizeLine∧(a==sysModules)=false∧∃ vs,KV kvs vs∧h.DictOf (mixKind P w) a vs:=dk_rd ok (.inl e)
theorem key_of (ok:HOk P w H h) (e:H a=some (.tup (ks.map kV))):(tupleKind (mixKind P w)).is h ks a:=by
 obtain⟨_,its,r,o,h1,h2,n,h3⟩:=(show ObjOk P w H h a (.tup (ks.map kV)) from ok a _ e)
 exact⟨o,its.toArray,n,h1,h2,h3,by simpa using items_are r⟩
theorem dt_rd (ok:HOk P w H h) (e:Rd H a (.dT kvs)):kvs.length≤sizeLine∧(a==sysModules)=false∧
  ∃ xs,KT H kvs xs∧h.DictOfH (tupleKind (mixKind P w)) a xs:=by
 obtain⟨z,y,xs,r,o,es,ep,h1,h2,h3,h4,h5⟩:=(show ObjOk P w H h a (.dT kvs) from rd_of ok e)
 refine⟨z,y,xs,r,o,es,ep,h1,h2,h3,h4,fun x hx=>?_,h5⟩
 have all: ∀ {l:List (List Key×V)} {m:List (List Key×Addr×Value)},KT H l m→∀ x∈m,(tupleKind (mixKind P w)).is h x.1 x.2.1:=by
  intro l m q
  induction q with
  |nil=>intro x hx;exact nomatch hx
  | @cons p q ps qs hq t ih=>
   intro x hx
   rcases List.mem_cons.mp hx with e|hx
   ·subst e
    exact key_of ok (by rw[←hq.1];exact hq.2.1)
   ·exact ih x hx
 exact all r x hx
theorem dt_of (ok:HOk P w H h) (e:H a=some (.dT kvs)):kvs.length≤sizeLine∧(a==sysModules)=false∧
  ∃ xs,KT H kvs xs∧h.DictOfH (tupleKind (mixKind P w)) a xs:=dt_rd ok (.inl e)
end
def DGet (H:Hp) (a:Addr) (y:V) (r:Option V):Prop:=
 (∃ kvs k,Rd H a (.dK kvs)∧y=kV k∧r=valV kvs k)∨∃ kvs k b,Rd H a (.dT kvs)∧y= .ref b∧H b=some (.tup (k.map kV))∧r=valV kvs k
def DPut (H:Hp) (a:Addr) (y v:V) (H':Hp):Prop:=
 (∃ kvs k,H a=some (.dK kvs)∧y=kV k∧kvs.length < sizeLine∧H'=upd H a (.dK (putK kvs k v)))∨
 ∃ kvs k b,H a=some (.dT kvs)∧y= .ref b∧H b=some (.tup (k.map kV))∧kvs.length < sizeLine∧H'=upd H a (.dT (putK kvs k v))
section
variable {X:Cx} {pZ:List (Addr×Obj)} {σ:St} {H:Hp} {s:Shared} {a:Addr} {y v:V} {u r:Value} {o:Option V} {A:Around} {E:Value→Shared→Prop}
theorem Inv.big (I:Inv X pZ σ H s):sysModules < s.heap.objs.size:=by
 have h:mainGlobals < s.heap.objs.size:=(I.mod.glob.keeps I.bk).lt
 exact Nat.lt_trans (by decide) h
theorem d_getItem (hu:A.units+1 < cLine) (I:Inv X pZ σ H s) (g:DGet H a y (some v)) (ry:RelV y u) (h: ∀ w' s',Inv X pZ σ H s'→RelV v w'→Q w' s'):
  wpAny (model X.prog X.w) A (getItem (.ref a) u) Q E s:=by
 rcases g with⟨kvs,k,e,ey,l⟩|⟨kvs,k,b,e,ey,eb,l⟩
 ·subst ey
  obtain⟨z,hd,vs,rel,dd⟩:=dk_rd I.hok e
  obtain⟨w',hw,rw'⟩:=RelO.some_of (v:=v) (o:=valueAt vs k) (by rw[l];exact rel.val k)
  exact wpAny_getItem_of (kV_is ry) dd.mapOf hw (h w' _ (I.tok _) rw')
 ·subst ey
  cases (show u=Value.ref b from ry)
  obtain⟨z,hd,xs,rel,dd⟩:=dt_rd I.hok e
  obtain⟨w',hw,rw'⟩:=RelO.some_of (v:=v) (o:=(atKey xs k).map (·.2)) (by rw[l];exact rel.val k)
  obtain⟨p,hp,hp2⟩:=Option.map_eq_some_iff.mp hw
  refine wpAny_getItem_heap (tupleKind_room_in1 hu) (key_of I.hok eb) dd hp ?_
  rw[hp2]
  exact h w' _ (I.tok _) rw'
theorem d_in (hu:A.units+1 < cLine) (I:Inv X pZ σ H s) (g:DGet H a y o) (ry:RelV y u) (h: ∀ s',Inv X pZ σ H s'→Q (.bool o.isSome) s'):
  wpAny (model X.prog X.w) A (compareOp .In u (.ref a)) Q E s:=by
 rcases g with⟨kvs,k,e,ey,l⟩|⟨kvs,k,b,e,ey,eb,l⟩
 ·subst ey
  obtain⟨z,hd,vs,rel,dd⟩:=dk_rd I.hok e
  refine wpAny_in_of (kV_is ry) hd dd.mapOf ?_
  rw[←(rel.val k).isSome_eq,←l]
  exact h _ (I.tok _)
 ·subst ey
  cases (show u=Value.ref b from ry)
  obtain⟨z,hd,xs,rel,dd⟩:=dt_rd I.hok e
  refine wpAny_in_heap (tupleKind_room_in1 hu) (key_of I.hok eb) hd dd ?_
  have q:=(rel.val k).isSome_eq
  rw[Option.isSome_map] at q
  rw[←q,←l]
  exact h _ (I.tok _)
theorem d_write {t':Nat} (I:Inv X pZ σ H s) (mu:Mut (H a)) (hs:Heap.SameBut a s.heap h') (he: ∃ q,h'.get? a=some q) (new:ObjOk X.prog X.w (upd H a ob) h' a ob):
  Inv X pZ σ (upd H a ob) {s with heap:=h',toks:=t'}:=
 I.write (x:=a) (e:=a) mu (.inl rfl) (fun b q hb z=>(hs.2 b hb).trans z) he new
theorem dk_new (z:kvs.length≤sizeLine) (hd:(a==sysModules)=false) (rel:KV kvs vs) (dd:h'.DictOf (mixKind P w) a vs):
  ObjOk P w H' h' a (.dK kvs):=⟨z,hd,vs,rel,dd⟩
theorem d_setItem (hu:A.units+1 < cLine) (I:Inv X pZ σ H s) (g:DPut H a y v H') (ry:RelV y u) (rv:RelV v r) (h: ∀ s',Inv X pZ σ H' s'→Q () s'):
  wpAny (model X.prog X.w) A (setItem (.ref a) u r) Q E s:=by
 rcases g with⟨kvs,k,e,ey,l,eH⟩|⟨kvs,k,b,e,ey,eb,l,eH⟩
 ·subst ey eH
  obtain⟨z,hd,vs,rel,dd⟩:=dk_of I.hok e
  have hz:vs.length≤sizeLine:=by rw[←rel.length];exact z
  have hl:(putK kvs k v).length≤sizeLine:=by have:=length_putK kvs k v;lia
  refine wpAny_setItem_pairs (hsz:=hz) (kV_is ry) dd fun h' dd' hs=>h _ ?_
  have he: ∃ q,h'.get? a=some q:=let ⟨q,_,_,hq,_⟩:=dd';⟨q,hq⟩
  exact d_write I (by rw[e];exact True.intro) hs he (dk_new hl hd (rel.put k rv) dd')
 ·subst ey eH
  cases (show u=Value.ref b from ry)
  obtain⟨z,hd,xs,rel,dd⟩:=dt_of I.hok e
  have hz:xs.length≤sizeLine:=by rw[←Paired.length rel];exact z
  have hl:(putK kvs k v).length≤sizeLine:=by have:=length_putK kvs k v;lia
  refine wpAny_setItem_heap (hsz:=hz) (tupleKind_room_in1 hu) (key_of I.hok eb) dd fun h' dd' hs=>h _ ?_
  obtain⟨q,es,ep,hq,h2,h3,h4,_,h5⟩:=dd'
  refine d_write I (by rw[e];exact True.intro) hs ⟨q,hq⟩ ⟨hl,hd,_,(rel.put k eb rv).keeps fun c ys ec=>?_,q,es,ep,hq,h2,h3,h4,h5⟩
  rw[upd_ne (ne_of ec e (fun z=>nomatch z))]
  exact ec
end
section
variable {X:Cx} {pZ:List (Addr×Obj)} {σ:St} {H:Hp} {s:Shared} {a:Addr} {kvs:List (Key×V)} {k:Key} {u:Value} {A:Around} {E:Value→Shared→Prop}
theorem d_len (I:Inv X pZ σ H s) (e:Rd H a (.dK kvs)) (h: ∀ t s',Inv X pZ σ H s'→Q (.int kvs.length t) s'):wpAny (model X.prog X.w) A (call (.builtin "len") [.ref a]) Q E s:=by
 obtain⟨z,hd,vs,rel,dd⟩:=dk_rd I.hok e
 refine call_len_dict hd dd (by rw[←rel.length];rw[sizeLine_eq] at z;lia) ?_
 rw[←rel.length]
 exact h _ _ (I.tok _)
end
def NoSl (i:Expr):Prop:= ∀ ov iv,subscripted i false ov iv=operate [ov,iv] (getItem ov iv)
theorem subD_of {prog:Program} {w:World} {A:Around} {E:Value→Shared→Prop} {s:Shared} {env:Env} {value slice:Expr} {pos:Pos} {T id:String} {Q:Value→Shared→Prop}
  (hl:typeLookup (.type T) "__getitem__"=pure (some (.builtin id))) (hs:NoSl slice)
  (h:wpAny (model prog w) A (eval value env) (fun o s₁=>wpAny (model prog w) A (eval slice env) (fun i s₂=>s₂.TypeIs o T∧wpAny (model prog w) A (getItem o i) Q E s₂) E s₁) E s):
  wpAny (model prog w) A (eval (.Subscript value slice pos) env) Q E s:=by
 refine Subscript_ (wpAny_mono h (fun o s₁ h₁=>wpAny_mono h₁ (fun i s₂ h₂=>?_) fun _ _ x=>x) fun _ _ x=>x)
 obtain⟨hT,h₂⟩:=h₂
 unfold subscriptTail
 refine wpAny_bind ?_
 rw[getitemInPython_of_ne hT.not_modules]
 refine wpAny_bind (wpAny_specialOf hT hl ?_)
 have fin:wpAny (model prog w) A (subscripted slice false o i) (fun r s₃=>wpAny (model prog w) A (letTemporaryGo value o r >>= fun _=>pure r) Q E s₃) E s₂:=by
  rw[hs o i]
  exact wpAny_operating (wpAny_mono h₂ (fun r s₃ h₃=>wpAny_bind (wpAny_letTemporaryGo (wpAny_pure h₃))) fun _ _ x=>x)
 first
  |exact wpAny_pure (wpAny_bind fin)
  |exact wpAny_bind (wpAny_pure (wpAny_bind fin))
  |exact wpAny_bind fin
theorem dict_typeIs (I:Inv X pZ σ H s) (g:DGet H a y o):s.TypeIs (.ref a) "dict":=by
 rcases g with⟨kvs,k,e,_,_⟩|⟨kvs,k,b,e,_,_,_⟩
 ·obtain⟨_,_,vs,_,dd⟩:=dk_rd I.hok e
  exact dd.typeIs
 ·obtain⟨_,_,xs,_,dd⟩:=dt_rd I.hok e
  exact dd.typeIs
def tDGet (td ty:TE):TE:=fun σ H Q=>td σ H fun x H1=>ty σ H1 fun y H2=> ∃ a v,x= .ref a∧DGet H2 a y (some v)∧Q v H2
def tDIn (ty td:TE):TE:=fun σ H Q=>ty σ H fun y H1=>td σ H1 fun x H2=> ∃ a o,x= .ref a∧DGet H2 a y o∧Q (.bl o.isSome) H2
def sDPut (td ty tv:TE):TS:=fun D σ H=>tv σ H fun v H1=>td σ H1 fun x H2=>ty σ H2 fun y H3=> ∃ a H4,x= .ref a∧DPut H3 a y v H4∧D.nx σ H4
section
variable {X:Cx} {o i e value:Expr} {pos pos' tpos:Pos} {td ty tv:TE}
theorem pe_dget (hu:X.A.units+1 < cLine) (ho:PE X o td) (hi:PE X i ty) (hs:NoSl i):PE X (.Subscript o i pos) (tDGet td ty):=by
 intro pZ s σ H Q I h
 refine subD_of PySem.F.slot_dict_getitem.lookup hs (thn (ho pZ s σ H _ I h) fun u s1 ⟨x,H1,I1,rx,q1⟩=>thn (hi pZ s1 σ H1 _ I1 q1) fun iv s2 ⟨y,H2,I2,ry,a,v,ex,g,q2⟩=>?_)
 subst ex
 obtain rfl:u=Value.ref a:=rx
 exact⟨dict_typeIs I2 g,d_getItem hu I2 g ry fun w' s3 I3 rw'=>⟨v,H2,I3,rw',q2⟩⟩
theorem pc_din (hu:X.A.units+1 < cLine) (hi:PE X i ty) (ho:PE X o td):PC X .In i o (tDIn ty td):=by
 intro pZ s σ H Q I h
 refine thn (hi pZ s σ H _ I h) fun iv s1 ⟨y,H1,I1,ry,q1⟩=>thn (ho pZ s1 σ H1 _ I1 q1) fun u s2 ⟨x,H2,I2,rx,a,ov,ex,g,q2⟩=>?_
 subst ex
 obtain rfl:u=Value.ref a:=rx
 exact d_in hu I2 g ry fun s3 I3=>⟨.bl ov.isSome,H2,I3,rfl,q2⟩
theorem ps_dput (hu:X.A.units+1 < cLine) (ho:PE X o td) (hi:PE X i ty) (hv:PE X value tv) (hs:swapsWith value (some (.Subscript o i pos')) pos.line X.env=pure false):
  PS X (.Assign [.Subscript o i pos'] value pos) (sDPut td ty tv):=by
 intro pZ s σ H D I h
 refine wpAny_Assign_Subscript (thn (hv pZ s σ H _ I h) fun r s1 ⟨v,H1,I1,rv,q1⟩=>thn (ho pZ s1 σ H1 _ I1 q1) fun u s2 ⟨x,H2,I2,rx,q2⟩=>thn (hi pZ s2 σ H2 _ I2 q2) fun iv s3 ⟨y,H3,I3,ry,a,H4,ex,g,q3⟩=>?_) hs
 subst ex
 obtain rfl:u=Value.ref a:=rx
 exact d_setItem hu I3 g ry rv fun s4 I4=>⟨σ,H4,I4,q3⟩
end
theorem dk_empty (h:Heap) (hb:sysModules < h.objs.size):ObjOk P w H (h.push {cls:=.type "dict",data:=.dict #[]}) h.objs.size (.dK []):=
 ⟨Nat.zero_le _,beq_eq_false_iff_ne.mpr (Ne.symm (Nat.ne_of_lt hb)),[],.nil,Heap.DictOf.new h⟩
def tDNewK:TE:=fun _ H Q=> ∀ p,H p=none→Q (.ref p) (upd H p (.dK []))
section
variable {X:Cx} {pos:Pos}
theorem pe_dnewK:PE X (.Dict [] [] pos) tDNewK:=fun pZ s σ H Q I h=>
 wpAny_Dict_empty ⟨.ref s.heap.objs.size,_,I.laid (a:=s.heap.objs.size) (o:=.dK []) (t':=s.toks) (fun _ _ q=>Heap.get?_push_of_some _ q) (Nat.le_refl _) (dk_empty s.heap I.big),rfl,h _ (I.hok.fresh (Nat.le_refl _))⟩
end
def clStep (cells:List (Str×Addr)) (cs:List (Str×Addr)) (p:Str×NameKind):List (Str×Addr):=
 if p.2== .free then(match cells.lookup p.1 with|some c=>(p.1,c)::cs|none=>cs) else cs
def clOf (names:List (Str×NameKind)) (cells:List (Str×Addr)):List (Str×Addr):=names.foldl (clStep cells) []
theorem closure_fold (env:Env): ∀ (names:List (Str×NameKind)) (cs:List (Str×Addr)),(∀ p∈names,p.2= .free→∃ c,env.cells.lookup p.1=some c)→
  (forIn names cs fun (p:Str×NameKind) r=>(if(p.2== .free)=true then do let a ←cellOf env p.1;pure (ForInStep.yield ((p.1,a)::r)) else pure (ForInStep.yield r):Sem (ForInStep (List (Str×Addr)))))=pure (names.foldl (clStep env.cells) cs)
 |[],cs,_=>rfl
 |p::r,cs,h=>by
  have ih:=fun cs'=>closure_fold env r cs' fun q hq=>h q (List.mem_cons_of_mem _ hq)
  rw[List.forIn_cons]
  by_cases hp:(p.2== .free)=true
  ·obtain⟨c,hc⟩:=h p List.mem_cons_self (by simpa using hp)
   have e:clStep env.cells cs p=(p.1,c)::cs:=by unfold clStep;rw[if_pos hp,hc]
   have e2:cellOf env p.1=pure c:=by unfold cellOf;rw[hc]
   rw[if_pos hp,e2,List.foldl_cons,e]
   exact ih _
  ·have e:clStep env.cells cs p=cs:=by unfold clStep;rw[if_neg hp]
   rw[if_neg hp,List.foldl_cons,e]
   exact ih _
theorem closure_is (h: ∀ p∈scope.names,p.2= .free→∃ c,env.cells.lookup p.1=some c):closureFor scope env=pure (clOf scope.names env.cells):=by
 have q:=closure_fold env scope.names [] h
 unfold closureFor
 show (forIn scope.names [] _ >>= fun cs=>pure cs)=_
 have e: ∀ m:Sem (List (Str×Addr)),(m >>= fun cs=>pure cs)=m:=fun m=>bind_pure m
 rw[e]
 exact q
theorem cl_sound (cells:List (Str×Addr)): ∀ (names:List (Str×NameKind)) (cs:List (Str×Addr)),(∀ x c,cs.lookup x=some c→cells.lookup x=some c)→∀ x c,(names.foldl (clStep cells) cs).lookup x=some c→cells.lookup x=some c
 |[],_,h=>h
 |p::r,cs,h=>cl_sound cells r _ (fun x c e=>by
  unfold clStep at e
  split at e
  ·split at e
   ·rename_i c' hc'
    rw[List.lookup_cons] at e
    split at e
    ·rename_i hx
     have hx':x=p.1:=by simpa using hx
     cases e;rw[hx'];exact hc'
    ·exact h x c e
   ·exact h x c e
  ·exact h x c e)
theorem cl_keeps (cells:List (Str×Addr)): ∀ (names:List (Str×NameKind)) (cs:List (Str×Addr)) (x:Str),(∃ c,cs.lookup x=some c)→∃ c,(names.foldl (clStep cells) cs).lookup x=some c
 |[],_,_,h=>h
 |p::r,cs,x,h=>cl_keeps cells r _ x (by
  unfold clStep
  split
  ·split
   ·rw[List.lookup_cons]
    split
    ·exact⟨_,rfl⟩
    ·exact h
   ·exact h
  ·exact h)
theorem cl_has (cells:List (Str×Addr)): ∀ (names:List (Str×NameKind)) (cs:List (Str×Addr)) (x:Str),(x,NameKind.free)∈names→(∃ c,cells.lookup x=some c)→∃ c,(names.foldl (clStep cells) cs).lookup x=some c
 |[],_,_,h,_=>by simp at h
 |p::r,cs,x,h,hc=>by
  rcases List.mem_cons.mp h with e|e
  ·subst e
   refine cl_keeps cells r _ x ?_
   obtain⟨c,hc⟩:=hc
   unfold clStep
   rw[if_pos (by rfl),hc]
   exact⟨c,by rw[List.lookup_cons];simp⟩
  ·exact cl_has cells r _ x e hc
noncomputable def cxC (X:Cx) (scope:Scope) (N:List Str) (s₀:Shared) (H₀:Hp) (ex:List Addr) (pn:List (Addr×Obj)):Cx:=
 {prog:=X.prog,w:=X.w,K:=X.K,mg:=X.mg,base:=X.base,A:=X.A,N:=N,s₀:=s₀,H₀:=H₀,env:=compEnvC scope (clOf scope.names X.env.cells) s₀.heap.objs.size X.env,outer:=X.stack,stack:=X.stack,ex:=ex,fn:=fun _=>false,calm:=true,pn:=pn,xe:=fun _ _=>False}
def capSt (js:List (Option Nat)) (σ:St):St:=js.map fun o=>match o with|some j=>(σ[j]?).getD none|none=>none
def PTs (X:Cx) (ifs:List Expr) (t:TT):Prop:=
 ∀ (pZ:List (Addr×Obj)) (s:Shared) (σ:St) (H:Hp) (Q:Bool→Hp→Prop),Inv X pZ σ H s→t σ H Q→
  wpAny (model X.prog X.w) X.A (forIn ifs true fun c r=>if r=true then do let ok ←isTrue c X.env (eval c X.env);pure (ForInStep.yield ok) else pure (ForInStep.yield r)) (TP X pZ σ Q) X.xe s
def tNoIf:TT:=fun _ H Q=>Q true H
theorem pts_nil:PTs X [] tNoIf:=fun pZ s σ H Q I h=>wpAny_tests_nil ⟨H,I,h⟩
theorem pts_one (h:PT X c t):PTs X [c] t:=fun pZ s σ H Q I hw=>wpAny_tests_one (h pZ s σ H Q I hw)
theorem comp_loop (I:Nat→Shared→Prop)
  (turn: ∀ n s,I n s→wpAny (model prog w) A (pyNext it) (fun r s₁=>match r with
   |none=>R (.ok .next) s₁
   |some v=>wpAny (model prog w) A (letOwnedTupleGo target it v) (fun _ s₁'=>wpAny (model prog w) A (assign target env v) (fun _ s₂=>
     wpAny (model prog w) A (forIn ifs true fun c r=>if r=true then do let ok ←isTrue c env (eval c env);pure (ForInStep.yield ok) else pure (ForInStep.yield r)) (fun ok s₃=>
      if ok=true then wpAny (model prog w) A (eval elt env) (fun x s₄=>
       wpAny (model prog w) A (call (.builtin "list.append") [acc,x]) (fun _ s₅=> ∃ m,m < n∧I m s₅) (fun _ _=>False) s₄) (fun _ _=>False) s₃
      else ∃ m,m < n∧I m s₃) (fun _ _=>False) s₂) (fun _ _=>False) s₁') (fun _ _=>False) s₁) (fun _ _=>False) s)
  (n:Nat) (h:I n s):
  codeAny (model prog w) A (.compLoop (.ListComp elt [⟨target,iter,ifs,0⟩] scope pos) 0 it acc env) R s:=by
 refine codeAny_loop rfl I (fun n s hI=>?_) n h
 show wpAny _ A ((compTurn (.ListComp elt [⟨target,iter,ifs,0⟩] scope pos) 0 it acc env).onRaise (fun x=>do noteFrame x env;theTreesLotGoes x)) _ _ s
 refine wpAny_noted ?_
 refine wpAny_mono (E:=fun _ _=>False) ?_ (fun _ _ q=>q) fun _ _ q=>q.elim
 rw[compTurn_list]
 refine wpAny_bind (wpAny_standAt (wpAny_bind (thn (turn n s hI) fun r s₁ h₁=>?_)))
 cases r with
 |none=>exact wpAny_pure h₁
 |some v=>
  refine wpAny_bind (thn h₁ fun _ s₁' h₁'=>?_)
  refine wpAny_bind (thn h₁' fun _ s₂ h₂=>wpAny_bind (thn h₂ fun ok s₃ h₃=>?_))
  cases ok with
  |false=>exact wpAny_pure ⟨rfl,h₃⟩
  |true=>exact wpAny_bind (wpAny_bind (thn h₃ fun x s₄ h₄=>wpAny_bind (thn h₄ fun _ s₅ h₅=>wpAny_pure (wpAny_pure ⟨rfl,h₅⟩))))
def LcW (J:It) (D:Addr) (g:TG) (tt:TT) (te:TE) (Q:VK) (σ0:St) (H1:Hp):Prop:=
 ∃ W:Nat→Nat→St→Hp→Prop,(∃ m,W 0 m σ0 (upd H1 D (.lst [])))∧∀ i m σ' H',W i m σ' H'→
  (J.stop i H'∧Q (.ref D) H')∨(J.go i H'∧∀ x H2,J.yld i H' x H2→g x σ' H2 fun σ2 H3=>tt σ2 H3 fun ok H4=>
   if ok=true then te σ2 H4 fun y H5=> ∃ ys,H5 D=some (.lst ys)∧ys.length < sizeLine∧∃ m',m' < m∧W (i+1) m' σ2 (upd H5 D (.lst (ys++[y])))
   else ∃ m',m' < m∧W (i+1) m' σ2 H4)
def tLC (js:List (Option Nat)) (wi:TI) (g:TG) (tt:TT) (te:TE):TE:=fun σ H Q=>wi σ H fun J H1=> ∀ D,H1 D=none→LcW J D g tt te Q (capSt js σ) H1
structure LcScope (X:Cx) (scope:Scope) (N:List Str) (js:List (Option Nat)):Prop where
 kind:scope.kind= .function
 nocell: ∀ y∈scope.names,y.2≠.cell
 names: ∀ y∈scope.names,y.2= .local→scope.names.lookup y.1=some .local
 free: ∀ y∈scope.names,y.2= .free→X.env.scope.names.lookup y.1=some .cell∨X.env.scope.names.lookup y.1=some .free
 len:js.length=N.length
 cap: ∀ (i:Nat) (y:Str) (j:Nat),N[i]?=some y→js[i]?=some (some j)→X.N[j]?=some y∧scope.names.lookup y=some .free
def relF (env:Env) (p:Str×NameKind):Str×NameKind:=if(p.2==NameKind.free&&env.scope.kind== .function&&env.kindOf p.1==some .cell) then(p.1,NameKind.cell) else(p.1,p.2)
theorem relF_fst (env:Env) (p:Str×NameKind):(relF env p).1=p.1:=by unfold relF;split<;>rfl
theorem rel_free: ∀ {names:List (Str×NameKind)} {x:Str},names.lookup x=some .free→(names.map (relF env)).lookup x=some .cell∨(names.map (relF env)).lookup x=some .free
 |[],_,h=>by simp at h
 |p::r,x,h=>by
  rw[List.map_cons,List.lookup_cons,relF_fst]
  rw[List.lookup_cons] at h
  cases hx:x==p.1 with
  |true=>
   rw[hx] at h
   have h':p.2= .free:=by simpa using h
   have e:(relF env p).2= .cell∨(relF env p).2= .free:=by
    unfold relF
    split
    ·exact .inl rfl
    ·exact .inr h'
   rcases e with e|e
   ·exact .inl (congrArg some e)
   ·exact .inr (congrArg some e)
  |false=>
   rw[hx] at h
   exact rel_free (env:=env) h
theorem rel_back: ∀ {names:List (Str×NameKind)} {x:Str},((names.map (relF env)).lookup x=some .cell∨(names.map (relF env)).lookup x=some .free)→(x,NameKind.free)∈names∨(x,NameKind.cell)∈names
 |[],_,h=>by simp at h
 |p::r,x,h=>by
  rw[List.map_cons,List.lookup_cons,relF_fst] at h
  cases hx:x==p.1 with
  |true=>
   rw[hx] at h
   have hx':x=p.1:=by simpa using hx
   have h2:(relF env p).2= .cell∨(relF env p).2= .free:=h.elim (fun z=>.inl (Option.some.inj z)) fun z=>.inr (Option.some.inj z)
   have e:p.2= .free∨p.2= .cell:=by
    by_cases hc:(p.2==NameKind.free&&env.scope.kind== .function&&env.kindOf p.1==some .cell)=true
    ·simp only[Bool.and_eq_true] at hc
     exact .inl (by simpa using hc.1.1)
    ·have e2:relF env p=(p.1,p.2):=by unfold relF;rw[if_neg hc]
     rw[e2] at h2
     exact h2.symm
   rcases e with e|e
   ·exact .inl (by rw[hx',←e];exact List.mem_cons_self)
   ·exact .inr (by rw[hx',←e];exact List.mem_cons_self)
  |false=>
   rw[hx] at h
   rcases rel_back h with q|q
   ·exact .inl (List.mem_cons_of_mem _ q)
   ·exact .inr (List.mem_cons_of_mem _ q)
section
variable {X:Cx} {pZ:List (Addr×Obj)} {σ:St} {H:Hp} {s:Shared} {scope:Scope} {N:List Str} {js:List (Option Nat)} {fp:List Addr}
theorem LcScope.clos (L:LcScope X scope N js) (ok:X.Ok): ∀ p∈scope.names,p.2= .free→∃ c,X.env.cells.lookup p.1=some c:=fun p hp hf=>ok.has p.1 (L.free p hp hf)
theorem LcScope.ok (L:LcScope X scope N js) (I:Inv X pZ σ H s) (hc:X.calm=true) (hf: ∀ b∈fp,FpOk X pZ H b) (ho: ∀ b∈fp,∃ o,s.heap.get? b=some o):(cxC X scope N s H fp (X.pn++pZ)).Ok where
 mod:=I.ok.mod
 kind:=L.kind
 glob:=I.ok.glob
 blt:=I.ok.blt
 above:=Nat.le_refl _
 inj:=fun x y c h1 h2=>I.ok.inj x y c (cl_sound _ _ _ (fun _ _ e=>by simp at e) x c h1) (cl_sound _ _ _ (fun _ _ e=>by simp at e) y c h2)
 has:=fun x hx=>by
  have hx':(scope.names.map (relF X.env)).lookup x=some .cell∨(scope.names.map (relF X.env)).lookup x=some .free:=hx
  rcases rel_back hx' with q|q
  ·exact cl_has _ _ _ x q (L.clos I.ok _ q rfl)
  ·exact absurd rfl (L.nocell _ q)
 cab:=fun x c h _=>by cases h
 hd:=fun _=>I.ok.hd hc
 frames:=I.ok.frames
 stk:=.inl rfl
 exf:=fun b hb=>by
  obtain⟨o,e⟩:=ho b hb
  refine⟨Nat.ne_of_lt (Heap.lt_size e),fun x c h=>(hf b hb).2.2.2.2.1 x c (cl_sound _ _ _ (fun _ _ e=>by simp at e) x c h)⟩
 bs:=I.bs
 bsz:=Nat.le_trans I.ok.bsz I.sz
 noex:=fun b o e hb=>by
  rcases(hf b hb).2.2.2.1 with z|z
  ·exact I.ok.noex b o e z
  ·exact absurd (Nat.lt_of_lt_of_le (Heap.lt_size e) (Nat.le_trans I.ok.bsz z)) (Nat.lt_irrefl _)
 exfs:=fun b hb z=>by
  rcases List.mem_cons.mp (I.stkSub b z) with e|e
  ·exact(hf b hb).2.1 e
  ·exact(hf b hb).2.2.1 e
 funs:=I.stack
 frf:=I.stkFree
theorem LcScope.start (L:LcScope X scope N js) (I:Inv X pZ σ H s) (hc:X.calm=true) (hf: ∀ b∈fp,FpOk X pZ H b) (ho: ∀ b∈fp,∃ o,s.heap.get? b=some o)
  (hn:h'.Ns s.heap.objs.size (fun _=>none)) (hk: ∀ b o,s.heap.get? b=some o→h'.get? b=some o):
  Inv (cxC X scope N s H fp (X.pn++pZ)) [] (capSt js σ) H {s with heap:=h',toks:=tk}:=by
 refine⟨L.ok I hc hf ho,rfl,I.bare,Un.kept hk,⟨_,hn,fun i y v e1 e2 e3=>?_⟩,fun x c e=>?_,I.hok.fresh (Nat.le_refl _),fun x c e=>?_,fun p hp=>?_,I.hok.kept hk,?_⟩
 ·unfold capSt at e2
  rw[List.getElem?_map] at e2
  cases ej:js[i]? with
  |none=>rw[ej] at e2;cases e2
  |some o=>
   rw[ej] at e2
   cases o with
   |none=>simp at e2
   |some j=>
    simp only[Option.map_some,Option.some.injEq] at e2
    have es:σ[j]?=some (some v):=by
     cases q:σ[j]? with
     |none=>rw[q] at e2;simp at e2
     |some z=>rw[q] at e2;simp at e2;rw[e2]
    obtain⟨en,ef⟩:=L.cap i y j e1 ej
    have em:(y,NameKind.free)∈scope.names:=PySem.mem_of_lookup ef
    have ek:=L.free _ em rfl
    obtain⟨m,_,hl⟩:=I.loc
    obtain⟨u,r,l⟩:=hl j y v en es (ek.elim (fun z=>.inr (.inl z)) fun z=>.inr (.inr z))
    refine⟨u,r,.inr ⟨rel_free ef,?_⟩⟩
    rcases l with⟨l,_⟩|⟨_,c,ec,z⟩
    ·have l':X.env.scope.names.lookup y=some .local:=l
     rcases ek with ek|ek<;>(rw[ek] at l';cases l')
    ·obtain⟨c',hc'⟩:=cl_has X.env.cells scope.names [] y em ⟨c,ec⟩
     have e':=cl_sound X.env.cells scope.names [] (fun _ _ e=>by simp at e) y c' hc'
     rw[ec] at e';cases e'
     obtain⟨o,ho,hd⟩:=z
     exact⟨c,hc',⟨o,hk c o ho,hd⟩⟩
 ·obtain⟨v,o,ho,hd⟩:=I.cell x c (cl_sound _ _ _ (fun _ _ e=>by simp at e) x c e)
  exact⟨v,o,hk c o ho,hd⟩
 ·exact I.freeC x c (cl_sound _ _ _ (fun _ _ e=>by simp at e) x c e)
 ·have hp':p∈X.pn++pZ:=by simpa[cxC] using hp
  obtain⟨e,n,ne,nf,d⟩:=I.pin p hp'
  refine⟨hk _ _ e,n,Nat.ne_of_lt (Heap.lt_size e),fun z=>?_,d⟩
  rcases List.mem_cons.mp (I.stkSub _ z) with q|q
  ·exact ne q
  ·exact nf q
 ·unfold capSt
  rw[List.length_map]
  exact L.len
theorem lc_end (I:Inv X pZ σ H s) (hf: ∀ b∈fp,FpOk X pZ H b) (J:Inv (cxC X scope N s H fp (X.pn++pZ)) ps σ' H' s'):
  Inv X pZ σ H' s'∧FpOk X pZ H' s.heap.objs.size∧∃ m,s'.heap.Ns s.heap.objs.size m:=by
 refine⟨I.call' (ch:=fp) J.os J.base J.hok J.bare fun b hb=>⟨(hf b hb).2.2.2.1,(hf b hb).2.1,(hf b hb).2.2.2.2.1,(hf b hb).2.2.2.2.2⟩,I.fpOk (Nat.le_refl _) J.free,?_⟩
 obtain⟨m,hn,_⟩:=J.loc
 exact⟨m,hn⟩
theorem Inv.gone {H':Hp} {s':Shared} {C:Addr} {h':Heap} {m:Str→Option Value} (I:Inv X pZ σ H' s') (f:FpOk X pZ H' C) (hs:Heap.SameBut C s'.heap h'):Inv X pZ σ H' {s' with heap:=h'}:=
 I.turned (t':=s'.toks) (it:=C) (fun b o hb e=>(hs.2 b hb).trans e) f.1 f.2.1 f.2.2.2.1 f.2.2.2.2.1 f.2.2.2.2.2
theorem lc_loop {iter:Expr} {Q:VK} {R:Value→Addr→Result→Shared→Prop}
  (L:LcScope X scope N js) (hc:X.calm=true)
  (hg: ∀ s₀ H₀ ex pn,PG (cxC X scope N s₀ H₀ ex pn) target g) (ht: ∀ s₀ H₀ ex pn,PTs (cxC X scope N s₀ H₀ ex pn) ifs tt) (he: ∀ s₀ H₀ ex pn,PE (cxC X scope N s₀ H₀ ex pn) elt te)
  (I:Inv X pZ σ H s) (T:Turn X.prog X.w X.K target J fp it tn) (st:tn 0 s.heap) (hf: ∀ b∈fp,FpOk X pZ H b) {h₁:Heap} {tk:Nat} (I3:Inv X pZ σ (upd H D (.lst [])) s3) (hDl: ∀ b o,s.heap.get? b=some o→b≠D) (k3: ∀ b o,s.heap.get? b=some o→s3.heap.get? b=some o)
  (hns₁:h₁.Ns s3.heap.objs.size (fun _=>none)) (kk: ∀ b o,s3.heap.get? b=some o→h₁.get? b=some o)
  (w: ∃ W:Nat→Nat→St→Hp→Prop,(∃ m,W 0 m (capSt js σ) (upd H D (.lst [])))∧∀ i m σ' H',W i m σ' H'→
   (J.stop i H'∧Q (.ref D) H')∨(J.go i H'∧∀ x H2,J.yld i H' x H2→g x σ' H2 fun σ2 H3=>tt σ2 H3 fun ok H4=>
    if ok=true then te σ2 H4 fun y H5=> ∃ ys,H5 D=some (.lst ys)∧ys.length < sizeLine∧∃ m',m' < m∧W (i+1) m' σ2 (upd H5 D (.lst (ys++[y])))
    else ∃ m',m' < m∧W (i+1) m' σ2 H4))
  (hR: ∀ C s' H',Inv X pZ σ H' s'→FpOk X pZ H' C→(∃ m,s'.heap.Ns C m)→Q (.ref D) H'→R (.ref D) C (.ok .next) s'):
  codeAny (model X.prog X.w) X.A (.compStart (.ListComp elt [⟨target,iter,ifs,0⟩] scope pos) 0 (.ref it) (.ref D) {newEnv scope s3.heap.objs.size X.env.globals (clOf scope.names X.env.cells) X.env.qual none .none (some X.env) builtinsNs with scope:=relabel scope X.env}) (R (.ref D) s3.heap.objs.size) {s3 with heap:=h₁,toks:=tk}:=by
 have obj:=T.obj 0 s.heap st
 have ho3: ∀ b∈fp,∃ o,s3.heap.get? b=some o:=fun b hb=>by obtain⟨o,e,_⟩:=obj b hb;exact⟨o,k3 b o e⟩
 have hf3: ∀ b∈fp,FpOk X pZ (upd H D (.lst [])) b:=fun b hb=>by
  refine⟨?_,(hf b hb).2⟩
  obtain⟨o,e,_⟩:=obj b hb
  rw[upd_ne (hDl b o e)]
  exact(hf b hb).1
 have I4:Inv (cxC X scope N s3 (upd H D (.lst [])) fp (X.pn++pZ)) [] (capSt js σ) (upd H D (.lst [])) {s3 with heap:=h₁,toks:=tk}:=
  L.start I3 hc hf3 ho3 hns₁ kk
 obtain⟨W,⟨m0,w0⟩,turn⟩:=w
 have st4:tn 0 h₁:=T.keep 0 _ _ st fun b _ o e=>kk b o (k3 b o e)
 generalize hX:cxC X scope N s3 (upd H D (.lst [])) fp (X.pn++pZ)=Y at I4
 have fpY: ∀ b∈fp,b≠Y.env.locals∧b∉Y.fs∧(b∈Y.ex∨Y.s₀.heap.objs.size≤b)∧(∀ x c,Y.env.cells.lookup x=some c→c≠b)∧∀ p∈Y.pn++[],p.1≠b:=fun b hb=>by
  rw[←hX]
  obtain⟨o,e⟩:=ho3 b hb
  refine⟨Nat.ne_of_lt (Heap.lt_size e),fun z=>?_,.inl hb,fun x c h=>(hf b hb).2.2.2.2.1 x c (cl_sound _ _ _ (fun _ _ e=>by simp at e) x c h),fun p hp=>(hf b hb).2.2.2.2.2 p (by simpa[cxC] using hp)⟩
  rcases List.mem_cons.mp (I3.stkSub b z) with q|q
  ·exact(hf b hb).2.1 q
  ·exact(hf b hb).2.2.1 q
 have loop:codeAny (model X.prog X.w) X.A (.compLoop (.ListComp elt [⟨target,iter,ifs,0⟩] scope pos) 0 (.ref it) (.ref D) Y.env) (R (.ref D) s3.heap.objs.size) {s3 with heap:=h₁,toks:=tk}:=by
  have pr:Y.prog=X.prog:=by rw[←hX];rfl
  have pw:Y.w=X.w:=by rw[←hX];rfl
  have pK:Y.K=X.K:=by rw[←hX];rfl
  have pA:Y.A=X.A:=by rw[←hX];rfl
  have pc:Y.calm=true:=by rw[←hX];rfl
  have px:Y.xe=fun _ _=>False:=by rw[←hX];rfl
  have stat: ∀ {H':Hp},(∀ b∈fp,H' b=none)→∀ b∈fp,FpOk Y [] H' b:=fun hn b hb=>⟨hn b hb,fpY b hb⟩
  refine comp_loop (fun n s'=> ∃ i σ' H',Inv Y [] σ' H' s'∧tn i s'.heap∧(∀ b∈fp,H' b=none)∧W i n σ' H') ?_ m0 ⟨0,_,_,I4,st4,fun b hb=>(hf3 b hb).1,w0⟩
  rintro n s5 ⟨i,σ5,H5,I5,st5,fr5,w5⟩
  have gY:PG Y target g:=by rw[←hX];exact hg _ _ _ _
  have tY:PTs Y ifs tt:=by rw[←hX];exact ht _ _ _ _
  have eY:PE Y elt te:=by rw[←hX];exact he _ _ _ _
  unfold PG at gY;unfold PTs at tY;unfold PE at eY
  rw[pr,pw,pA,px] at gY tY eY
  have ap:=mt_append (X:=Y)
  unfold MtM at ap
  rw[pr,pw,pA,px] at ap
  rcases turn i n σ5 H5 w5 with⟨stop,q⟩|⟨go,step⟩
  ·have d:=T.done Y pr pw pK pc i [] s5 σ5 H5 (fun _ _=>False) I5 (stat fr5) st5 stop
   rw[pA] at d
   refine thn d fun r s6 ⟨hr,I6⟩=>?_
   subst hr
   have I6':Inv (cxC X scope N s3 (upd H D (.lst [])) fp (X.pn++pZ)) [] σ5 H5 s6:=by rw[hX];exact I6
   obtain⟨a1,a2,a3⟩:=lc_end I3 hf3 I6'
   exact hR _ s6 H5 a1 a2 a3 q
  ·have d:=T.item Y pr pw pK pc i [] s5 σ5 H5 (fun _ _=>False) I5 (stat fr5) st5 go
   rw[pA] at d
   refine thn d fun r s6 ⟨u,hr,h6⟩=>?_
   subst hr
   refine thn h6 fun _ s7 ⟨x,H7,I7,r7,y7,st7,fr7⟩=>?_
   have I7':=I7.pinned (stat fr7) (T.obj _ _ st7)
   refine thn (gY _ s7 σ5 H7 x u _ I7' r7 (step x H7 y7)) fun _ s8 ⟨σ8,H8,I8,q8⟩=>?_
   have again: ∀ {σ9:St} {H9:Hp} {s9:Shared},Inv Y ([]++pinsAt fp s7.heap) σ9 H9 s9→(∃ m',m' < n∧W (i+1) m' σ9 H9)→∃ m,m < n∧∃ i σ' H',Inv Y [] σ' H' s9∧tn i s9.heap∧(∀ b∈fp,H' b=none)∧W i m σ' H':=fun {σ9 H9 s9} I9 ⟨m',hm,w9⟩=>by
    refine⟨m',hm,i+1,σ9,H9,I9.unpinned,T.keep _ _ _ st7 fun b hb o e=>(I9.pin (b,o) (List.mem_append_right _ (List.mem_append_right _ (mem_pinsAt hb e)))).1,fun b hb=>?_,w9⟩
    obtain⟨o,e,d⟩:=T.obj _ _ st7 b hb
    exact(I9.pin (b,o) (List.mem_append_right _ (List.mem_append_right _ (mem_pinsAt hb e)))).2.1
   refine thn (tY _ s8 σ8 H8 _ I8 q8) fun ok s9 ⟨H9,I9,q9⟩=>?_
   cases ok with
   |false=>
    rw[if_neg (by decide)] at q9
    rw[if_neg (by decide)]
    exact again I9 q9
   |true=>
    rw[if_pos rfl] at q9
    rw[if_pos rfl]
    refine thn (eY _ s9 σ8 H9 _ I9 q9) fun v s10 ⟨y,H10,I10,r10,ys,eys,lys,q10⟩=>?_
    refine thn (ap _ s10 σ8 H10 (.ref D) [y] (.ref D) [v] (fun _ H'=> ∃ m',m' < n∧W (i+1) m' σ8 H') I10 rfl (.cons r10 .nil) ⟨D,ys,y,rfl,rfl,eys,lys,q10⟩) fun v2 s11 ⟨y2,H11,I11,_,q11⟩=>?_
    exact again I11 q11
 have ee:({newEnv scope s3.heap.objs.size X.env.globals (clOf scope.names X.env.cells) X.env.qual none .none (some X.env) builtinsNs with scope:=relabel scope X.env}:Env)=Y.env:=by rw[←hX];rfl
 rw[ee]
 exact codeAny_compStart_list loop (T.self _ 0 _ _ _ st4 loop)
theorem lc_block {elt target iter:Expr} {ifs:List Expr} {pos:Pos} {g:TG} {tt:TT} {te:TE} {it:Addr} {tn:Nat→Heap→Prop} {J:It} {Q:VK} {E:Value→Shared→Prop} {R:Value→Addr→Result→Shared→Prop}
  (L:LcScope X scope N js) (hc:X.calm=true)
  (hg: ∀ s₀ H₀ ex pn,PG (cxC X scope N s₀ H₀ ex pn) target g) (ht: ∀ s₀ H₀ ex pn,PTs (cxC X scope N s₀ H₀ ex pn) ifs tt) (he: ∀ s₀ H₀ ex pn,PE (cxC X scope N s₀ H₀ ex pn) elt te)
  (I:Inv X pZ σ H s) (T:Turn X.prog X.w X.K target J fp it tn) (st:tn 0 s.heap) (hf: ∀ b∈fp,FpOk X pZ H b)
  (w: ∀ D,H D=none→∃ W:Nat→Nat→St→Hp→Prop,(∃ m,W 0 m (capSt js σ) (upd H D (.lst [])))∧∀ i m σ' H',W i m σ' H'→
   (J.stop i H'∧Q (.ref D) H')∨(J.go i H'∧∀ x H2,J.yld i H' x H2→g x σ' H2 fun σ2 H3=>tt σ2 H3 fun ok H4=>
    if ok=true then te σ2 H4 fun y H5=> ∃ ys,H5 D=some (.lst ys)∧ys.length < sizeLine∧∃ m',m' < m∧W (i+1) m' σ2 (upd H5 D (.lst (ys++[y])))
    else ∃ m',m' < m∧W (i+1) m' σ2 H4))
  (hR: ∀ D C s' H',Inv X pZ σ H' s'→FpOk X pZ H' C→(∃ m,s'.heap.Ns C m)→Q (.ref D) H'→R (.ref D) C (.ok .next) s'):
  wpAny (model X.prog X.w) X.A (newList []) (fun acc s₃=>wpAny (model X.prog X.w) X.A (newFunctionEnv scope X.env.globals (clOf scope.names X.env.cells) [] X.env.qual none .none (some X.env)) (fun cenv s₄=>
   codeAny (model X.prog X.w) X.A (.compStart (.ListComp elt [⟨target,iter,ifs,0⟩] scope pos) 0 (.ref it) acc {cenv with scope:=relabel scope X.env}) (R acc cenv.locals) s₄) E s₃) E s:=by
 have I3:=I.lnew (t':=s.toks) (ys:=[]) (its:=[]) .nil (Nat.zero_le _)
 have hD:=I.fresh
 refine wpAny_newObj_type (wpAny_newFunctionEnv L.nocell (by intro y hy;simp at hy) (fun h₁ hns₁ hsb₁=>?_) L.kind)
 dsimp only at hns₁ hsb₁
 exact lc_loop (Q:=Q) (R:=R) (s3:={s with heap:=s.heap.push {cls:=.type "list",data:=.seq ([]:List Value).toArray},toks:=s.toks}) L hc hg ht he I T st hf I3 (fun b o e=>Nat.ne_of_lt (Heap.lt_size e)) (fun b o e=>Heap.get?_push_of_some _ e) hns₁
  (fun b o e=>hsb₁.extBut b o (Nat.ne_of_lt (Heap.lt_size e)) (Heap.get?_push_of_some _ e)) (w _ hD) (fun C=>hR _ C)
theorem pe_lc {elt target iter:Expr} {ifs:List Expr} {pos:Pos} {wi:TI} {g:TG} {tt:TT} {te:TE} (L:LcScope X scope N js) (hc:X.calm=true) (hi:PI X target iter wi)
  (hg: ∀ s₀ H₀ ex pn,PG (cxC X scope N s₀ H₀ ex pn) target g) (ht: ∀ s₀ H₀ ex pn,PTs (cxC X scope N s₀ H₀ ex pn) ifs tt) (he: ∀ s₀ H₀ ex pn,PE (cxC X scope N s₀ H₀ ex pn) elt te)
  (hs: ∀ x,foldedSetIterable iter X.env x=pure x:=by intro _;rfl):PE X (.ListComp elt [⟨target,iter,ifs,0⟩] scope pos) (tLC js wi g tt te):=by
 intro pZ s σ H Q I h
 rw[eval_ListComp]
 refine wpAny_comprehension_free (use:=none) rfl hs (closure_is (L.clos I.ok)) L.kind L.names (thn (hi pZ s σ H _ I h) fun v s1 h1=>thn h1 fun itv s2 h2=>?_)
 obtain⟨it,fp,tn,J,H2,e,I2,T,st2,f2,w⟩:=h2
 subst e
 refine lc_block (Q:=Q) (R:=fun acc C=>compPost (model X.prog X.w) X.A X.xe none (EP X pZ σ Q) acc C) L hc hg ht he I2 T st2 f2 w ?_
 intro D C s' H' I' f' ⟨m,hn⟩ q
 exact⟨m,hn,fun h' hs'=>⟨.ref D,H',I'.gone (m:=m) f' hs',rfl,q⟩⟩
theorem ps_lc {elt target iter:Expr} {ifs:List Expr} {pos spos py:Pos} {y:Str} {k:Nat} {wi:TI} {g:TG} {tt:TT} {te:TE} (hN:X.N.Nodup) (hk:X.N[k]?=some y) (hy:Loc X.env.scope y) (L:LcScope X scope N js) (hc:X.calm=true) (hi:PI X target iter wi)
  (hg: ∀ s₀ H₀ ex pn,PG (cxC X scope N s₀ H₀ ex pn) target g) (ht: ∀ s₀ H₀ ex pn,PTs (cxC X scope N s₀ H₀ ex pn) ifs tt) (he: ∀ s₀ H₀ ex pn,PE (cxC X scope N s₀ H₀ ex pn) elt te)
  (hsw:swapsWith (.ListComp elt [⟨target,iter,ifs,0⟩] scope pos) (some (.Name y py)) spos.line X.env=pure true:=by rfl)
  (hs: ∀ x,foldedSetIterable iter X.env x=pure x:=by intro _;rfl) (hf:X.fn y=true∨X.env.scope.names.lookup y=some .local:=by first|exact .inl rfl|exact .inr rfl|assumption):
  PS X (.Assign [.Name y py] (.ListComp elt [⟨target,iter,ifs,0⟩] scope pos) spos) (tAsg (tLC js wi g tt te) (gName k)):=by
 intro pZ s σ H D I h
 rw[exec_Assign_Name_used _ _ _ _ hsw]
 refine wpAny_bind (wpAny_standAt (wpAny_bind ?_))
 show wpAny _ X.A (do let _ ←comprehension (.ListComp elt [⟨target,iter,ifs,0⟩] scope pos) scope X.env _ (newList []) false (eval iter X.env) (some (assign (.Name y py) X.env))) _ _ s
 refine wpAny_bind (thn (wpAny_comprehension_free (Q:=fun _ s'=>SP X pZ D .next s') rfl hs (closure_is (L.clos I.ok)) L.kind L.names (thn (hi pZ s σ H _ I h) fun v s1 h1=>thn h1 fun itv s2 h2=>?_)) fun _ s' hq=>wpAny_pure (wpAny_pure hq))
 obtain⟨it,fp,tn,J,H2,e,I2,T,st2,f2,w⟩:=h2
 subst e
 refine lc_block (Q:=fun v H1=>D.nx (σ.set k (some v)) H1) (R:=fun acc C=>compPost (model X.prog X.w) X.A X.xe (some (assign (.Name y py) X.env)) (fun _ s'=>SP X pZ D .next s') acc C) L hc hg ht he I2 T st2 f2 w ?_
 intro A C s' H' I' f' ⟨m,hn⟩ q
 show wpAny _ _ (assign (.Name y py) X.env (.ref A)) _ _ s'
 refine wpAny_assign_Name (store_ok2 (v:=V.ref A) I' hN hk hy rfl (fun s2 I3 ⟨a,hsb,ha⟩=>?_) hf)
 have hca:C≠a:=by
  rintro rfl
  rcases ha with z|z
  ·exact f'.2.1 z
  ·exact f'.2.2.2.2.1 y _ z rfl
 exact⟨m,hn.sameBut hsb hca,fun h' hs'=>⟨_,H',I3.gone (m:=m) f' hs',q⟩⟩
end
def Itx (x:Str):It:=⟨fun i _=>i < x.cps.size,fun i H v H'=>H'=H∧∃ c,x.cps[i]?=some c∧v= .str ⟨#[c]⟩,fun i _=>i=x.cps.size⟩
theorem turn_text {P:Program} {w:World} {K:PySem.W.Frag} {tg:Expr} (it:Addr) (x:Str) (t:Tok) {ty:String}
  (hn:["enumerate","zip","dict_itemiterator","dict_reverseitemiterator","odict_iterator","itertools.zip_longest","itertools.pairwise"].contains ty=false)
  (Wk: ∀ A:Around,A.handled=none→Walks P w A it [it] [it] x.cps.size (SignAt x) (fun i h=>h.IsStrIter it ty x t i))
  (Sf: ∀ (A:Around) i (s:Shared) (Q:Value→Shared→Prop) (E:Value→Shared→Prop),s.heap.IsStrIter it ty x t i→Q (.ref it) s→wpAny (model P w) A (pyIter (.ref it)) Q E s):Turn P w K tg (Itx x) [it] it (fun i h=>h.IsStrIter it ty x t i) where
 mem:=by simp
 obj:=fun i h st b hb=>by
  have e:b=it:=by simpa using hb
  subst e
  obtain⟨o,e,c,d⟩:=st
  exact⟨o,e,fun v z=>by rw[d] at z;cases z⟩
 keep:=fun i h h' st k=>by
  obtain⟨o,e,c,d⟩:=st
  exact⟨o,k it (by simp) o e,c,d⟩
 item:=by
  intro X hP hw hK hc i pZ s σ H E I hf st hg
  subst hP hw hK
  obtain⟨f0,f1,f2,f3,f4,f5⟩:=hf it (by simp)
  refine(Wk X.A (I.ok.hd hc)).item i s _ _ hg st fun v h' tk hv st' kk=>?_
  obtain⟨c,u,hcx,rfl⟩:=hv
  have I1:Inv X pZ σ H {s with heap:=h',toks:=tk}:=I.turned (fun b o hb e=>kk b o (by simpa using hb) e) f0 f1 f3 f4 f5
  obtain⟨o,e,oc,d⟩:=id st'
  exact⟨_,rfl,go_of (s:={s with heap:=h',toks:=tk}) e oc d hn ⟨.str ⟨#[c]⟩,H,I1,⟨u,rfl⟩,⟨rfl,c,hcx,rfl⟩,st',fun b hb=>(hf b hb).1⟩⟩
 done:=by
  intro X hP hw hK hc i pZ s σ H E I hf st hg
  subst hP hw hK
  have hg':i=x.cps.size:=hg
  subst hg'
  obtain⟨f0,f1,f2,f3,f4,f5⟩:=hf it (by simp)
  exact(Wk X.A (I.ok.hd hc)).done s _ _ st fun h' tk kk=>⟨rfl,I.turned (fun b o hb e=>kk b o (by simpa using hb) e) f0 f1 f3 f4 f5⟩
 self:=fun A i s Q E st h=>Sf A i s Q E st h
section
variable {X:Cx} {tg:Expr}
theorem op_le_str:OpR X (compareOp .LtE) (fun x y H Q=> ∃ i j,x= .str i∧y= .str j∧Q (.bl (!decide (j.cps.toList < i.cps.toList))) H):=by
 intro pZ s σ H x y v u Q I rx ry h
 obtain⟨i,j,rfl,rfl,q⟩:=h
 obtain⟨t,rfl⟩:=rx
 obtain⟨t',rfl⟩:=ry
 exact PySem.P.le_str (fin_bl I q rfl)
theorem op_mulB:OpR X (binaryOp .Mult) (rI IntMulOk fun i j=>.int (i * j)):=opI fun _ _ _ _ _ _ _ hc q=>mul_int q hc
theorem op_powB:OpR X (binaryOp .Pow) (rI (fun i j=>0≤j∧(Builtin.Int.intBits i:Int) * j≤2 ^ 27) fun i j=>.int (i ^ j.toNat)):=opI fun _ _ _ _ _ _ _ hc q=>pow_int hc.1 hc.2 q
def rNil (K:PySem.W.Frag) (neg:Bool):R2:=fun x y H Q=> ∃ p q xs,x= .ref p∧y= .ref q∧SqL K H p xs∧SqL K H q []∧Q (.bl (xor neg xs.isEmpty)) H
theorem op_ne_nil (hu:X.A.units < cLine):OpR X (compareOp .NotEq) (rNil X.K true):=by
 intro pZ s σ H x y v u Q I rx ry h
 obtain⟨p,q,xs,rfl,rfl,h1,h2,hq⟩:=h
 cases rx;cases ry
 obtain⟨its,r1,l1,_⟩:=I.list h1
 obtain⟨its2,r2,l2,_⟩:=I.list h2
 cases r2
 cases xs with
 |nil=>
  cases r1
  exact SeqAt.RcNeAt.lists (e:=fun _=>true) l1.isList l2.isList rfl hu (fun j a _=>by simp at a) _ _ _ _ (fin_bl I hq rfl)
 |cons y ys=>
  have e:=r1.length
  exact SeqAt.RcNeAt.lists_lengths l1.isList l2.isList (by simp;intro z;subst z;simp at e) hu _ _ _ _ (fin_bl I hq rfl)
theorem bl_at {bs:List Bool} (r:Vals (bs.map V.bl) its) (i:Nat) (v:Value) (e:its[i]?=some v): ∃ b,bs[i]?=some b∧v= .bool b:=by
 have hl:=r.length
 rw[List.length_map] at hl
 have hi:i < bs.length:=by rw[hl];exact(List.getElem?_eq_some_iff.mp e).1
 obtain⟨u,h1,h2⟩:=r.get (x:=V.bl bs[i]) (by rw[List.getElem?_map,List.getElem?_eq_getElem hi];rfl)
 rw[e] at h1;cases h1
 exact⟨bs[i],List.getElem?_eq_getElem hi,h2⟩
theorem range_all' (bs:List Bool):((List.range bs.length).all fun i=>(bs[i]?).getD true)=bs.all id:=by
 rw[Bool.eq_iff_iff,List.all_eq_true,List.all_eq_true]
 constructor
 ·intro h b hb
  obtain⟨i,hi,e⟩:=List.getElem_of_mem hb
  have:=h i (List.mem_range.mpr hi)
  rw[List.getElem?_eq_getElem hi,e] at this
  exact this
 ·intro h i hi
  have hi':=List.mem_range.mp hi
  rw[List.getElem?_eq_getElem hi']
  exact h _ (List.getElem_mem hi')
theorem call_all (hc:X.calm=true):CallR X (.builtin "all") (fun xs H Q=> ∃ (p:Addr) (bs:List Bool),xs=[.ref p]∧SqL X.K H p (bs.map V.bl)∧Q (.bl (bs.all id)) H):=by
 intro pZ s σ H xs us Q I r h
 obtain⟨p,bs,rfl,hq,q⟩:=h
 obtain⟨u,rfl,rx⟩:=vals1 r
 cases rx
 obtain⟨its,r',pl,hz⟩:=I.list hq
 have hl:=pl.isList
 have hlt:p < s.heap.objs.size:=by obtain⟨_,e,_⟩:=hl;exact Heap.lt_size e
 have hlen:=r'.length
 rw[List.length_map] at hlen
 refine call_all_walk (wpAny_pyIter_list hl ?_)
 refine⟨s.heap.objs.size,[s.heap.objs.size,p],[s.heap.objs.size],its.toArray.size,_,_,fun i=>(bs[i]?).getD true,rfl,Walks.list (A:=X.A.in1) (I.ok.hd hc) _ p (Nat.ne_of_lt hlt) its.toArray,
  ⟨⟨_,Heap.get?_push_size _ rfl,rfl,rfl⟩,hl.push _⟩,fun i v s' Q' E' hP hQ=>?_,fun h' tk hk=>?_⟩
 ·obtain⟨b,e,rfl⟩:=bl_at r' i v (by simpa using hP)
  simp only[e,Option.getD_some] at hQ
  exact wpAny_truthy_bool hQ
 ·refine⟨.bl (bs.all id),H,I.kept (fun b o e=>hk b o (fun hm=>?_) (Heap.get?_push_of_some _ e)),?_,q⟩
  ·rw[List.mem_singleton.mp hm] at e;exact Nat.lt_irrefl _ (Heap.lt_size e)
  ·show Value.bool _=Value.bool _
   rw[List.size_toArray,←hlen,range_all']
theorem strs_of: ∀ {ys:List Str} {us:List Value},Vals (ys.map V.str) us→StrsAre us ys
 |[],us,r=>by rw[List.map_nil] at r;cases r;exact .nil
 |y::ys,us,r=>by
  rw[List.map_cons] at r
  cases r with
  |cons h t=>obtain⟨t',rfl⟩:=h;exact .cons y t' (strs_of t)
theorem mt_join:MtR X "str.join" (fun x xs H Q=> ∃ (sep:Str) (p:Addr) (ys:List Str),x= .str sep∧xs=[.ref p]∧SqL X.K H p (ys.map V.str)∧(ys.map (·.length)).sum+ys.length * sep.length≤16777216∧Q (.str (Txt.join sep ys)) H):=by
 intro pZ s σ H x xs v us Q I rx rv h
 obtain⟨sep,p,ys,rfl,rfl,hq,hz,q⟩:=h
 obtain⟨t,rfl⟩:=rx
 obtain⟨u,rfl,ru⟩:=vals1 rv
 cases ru
 obtain⟨its,r',pl,_⟩:=I.list hq
 exact join_list pl.isList (by simpa using strs_of r') hz fun t' k=>⟨.str (Txt.join sep ys),H,I.tok _,⟨_,rfl⟩,q⟩
end
noncomputable def lcOk (scope es:Scope) (XN N:List Str) (js:List (Option Nat)):Bool:=
 (scope.kind== .function)&&scope.names.all (fun y=>y.2 != .cell&&(y.2 != .local||scope.names.lookup y.1==some .local)&&(y.2 != .free||es.names.lookup y.1==some .cell||es.names.lookup y.1==some .free))&&
 (js.length==N.length)&&(List.range N.length).all (fun i=>match N[i]?,js[i]? with|some y,some (some j)=>XN[j]?==some y&&scope.names.lookup y==some .free|_,_=>true)
theorem LcScope.mk2 (es:Scope) (XN:List Str) (h1:X.env.scope=es) (h2:X.N=XN) (h:lcOk scope es XN N js=true):LcScope X scope N js:=by
 unfold lcOk at h
 simp only[Bool.and_eq_true,List.all_eq_true] at h
 obtain⟨⟨⟨ha,hb⟩,hc⟩,hd⟩:=h
 refine⟨by simpa using ha,fun y hy=>?_,fun y hy hl=>?_,fun y hy hl=>?_,by simpa using hc,fun i y j e1 e2=>?_⟩
 ·have:=(hb y hy).1.1
  simpa using this
 ·have:=(hb y hy).1.2
  rw[hl] at this
  simpa using this
 ·have:=(hb y hy).2
  rw[hl] at this
  rw[h1]
  simpa using this
 ·have hi:i < N.length:=(List.getElem?_eq_some_iff.mp e1).1
  have:=hd i (List.mem_range.mpr hi)
  rw[e1,e2] at this
  simp only[Bool.and_eq_true] at this
  rw[h2]
  exact⟨by simpa using this.1,by simpa using this.2⟩
def isStar:Expr→Bool
 | .Starred .. =>true
 |_=>false
theorem star1 (h:isStar e=false):starEach (e::es) env=(false,eval e env)::starEach es env:=by
 cases e<;>first
  |rfl
  |(exfalso;exact Bool.noConfusion h)
theorem pa_c (ha:PE X e te) (hr:PA X es t) (h:isStar e=false:=by rfl):PA X (e::es) (tCons te t):=pa_cons ha hr (star1 h)
theorem same_new (h:H p=none) (o:HO):Same H (upd H p o):=fun b u q=>by rw[upd_ne (ne_of_none q h)];exact q
section
structure Bx (p:Prop):Prop where
 out:p
abbrev BE (X:Cx) (e:Expr) (t:TE):Prop:=Bx (PE X e t)
abbrev BT (X:Cx) (e:Expr) (t:TT):Prop:=Bx (PT X e t)
abbrev BW (X:Cx) (e:Expr) (t:TT):Prop:=Bx (PW X e t)
abbrev BA (X:Cx) (es:List Expr) (t:TA):Prop:=Bx (PA X es t)
abbrev BS (X:Cx) (st:Stmt) (t:TS):Prop:=Bx (PS X st t)
abbrev BSs (X:Cx) (st:List Stmt) (t:TS):Prop:=Bx (PSs X st t)
abbrev BI (X:Cx) (tg iter:Expr) (t:TI):Prop:=Bx (PI X tg iter t)
abbrev BG (X:Cx) (tg:Expr) (t:TG):Prop:=Bx (PG X tg t)
abbrev BGs (X:Cx) (ts:List Expr) (t:TGs):Prop:=Bx (PGs X ts t)
abbrev BO (X:Cx) (e:Option Expr) (t:TO):Prop:=Bx (PO X e t)
abbrev BTs (X:Cx) (ifs:List Expr) (t:TT):Prop:=Bx (PTs X ifs t)
set_option genInjectivity true in
inductive PV where
 |non|bl (b:Bool)|int (i:Int)|str (x:Str)|tup (l:List PV)|lst (l:List PV)|dct (kvs:List (Key×PV))|scr (ns:List Int)|bag
set_option genInjectivity true in
inductive M (α:Type) where
 |fail|ret (a:α)|draw (m:Int) (k:Int→M α)
namespace M
variable {α β γ:Type}
def bind:M α→(α→M β)→M β
 |fail,_=>fail
 |ret a,f=>f a
 |draw m k,f=>draw m fun d=>(k d).bind f
def wp:M α→Nat→(α→Nat→Prop)→Prop
 |fail,_,_=>False
 |ret a,n,Q=>Q a n
 |draw m k,n,Q=>0 < m∧m < 1073741824∧∃ n',n=n'+1∧∀ d,0≤d→d < m→(k d).wp n' Q
theorem wZ (m:M α) (f:α→M β): ∀ (n:Nat) (Q:β→Nat→Prop),(m.bind f).wp n Q=m.wp n fun a n'=>(f a).wp n' Q:=by
 induction m with
 |fail=>intro n Q;rfl
 |ret a=>intro n Q;rfl
 |draw m k ih=>intro n Q;simp only[bind,wp,ih]
theorem wp_mono {m:M α}: ∀ {n:Nat} {Q Q':α→Nat→Prop},m.wp n Q→(∀ a n',Q a n'→Q' a n')→m.wp n Q':=by
 induction m with
 |fail=>intro n Q Q' h _;exact h
 |ret a=>intro n Q Q' h f;exact f _ _ h
 |draw m k ih=>
  intro n Q Q' h f
  obtain⟨h1,h2,n',e,h3⟩:=h
  exact⟨h1,h2,n',e,fun d a b=>ih d (h3 d a b) f⟩
theorem bZ (m:M α) (f:α→M β) (g:β→M γ):(m.bind f).bind g=m.bind fun a=>(f a).bind g:=by
 induction m with
 |fail=>rfl
 |ret a=>rfl
 |draw m k ih=>simp only[bind,ih]
@[simp] theorem rY (a:α) (f:α→M β):(ret a).bind f=f a:=rfl
def ofO:Option α→M α
 |some a=>ret a
 |none=>fail
end M
theorem rZ (a:α) (f:α→M β):(M.ret a).bind f=f a:=rfl
inductive Rep (B:Addr) (O:Addr→Prop) (H:Hp):PV→V→Prop where
 |non:Rep B O H .non .non
 |bl (b:Bool):Rep B O H (.bl b) (.bl b)
 |int (i:Int):Rep B O H (.int i) (.int i)
 |str (x:Str):Rep B O H (.str x) (.str x)
 |tup {p:Addr} {xs:List V} {l:List PV} (hO: ¬ O p) (h:H p=some (.tup xs)) (hl:l.length=xs.length) (hr: ∀ (i:Nat) (y:PV) (x:V),l[i]?=some y→xs[i]?=some x→Rep B O H y x):Rep B O H (.tup l) (.ref p)
 |lst {p:Addr} {xs:List V} {l:List PV} (hO: ¬ O p) (h:H p=some (.lst xs)) (hl:l.length=xs.length) (hr: ∀ (i:Nat) (y:PV) (x:V),l[i]?=some y→xs[i]?=some x→Rep B O H y x):Rep B O H (.lst l) (.ref p)
 |dct {p:Addr} {ks:List (Key×V)} {l:List (Key×PV)} (hO: ¬ O p) (h:Rd H p (.dK ks)) (hk:l.map (·.1)=ks.map (·.1)) (hr: ∀ (i:Nat) (y:Key×PV) (x:Key×V),l[i]?=some y→ks[i]?=some x→Rep B O H y.2 x.2):Rep B O H (.dct l) (.ref p)
 |scr {p:Addr} {ns:List Int} (hO: ¬ O p) (h: ∃ o,H p=some (.frz o (.lst (ns.map V.int)))):Rep B O H (.scr ns) (.ref p)
 |bag:Rep B O H .bag (.ref B)
def Reps (B:Addr) (O:Addr→Prop) (H:Hp) (l:List PV) (xs:List V):Prop:=l.length=xs.length∧∀ (i:Nat) (y:PV) (x:V),l[i]?=some y→xs[i]?=some x→Rep B O H y x
def RepsK (B:Addr) (O:Addr→Prop) (H:Hp) (l:List (Key×PV)) (ks:List (Key×V)):Prop:=l.map (·.1)=ks.map (·.1)∧∀ (i:Nat) (y:Key×PV) (x:Key×V),l[i]?=some y→ks[i]?=some x→Rep B O H y.2 x.2
def Stand (H':Hp) (p:Addr):HO→Prop
 | .tbl _=> ∃ qs,H' p=some (.tbl qs)
 |o=>H' p=some o
theorem Stand.of (h:H' p=some o):Stand H' p o:=by
 cases o<;>first|exact h|exact⟨_,h⟩
theorem Stand.there (h:Stand H' p o): ∃ u,H' p=some u:=by
 cases o<;>first|exact⟨_,h⟩|(obtain⟨qs,e⟩:=h;exact⟨_,e⟩)
theorem Stand.to (h:Stand H' p o) (k: ∀ u,H' p=some u→Stand H2 p u):Stand H2 p o:=by
 cases o<;>first|exact k _ h|(obtain⟨qs,e⟩:=h;have q:=k (.tbl qs) e;exact q)
def Ext (B:Addr) (H H':Hp):Prop:= ∀ p o,p≠B→H p=some o→Stand H' p o
theorem Ext.refl (B:Addr) (H:Hp):Ext B H H:=fun _ _ _ h=>.of h
theorem Ext.trans (a:Ext B H H1) (b:Ext B H1 H2):Ext B H H2:=fun p o n h=>(a p o n h).to fun u e=>b p u n e
theorem Ext.new (h:H p=none) (o:HO):Ext B H (upd H p o):=fun q u _ e=>.of (by rw[upd_ne (ne_of_none e h)];exact e)
section
variable {B:Addr} {O O':Addr→Prop} {H H':Hp} {y:PV} {x:V} {l l':List PV} {xs xs':List V}
theorem Rep.keepS (h:Rep B O H y x) (hH: ∀ p o,¬ O p→H p=some o→Stand H' p o∧¬ O' p):Rep B O' H' y x:=by
 induction h with
 |non=>exact .non
 |bl b=>exact .bl b
 |int i=>exact .int i
 |str x=>exact .str x
 |tup hO h hl hr ih=>exact .tup (hH _ _ hO h).2 (hH _ _ hO h).1 hl ih
 |lst hO h hl hr ih=>exact .lst (hH _ _ hO h).2 (hH _ _ hO h).1 hl ih
 |scr hO h=>
  obtain⟨o,e⟩:=h
  exact .scr (hH _ _ hO e).2 ⟨o,(hH _ _ hO e).1⟩
 |dct hO h hl hr ih=>
  rcases h with h|⟨o,h⟩
  ·exact .dct (hH _ _ hO h).2 (.inl (hH _ _ hO h).1) hl ih
  ·exact .dct (hH _ _ hO h).2 (.inr ⟨o,(hH _ _ hO h).1⟩) hl ih
 |bag=>exact .bag
theorem Rep.keep (h:Rep B O H y x) (hH: ∀ p o,¬ O p→H p=some o→H' p=some o∧¬ O' p):Rep B O' H' y x:=h.keepS fun p o n q=>⟨.of (hH p o n q).1,(hH p o n q).2⟩
theorem Rep.ext (h:Rep B O H y x) (hB:O B) (e:Ext B H H'):Rep B O H' y x:=h.keepS fun p o n q=>⟨e p o (fun z=>n (z▸hB)) q,n⟩
theorem Rep.less (h:Rep B O H y x) (hO: ∀ p,O' p→O p):Rep B O' H y x:=h.keep fun p o n q=>⟨q,fun z=>n (hO p z)⟩
theorem Rep.grow (h:Rep B O H y x) (hO: ∀ p,O' p→O p∨H p=none):Rep B O' H y x:=h.keep fun p o n q=>⟨q,fun z=>by
 rcases hO p z with w|w
 ·exact n w
 ·rw[w] at q;cases q⟩
theorem Reps.keepS (h:Reps B O H l xs) (hH: ∀ p o,¬ O p→H p=some o→Stand H' p o∧¬ O' p):Reps B O' H' l xs:=⟨h.1,fun i y x a b=>(h.2 i y x a b).keepS hH⟩
theorem Reps.keep (h:Reps B O H l xs) (hH: ∀ p o,¬ O p→H p=some o→H' p=some o∧¬ O' p):Reps B O' H' l xs:=⟨h.1,fun i y x a b=>(h.2 i y x a b).keep hH⟩
theorem Reps.ext (h:Reps B O H l xs) (hB:O B) (e:Ext B H H'):Reps B O H' l xs:=⟨h.1,fun i y x a b=>(h.2 i y x a b).ext hB e⟩
theorem Reps.less (h:Reps B O H l xs) (hO: ∀ p,O' p→O p):Reps B O' H l xs:=⟨h.1,fun i y x a b=>(h.2 i y x a b).less hO⟩
theorem Reps.grow (h:Reps B O H l xs) (hO: ∀ p,O' p→O p∨H p=none):Reps B O' H l xs:=⟨h.1,fun i y x a b=>(h.2 i y x a b).grow hO⟩
theorem Reps.nil:Reps B O H [] []:=⟨rfl,fun i y x a=>by simp at a⟩
theorem Reps.cons (h:Rep B O H y x) (t:Reps B O H l xs):Reps B O H (y::l) (x::xs):=⟨by simp[t.1],fun i y' x' a b=>by
 cases i with
 |zero=>simp at a b;subst a b;exact h
 |succ i=>simp at a b;exact t.2 i y' x' a b⟩
theorem Reps.head (h:Reps B O H (y::l) (x::xs)):Rep B O H y x:=h.2 0 y x rfl rfl
theorem Reps.tail (h:Reps B O H (y::l) (x::xs)):Reps B O H l xs:=⟨by simpa using h.1,fun i y' x' a b=>h.2 (i+1) y' x' (by simpa using a) (by simpa using b)⟩
theorem Reps.nil_inv (h:Reps B O H [] xs):xs=[]:=List.eq_nil_of_length_eq_zero h.1.symm
theorem Reps.cons_inv (h:Reps B O H (y::l) xs): ∃ x r,xs=x::r∧Rep B O H y x∧Reps B O H l r:=by
 cases xs with
 |nil=>have:=h.1;simp at this
 |cons x r=>exact⟨x,r,rfl,h.head,h.tail⟩
theorem Reps.at (h:Reps B O H l xs) {i:Nat} (e:l[i]?=some y): ∃ x,xs[i]?=some x∧Rep B O H y x:=by
 have hi:i < l.length:=(List.getElem?_eq_some_iff.mp e).1
 have hx:i < xs.length:=h.1▸hi
 exact⟨xs[i],List.getElem?_eq_getElem hx,h.2 i y _ e (List.getElem?_eq_getElem hx)⟩
theorem Reps.at' (h:Reps B O H l xs) {i:Nat} (e:xs[i]?=some x): ∃ y,l[i]?=some y∧Rep B O H y x:=by
 have hi:i < xs.length:=(List.getElem?_eq_some_iff.mp e).1
 have hx:i < l.length:=h.1▸hi
 exact⟨l[i],List.getElem?_eq_getElem hx,h.2 i _ x (List.getElem?_eq_getElem hx) e⟩
theorem Reps.append: ∀ {l:List PV} {xs:List V},Reps B O H l xs→Reps B O H l' xs'→Reps B O H (l++l') (xs++xs')
 |[],xs,h,t=>by rw[h.nil_inv];exact t
 |y::l,xs,h,t=>by
  obtain⟨x,r,rfl,h1,h2⟩:=h.cons_inv
  exact .cons h1 (Reps.append h2 t)
theorem Reps.drop: ∀ (k:Nat) {l:List PV} {xs:List V},Reps B O H l xs→Reps B O H (l.drop k) (xs.drop k)
 |0,_,_,h=>h
 |_+1,[],_,h=>by have e:=h.nil_inv;subst e;simpa using Reps.nil
 |k+1,y::l,xs,h=>by
  obtain⟨x,r,rfl,h1,h2⟩:=h.cons_inv
  exact Reps.drop k h2
theorem Reps.take: ∀ (k:Nat) {l:List PV} {xs:List V},Reps B O H l xs→Reps B O H (l.take k) (xs.take k)
 |0,_,_,h=>.nil
 |_+1,[],_,h=>by have e:=h.nil_inv;subst e;simpa using Reps.nil
 |k+1,y::l,xs,h=>by
  obtain⟨x,r,rfl,h1,h2⟩:=h.cons_inv
  exact .cons h1 (Reps.take k h2)
theorem RepsK.keep {l:List (Key×PV)} {ks:List (Key×V)} (h:RepsK B O H l ks) (hH: ∀ p o,¬ O p→H p=some o→H' p=some o∧¬ O' p):RepsK B O' H' l ks:=⟨h.1,fun i y x a b=>(h.2 i y x a b).keep hH⟩
theorem RepsK.ext {l:List (Key×PV)} {ks:List (Key×V)} (h:RepsK B O H l ks) (hB:O B) (e:Ext B H H'):RepsK B O H' l ks:=⟨h.1,fun i y x a b=>(h.2 i y x a b).ext hB e⟩
end
structure Fam where
 K:PySem.W.Frag
 sp:Sp
 tabs:List (Addr×Str)
def IsFz:HO→Prop
 | .frz _ (.dK _)=>False
 | .frz _ _=>True
 |_=>False
def TabAt (H:Hp) (e:Addr×Str):Prop:= ∃ ps,H e.1=some (.tbl ps)∧TriplesOk ps.toList∧∀ pos cv,codeAmong pos ps.toList=some cv→∃ c oc vs t,cv= .ref c∧H c=some (.frz oc (.own c))∧oc.data= .fields vs∧vs[1]?=some (.str e.2 t)
theorem TabAt.keep (h:TabAt H e) (k1: ∀ ps,H e.1=some (.tbl ps)→H' e.1=some (.tbl ps)) (k2: ∀ p ob u,H p=some (.frz ob (.own u))→H' p=some (.frz ob (.own u))):TabAt H' e:=by
 obtain⟨ps,h1,h2,h3⟩:=h
 refine⟨ps,k1 _ h1,h2,fun pos cv e1=>?_⟩
 obtain⟨c,oc,vs,t,rfl,g1,g2⟩:=h3 pos cv e1
 exact⟨c,oc,vs,t,rfl,k2 _ _ _ g1,g2⟩
structure Bg (φ:Fam) where
 B:Addr
 priv:Addr→Prop
 ok:Hp→Nat→Prop
 pB:priv B
 keep: ∀ H H' n,(∀ p o,(priv p∨IsFz o)→H p=some o→H' p=some o)→ok H n→ok H' n
 tp: ∀ e∈φ.tabs,priv e.1
 tab: ∀ H n,ok H n→∀ e∈φ.tabs,TabAt H e
 tset: ∀ H H' n,ok H n→(∀ e∈φ.tabs,TabAt H' e)→(∀ p o,p∉φ.tabs.map (·.1)→H p=some o→H' p=some o)→ok H' n
 dom: ∀ H n p,ok H n→priv p→∃ o,H p=some o
 dr: ∀ (H:Hp) (n:Nat) (m:Int) (Q:VK) (E:XK),ok H (n+1)→0 < m→m < 1073741824→(∀ (d:Int) (H':Hp),0≤d→d < m→Ext B H H'→ok H' n→Q (.int d) H')→φ.sp [.ref B,.int m] H Q E
variable {φ:Fam}
set_option genInjectivity true in
inductive Ent where
 |un|val (y:PV)|own (l:List PV)|ownD (kvs:List (Key×PV))
abbrev PEnv:=List Ent
noncomputable def EntRep (G:Bg φ) (O:Addr→Prop) (H:Hp):Ent→Option V→Prop
 | .un,_=>True
 | .val y,o=> ∃ x,o=some x∧Rep G.B O H y x
 | .own l,o=> ∃ p xs,o=some (.ref p)∧O p∧¬ G.priv p∧H p=some (.lst xs)∧Reps G.B O H l xs
 | .ownD l,o=> ∃ p ks,o=some (.ref p)∧O p∧¬ G.priv p∧H p=some (.dK ks)∧RepsK G.B O H l ks
def EnvRep (G:Bg φ) (O:Addr→Prop) (H:Hp) (σ:St) (ρ:PEnv):Prop:=σ.length=ρ.length∧∀ (i:Nat) (e:Ent),ρ[i]?=some e→EntRep G O H e ((σ[i]?).getD none)
structure ES (G:Bg φ) (O:Addr→Prop) (H:Hp) (σ:St) (ρ:PEnv) (n:Nat):Prop where
 er:EnvRep G O H σ ρ
 ok:G.ok H n
 pr: ∀ p,G.priv p→O p
 dm: ∀ p,O p→∃ o,H p=some o
theorem ES.B (s:ES G O H σ ρ n):O G.B:=s.pr _ G.pB
theorem EntRep.ext (h:EntRep G O H e o) (hB:O G.B) (x:Ext G.B H H'):EntRep G O H' e o:=by
 cases e with
 |un=>trivial
 |val y=>obtain⟨v,e,r⟩:=h;exact⟨v,e,r.ext hB x⟩
 |own l=>obtain⟨p,xs,e,hp,np,hl,r⟩:=h;exact⟨p,xs,e,hp,np,x p _ (fun z=>np (z▸G.pB)) hl,r.ext hB x⟩
 |ownD l=>obtain⟨p,xs,e,hp,np,hl,r⟩:=h;exact⟨p,xs,e,hp,np,x p _ (fun z=>np (z▸G.pB)) hl,r.ext hB x⟩
theorem ES.ext (s:ES G O H σ ρ n) (x:Ext G.B H H') (ok:G.ok H' n'):ES G O H' σ ρ n' where
 er:=⟨s.er.1,fun i e h=>(s.er.2 i e h).ext s.B x⟩
 ok:=ok
 pr:=s.pr
 dm:=fun p h=>by
  by_cases e:p=G.B
  ·subst e;exact G.dom _ _ _ ok G.pB
  ·obtain⟨o,q⟩:=s.dm p h;exact(x p o e q).there
theorem Bg.new {G:Bg φ} (ok:G.ok H n) (h:H p=none) (o:HO):G.ok (upd H p o) n:=G.keep _ _ _ (fun q u _ e=>by rw[upd_ne (ne_of_none e h)];exact e) ok
def Wish (G:Bg φ) (O:Addr→Prop) (H:Hp) (R:PV→Nat→Prop) (Q:VK):Prop:= ∀ (y:PV) (x:V) (H':Hp) (n':Nat),Ext G.B H H'→G.ok H' n'→Rep G.B O H' y x→R y n'→Q x H'
def teP (φ:Fam) (m:PEnv→M PV):TE:=fun σ H Q=> ∃ (G:Bg φ) (O:Addr→Prop) (ρ:PEnv) (n:Nat) (R:PV→Nat→Prop),ES G O H σ ρ n∧(m ρ).wp n R∧Wish G O H R Q
def EV (φ:Fam) (X:Cx) (e:Expr) (m:PEnv→M PV):Prop:=BE X e (teP φ m)
theorem BE.mono (h:BE X e t) (f: ∀ σ H Q,t' σ H Q→t σ H Q):BE X e t':=⟨fun pZ s σ H Q I q=>h.out pZ s σ H Q I (f σ H Q q)⟩
inductive RepB (G:Bg φ) (O:Addr→Prop) (H:Hp):PV→V→Prop where
 |full {y:PV} {x:V} (h:Rep G.B O H y x):RepB G O H y x
 |top {p:Addr} {xs:List V} {l:List PV} (np: ¬ G.priv p) (h:H p=some (.lst xs)) (r:Reps G.B O H l xs):RepB G O H (.lst l) (.ref p)
 |topD {p:Addr} {ks:List (Key×V)} {l:List (Key×PV)} (np: ¬ G.priv p) (h:H p=some (.dK ks)) (r:RepsK G.B O H l ks):RepB G O H (.dct l) (.ref p)
theorem RepB.ext (h:RepB G O H y x) (hB:O G.B) (e:Ext G.B H H'):RepB G O H' y x:=by
 cases h with
 |full h=>exact .full (h.ext hB e)
 | @top p xs l np h r=>exact .top np (e p (.lst xs) (fun z=>np (z▸G.pB)) h) (r.ext hB e)
 | @topD p ks l np h r=>exact .topD np (e p (.dK ks) (fun z=>np (z▸G.pB)) h) (r.ext hB e)
def WishB (G:Bg φ) (O:Addr→Prop) (H:Hp) (R:PV→Nat→Prop) (Q:VK):Prop:= ∀ (y:PV) (x:V) (H':Hp) (n':Nat),Ext G.B H H'→G.ok H' n'→RepB G O H' y x→R y n'→Q x H'
def teB (φ:Fam) (m:PEnv→M PV):TE:=fun σ H Q=> ∃ (G:Bg φ) (O:Addr→Prop) (ρ:PEnv) (n:Nat) (R:PV→Nat→Prop),ES G O H σ ρ n∧(m ρ).wp n R∧WishB G O H R Q
def EB (φ:Fam) (X:Cx) (e:Expr) (m:PEnv→M PV):Prop:=BE X e (teB φ m)
theorem EV.b (h:EV φ X e m):EB φ X e m:=BE.mono h fun σ H Q ⟨G,O,ρ,n,R,s,w,q⟩=>⟨G,O,ρ,n,R,s,w,fun y x H' n' a b c d=>q y x H' n' a b (.full c) d⟩
def WishT (G:Bg φ) (H:Hp) (R:Bool→Nat→Prop) (Q:Bool→Hp→Prop):Prop:= ∀ (b:Bool) (H':Hp) (n':Nat),Ext G.B H H'→G.ok H' n'→R b n'→Q b H'
def ttP (φ:Fam) (m:PEnv→M Bool):TT:=fun σ H Q=> ∃ (G:Bg φ) (O:Addr→Prop) (ρ:PEnv) (n:Nat) (R:Bool→Nat→Prop),ES G O H σ ρ n∧(m ρ).wp n R∧WishT G H R Q
def TV (φ:Fam) (X:Cx) (e:Expr) (m:PEnv→M Bool):Prop:=BT X e (ttP φ m)
def WV (φ:Fam) (X:Cx) (e:Expr) (m:PEnv→M Bool):Prop:=BW X e (ttP φ m)
def WishA (G:Bg φ) (O:Addr→Prop) (H:Hp) (R:List PV→Nat→Prop) (Q:List V→Hp→Prop):Prop:= ∀ (l:List PV) (xs:List V) (H':Hp) (n':Nat),Ext G.B H H'→G.ok H' n'→Reps G.B O H' l xs→R l n'→Q xs H'
def taP (φ:Fam) (m:PEnv→M (List PV)):TA:=fun σ H Q=> ∃ (G:Bg φ) (O:Addr→Prop) (ρ:PEnv) (n:Nat) (R:List PV→Nat→Prop),ES G O H σ ρ n∧(m ρ).wp n R∧WishA G O H R Q
def AV (φ:Fam) (X:Cx) (es:List Expr) (m:PEnv→M (List PV)):Prop:=BA X es (taP φ m)
def RepBs (G:Bg φ) (O:Addr→Prop) (H:Hp) (l:List PV) (xs:List V):Prop:=l.length=xs.length∧∀ (i:Nat) (y:PV) (x:V),l[i]?=some y→xs[i]?=some x→RepB G O H y x
def WishAB (G:Bg φ) (O:Addr→Prop) (H:Hp) (R:List PV→Nat→Prop) (Q:List V→Hp→Prop):Prop:= ∀ (l:List PV) (xs:List V) (H':Hp) (n':Nat),Ext G.B H H'→G.ok H' n'→RepBs G O H' l xs→R l n'→Q xs H'
def taB (φ:Fam) (m:PEnv→M (List PV)):TA:=fun σ H Q=> ∃ (G:Bg φ) (O:Addr→Prop) (ρ:PEnv) (n:Nat) (R:List PV→Nat→Prop),ES G O H σ ρ n∧(m ρ).wp n R∧WishAB G O H R Q
def AB (φ:Fam) (X:Cx) (es:List Expr) (m:PEnv→M (List PV)):Prop:=BA X es (taB φ m)
def WishF (G:Bg φ) (O:Addr→Prop) (H:Hp) (R:List PV→Nat→Prop) (Q:VK):Prop:= ∀ (l:List PV) (p:Addr) (xs:List V) (H':Hp) (n':Nat),Ext G.B H H'→G.ok H' n'→H p=none→H' p=some (.lst xs)→Reps G.B (fun q=>O q∨q=p) H' l xs→R l n'→Q (.ref p) H'
def teF (φ:Fam) (m:PEnv→M (List PV)):TE:=fun σ H Q=> ∃ (G:Bg φ) (O:Addr→Prop) (ρ:PEnv) (n:Nat) (R:List PV→Nat→Prop),ES G O H σ ρ n∧(m ρ).wp n R∧WishF G O H R Q
def EF (φ:Fam) (X:Cx) (e:Expr) (m:PEnv→M (List PV)):Prop:=BE X e (teF φ m)
theorem EF.v (h:EF φ X e m):EV φ X e (fun ρ=>(m ρ).bind fun l=>.ret (.lst l)):=BE.mono h fun σ H Q hq0=>by
 obtain⟨G,O,ρ,n,R,s,w,q⟩:=hq0
 rw[M.wZ] at w
 refine⟨G,O,ρ,n,_,s,w,fun l p xs H' n' a b c d e f=>q (.lst l) _ H' n' a b (.lst (fun z=>?_) d e.1 (e.less fun q z=>.inl z).2) f⟩
 obtain⟨o,g⟩:=s.dm p z
 rw[c] at g;cases g
end
open Ent (val un)
section
variable {φ:Fam}
theorem big_le:100000≤sizeLine:=by rw[sizeLine_eq];decide
section
variable {G:Bg φ} {O:Addr→Prop} {H:Hp} {n:Nat} {R:PV→Nat→Prop} {Q:VK} {x x':V}
theorem Wish.sc (w:Wish G O H R Q) (ok:G.ok H n) (r:Rep G.B O H y x) (h:R y n):Q x H:=w y x H n (Ext.refl _ _) ok r h
theorem Wish.tup (w:Wish G O H R Q) (ok:G.ok H n) (dm: ∀ p,O p→∃ o,H p=some o) {p:Addr} (hp:H p=none) {l:List PV} {xs:List V} (hB:O G.B) (r:Reps G.B O H l xs) (h:R (.tup l) n):Q (.ref p) (upd H p (.tup xs)):=by
 have e:=Ext.new (B:=G.B) hp (.tup xs)
 refine w (.tup l) _ _ n e (Bg.new ok hp _) (.tup (fun z=>?_) upd_same r.1 (r.ext hB e).2) h
 obtain⟨o,g⟩:=dm p z
 rw[hp] at g;cases g
theorem Wish.lst (w:Wish G O H R Q) (ok:G.ok H n) (dm: ∀ p,O p→∃ o,H p=some o) {p:Addr} (hp:H p=none) {l:List PV} {xs:List V} (hB:O G.B) (r:Reps G.B O H l xs) (h:R (.lst l) n):Q (.ref p) (upd H p (.lst xs)):=by
 have e:=Ext.new (B:=G.B) hp (.lst xs)
 refine w (.lst l) _ _ n e (Bg.new ok hp _) (.lst (fun z=>?_) upd_same r.1 (r.ext hB e).2) h
 obtain⟨o,g⟩:=dm p z
 rw[hp] at g;cases g
theorem WishF.mk {R:List PV→Nat→Prop} (w:WishF G O H R Q) (ok:G.ok H n) {p:Addr} (hp:H p=none) {l:List PV} {xs:List V} (hB:O G.B) (r:Reps G.B O H l xs) (h:R l n):Q (.ref p) (upd H p (.lst xs)):=by
 have e:=Ext.new (B:=G.B) hp (.lst xs)
 refine w l p xs _ n e (Bg.new ok hp _) hp upd_same ((r.grow fun q z=>?_).ext (.inl hB) e) h
 rcases z with z|z
 ·exact .inl z
 ·subst z;exact .inr hp
theorem rd_inj (h:Rd H p (.dK a)) (g:Rd H p (.dK b)):a=b:=by
 rcases h with h|⟨o,h⟩<;>rcases g with g|⟨o',g⟩<;>(rw[h] at g;cases g)<;>rfl
theorem RepB.non_i (h:RepB G O H .non x):x= .non:=by cases h with|full h=>cases h;rfl
theorem RepB.int_i (h:RepB G O H (.int i) x):x= .int i:=by cases h with|full h=>cases h;rfl
theorem RepB.str_i (h:RepB G O H (.str z) x):x= .str z:=by cases h with|full h=>cases h;rfl
theorem RepB.tup_i (h:RepB G O H (.tup l) x): ∃ p xs,x= .ref p∧H p=some (.tup xs)∧Reps G.B O H l xs:=by cases h with|full h=>cases h with|tup a b c d=>exact⟨_,_,rfl,b,c,d⟩
theorem RepB.lst_i (h:RepB G O H (.lst l) x): ∃ p xs,x= .ref p∧H p=some (.lst xs)∧Reps G.B O H l xs:=by
 cases h with
 |full h=>cases h with|lst a b c d=>exact⟨_,_,rfl,b,c,d⟩
 |top a b c=>exact⟨_,_,rfl,b,c⟩
theorem RepB.dct_i (h:RepB G O H (.dct l) x): ∃ p ks,x= .ref p∧Rd H p (.dK ks)∧RepsK G.B O H l ks:=by
 cases h with
 |full h=>cases h with|dct a b c d=>exact⟨_,_,rfl,b,c,d⟩
 |topD a b c=>exact⟨_,_,rfl,.inl b,c⟩
theorem RepB.scr_i (h:RepB G O H (.scr ns) x): ∃ p o,x= .ref p∧H p=some (.frz o (.lst (ns.map V.int))):=by cases h with|full h=>cases h with|scr a b=>obtain⟨o,b⟩:=b;exact⟨_,o,rfl,b⟩
theorem RepB.low (h:RepB G O H y x) (pr: ∀ p,G.priv p→O p):Rep G.B G.priv H y x:=by
 cases h with
 |full h=>exact h.less pr
 |top np h r=>exact .lst np h r.1 (r.less pr).2
 |topD np h r=>exact .dct np (.inl h) r.1 fun i y x a b=>(r.2 i y x a b).less pr
end
def getV (ρ:PEnv) (i:Nat):M PV:=match ρ[i]? with|some (.val y)=>.ret y|_=>.fail
def getB (ρ:PEnv) (i:Nat):M PV:=match ρ[i]? with|some (.val y)=>.ret y|some (.own l)=>.ret (.lst l)|some (.ownD l)=>.ret (.dct l)|_=>.fail
section
variable {X:Cx} {a b c:Expr} {pos:Pos} {ma mb mc:PEnv→M PV}
theorem ev_of (h:BE X e (tC v)) (r: ∀ B O H,Rep B O H y v):EV φ X e (fun _=>.ret y):=BE.mono h fun σ H Q ⟨G,O,ρ,n,R,s,w,q⟩=>q.sc s.ok (r _ _ _) w
theorem ev_int:EV φ X (.Constant (.int i) j pos) (fun _=>.ret (.int i)):=ev_of ⟨pe_int⟩ fun _ _ _=>.int i
theorem ev_bl:EV φ X (.Constant (.bool i) j pos) (fun _=>.ret (.bl i)):=ev_of ⟨pe_bl⟩ fun _ _ _=>.bl i
theorem ev_non:EV φ X (.Constant .none j pos) (fun _=>.ret .non):=ev_of ⟨pe_non⟩ fun _ _ _=>.non
theorem ev_str:EV φ X (.Constant (.str x) j pos) (fun _=>.ret (.str x)):=ev_of ⟨pe_str⟩ fun _ _ _=>.str x
theorem sig_of {i:Nat} (h:EnvRep G O H σ ρ) (he:ρ[i]?=some e) (hx:(σ[i]?).getD none=some x):σ[i]?=some (some x):=by
 cases q:σ[i]? with
 |none=>rw[q] at hx;cases hx
 |some o=>rw[q] at hx;cases o with
  |none=>cases hx
  |some z=>simp at hx;rw[hx]
theorem ev_name (i:Nat) (h:BE X (.Name x pos) (tVar i)):EV φ X (.Name x pos) (fun ρ=>getV ρ i):=BE.mono h fun σ H Q hq0=>by
 obtain⟨G,O,ρ,n,R,s,w,q⟩:=hq0
 replace w:(getV ρ i).wp n R:=w
 unfold getV at w
 cases e:ρ[i]? with
 |none=>rw[e] at w;exact w.elim
 |some t=>
  rw[e] at w
  cases t with
  |val y=>
   obtain⟨x,hx,r⟩:=s.er.2 i _ e
   exact⟨x,sig_of s.er e hx,q.sc s.ok r w⟩
  |_=>exact w.elim
theorem eb_name (i:Nat) (h:BE X (.Name x pos) (tVar i)):EB φ X (.Name x pos) (fun ρ=>getB ρ i):=BE.mono h fun σ H Q hq0=>by
 obtain⟨G,O,ρ,n,R,s,w,q⟩:=hq0
 replace w:(getB ρ i).wp n R:=w
 unfold getB at w
 cases e:ρ[i]? with
 |none=>rw[e] at w;exact w.elim
 |some t=>
  rw[e] at w
  cases t with
  |val y=>
   obtain⟨x,hx,r⟩:=s.er.2 i _ e
   exact⟨x,sig_of s.er e hx,q _ _ _ _ (Ext.refl _ _) s.ok (.full r) w⟩
  |own l=>
   obtain⟨p,xs,hx,_,np,hl,r⟩:=s.er.2 i _ e
   exact⟨_,sig_of s.er e hx,q _ _ _ _ (Ext.refl _ _) s.ok (.top np hl r) w⟩
  |ownD l=>
   obtain⟨p,xs,hx,_,np,hl,r⟩:=s.er.2 i _ e
   exact⟨_,sig_of s.er e hx,q _ _ _ _ (Ext.refl _ _) s.ok (.topD np hl r) w⟩
  |un=>exact w.elim
def OpV (r:R2) (op:PV→PV→M PV):Prop:= ∀ (φ:Fam) (G:Bg φ) (O:Addr→Prop) (H:Hp) (n:Nat) (R:PV→Nat→Prop) (Q:VK) (y y':PV) (x x':V),
 (∀ p,G.priv p→O p)→(∀ p,O p→∃ o,H p=some o)→G.ok H n→RepB G O H y x→RepB G O H y' x'→(op y y').wp n R→Wish G O H R Q→r x x' H Q
def bin2 (op:PV→PV→M PV) (ma mb:PEnv→M PV):PEnv→M PV:=fun ρ=>(ma ρ).bind fun x=>(mb ρ).bind fun y=>op x y
theorem two (hv:OpV r op): ∀ σ H Q,teP φ (bin2 op ma mb) σ H Q→tOp r (teB φ ma) (teB φ mb) σ H Q:=fun σ H Q hq0=>by
 obtain⟨G,O,ρ,n,R,s,w,q⟩:=hq0
 unfold bin2 at w
 rw[M.wZ] at w
 refine⟨G,O,ρ,n,_,s,w,fun y x H1 n1 e1 ok1 r1 w1=>?_⟩
 rw[M.wZ] at w1
 refine⟨G,O,ρ,n1,_,s.ext e1 ok1,w1,fun y' x' H2 n2 e2 ok2 r2 w2=>?_⟩
 exact hv φ G O H2 n2 R Q y y' x x' s.pr (s.ext (e1.trans e2) ok2).dm ok2 (r1.ext s.B e2) r2 w2 fun y x H' n' e o r h=>q y x H' n' (e1.trans (e2.trans e)) o r h
theorem ev_bin (ho:OpR X (binaryOp o) r) (hv:OpV r op) (ha:EB φ X a ma) (hb:EB φ X b mb):EV φ X (.BinOp a o b pos) (bin2 op ma mb):=
 BE.mono ⟨pe_op ho ha.out hb.out⟩ (two hv)
theorem ev_cmp (ho:OpR X (compareOp o) r) (hv:OpV r op) (ha:EB φ X a ma) (hb:EB φ X b mb) (hm:behindInMarks o b=false):EV φ X (.Compare a [o] [b] pos) (bin2 op ma mb):=
 BE.mono ⟨pe_cmpR ho ha.out hb.out hm⟩ (two hv)
theorem ev_ix (hr:IxR X r) (hv:OpV r op) (ha:EB φ X a ma) (hb:EB φ X b mb) (hs:PlainIx b):EV φ X (.Subscript a b pos) (bin2 op ma mb):=
 BE.mono ⟨pe_ix hr ha.out hb.out hs⟩ (two hv)
def asB (m:PEnv→M PV):PEnv→M Bool:=fun ρ=>(m ρ).bind fun y=>match y with| .bl b=>.ret b|_=>.fail
theorem asB_in {t:TE} (f: ∀ σ H Q,teP φ m σ H Q→t σ H Q): ∀ σ H Q,ttP φ (asB m) σ H Q→t σ H (fun x H1=> ∃ k,x= .bl k∧Q k H1):=fun σ H Q hq0=>by
 obtain⟨G,O,ρ,n,R,s,w,q⟩:=hq0
 unfold asB at w
 rw[M.wZ] at w
 refine f σ H _ ⟨G,O,ρ,n,_,s,w,fun y x H1 n1 e1 ok1 r1 w1=>?_⟩
 cases y with
 |bl k=>cases r1;exact⟨k,rfl,q k H1 n1 e1 ok1 w1⟩
 |_=>exact w1.elim
theorem BT.mono (h:BT X e t) (f: ∀ σ H Q,t' σ H Q→t σ H Q):BT X e t':=⟨fun pZ s σ H Q I q=>h.out pZ s σ H Q I (f σ H Q q)⟩
theorem BW.mono (h:BW X e t) (f: ∀ σ H Q,t' σ H Q→t σ H Q):BW X e t':=⟨fun w pZ s σ H Q I q=>h.out w pZ s σ H Q I (f σ H Q q)⟩
theorem tv_cmp (ho:OpR X (compareOp o) r) (hv:OpV r op) (ha:EB φ X a ma) (hb:EB φ X b mb) (hm:behindInMarks o b=false):TV φ X (.Compare a [o] [b] pos) (asB (bin2 op ma mb)):=
 BT.mono ⟨pt_cmpR ho ha.out hb.out hm⟩ (asB_in (two hv))
theorem tv_val (h:EV φ X e m) (he: ∀ whole,isTrue e X.env whole=(do let v ←whole;standAt e.pos;holding [v] (truthy v)):=by intro _;rfl):TV φ X e (asB m):=
 BT.mono ⟨pt_val h.out he⟩ (asB_in fun _ _ _ h=>h)
def notP (m:PEnv→M Bool):PEnv→M Bool:=fun ρ=>(m ρ).bind fun b=>.ret (!b)
theorem tv_not (h:TV φ X a m):TV φ X (.UnaryOp .Not a pos) (notP m):=BT.mono ⟨pt_not h.out⟩ fun σ H Q hq0=>by
 obtain⟨G,O,ρ,n,R,s,w,q⟩:=hq0
 unfold notP at w
 rw[M.wZ] at w
 exact⟨G,O,ρ,n,_,s,w,fun b H1 n1 e1 ok1 w1=>q (!b) H1 n1 e1 ok1 w1⟩
def andP (ma mb:PEnv→M Bool):PEnv→M Bool:=fun ρ=>(ma ρ).bind fun b=>if b=true then mb ρ else .ret false
def orP (ma mb:PEnv→M Bool):PEnv→M Bool:=fun ρ=>(ma ρ).bind fun b=>if b=true then .ret true else mb ρ
theorem WV.t (h:WV φ X e m):TV φ X e m:=⟨PW.pt h.out⟩
theorem wv_and1 (h:TV φ X a m):WV φ X (.BoolOp .And [a] pos) m:=⟨pw_and1 h.out⟩
theorem wv_or1 (h:TV φ X a m):WV φ X (.BoolOp .Or [a] pos) m:=⟨pw_or1 h.out⟩
theorem wv_and {rest:List Expr} (h:TV φ X a m) (h':WV φ X (.BoolOp .And (b::rest) pos) m'):WV φ X (.BoolOp .And (a::b::rest) pos) (andP m m'):=BW.mono ⟨pw_and h.out h'.out⟩ fun σ H Q hq0=>by
 obtain⟨G,O,ρ,n,R,s,w,q⟩:=hq0
 unfold andP at w
 rw[M.wZ] at w
 refine⟨G,O,ρ,n,_,s,w,fun b H1 n1 e1 ok1 w1=>?_⟩
 cases b with
 |true=>exact⟨G,O,ρ,n1,R,s.ext e1 ok1,w1,fun b H' n' e o h=>q b H' n' (e1.trans e) o h⟩
 |false=>exact q false H1 n1 e1 ok1 w1
theorem wv_or {rest:List Expr} (h:TV φ X a m) (h':WV φ X (.BoolOp .Or (b::rest) pos) m'):WV φ X (.BoolOp .Or (a::b::rest) pos) (orP m m'):=BW.mono ⟨pw_or h.out h'.out⟩ fun σ H Q hq0=>by
 obtain⟨G,O,ρ,n,R,s,w,q⟩:=hq0
 unfold orP at w
 rw[M.wZ] at w
 refine⟨G,O,ρ,n,_,s,w,fun b H1 n1 e1 ok1 w1=>?_⟩
 cases b with
 |true=>exact q true H1 n1 e1 ok1 w1
 |false=>exact⟨G,O,ρ,n1,R,s.ext e1 ok1,w1,fun b H' n' e o h=>q b H' n' (e1.trans e) o h⟩
def andV (ma mb:PEnv→M PV):PEnv→M PV:=fun ρ=>(asB ma ρ).bind fun b=>if b=true then mb ρ else .ret (.bl false)
theorem as_cut {m:PEnv→M PV} {f:Bool→M PV} {σ:St} {H:Hp} {Q:VK} {G:Bg φ} {O:Addr→Prop} {ρ:PEnv} {n:Nat} {R:PV→Nat→Prop} {T:V→Hp→Prop} (s:ES G O H σ ρ n) (w:((asB m ρ).bind f).wp n R)
  (k: ∀ (b:Bool) (H1:Hp) (n1:Nat),Ext G.B H H1→G.ok H1 n1→(f b).wp n1 R→T (.bl b) H1):teP φ m σ H T:=by
 rw[M.wZ] at w
 unfold asB at w
 rw[M.wZ] at w
 refine⟨G,O,ρ,n,_,s,w,fun y x H1 n1 e1 ok1 r1 w1=>?_⟩
 cases y with
 |bl b=>cases r1;exact k b H1 n1 e1 ok1 w1
 |_=>exact w1.elim
theorem ev_one (ha:EV φ X a ma):EV φ X (.BoolOp op [a] pos) ma:=⟨pe_one ha.out⟩
theorem ev_and {rest:List Expr} (ha:EV φ X a ma) (hb:EV φ X (.BoolOp .And (b::rest) pos) mb):EV φ X (.BoolOp .And (a::b::rest) pos) (andV ma mb):=BE.mono ⟨pe_and ha.out hb.out⟩ fun σ H Q ⟨G,O,ρ,n,R,s,w,q⟩=>
 as_cut (Q:=Q) s w fun b H1 n1 e1 ok1 w1=>⟨b,rfl,by
  cases b with
  |true=>exact⟨G,O,ρ,n1,R,s.ext e1 ok1,w1,fun y x H' n' e o r h=>q y x H' n' (e1.trans e) o r h⟩
  |false=>exact q _ _ _ _ e1 ok1 (.bl _) w1⟩
def ifV (mc:PEnv→M Bool) (ma mb:PEnv→M PV):PEnv→M PV:=fun ρ=>(mc ρ).bind fun b=>if b=true then ma ρ else mb ρ
theorem ev_if (hc:TV φ X c t) (ha:EV φ X a ma) (hb:EV φ X b mb):EV φ X (.IfExp c a b pos) (ifV t ma mb):=BE.mono ⟨pe_ifExp hc.out ha.out hb.out⟩ fun σ H Q hq0=>by
 obtain⟨G,O,ρ,n,R,s,w,q⟩:=hq0
 unfold ifV at w
 rw[M.wZ] at w
 refine⟨G,O,ρ,n,_,s,w,fun b H1 n1 e1 ok1 w1=>?_⟩
 cases b with
 |true=>exact⟨G,O,ρ,n1,R,s.ext e1 ok1,w1,fun y x H' n' e o r h=>q y x H' n' (e1.trans e) o r h⟩
 |false=>exact⟨G,O,ρ,n1,R,s.ext e1 ok1,w1,fun y x H' n' e o r h=>q y x H' n' (e1.trans e) o r h⟩
noncomputable def chain (op op':PV→PV→M PV) (ma mb mc:PEnv→M PV):PEnv→M PV:=fun ρ=>(ma ρ).bind fun x=>(mb ρ).bind fun y=>(op x y).bind fun z=>match z with
 | .bl true=>(mc ρ).bind fun u=>op' y u
 | .bl false=>.ret (.bl false)
 |_=>.fail
theorem chain_in (hv:OpV r op) (hv':OpV r' op'): ∀ σ H Q,teP φ (chain op op' ma mb mc) σ H Q→tChain r r' (teB φ ma) (teB φ mb) (teB φ mc) σ H Q:=fun σ H Q hq0=>by
 obtain⟨G,O,ρ,n,R,s,w,q⟩:=hq0
 unfold chain at w
 rw[M.wZ] at w
 refine⟨G,O,ρ,n,_,s,w,fun y x H1 n1 e1 ok1 r1 w1=>?_⟩
 rw[M.wZ] at w1
 refine⟨G,O,ρ,n1,_,s.ext e1 ok1,w1,fun y' x' H2 n2 e2 ok2 r2 w2=>?_⟩
 rw[M.wZ] at w2
 refine hv φ G O H2 n2 _ _ y y' x x' s.pr (s.ext (e1.trans e2) ok2).dm ok2 (r1.ext s.B e2) r2 w2 fun z u H3 n3 e3 ok3 r3 w3=>?_
 cases z with
 |bl k=>
  cases r3
  refine⟨k,rfl,?_⟩
  cases k with
  |true=>
   show teB φ mc σ H3 _
   rw[M.wZ] at w3
   refine⟨G,O,ρ,n3,_,s.ext (e1.trans (e2.trans e3)) ok3,w3,fun y4 x4 H4 n4 e4 ok4 r4 w4=>?_⟩
   exact hv' φ G O H4 n4 R Q y' y4 x' x4 s.pr (s.ext (e1.trans (e2.trans (e3.trans e4))) ok4).dm ok4 (r2.ext s.B (e3.trans e4)) r4 w4 fun y x H' n' e o r h=>q y x H' n' (e1.trans (e2.trans (e3.trans (e4.trans e)))) o r h
  |false=>exact q _ _ _ _ (e1.trans (e2.trans e3)) ok3 (.bl _) w3
 |_=>exact w3.elim
theorem ev_chain (ho:OpR X (compareOp o) r) (hv:OpV r op) (ho':OpR X (compareOp o') r') (hv':OpV r' op') (ha:EB φ X a ma) (hb:EB φ X b mb) (hc:EB φ X c mc) (hm:lastMarks [o,o'] [b,c]=false:=by with_unfolding_all rfl):EV φ X (.Compare a [o,o'] [b,c] pos) (chain op op' ma mb mc):=
 BE.mono ⟨pe_chain ho ho' ha.out hb.out hc.out hm⟩ (chain_in hv hv')
end
end
section
variable {φ:Fam}
def toV:PV→V
 | .non=>.non
 | .bl b=>.bl b
 | .int i=>.int i
 | .str x=>.str x
 |_=>.ty ""
def flatP (y:PV):Bool:=flatV (toV y)
theorem flat_rep (h:Rep B O H y x) (f:flatP y=true):x=toV y:=by
 cases h<;>first|rfl|(exact absurd f (by decide))|(simp[flatP,toV,flatV] at f)
theorem flat_repB (h:RepB G O H y x) (f:flatP y=true):x=toV y:=by
 cases h with
 |full h=>exact flat_rep h f
 |_=>simp[flatP,toV,flatV] at f
noncomputable def eqs (f:PV→PV→Option Bool):List PV→List PV→Option Bool
 |[],[]=>some true
 |[],_::_=>some false
 |_::_,[]=>some false
 |a::r,b::t=>(f a b).bind fun x=>(eqs f r t).bind fun y=>some (x&&y)
noncomputable def eqP:Nat→PV→PV→Option Bool
 |k+1,.lst a,.lst b=>eqs (eqP k) a b
 |k+1,.tup a,.tup b=>eqs (eqP k) a b
 |_+1,.lst _,.tup _=>some false
 |_+1,.tup _,.lst _=>some false
 |_+1,.lst _,y=>if flatP y then some false else none
 |_+1,.tup _,y=>if flatP y then some false else none
 |_+1,y,.lst _=>if flatP y then some false else none
 |_+1,y,.tup _=>if flatP y then some false else none
 |_,y,z=>if flatP y&&flatP z then some (eqV (toV y) (toV z)) else none
theorem eqs_at: ∀ {a b:List PV} {c:Bool},eqs f a b=some c→∃ e:Nat→Bool,(∀ j y z,a[j]?=some y→b[j]?=some z→f y z=some (e j))∧c=((List.range (min a.length b.length)).all e&&a.length==b.length)
 |[],[],c,h=>⟨fun _=>true,fun j y z e=>by simp at e,by simp[eqs] at h;simp[h]⟩
 |[],_::_,c,h=>⟨fun _=>true,fun j y z e=>by simp at e,by simp[eqs] at h;simp[h]⟩
 |_::_,[],c,h=>⟨fun _=>true,fun j y z _ e=>by simp at e,by simp[eqs] at h;simp[h]⟩
 |y::r,z::t,c,h=>by
  simp only[eqs] at h
  cases h1:f y z with
  |none=>rw[h1] at h;simp at h
  |some x=>
   rw[h1] at h
   simp only[Option.bind_some] at h
   cases h2:eqs f r t with
   |none=>rw[h2] at h;simp at h
   |some w=>
    rw[h2] at h
    simp only[Option.bind_some,Option.some.injEq] at h
    obtain⟨e,he,hw⟩:=eqs_at h2
    refine⟨fun j=>match j with|0=>x|j+1=>e j,fun j y' z' a b=>?_,?_⟩
    ·cases j with
     |zero=>simp at a b;subst a b;exact h1
     |succ j=>simp at a b;exact he j y' z' a b
    ·have e0:min (y::r).length (z::t).length=min r.length t.length+1:=by simp only[List.length_cons];lia
     rw[e0,List.range_succ_eq_map,List.all_cons,List.all_map,←h,hw]
     simp only[List.length_cons,Function.comp_def,Bool.and_assoc]
     congr 2
     rw[Bool.eq_iff_iff];simp
theorem ext_rel {α β:Type} {l l':List α} {xs:List β} (h1:l.length=xs.length) (h2:l'.length=xs.length) (hh: ∀ (i:Nat) (y y':α) (x:β),l[i]?=some y→l'[i]?=some y'→xs[i]?=some x→y=y'):l=l':=by
 apply List.ext_getElem (h1.trans h2.symm)
 intro i a b
 exact hh i _ _ _ (List.getElem?_eq_getElem a) (List.getElem?_eq_getElem b) (List.getElem?_eq_getElem (h1▸a))
theorem int_inj: ∀ {a b:List Int},a.map V.int=b.map V.int→a=b
 |[],[],_=>rfl
 |[],_::_,h=>by simp at h
 |_::_,[],h=>by simp at h
 |x::a,y::b,h=>by
  simp only[List.map_cons,List.cons.injEq,V.int.injEq] at h
  rw[h.1,int_inj h.2]
theorem Rep.uniq {O:Addr→Prop} (hB:O B) (h:Rep B O H y x): ∀ {y':PV},Rep B O H y' x→y=y':=by
 induction h with
 |non=>intro y' h;cases h;rfl
 |bl b=>intro y' h;cases h;rfl
 |int i=>intro y' h;cases h;rfl
 |str x=>intro y' h;cases h;rfl
 |tup hO h hl hr ih=>
  intro y' g
  cases g with
  |tup gO g gl gr=>
   rw[h] at g;cases g
   congr 1
   exact ext_rel hl gl fun i y y' x a b c=>ih i y x a c (gr i y' x b c)
  |lst gO g gl gr=>rw[h] at g;cases g
  |dct gO g gl gr=>rcases g with g|⟨o',g⟩<;>(rw[h] at g;cases g)
  |scr gO g=>obtain⟨o,g⟩:=g;rw[h] at g;cases g
  |bag=>exact absurd hB hO
 |lst hO h hl hr ih=>
  intro y' g
  cases g with
  |lst gO g gl gr=>
   rw[h] at g;cases g
   congr 1
   exact ext_rel hl gl fun i y y' x a b c=>ih i y x a c (gr i y' x b c)
  |tup gO g gl gr=>rw[h] at g;cases g
  |dct gO g gl gr=>rcases g with g|⟨o',g⟩<;>(rw[h] at g;cases g)
  |scr gO g=>obtain⟨o,g⟩:=g;rw[h] at g;cases g
  |bag=>exact absurd hB hO
 |dct hO h hl hr ih=>
  intro y' g
  cases g with
  |dct gO g gl gr=>
   obtain rfl:=rd_inj h g
   congr 1
   refine ext_rel (by simpa using congrArg List.length hl) (by simpa using congrArg List.length gl) fun i y y' x a b c=>?_
   have k1:y.1=x.1:=by
    have:=congrArg (·[i]?) hl
    simp only[List.getElem?_map,a,c] at this
    simpa using this
   have k2:y'.1=x.1:=by
    have:=congrArg (·[i]?) gl
    simp only[List.getElem?_map,b,c] at this
    simpa using this
   exact Prod.ext (k1.trans k2.symm) (ih i y x a c (gr i y' x b c))
  |tup gO g gl gr=>rcases h with h|⟨o',h⟩<;>(rw[h] at g;cases g)
  |lst gO g gl gr=>rcases h with h|⟨o',h⟩<;>(rw[h] at g;cases g)
  |scr gO g=>obtain⟨o,g⟩:=g;rcases h with h|⟨o',h⟩<;>(rw[h] at g;cases g)
  |bag=>exact absurd hB hO
 |scr hO h=>
  intro y' g
  obtain⟨o,h⟩:=h
  cases g with
  |scr gO g=>
   obtain⟨o',g⟩:=g
   rw[h] at g
   injection g with g;injection g with g1 g2;injection g2 with g2
   congr 1
   exact int_inj g2
  |tup gO g gl gr=>rw[h] at g;cases g
  |lst gO g gl gr=>rw[h] at g;cases g
  |dct gO g gl gr=>rcases g with g|⟨o',g⟩<;>(rw[h] at g;cases g)
  |bag=>exact absurd hB hO
 |bag=>
  intro y' g
  cases g with
  |bag=>rfl
  |tup gO g gl gr=>exact absurd hB gO
  |lst gO g gl gr=>exact absurd hB gO
  |dct gO g gl gr=>exact absurd hB gO
  |scr gO g=>exact absurd hB gO
theorem eqs_refl (hf: ∀ y c,f y y=some c→c=true): ∀ {a:List PV} {c:Bool},eqs f a a=some c→c=true
 |[],c,h=>by simp[eqs] at h;exact h
 |y::r,c,h=>by
  simp only[eqs] at h
  cases h1:f y y with
  |none=>rw[h1] at h;simp at h
  |some x=>
   rw[h1] at h
   simp only[Option.bind_some] at h
   cases h2:eqs f r r with
   |none=>rw[h2] at h;simp at h
   |some w=>
    rw[h2] at h
    simp only[Option.bind_some,Option.some.injEq] at h
    rw[←h,hf _ _ h1,eqs_refl hf h2];rfl
theorem eqP_flat (h1:flatP y=true) (h2:flatP z=true):eqP k y z=some (eqV (toV y) (toV z)):=by
 cases k<;>cases y<;>cases z<;>first|rfl|(simp[flatP,toV,flatV] at h1;done)|(simp[flatP,toV,flatV] at h2;done)
theorem eqP_refl: ∀ (k:Nat) (y:PV) (c:Bool),eqP k y y=some c→c=true:=by
 intro k
 induction k with
 |zero=>
  intro y c h
  cases y<;>simp[eqP,flatP,toV,flatV,eqV] at h<;>(try exact h)<;>(try exact h.symm)
 |succ k ih=>
  intro y c h
  cases y with
  |lst a=>exact eqs_refl ih h
  |tup a=>exact eqs_refl ih h
  |_=>simp[eqP,flatP,toV,flatV,eqV] at h<;>(try exact h)<;>(try exact h.symm)
section
variable {X:Cx} {pZ:List (Addr×Obj)} {σ:St} {H:Hp} {s:Shared} {B:Addr} {O:Addr→Prop}
theorem eqAt_flat (h1:flatP y=true) (h2:flatP z=true) (r1:Rep B O H y x) (r2:Rep B O H z x') (q1:RelV x u) (q2:RelV x' v):SeqAt.EqAt A s u v (eqV (toV y) (toV z)):=by
 rw[flat_rep r1 h1] at q1
 rw[flat_rep r2 h2] at q2
 exact eqAt_V q1 q2 h1 h2
theorem eq_at (I:Inv X pZ σ H s) (hB:O B): ∀ (k:Nat) (A:Around) (y z:PV) (x x':V) (u v:Value) (c:Bool),Rep B O H y x→Rep B O H z x'→RelV x u→RelV x' v→eqP k y z=some c→A.units+k < cLine→SeqAt.EqAt A s u v c:=by
 intro k
 induction k with
 |zero=>
  intro A y z x x' u v c r1 r2 q1 q2 e hu
  have f:flatP y=true∧flatP z=true:=by
   unfold eqP at e
   by_cases h:(flatP y&&flatP z)=true
   ·simpa using h
   ·cases y<;>cases z<;>simp_all [flatP,toV,flatV]
  rw[eqP_flat f.1 f.2] at e
  cases e
  exact eqAt_flat f.1 f.2 r1 r2 q1 q2
 |succ k ih=>
  intro A y z x x' u v c r1 r2 q1 q2 e hu
  have hu0:A.units < cLine:=by lia
  have hu1:A.in1.units+k < cLine:=by show A.units+1+k < cLine;lia
  by_cases f:flatP y=true∧flatP z=true
  ·rw[eqP_flat f.1 f.2] at e
   cases e
   exact eqAt_flat f.1 f.2 r1 r2 q1 q2
  cases r1 with
  | @lst p xs l hO h hl hr=>
   cases q1
   obtain⟨its,v1,p1,_⟩:=I.list (SqL.of (K:=X.K) h)
   cases r2 with
   | @lst p' xs' l' hO' h' hl' hr'=>
    cases q2
    by_cases pe:p=p'
    ·subst pe
     have e1:=Rep.uniq hB (.lst hO h hl hr) (.lst hO' h' hl' hr')
     rw[e1] at e
     rw[eqP_refl _ _ _ e]
     exact .same _
    ·obtain⟨its',v2,p2,_⟩:=I.list (SqL.of (K:=X.K) h')
     obtain⟨g,hg,hc⟩:=eqs_at e
     refine .of_refs pe ?_
     have e1:its.toArray.size=l.length:=by rw[List.size_toArray,←v1.length,hl]
     have e2:its'.toArray.size=l'.length:=by rw[List.size_toArray,←v2.length,hl']
     by_cases hs:l.length=l'.length
     ·have hh:=SeqAt.RcAt.lists (A:=A) (e:=g) p1.isList p2.isList (by rw[e1,e2,hs]) hu0 (fun j h1 h2=>?_)
      ·rw[hc,←hs,Nat.min_self,beq_self_eq_true,Bool.and_true,←e1];exact hh
      ·have j1:j < l.length:=e1▸h1
       have j2:j < l'.length:=e2▸h2
       obtain⟨u1,a1,a2⟩:=v1.get (i:=j) (x:=xs[j]) (List.getElem?_eq_getElem _)
       obtain⟨u2,b1,b2⟩:=v2.get (i:=j) (x:=xs'[j]) (List.getElem?_eq_getElem _)
       have a3:its.toArray[j]=u1:=by
        have:=(List.getElem?_eq_some_iff.mp a1).2
        simpa using this
       have b3:its'.toArray[j]=u2:=by
        have:=(List.getElem?_eq_some_iff.mp b1).2
        simpa using this
       rw[a3,b3]
       exact ih A.in1 l[j] l'[j] _ _ _ _ _ (hr j _ _ (List.getElem?_eq_getElem j1) (List.getElem?_eq_getElem _)) (hr' j _ _ (List.getElem?_eq_getElem j2) (List.getElem?_eq_getElem _)) a2 b2 (hg j _ _ (List.getElem?_eq_getElem j1) (List.getElem?_eq_getElem j2)) hu1
     ·have:c=false:=by rw[hc];simp[hs]
      rw[this]
      exact SeqAt.RcAt.lists_lengths p1.isList p2.isList (by rw[e1,e2];simpa using hs) hu0
   | @tup p' xs' l' hO' h' hl' hr'=>
    cases q2
    obtain⟨its',v2,p2,_⟩:=I.tuple (SqT.of (K:=X.K) h')
    cases e
    exact .list_tuple p1.isList p2 hu0
   |non=>cases q2;cases e;exact .list_none p1.isList hu0
   |bl b=>cases q2;cases e;exact .list_bool b p1.isList hu0
   |int b=>obtain⟨t,rfl⟩:=q2;cases e;exact .list_int b t p1.isList hu0
   |str b=>obtain⟨t,rfl⟩:=q2;cases e;exact .list_str b t p1.isList hu0
   |_=>cases e
  | @tup p xs l hO h hl hr=>
   cases q1
   obtain⟨its,v1,p1,_⟩:=I.tuple (SqT.of (K:=X.K) h)
   cases r2 with
   | @tup p' xs' l' hO' h' hl' hr'=>
    cases q2
    by_cases pe:p=p'
    ·subst pe
     have e1:=Rep.uniq hB (.tup hO h hl hr) (.tup hO' h' hl' hr')
     rw[e1] at e
     rw[eqP_refl _ _ _ e]
     exact .same _
    ·obtain⟨its',v2,p2,_⟩:=I.tuple (SqT.of (K:=X.K) h')
     obtain⟨g,hg,hc⟩:=eqs_at e
     refine .of_refs pe ?_
     have e1:its.toArray.size=l.length:=by rw[List.size_toArray,←v1.length,hl]
     have e2:its'.toArray.size=l'.length:=by rw[List.size_toArray,←v2.length,hl']
     have hh:=SeqAt.RcAt.tuples (A:=A) (e:=g) p1 p2 hu0 (fun j h1 h2=>?_)
     ·rw[hc,←e1,←e2];exact hh
     ·have j1:j < l.length:=e1▸h1
      have j2:j < l'.length:=e2▸h2
      obtain⟨u1,a1,a2⟩:=v1.get (i:=j) (x:=xs[j]) (List.getElem?_eq_getElem _)
      obtain⟨u2,b1,b2⟩:=v2.get (i:=j) (x:=xs'[j]) (List.getElem?_eq_getElem _)
      have a3:its.toArray[j]=u1:=by
       have:=(List.getElem?_eq_some_iff.mp a1).2
       simpa using this
      have b3:its'.toArray[j]=u2:=by
       have:=(List.getElem?_eq_some_iff.mp b1).2
       simpa using this
      rw[a3,b3]
      exact ih A.in1 l[j] l'[j] _ _ _ _ _ (hr j _ _ (List.getElem?_eq_getElem j1) (List.getElem?_eq_getElem _)) (hr' j _ _ (List.getElem?_eq_getElem j2) (List.getElem?_eq_getElem _)) a2 b2 (hg j _ _ (List.getElem?_eq_getElem j1) (List.getElem?_eq_getElem j2)) hu1
   | @lst p' xs' l' hO' h' hl' hr'=>
    cases q2
    obtain⟨its',v2,p2,_⟩:=I.list (SqL.of (K:=X.K) h')
    cases e
    exact .tuple_list p1 p2.isList hu0
   |non=>cases q2;cases e;exact .tuple_none p1 hu0
   |bl b=>cases q2;cases e;exact .tuple_bool b p1 hu0
   |int b=>obtain⟨t,rfl⟩:=q2;cases e;exact .tuple_int b t p1 hu0
   |str b=>obtain⟨t,rfl⟩:=q2;cases e;exact .tuple_str b t p1 hu0
   |_=>cases e
  |non=>
   cases r2 with
   |lst a h' b c=>cases q1;cases q2;obtain⟨its',v2,p2,_⟩:=I.list (SqL.of (K:=X.K) h');cases e;exact .none_list p2.isList hu0
   |tup a h' b c=>cases q1;cases q2;obtain⟨its',v2,p2,_⟩:=I.tuple (SqT.of (K:=X.K) h');cases e;exact .none_tuple p2 hu0
   |_=>first|exact absurd ⟨rfl,rfl⟩ f|cases e
  |bl b=>
   cases r2 with
   |lst a h' _ c=>cases q1;cases q2;obtain⟨its',v2,p2,_⟩:=I.list (SqL.of (K:=X.K) h');cases e;exact .bool_list b p2.isList hu0
   |tup a h' _ c=>cases q1;cases q2;obtain⟨its',v2,p2,_⟩:=I.tuple (SqT.of (K:=X.K) h');cases e;exact .bool_tuple b p2 hu0
   |_=>first|exact absurd ⟨rfl,rfl⟩ f|cases e
  |int b=>
   cases r2 with
   |lst a h' _ c=>obtain⟨t,rfl⟩:=q1;cases q2;obtain⟨its',v2,p2,_⟩:=I.list (SqL.of (K:=X.K) h');cases e;exact .int_list b t p2.isList hu0
   |tup a h' _ c=>obtain⟨t,rfl⟩:=q1;cases q2;obtain⟨its',v2,p2,_⟩:=I.tuple (SqT.of (K:=X.K) h');cases e;exact .int_tuple b t p2 hu0
   |_=>first|exact absurd ⟨rfl,rfl⟩ f|cases e
  |str b=>
   cases r2 with
   |lst a h' _ c=>obtain⟨t,rfl⟩:=q1;cases q2;obtain⟨its',v2,p2,_⟩:=I.list (SqL.of (K:=X.K) h');cases e;exact .str_list b t p2.isList hu0
   |tup a h' _ c=>obtain⟨t,rfl⟩:=q1;cases q2;obtain⟨its',v2,p2,_⟩:=I.tuple (SqT.of (K:=X.K) h');cases e;exact .str_tuple b t p2 hu0
   |_=>first|exact absurd ⟨rfl,rfl⟩ f|cases e
  |_=>cases z<;>cases e
end
end
section
variable {φ:Fam}
section
variable {X:Cx}
theorem rc_flat (f1:flatV y=true) (f2:flatV z=true) (q1:RelV y u) (q2:RelV z v):SeqAt.RcAt A s u v (eqV y z)∧SeqAt.RcNeAt A s u v (!eqV y z):=by
 cases y with
 |non=>
  cases q1
  cases z with
  |non=>cases q2;exact⟨.none_none,.none_none⟩
  |bl b=>cases q2;exact⟨.none_bool b,.none_bool b⟩
  |int b=>obtain⟨t,rfl⟩:=q2;exact⟨.none_int b t,.none_int b t⟩
  |str b=>obtain⟨t,rfl⟩:=q2;exact⟨.none_str b t,.none_str b t⟩
  |_=>cases f2
 |bl a=>
  cases q1
  cases z with
  |non=>cases q2;exact⟨.bool_none a,.bool_none a⟩
  |bl b=>cases q2;exact⟨.bool_bool a b,.bool_bool a b⟩
  |int b=>obtain⟨t,rfl⟩:=q2;exact⟨.bool_int a b t,.bool_int a b t⟩
  |str b=>obtain⟨t,rfl⟩:=q2;exact⟨.bool_str a b t,.bool_str a b t⟩
  |_=>cases f2
 |int a=>
  obtain⟨t',rfl⟩:=q1
  cases z with
  |non=>cases q2;exact⟨.int_none a t',.int_none a t'⟩
  |bl b=>cases q2;exact⟨.int_bool a t' b,.int_bool a t' b⟩
  |int b=>obtain⟨t,rfl⟩:=q2;exact⟨.int_int a t' b t,.int_int a t' b t⟩
  |str b=>obtain⟨t,rfl⟩:=q2;exact⟨.int_str a t' b t,.int_str a t' b t⟩
  |_=>cases f2
 |str a=>
  obtain⟨t',rfl⟩:=q1
  cases z with
  |non=>cases q2;exact⟨.str_none a t',.str_none a t'⟩
  |bl b=>cases q2;exact⟨.str_bool a t' b,.str_bool a t' b⟩
  |int b=>obtain⟨t,rfl⟩:=q2;exact⟨.str_int a t' b t,.str_int a t' b t⟩
  |str b=>obtain⟨t,rfl⟩:=q2;exact⟨.str_str a t' b t,.str_str a t' b t⟩
  |_=>cases f2
 |_=>cases f1
theorem rc_at (I:Inv X pZ σ H s) (hB:O B) (k:Nat) (A:Around) (y z:PV) (x x':V) (u v:Value) (c:Bool)
  (r1:Rep B O H y x) (r2:Rep B O H z x') (q1:RelV x u) (q2:RelV x' v) (e:eqP (k+1) y z=some c) (hu:A.units+(k+1) < cLine):SeqAt.RcAt A s u v c∧SeqAt.RcNeAt A s u v (!c):=by
 have hu0:A.units < cLine:=by lia
 have hu1:A.in1.units+k < cLine:=by show A.units+1+k < cLine;lia
 by_cases f:flatP y=true∧flatP z=true
 ·rw[eqP_flat f.1 f.2] at e
  cases e
  rw[flat_rep r1 f.1] at q1
  rw[flat_rep r2 f.2] at q2
  exact rc_flat f.1 f.2 q1 q2
 cases r1 with
 | @lst p xs l hO h hl hr=>
  cases q1
  obtain⟨its,v1,p1,_⟩:=I.list (SqL.of (K:=X.K) h)
  cases r2 with
  | @lst p' xs' l' hO' h' hl' hr'=>
   cases q2
   obtain⟨its',v2,p2,_⟩:=I.list (SqL.of (K:=X.K) h')
   obtain⟨g,hg,hc⟩:=eqs_at e
   have e1:its.toArray.size=l.length:=by rw[List.size_toArray,←v1.length,hl]
   have e2:its'.toArray.size=l'.length:=by rw[List.size_toArray,←v2.length,hl']
   by_cases hs:l.length=l'.length
   ·have he: ∀ j (h1:j < its.toArray.size) (h2:j < its'.toArray.size),SeqAt.EqAt A.in1 s its.toArray[j] its'.toArray[j] (g j):=fun j h1 h2=>by
     have j1:j < l.length:=e1▸h1
     have j2:j < l'.length:=e2▸h2
     obtain⟨u1,a1,a2⟩:=v1.get (i:=j) (x:=xs[j]) (List.getElem?_eq_getElem _)
     obtain⟨u2,b1,b2⟩:=v2.get (i:=j) (x:=xs'[j]) (List.getElem?_eq_getElem _)
     have a3:its.toArray[j]=u1:=by
      have:=(List.getElem?_eq_some_iff.mp a1).2
      simpa using this
     have b3:its'.toArray[j]=u2:=by
      have:=(List.getElem?_eq_some_iff.mp b1).2
      simpa using this
     rw[a3,b3]
     exact eq_at I hB k A.in1 l[j] l'[j] _ _ _ _ _ (hr j _ _ (List.getElem?_eq_getElem j1) (List.getElem?_eq_getElem _)) (hr' j _ _ (List.getElem?_eq_getElem j2) (List.getElem?_eq_getElem _)) a2 b2 (hg j _ _ (List.getElem?_eq_getElem j1) (List.getElem?_eq_getElem j2)) hu1
    have h1:=SeqAt.RcAt.lists (A:=A) (e:=g) p1.isList p2.isList (by rw[e1,e2,hs]) hu0 he
    have h2:=SeqAt.RcNeAt.lists (A:=A) (e:=g) p1.isList p2.isList (by rw[e1,e2,hs]) hu0 he
    rw[hc,←hs,Nat.min_self,beq_self_eq_true,Bool.and_true,←e1];exact⟨h1,h2⟩
   ·have:c=false:=by rw[hc];simp[hs]
    rw[this]
    exact⟨SeqAt.RcAt.lists_lengths p1.isList p2.isList (by rw[e1,e2];simpa using hs) hu0,SeqAt.RcNeAt.lists_lengths p1.isList p2.isList (by rw[e1,e2];simpa using hs) hu0⟩
  | @tup p' xs' l' hO' h' hl' hr'=>
   cases q2
   obtain⟨its',v2,p2,_⟩:=I.tuple (SqT.of (K:=X.K) h')
   cases e
   exact⟨.list_tuple p1.isList p2 hu0,.list_tuple p1.isList p2 hu0⟩
  |non=>cases q2;cases e;exact⟨.list_none p1.isList hu0,.list_none p1.isList hu0⟩
  |bl b=>cases q2;cases e;exact⟨.list_bool b p1.isList hu0,.list_bool b p1.isList hu0⟩
  |int b=>obtain⟨t,rfl⟩:=q2;cases e;exact⟨.list_int b t p1.isList hu0,.list_int b t p1.isList hu0⟩
  |str b=>obtain⟨t,rfl⟩:=q2;cases e;exact⟨.list_str b t p1.isList hu0,.list_str b t p1.isList hu0⟩
  |_=>cases e
 | @tup p xs l hO h hl hr=>
  cases q1
  obtain⟨its,v1,p1,_⟩:=I.tuple (SqT.of (K:=X.K) h)
  cases r2 with
  | @tup p' xs' l' hO' h' hl' hr'=>
   cases q2
   obtain⟨its',v2,p2,_⟩:=I.tuple (SqT.of (K:=X.K) h')
   obtain⟨g,hg,hc⟩:=eqs_at e
   have e1:its.toArray.size=l.length:=by rw[List.size_toArray,←v1.length,hl]
   have e2:its'.toArray.size=l'.length:=by rw[List.size_toArray,←v2.length,hl']
   have he: ∀ j (h1:j < its.toArray.size) (h2:j < its'.toArray.size),SeqAt.EqAt A.in1 s its.toArray[j] its'.toArray[j] (g j):=fun j h1 h2=>by
    have j1:j < l.length:=e1▸h1
    have j2:j < l'.length:=e2▸h2
    obtain⟨u1,a1,a2⟩:=v1.get (i:=j) (x:=xs[j]) (List.getElem?_eq_getElem _)
    obtain⟨u2,b1,b2⟩:=v2.get (i:=j) (x:=xs'[j]) (List.getElem?_eq_getElem _)
    have a3:its.toArray[j]=u1:=by
     have:=(List.getElem?_eq_some_iff.mp a1).2
     simpa using this
    have b3:its'.toArray[j]=u2:=by
     have:=(List.getElem?_eq_some_iff.mp b1).2
     simpa using this
    rw[a3,b3]
    exact eq_at I hB k A.in1 l[j] l'[j] _ _ _ _ _ (hr j _ _ (List.getElem?_eq_getElem j1) (List.getElem?_eq_getElem _)) (hr' j _ _ (List.getElem?_eq_getElem j2) (List.getElem?_eq_getElem _)) a2 b2 (hg j _ _ (List.getElem?_eq_getElem j1) (List.getElem?_eq_getElem j2)) hu1
   have h1:=SeqAt.RcAt.tuples (A:=A) (e:=g) p1 p2 hu0 he
   have h2:=SeqAt.RcNeAt.tuples (A:=A) (e:=g) p1 p2 hu0 he
   rw[hc,←e1,←e2];exact⟨h1,h2⟩
  | @lst p' xs' l' hO' h' hl' hr'=>
   cases q2
   obtain⟨its',v2,p2,_⟩:=I.list (SqL.of (K:=X.K) h')
   cases e
   exact⟨.tuple_list p1 p2.isList hu0,.tuple_list p1 p2.isList hu0⟩
  |non=>cases q2;cases e;exact⟨.tuple_none p1 hu0,.tuple_none p1 hu0⟩
  |bl b=>cases q2;cases e;exact⟨.tuple_bool b p1 hu0,.tuple_bool b p1 hu0⟩
  |int b=>obtain⟨t,rfl⟩:=q2;cases e;exact⟨.tuple_int b t p1 hu0,.tuple_int b t p1 hu0⟩
  |str b=>obtain⟨t,rfl⟩:=q2;cases e;exact⟨.tuple_str b t p1 hu0,.tuple_str b t p1 hu0⟩
  |_=>cases e
 |non=>
  cases r2 with
  |lst a h' b c=>cases q1;cases q2;obtain⟨its',v2,p2,_⟩:=I.list (SqL.of (K:=X.K) h');cases e;exact⟨.none_list p2.isList hu0,.none_list p2.isList hu0⟩
  |tup a h' b c=>cases q1;cases q2;obtain⟨its',v2,p2,_⟩:=I.tuple (SqT.of (K:=X.K) h');cases e;exact⟨.none_tuple p2 hu0,.none_tuple p2 hu0⟩
  |_=>first|exact absurd ⟨rfl,rfl⟩ f|cases e
 |bl b=>
  cases r2 with
  |lst a h' _ c=>cases q1;cases q2;obtain⟨its',v2,p2,_⟩:=I.list (SqL.of (K:=X.K) h');cases e;exact⟨.bool_list b p2.isList hu0,.bool_list b p2.isList hu0⟩
  |tup a h' _ c=>cases q1;cases q2;obtain⟨its',v2,p2,_⟩:=I.tuple (SqT.of (K:=X.K) h');cases e;exact⟨.bool_tuple b p2 hu0,.bool_tuple b p2 hu0⟩
  |_=>first|exact absurd ⟨rfl,rfl⟩ f|cases e
 |int b=>
  cases r2 with
  |lst a h' _ c=>obtain⟨t,rfl⟩:=q1;cases q2;obtain⟨its',v2,p2,_⟩:=I.list (SqL.of (K:=X.K) h');cases e;exact⟨.int_list b t p2.isList hu0,.int_list b t p2.isList hu0⟩
  |tup a h' _ c=>obtain⟨t,rfl⟩:=q1;cases q2;obtain⟨its',v2,p2,_⟩:=I.tuple (SqT.of (K:=X.K) h');cases e;exact⟨.int_tuple b t p2 hu0,.int_tuple b t p2 hu0⟩
  |_=>first|exact absurd ⟨rfl,rfl⟩ f|cases e
 |str b=>
  cases r2 with
  |lst a h' _ c=>obtain⟨t,rfl⟩:=q1;cases q2;obtain⟨its',v2,p2,_⟩:=I.list (SqL.of (K:=X.K) h');cases e;exact⟨.str_list b t p2.isList hu0,.str_list b t p2.isList hu0⟩
  |tup a h' _ c=>obtain⟨t,rfl⟩:=q1;cases q2;obtain⟨its',v2,p2,_⟩:=I.tuple (SqT.of (K:=X.K) h');cases e;exact⟨.str_tuple b t p2 hu0,.str_tuple b t p2 hu0⟩
  |_=>first|exact absurd ⟨rfl,rfl⟩ f|cases e
 |_=>cases z<;>cases e
def rEqD (neg:Bool):R2:=fun x y H Q=> ∃ (B:Addr) (O:Addr→Prop) (a b:PV) (c:Bool),O B∧Rep B O H a x∧Rep B O H b y∧eqP 20 a b=some c∧Q (.bl (xor neg c)) H
theorem op_eqD (hU:X.A.units+64 < cLine):OpR X (compareOp .Eq) (rEqD false):=by
 intro pZ s σ H x y v u Q I rx ry h
 obtain⟨B,O,a,b,c,hB,r1,r2,e,q⟩:=h
 exact(rc_at I hB 19 X.A a b x y v u c r1 r2 rx ry e (by lia)).1 _ _ _ _ (fin_bl I q (by cases c<;>rfl))
theorem op_neD (hU:X.A.units+64 < cLine):OpR X (compareOp .NotEq) (rEqD true):=by
 intro pZ s σ H x y v u Q I rx ry h
 obtain⟨B,O,a,b,c,hB,r1,r2,e,q⟩:=h
 exact(rc_at I hB 19 X.A a b x y v u c r1 r2 rx ry e (by lia)).2 _ _ _ _ (fin_bl I q (by cases c<;>rfl))
end
def eqO (neg:Bool) (y z:PV):M PV:=(M.ofO (eqP 20 y z)).bind fun c=>.ret (.bl (xor neg c))
theorem ov_eq (neg:Bool):OpV (rEqD neg) (eqO neg):=fun φ G O H n R Q y z x x' pr dm ok r1 r2 w q=>by
 unfold eqO at w
 cases e:eqP 20 y z with
 |none=>rw[e] at w;exact w.elim
 |some c=>rw[e] at w;exact⟨G.B,G.priv,y,z,c,G.pB,r1.low pr,r2.low pr,e,q.sc ok (.bl _) w⟩
def numO (C:Int→Int→Prop) [∀ i j,Decidable (C i j)] (f:Int→Int→PV):PV→PV→M PV
 | .int i,.int j=>if C i j then .ret (f i j) else .fail
 |_,_=>.fail
theorem ov_num [∀ i j,Decidable (C i j)] (hf: ∀ B O H i j,Rep B O H (f i j) (g i j)):OpV (rI C g) (numO C f):=fun φ G O H n R Q y z x x' pr dm ok r1 r2 w q=>by
 cases y<;>cases z<;>first|exact w.elim|skip
 rename_i i j
 rw[r1.int_i,r2.int_i]
 unfold numO at w
 dsimp only at w
 by_cases hc:C i j
 ·rw[if_pos hc] at w;exact⟨i,j,rfl,rfl,hc,q.sc ok (hf _ _ _ _ _) w⟩
 ·rw[if_neg hc] at w;exact w.elim
def numB (f:Int→Int→Bool):PV→PV→M PV
 | .int i,.int j=>.ret (.bl (f i j))
 |_,_=>.fail
theorem ov_numB:OpV (rI0 fun i j=>.bl (f i j)) (numB f):=fun φ G O H n R Q y z x x' pr dm ok r1 r2 w q=>by
 cases y<;>cases z<;>first|exact w.elim|skip
 rename_i i j
 rw[r1.int_i,r2.int_i]
 exact⟨i,j,rfl,rfl,q.sc ok (.bl _) w⟩
def ltO:=numB fun i j=>decide (i < j)
def geO:=numB fun i j=>decide (j≤i)
theorem ov_lt:OpV (rI0 fun i j=>.bl (decide (i < j))) ltO:=ov_numB
theorem ov_ge:OpV (rI0 fun i j=>.bl (decide (j≤i))) geO:=ov_numB
instance (i j:Int):Decidable (CMul i j):=by unfold CMul;infer_instance
instance (i j:Int):Decidable (CPow i j):=by unfold CPow;infer_instance
instance (i j:Int):Decidable (CDiv i j):=by unfold CDiv;infer_instance
def modO:=numO (fun _ j=>0 < j) fun i j=>.int (i % j)
theorem ov_mod:OpV (rI (fun _ j=>0 < j) fun i j=>.int (i % j)) modO:=ov_num fun _ _ _ _ _=>.int _
noncomputable def rAddD (K:PySem.W.Frag):R2:=fun x y H Q=>(rI0 fun i j=>.int (i+j)) x y H Q∨(∃ i j,x= .str i∧y= .str j∧i.length+j.length≤sizeLine∧Q (.str (i++j)) H)∨rCat x y H Q∨rCatT K x y H Q∨
 (∃ a b ys,x= .ref a∧y= .ref b∧H a=some (.tup [])∧H b=some (.tup ys)∧Q (.ref b) H)
theorem op_catT0:OpR X (binaryOp .Add) (fun x y H Q=> ∃ a b ys,x= .ref a∧y= .ref b∧H a=some (.tup [])∧H b=some (.tup ys)∧Q (.ref b) H):=by
 intro pZ s σ H x y v u Q I rx ry h
 obtain⟨a,b,ys,rfl,rfl,ha,hb,q⟩:=h
 cases rx
 cases ry
 obtain⟨its,r1,p1,_⟩:=I.tuple (SqT.of (K:=X.K) ha)
 obtain⟨its2,r2,p2,_⟩:=I.tuple (SqT.of (K:=X.K) hb)
 cases r1
 obtain⟨⟨cls,dd,data,sl⟩,ho,hc,n,hd⟩:=id p1
 obtain⟨⟨cls2,dd2,data2,sl2⟩,ho2,hc2,n2,hd2⟩:=id p2
 simp only at hc hd hc2 hd2
 subst hc hd hc2 hd2
 exact concat_meets ⟨_,ho,rfl⟩ ⟨_,ho2,rfl⟩ noFill_tuple_add seq_tuple_add PySem.F.slot_tuple_add PySem.F.entry_tuple_add (PySem.F.args_tuple_add_2 _ _)
   (tuple_addW0 a b _ its2.toArray n n2 dd dd2 sl sl2 rfl) ⟨ho,ho2,⟨.ref b,H,I,rfl,q⟩⟩
theorem op_addD:OpR X (binaryOp .Add) (rAddD X.K):=op_add.or (op_add_str.or (op_cat.or (op_catT.or op_catT0)))
noncomputable def addO:PV→PV→M PV
 | .int i,.int j=>.ret (.int (i+j))
 | .str i,.str j=>if i.length+j.length≤100000 then .ret (.str (i++j)) else .fail
 | .lst a,.lst b=>if a.length+b.length≤100000 then .ret (.lst (a++b)) else .fail
 | .tup a,.tup b=>if a.length+b.length≤100000 then .ret (.tup (a++b)) else .fail
 |_,_=>.fail
theorem ov_add {K:PySem.W.Frag}:OpV (rAddD K) addO:=fun φ G O H n R Q y z x x' pr dm ok r1 r2 w q=>by
 have hB:O G.B:=pr _ G.pB
 cases y<;>cases z<;>first|exact w.elim|skip
 ·rename_i i j
  rw[r1.int_i,r2.int_i]
  exact .inl ⟨i,j,rfl,rfl,q.sc ok (.int _) w⟩
 ·rename_i i j
  rw[r1.str_i,r2.str_i]
  unfold addO at w
  dsimp only at w
  by_cases hc:i.length+j.length≤100000
  ·rw[if_pos hc] at w;exact .inr (.inl ⟨i,j,rfl,rfl,Nat.le_trans hc big_le,q.sc ok (.str _) w⟩)
  ·rw[if_neg hc] at w;exact w.elim
 ·rename_i i j
  obtain⟨a,xs,rfl,h1,e1⟩:=r1.tup_i
  obtain⟨b,ys,rfl,h2,e2⟩:=r2.tup_i
  unfold addO at w
  dsimp only at w
  by_cases hc:i.length+j.length≤100000
  ·rw[if_pos hc] at w
   by_cases hn:i=[]
   ·subst hn
    rw[e1.nil_inv] at h1
    cases r2 with
    |full r2=>exact .inr (.inr (.inr (.inr ⟨a,b,ys,rfl,rfl,h1,h2,q.sc ok r2 w⟩)))
   ·refine .inr (.inr (.inr (.inl ⟨a,b,xs,ys,rfl,rfl,SqT.of h1,SqT.of h2,fun z=>hn ?_,Nat.le_trans (by rw[←e1.1,←e2.1];exact hc) big_le,fun hz=>?_,fun _ p hp=>q.tup ok dm hp hB (e1.append e2) w⟩)))
    ·subst z;exact List.eq_nil_of_length_eq_zero e1.1
    ·subst hz
     have:j=[]:=List.eq_nil_of_length_eq_zero e2.1
     subst this
     rw[List.append_nil] at w
     cases r1 with
     |full r1=>exact q.sc ok r1 w
  ·rw[if_neg hc] at w;exact w.elim
 ·rename_i i j
  obtain⟨a,xs,rfl,h1,e1⟩:=r1.lst_i
  obtain⟨b,ys,rfl,h2,e2⟩:=r2.lst_i
  unfold addO at w
  dsimp only at w
  by_cases hc:i.length+j.length≤100000
  ·rw[if_pos hc] at w
   exact .inr (.inr (.inl ⟨a,b,xs,ys,rfl,rfl,h1,h2,Nat.le_trans (by rw[←e1.1,←e2.1];exact hc) big_le,fun p hp=>q.lst ok dm hp hB (e1.append e2) w⟩))
  ·rw[if_neg hc] at w;exact w.elim
def repStr (i:Str) (k:Int):Str:=⟨(List.replicate k.toNat i.cps).foldl (· ++ ·) #[]⟩
def rRepS:R2:=fun x y H Q=> ∃ i k,x= .str i∧y= .int k∧(1 < k∧k < 1000∧0 < i.length∧i.length < 1000∧(repStr i k).length≤100000)∧Q (.str (repStr i k)) H
def rMulD:R2:=fun x y H Q=>rI CMul (fun i j=>.int (i * j)) x y H Q∨rRepS x y H Q∨rRep x y H Q
theorem op_repS:OpR X (binaryOp .Mult) rRepS:=by
 intro pZ s σ H x y v u Q I rx ry h
 obtain⟨i,k,rfl,rfl,⟨h1,h2,h3,h4,h5⟩,q⟩:=h
 obtain⟨t,rfl⟩:=rx
 obtain⟨t',rfl⟩:=ry
 have e1: ¬ k < -(2 ^ 63:Int):=by
  have:(2:Int) ^ 63=9223372036854775808:=by decide
  lia
 have e2: ¬ k ≥ 2 ^ 63:=by
  have:(2:Int) ^ 63=9223372036854775808:=by decide
  lia
 have hz:(i.length * k.toNat)≤1000000:=Nat.le_trans (Nat.mul_le_mul (Nat.le_of_lt h4) (by lia:k.toNat≤1000)) (by decide)
 have hne:(k==1||i.length==0)=false:=by
  simp only[Bool.or_eq_false_iff,beq_eq_false_iff_ne]
  exact⟨by lia,by lia⟩
 refine PySem.P.mul_str (by rw[decide_eq_false e1,decide_eq_false e2];rfl) (fun _ _ hgt=>?_) (fun _ _=>?_) ?_
 ·have:(i.length:Int)≤(2 ^ 63 - 1) / k:=by
   rw[Int.le_ediv_iff_mul_le (by lia)]
   have:(i.length:Int) * k≤1000 * 1000:=Int.mul_le_mul (by lia) (by lia) (by lia) (by lia)
   have e:(2:Int) ^ 63 - 1=9223372036854775807:=by decide
   lia
  lia
 ·have hs:sizeLine=16777216:=sizeLine_eq
  show decide (i.length * k.toNat > sizeLine)=false
  exact decide_eq_false (by lia)
 ·rw[if_neg (by lia),if_neg (by rw[hne];simp)]
  exact⟨Nat.le_trans h5 big_le,⟨.str (repStr i k),H,I.tok _,⟨_,rfl⟩,q⟩⟩
theorem op_mulD:OpR X (binaryOp .Mult) rMulD:=op_mul.or (op_repS.or op_rep)
noncomputable def mulO:PV→PV→M PV
 | .int i,.int j=>if CMul i j then .ret (.int (i * j)) else .fail
 | .str i,.int k=>if 1 < k∧k < 1000∧0 < i.length∧i.length < 1000∧(repStr i k).length≤100000 then .ret (.str (repStr i k)) else .fail
 | .lst l,.int k=>if -1000 < k∧k < 1000∧l.length * k.toNat≤100000 then .ret (.lst (List.replicate k.toNat l).flatten) else .fail
 |_,_=>.fail
theorem Reps.rep (h:Reps B O H l xs): ∀ k:Nat,Reps B O H (List.replicate k l).flatten (List.replicate k xs).flatten
 |0=>.nil
 |k+1=>by rw[List.replicate_succ,List.replicate_succ,List.flatten_cons,List.flatten_cons];exact h.append (Reps.rep h k)
theorem ov_mul:OpV rMulD mulO:=fun φ G O H n R Q y z x x' pr dm ok r1 r2 w q=>by
 have hB:O G.B:=pr _ G.pB
 cases y<;>cases z<;>first|exact w.elim|skip
 ·rename_i i j
  rw[r1.int_i,r2.int_i]
  unfold mulO at w
  dsimp only at w
  by_cases hc:CMul i j
  ·rw[if_pos hc] at w;exact .inl ⟨i,j,rfl,rfl,hc,q.sc ok (.int _) w⟩
  ·rw[if_neg hc] at w;exact w.elim
 ·rename_i i k
  rw[r1.str_i,r2.int_i]
  unfold mulO at w
  dsimp only at w
  by_cases hc:1 < k∧k < 1000∧0 < i.length∧i.length < 1000∧(repStr i k).length≤100000
  ·rw[if_pos hc] at w;exact .inr (.inl ⟨i,k,rfl,rfl,hc,q.sc ok (.str _) w⟩)
  ·rw[if_neg hc] at w;exact w.elim
 ·rename_i l k
  obtain⟨a,xs,rfl,h1,e1⟩:=r1.lst_i
  rw[r2.int_i]
  unfold mulO at w
  dsimp only at w
  by_cases hc: -1000 < k∧k < 1000∧l.length * k.toNat≤100000
  ·rw[if_pos hc] at w
   have e:(2:Int) ^ 63=9223372036854775808:=by decide
   exact .inr (.inr ⟨a,k,xs,rfl,rfl,h1,by lia,by lia,Nat.le_trans (by rw[←e1.1];exact hc.2.2) big_le,fun p hp=>q.lst ok dm hp hB (e1.rep _) w⟩)
  ·rw[if_neg hc] at w;exact w.elim
theorem RepB.flat_all {G:Bg φ}: ∀ {l:List PV} {xs:List V},Reps G.B O H l xs→l.all flatP=true→xs=l.map toV
 |[],xs,h,_=>h.nil_inv
 |y::l,xs,h,f=>by
  obtain⟨x,r,rfl,h1,h2⟩:=h.cons_inv
  rw[List.all_cons,Bool.and_eq_true] at f
  rw[List.map_cons,flat_rep h1 f.1,RepB.flat_all h2 f.2]
def rInD (K:PySem.W.Frag) (neg:Bool):R2:=fun x y H Q=>rIn K neg x y H Q∨∃ i j,x= .str i∧y= .str j∧Q (.bl (xor neg (!(Builtin.Str.occurrences j i 0 j.length 1).isEmpty))) H
theorem op_inD:OpR X (compareOp .In) (rInD X.K false):=by
 intro pZ s σ H x y v u Q I rx ry h
 rcases h with h|⟨i,j,h1,h2,q⟩
 ·exact op_in_seq pZ s σ H x y v u Q I rx ry h
 ·exact op_in_str pZ s σ H x y v u Q I rx ry ⟨i,j,h1,h2,by simpa using q⟩
theorem op_notInD:OpR X (compareOp .NotIn) (rInD X.K true):=by
 intro pZ s σ H x y v u Q I rx ry h
 rcases h with h|⟨i,j,h1,h2,q⟩
 ·exact op_notIn_seq pZ s σ H x y v u Q I rx ry h
 ·exact op_notIn_str pZ s σ H x y v u Q I rx ry ⟨i,j,h1,h2,by simpa using q⟩
def memF (y:PV) (l:List PV):Bool:=l.any fun z=>eqV (toV z) (toV y)
noncomputable def inO (neg:Bool):PV→PV→M PV
 | .str i,.str j=>.ret (.bl (xor neg (!(Builtin.Str.occurrences j i 0 j.length 1).isEmpty)))
 |y,.lst l=>if flatP y&&l.all flatP then .ret (.bl (xor neg (memF y l))) else .fail
 |y,.tup l=>if flatP y&&l.all flatP then .ret (.bl (xor neg (memF y l))) else .fail
 |_,_=>.fail
theorem inV_map (y:PV) (l:List PV):inV (toV y) (l.map toV)=memF y l:=by unfold inV memF;rw[List.any_map];rfl
theorem ov_in {K:PySem.W.Frag} (neg:Bool):OpV (rInD K neg) (inO neg):=fun φ G O H n R Q y z x x' pr dm ok r1 r2 w q=>by
 cases z with
 |lst l=>
  have w':(if(flatP y&&l.all flatP)=true then M.ret (.bl (xor neg (memF y l))) else M.fail:M PV).wp n R:=by cases y<;>exact w
  by_cases hc:(flatP y&&l.all flatP)=true
  ·rw[if_pos hc] at w'
   rw[Bool.and_eq_true] at hc
   obtain⟨p,xs,rfl,h1,e1⟩:=r2.lst_i
   have e2:=RepB.flat_all e1 hc.2
   rw[flat_repB r1 hc.1]
   refine .inl ⟨p,xs,rfl,.inl (SqL.of h1),hc.1,?_,?_⟩
   ·rw[e2,List.all_map];exact hc.2
   ·rw[e2,inV_map];cases neg<;>simpa using q.sc ok (.bl _) w'
  ·rw[if_neg hc] at w';exact w'.elim
 |tup l=>
  have w':(if(flatP y&&l.all flatP)=true then M.ret (.bl (xor neg (memF y l))) else M.fail:M PV).wp n R:=by cases y<;>exact w
  by_cases hc:(flatP y&&l.all flatP)=true
  ·rw[if_pos hc] at w'
   rw[Bool.and_eq_true] at hc
   obtain⟨p,xs,rfl,h1,e1⟩:=r2.tup_i
   have e2:=RepB.flat_all e1 hc.2
   rw[flat_repB r1 hc.1]
   refine .inl ⟨p,xs,rfl,.inr (SqT.of h1),hc.1,?_,?_⟩
   ·rw[e2,List.all_map];exact hc.2
   ·rw[e2,inV_map];cases neg<;>simpa using q.sc ok (.bl _) w'
  ·rw[if_neg hc] at w';exact w'.elim
 |str j=>
  cases y<;>first|exact w.elim|skip
  rename_i i
  rw[r1.str_i,r2.str_i]
  exact .inr ⟨i,j,rfl,rfl,q.sc ok (.bl _) w⟩
 |_=>cases y<;>exact w.elim
def isN:PV→Bool
 | .non=>true
 |_=>false
def isO (neg:Bool) (y z:PV):M PV:=match z with| .non=>.ret (.bl (xor neg (isN y)))|_=>.fail
theorem isN_rep (r:RepB G O H y x):decide (x= .non)=isN y:=by
 cases r with
 |full h=>cases h<;>rfl
 |top _ _ _=>rfl
 |topD _ _ _=>rfl
theorem ov_isN:OpV (fun x y H Q=>y= .non∧Q (.bl (decide (x= .non))) H) (isO false):=fun φ G O H n R Q y z x x' pr dm ok r1 r2 w q=>by
 cases z<;>first|exact w.elim|skip
 have w':R (.bl (xor false (isN y))) n:=w
 exact⟨r2.non_i,q.sc ok (y:=.bl (isN y)) (by rw[isN_rep r1];exact .bl _) (by simpa using w')⟩
theorem ov_notN:OpV (fun x y H Q=>y= .non∧Q (.bl (!decide (x= .non))) H) (isO true):=fun φ G O H n R Q y z x x' pr dm ok r1 r2 w q=>by
 cases z<;>first|exact w.elim|skip
 refine⟨r2.non_i,q.sc ok (y:=.bl (!isN y)) (by rw[isN_rep r1];exact .bl _) ?_⟩
 have w':R (.bl (xor true (isN y))) n:=w
 simpa using w'
def leS (i j:Str):Bool:=!decide (j.cps.toList < i.cps.toList)
def rLeD:R2:=fun x y H Q=>(rI0 fun i j=>.bl (decide (i≤j))) x y H Q∨∃ i j,x= .str i∧y= .str j∧Q (.bl (!decide (j.cps.toList < i.cps.toList))) H
theorem op_leD:OpR X (compareOp .LtE) rLeD:=op_le.or op_le_str
def leOD:PV→PV→M PV
 | .int i,.int j=>.ret (.bl (decide (i≤j)))
 | .str i,.str j=>.ret (.bl (leS i j))
 |_,_=>.fail
theorem ov_leD:OpV rLeD leOD:=fun φ G O H n R Q y z x x' pr dm ok r1 r2 w q=>by
 cases y<;>cases z<;>first|exact w.elim|skip
 ·rename_i i j
  rw[r1.int_i,r2.int_i]
  exact .inl ⟨i,j,rfl,rfl,q.sc ok (.bl _) w⟩
 ·rename_i i j
  rw[r1.str_i,r2.str_i]
  exact .inr ⟨i,j,rfl,rfl,q.sc ok (.bl _) w⟩
theorem atI_reps (h:Reps B O H l xs) (e:atI l i=some y): ∃ x,atI xs i=some x∧Rep B O H y x:=by
 unfold atI at e ⊢
 rw[←h.1]
 cases q:ixN l.length i with
 |none=>rw[q] at e;cases e
 |some j=>rw[q] at e;exact h.at e
noncomputable def ixO:PV→PV→M PV
 | .lst l,.int i=>.ofO (atI l i)
 | .tup l,.int i=>.ofO (atI l i)
 | .str z,.int i=>if z.length≤100000 then(M.ofO (atI z.cps.toList i)).bind fun c=>.ret (.str ⟨#[c]⟩) else .fail
 |_,_=>.fail
theorem ov_ix {K:PySem.W.Frag}:OpV (rIx K) ixO:=fun φ G O H n R Q y z x x' pr dm ok r1 r2 w q=>by
 cases y<;>cases z<;>first|exact w.elim|skip
 ·rename_i s i
  rw[r1.str_i,r2.int_i]
  unfold ixO at w
  dsimp only at w
  by_cases hc:s.length≤100000
  ·rw[if_pos hc] at w
   cases e:atI s.cps.toList i with
   |none=>rw[e] at w;exact w.elim
   |some c=>rw[e] at w;exact .inr (.inr ⟨s,i,c,rfl,rfl,Nat.le_trans hc big_le,e,q.sc ok (.str _) w⟩)
  ·rw[if_neg hc] at w;exact w.elim
 ·rename_i l i
  obtain⟨p,xs,rfl,h1,e1⟩:=r1.tup_i
  rw[r2.int_i]
  unfold ixO at w
  dsimp only at w
  cases e:atI l i with
  |none=>rw[e] at w;exact w.elim
  |some y=>
   rw[e] at w
   obtain⟨v,a,b⟩:=atI_reps e1 e
   exact .inr (.inl ⟨p,xs,i,v,rfl,rfl,SqT.of h1,a,q.sc ok b w⟩)
 ·rename_i l i
  obtain⟨p,xs,rfl,h1,e1⟩:=r1.lst_i
  rw[r2.int_i]
  unfold ixO at w
  dsimp only at w
  cases e:atI l i with
  |none=>rw[e] at w;exact w.elim
  |some y=>
   rw[e] at w
   obtain⟨v,a,b⟩:=atI_reps e1 e
   exact .inl ⟨p,xs,i,v,rfl,rfl,SqL.of h1,a,q.sc ok b w⟩
end
section
variable {φ:Fam}
section
variable {X:Cx} {e:Expr} {es:List Expr} {me:PEnv→M PV} {ml:PEnv→M (List PV)}
theorem BA.mono (h:BA X es t) (f: ∀ σ H Q,t' σ H Q→t σ H Q):BA X es t':=⟨fun pos pZ s σ H Q I q=>h.out pos pZ s σ H Q I (f σ H Q q)⟩
def consA (me:PEnv→M PV) (ml:PEnv→M (List PV)):PEnv→M (List PV):=fun ρ=>(me ρ).bind fun y=>(ml ρ).bind fun l=>.ret (y::l)
theorem av_nil:AV φ X [] (fun _=>.ret []):=BA.mono ⟨pa_nil⟩ fun σ H Q ⟨G,O,ρ,n,R,s,w,q⟩=>q [] [] H n (Ext.refl _ _) s.ok .nil w
theorem av_cons (h:EV φ X e me) (t:AV φ X es ml) (hs:isStar e=false:=by rfl):AV φ X (e::es) (consA me ml):=BA.mono ⟨pa_c h.out t.out hs⟩ fun σ H Q hq0=>by
 obtain⟨G,O,ρ,n,R,s,w,q⟩:=hq0
 unfold consA at w
 rw[M.wZ] at w
 refine⟨G,O,ρ,n,_,s,w,fun y x H1 n1 e1 ok1 r1 w1=>?_⟩
 rw[M.wZ] at w1
 exact⟨G,O,ρ,n1,_,s.ext e1 ok1,w1,fun l xs H2 n2 e2 ok2 r2 w2=>q (y::l) (x::xs) H2 n2 (e1.trans e2) ok2 (.cons (r1.ext s.B e2) r2) w2⟩
theorem RepBs.nil:RepBs G O H [] []:=⟨rfl,fun i y x a=>by simp at a⟩
theorem RepBs.cons {G:Bg φ} {O:Addr→Prop} {H:Hp} {y:PV} {x:V} {l:List PV} {xs:List V} (h:RepB G O H y x) (t:RepBs G O H l xs):RepBs G O H (y::l) (x::xs):=⟨by simp[t.1],fun i y' x' a b=>by
 cases i with
 |zero=>simp at a b;subst a b;exact h
 |succ i=>simp at a b;exact t.2 i y' x' a b⟩
theorem RepBs.nil_inv (h:RepBs G O H [] xs):xs=[]:=List.eq_nil_of_length_eq_zero h.1.symm
theorem RepBs.cons_inv (h:RepBs G O H (y::l) xs): ∃ x r,xs=x::r∧RepB G O H y x∧RepBs G O H l r:=by
 cases xs with
 |nil=>have:=h.1;simp at this
 |cons x r=>exact⟨x,r,rfl,h.2 0 y x rfl rfl,by simpa using h.1,fun i y' x' a b=>h.2 (i+1) y' x' (by simpa using a) (by simpa using b)⟩
theorem RepBs.one (h:RepBs G O H [y] xs): ∃ x,xs=[x]∧RepB G O H y x:=by
 obtain⟨x,r,rfl,a,b⟩:=h.cons_inv
 rw[b.nil_inv];exact⟨x,rfl,a⟩
theorem ab_nil:AB φ X [] (fun _=>.ret []):=BA.mono ⟨pa_nil⟩ fun σ H Q ⟨G,O,ρ,n,R,s,w,q⟩=>q [] [] H n (Ext.refl _ _) s.ok .nil w
theorem ab_cons (h:EB φ X e me) (t:AB φ X es ml) (hs:isStar e=false:=by rfl):AB φ X (e::es) (consA me ml):=BA.mono ⟨pa_c h.out t.out hs⟩ fun σ H Q hq0=>by
 obtain⟨G,O,ρ,n,R,s,w,q⟩:=hq0
 unfold consA at w
 rw[M.wZ] at w
 refine⟨G,O,ρ,n,_,s,w,fun y x H1 n1 e1 ok1 r1 w1=>?_⟩
 rw[M.wZ] at w1
 exact⟨G,O,ρ,n1,_,s.ext e1 ok1,w1,fun l xs H2 n2 e2 ok2 r2 w2=>q (y::l) (x::xs) H2 n2 (e1.trans e2) ok2 (.cons (r1.ext s.B e2) r2) w2⟩
def mkTup (l:List PV):M PV:=if l.length≤100000 then .ret (.tup l) else .fail
def mkLst (l:List PV):M (List PV):=if l.length≤100000 then .ret l else .fail
theorem ev_tup (h:AV φ X es ml):EV φ X (.Tuple es k pos) (fun ρ=>(ml ρ).bind mkTup):=BE.mono ⟨pe_tup h.out⟩ fun σ H Q hq0=>by
 obtain⟨G,O,ρ,n,R,s,w,q⟩:=hq0
 rw[M.wZ] at w
 refine⟨G,O,ρ,n,_,s,w,fun l xs H1 n1 e1 ok1 r1 w1=>?_⟩
 unfold mkTup at w1
 by_cases hc:l.length≤100000
 ·rw[if_pos hc] at w1
  refine⟨Nat.le_trans (by rw[←r1.1];exact hc) big_le,fun p hp=>?_⟩
  have q':Wish G O H1 R Q:=fun y x H' n' e o r h=>q y x H' n' (e1.trans e) o r h
  exact q'.tup ok1 (s.ext e1 ok1).dm hp s.B r1 w1
 ·rw[if_neg hc] at w1;exact w1.elim
theorem ef_lst (h:AV φ X es ml):EF φ X (.List es pos) (fun ρ=>(ml ρ).bind mkLst):=BE.mono ⟨pe_lst h.out⟩ fun σ H Q hq0=>by
 obtain⟨G,O,ρ,n,R,s,w,q⟩:=hq0
 rw[M.wZ] at w
 refine⟨G,O,ρ,n,_,s,w,fun l xs H1 n1 e1 ok1 r1 w1=>?_⟩
 unfold mkLst at w1
 by_cases hc:l.length≤100000
 ·rw[if_pos hc] at w1
  refine⟨Nat.le_trans (by rw[←r1.1];exact hc) big_le,fun p hp=>?_⟩
  have e2:=Ext.new (B:=G.B) hp (.lst xs)
  refine q l p xs _ n1 (e1.trans e2) (Bg.new ok1 hp _) ?_ upd_same ((r1.grow fun q z=>by
   rcases z with z|z
   ·exact .inl z
   ·subst z;exact .inr hp).ext (.inl s.B) e2) w1
  cases hh:H p with
  |none=>rfl
  |some o=>
   by_cases pb:p=G.B
   ·subst pb;obtain⟨o',g⟩:=G.dom _ _ _ ok1 G.pB;rw[hp] at g;cases g
   ·obtain⟨_,this⟩:=(e1 p o pb hh).there;rw[hp] at this;cases this
 ·rw[if_neg hc] at w1;exact w1.elim
theorem new_before {G:Bg φ} (e1:Ext G.B H H1) (ok1:G.ok H1 n) (hp:H1 p=none):H p=none:=by
 cases hh:H p with
 |none=>rfl
 |some o=>
  by_cases pb:p=G.B
  ·subst pb;obtain⟨o',g⟩:=G.dom _ _ _ ok1 G.pB;rw[hp] at g;cases g
  ·obtain⟨_,this⟩:=(e1 p o pb hh).there;rw[hp] at this;cases this
def CallV (r:List V→Hp→VK→Prop) (op:List PV→M PV):Prop:= ∀ (φ:Fam) (G:Bg φ) (O:Addr→Prop) (H:Hp) (n:Nat) (R:PV→Nat→Prop) (Q:VK) (l:List PV) (xs:List V),
 (∀ p,G.priv p→O p)→(∀ p,O p→∃ o,H p=some o)→G.ok H n→RepBs G O H l xs→(op l).wp n R→Wish G O H R Q→r xs H Q
theorem ev_callB (h:BE X e (tCB r (taB φ ml))) (hv:CallV r op):EV φ X e (fun ρ=>(ml ρ).bind op):=BE.mono h fun σ H Q hq0=>by
 obtain⟨G,O,ρ,n,R,s,w,q⟩:=hq0
 rw[M.wZ] at w
 exact⟨G,O,ρ,n,_,s,w,fun l xs H1 n1 e1 ok1 r1 w1=>hv φ G O H1 n1 R Q l xs s.pr (s.ext e1 ok1).dm ok1 r1 w1 fun y x H' n' e o r h=>q y x H' n' (e1.trans e) o r h⟩
def CallF (r:List V→Hp→VK→Prop) (op:List PV→M (List PV)):Prop:= ∀ (φ:Fam) (G:Bg φ) (O:Addr→Prop) (H:Hp) (n:Nat) (R:List PV→Nat→Prop) (Q:VK) (l:List PV) (xs:List V),
 (∀ p,G.priv p→O p)→(∀ p,O p→∃ o,H p=some o)→G.ok H n→RepBs G O H l xs→(op l).wp n R→WishF G O H R Q→r xs H Q
theorem ef_callB (h:BE X e (tCB r (taB φ ml))) (hv:CallF r op):EF φ X e (fun ρ=>(ml ρ).bind op):=BE.mono h fun σ H Q hq0=>by
 obtain⟨G,O,ρ,n,R,s,w,q⟩:=hq0
 rw[M.wZ] at w
 exact⟨G,O,ρ,n,_,s,w,fun l xs H1 n1 e1 ok1 r1 w1=>hv φ G O H1 n1 R Q l xs s.pr (s.ext e1 ok1).dm ok1 r1 w1 fun z p ys H' n' e o hp a b h=>q z p ys H' n' (e1.trans e) o (new_before e1 ok1 hp) a b h⟩
noncomputable def lenO:List PV→M PV
 |[.str z]=>if z.length≤100000 then .ret (.int z.length) else .fail
 |[.lst l]=>.ret (.int l.length)
 |[.tup l]=>.ret (.int l.length)
 |[.scr l]=>.ret (.int l.length)
 |[.dct l]=>.ret (.int l.length)
 |_=>.fail
def rLenD (K:PySem.W.Frag):List V→Hp→VK→Prop:=fun xs H Q=>(∃ x n,xs=[x]∧LenV K x H n∧Q (.int n) H)∨∃ a kvs,xs=[.ref a]∧Rd H a (.dK kvs)∧Q (.int kvs.length) H
theorem call_lenDD:CallR X (.builtin "len") (rLenD X.K):=by
 intro pZ s σ H xs us Q I r h
 rcases h with h|⟨a,kvs,rfl,h,q⟩
 ·exact call_len pZ s σ H xs us Q I r h
 ·obtain⟨u,rfl,rx⟩:=vals1 r
  cases rx
  exact d_len I h fun t s' I'=>⟨.int kvs.length,H,I',⟨_,rfl⟩,q⟩
theorem cv_len {K:PySem.W.Frag}:CallV (rLenD K) lenO:=fun φ G O H n R Q l xs pr dm ok r w q=>by
 match l,r,w with
 |[.str z],r,w=>
  obtain⟨x,ex,r1⟩:=r.one;subst ex;clear r;have r:=r1;clear r1
  rw[r.str_i]
  unfold lenO at w
  dsimp only at w
  by_cases hc:z.length≤100000
  ·rw[if_pos hc] at w;exact .inl ⟨_,_,rfl,⟨Nat.le_trans hc big_le,rfl⟩,q.sc ok (.int _) w⟩
  ·rw[if_neg hc] at w;exact w.elim
 |[.lst z],r,w=>
  obtain⟨x,ex,r1⟩:=r.one;subst ex;clear r;have r:=r1;clear r1
  obtain⟨p,xs,rfl,h,e⟩:=r.lst_i
  exact .inl ⟨_,_,rfl,.inl ⟨xs,SqL.of h,rfl⟩,q.sc ok (y:=.int z.length) (by rw[e.1];exact .int _) w⟩
 |[.tup z],r,w=>
  obtain⟨x,ex,r1⟩:=r.one;subst ex;clear r;have r:=r1;clear r1
  obtain⟨p,xs,rfl,h,e⟩:=r.tup_i
  exact .inl ⟨_,_,rfl,.inr ⟨xs,SqT.of h,rfl⟩,q.sc ok (y:=.int z.length) (by rw[e.1];exact .int _) w⟩
 |[.scr z],r,w=>
  obtain⟨x,ex,r1⟩:=r.one;subst ex;clear r;have r:=r1;clear r1
  obtain⟨p,o,rfl,h⟩:=r.scr_i
  exact .inl ⟨_,_,rfl,.inl ⟨_,.inl (.inr ⟨o,h⟩),rfl⟩,q.sc ok (y:=.int z.length) (by rw[List.length_map];exact .int _) w⟩
 |[.dct z],r,w=>
  obtain⟨x,ex,r1⟩:=r.one;subst ex;clear r;have r:=r1;clear r1
  obtain⟨p,ks,rfl,h,e⟩:=r.dct_i
  have e1:z.length=ks.length:=by simpa using congrArg List.length e.1
  exact .inr ⟨p,ks,rfl,h,q.sc ok (y:=.int z.length) (by rw[e1];exact .int _) w⟩
def blsOf:List PV→Option (List Bool)
 |[]=>some []
 | .bl b::r=>(blsOf r).map (b:: ·)
 |_=>none
theorem bls_rep: ∀ {l:List PV} {xs:List V} {bs:List Bool},Reps B O H l xs→blsOf l=some bs→xs=bs.map V.bl
 |[],xs,bs,h,e=>by simp[blsOf] at e;subst e;exact h.nil_inv
 |y::l,xs,bs,h,e=>by
  cases y<;>simp[blsOf] at e
  obtain⟨bs',e1,rfl⟩:=e
  obtain⟨x,r,rfl,h1,h2⟩:=h.cons_inv
  cases h1
  rw[List.map_cons,bls_rep h2 e1]
def allO:List PV→M PV
 |[.lst l]=>(M.ofO (blsOf l)).bind fun bs=>.ret (.bl (bs.all id))
 |_=>.fail
def anyO:List PV→M PV
 |[.lst l]=>(M.ofO (blsOf l)).bind fun bs=>.ret (.bl (bs.any id))
 |_=>.fail
theorem cv_all {K:PySem.W.Frag}:CallV (fun xs H Q=> ∃ (p:Addr) (bs:List Bool),xs=[.ref p]∧SqL K H p (bs.map V.bl)∧Q (.bl (bs.all id)) H) allO:=fun φ G O H n R Q l xs pr dm ok r w q=>by
 match l,r,w with
 |[.lst z],r,w=>
  obtain⟨x,ex,r1⟩:=r.one;subst ex;clear r;have r:=r1;clear r1
  obtain⟨p,xs,rfl,h,e⟩:=r.lst_i
  unfold allO at w
  dsimp only at w
  cases eb:blsOf z with
  |none=>rw[eb] at w;exact w.elim
  |some bs=>rw[eb] at w;rw[bls_rep e eb] at h;exact⟨p,bs,rfl,SqL.of h,q.sc ok (.bl _) w⟩
theorem range_any' (bs:List Bool):((List.range bs.length).any fun i=>(bs[i]?).getD false)=bs.any id:=by
 rw[Bool.eq_iff_iff,List.any_eq_true,List.any_eq_true]
 constructor
 ·rintro⟨i,hi,e⟩
  have hi':=List.mem_range.mp hi
  rw[List.getElem?_eq_getElem hi'] at e
  exact⟨_,List.getElem_mem hi',e⟩
 ·rintro⟨b,hb,e⟩
  obtain⟨i,hi,e1⟩:=List.getElem_of_mem hb
  exact⟨i,List.mem_range.mpr hi,by rw[List.getElem?_eq_getElem hi,e1];exact e⟩
theorem call_any (hc:X.calm=true):CallR X (.builtin "any") (fun xs H Q=> ∃ (p:Addr) (bs:List Bool),xs=[.ref p]∧SqL X.K H p (bs.map V.bl)∧Q (.bl (bs.any id)) H):=by
 intro pZ s σ H xs us Q I r h
 obtain⟨p,bs,rfl,hq,q⟩:=h
 obtain⟨u,rfl,rx⟩:=vals1 r
 cases rx
 obtain⟨its,r',pl,hz⟩:=I.list hq
 have hl:=pl.isList
 have hlt:p < s.heap.objs.size:=by obtain⟨_,e,_⟩:=hl;exact Heap.lt_size e
 have hlen:=r'.length
 rw[List.length_map] at hlen
 refine call_any_walk (wpAny_pyIter_list hl ?_)
 refine⟨s.heap.objs.size,[s.heap.objs.size,p],[s.heap.objs.size],its.toArray.size,_,_,fun i=>(bs[i]?).getD false,rfl,Walks.list (A:=X.A.in1) (I.ok.hd hc) _ p (Nat.ne_of_lt hlt) its.toArray,
  ⟨⟨_,Heap.get?_push_size _ rfl,rfl,rfl⟩,hl.push _⟩,fun i v s' Q' E' hP hQ=>?_,fun h' tk hk=>?_⟩
 ·obtain⟨b,e,rfl⟩:=bl_at r' i v (by simpa using hP)
  simp only[e,Option.getD_some] at hQ
  exact wpAny_truthy_bool hQ
 ·refine⟨.bl (bs.any id),H,I.kept (fun b o e=>hk b o (fun hm=>?_) (Heap.get?_push_of_some _ e)),?_,q⟩
  ·rw[List.mem_singleton.mp hm] at e;exact Nat.lt_irrefl _ (Heap.lt_size e)
  ·show Value.bool _=Value.bool _
   rw[List.size_toArray,←hlen,range_any']
theorem cv_any {K:PySem.W.Frag}:CallV (fun xs H Q=> ∃ (p:Addr) (bs:List Bool),xs=[.ref p]∧SqL K H p (bs.map V.bl)∧Q (.bl (bs.any id)) H) anyO:=fun φ G O H n R Q l xs pr dm ok r w q=>by
 match l,r,w with
 |[.lst z],r,w=>
  obtain⟨x,ex,r1⟩:=r.one;subst ex;clear r;have r:=r1;clear r1
  obtain⟨p,xs,rfl,h,e⟩:=r.lst_i
  unfold anyO at w
  dsimp only at w
  cases eb:blsOf z with
  |none=>rw[eb] at w;exact w.elim
  |some bs=>rw[eb] at w;rw[bls_rep e eb] at h;exact⟨p,bs,rfl,SqL.of h,q.sc ok (.bl _) w⟩
def tupO:List PV→M PV
 |[.lst l]=>.ret (.tup l)
 |[.tup l]=>.ret (.tup l)
 |_=>.fail
theorem cv_tup {K:PySem.W.Frag}:CallV (fun xs H Q=> ∃ p ys,xs=[.ref p]∧((SqL K H p ys∧∀ l,H l=none→Q (.ref l) (upd H l (.tup ys)))∨(SqT K H p ys∧Q (.ref p) H))) tupO:=fun φ G O H n R Q l xs pr dm ok r w q=>by
 match l,r,w with
 |[.lst z],r,w=>
  obtain⟨x,ex,r1⟩:=r.one;subst ex;clear r;have r:=r1;clear r1
  obtain⟨p,xs,rfl,h,e⟩:=r.lst_i
  exact⟨p,xs,rfl,.inl ⟨SqL.of h,fun l hl=>q.tup ok dm hl (pr _ G.pB) e w⟩⟩
 |[.tup z],r,w=>
  obtain⟨x,ex,r1⟩:=r.one;subst ex;clear r;have r:=r1;clear r1
  obtain⟨p,xs,rfl,h,e⟩:=r.tup_i
  cases r with
  |full r=>exact⟨p,xs,rfl,.inr ⟨SqT.of h,q.sc ok r w⟩⟩
def lstO:List PV→M (List PV)
 |[.lst l]=>.ret l
 |[.tup l]=>.ret l
 |_=>.fail
theorem cf_lst {K:PySem.W.Frag}:CallF (fun xs H Q=> ∃ p ys,xs=[.ref p]∧(SqL K H p ys∨SqT K H p ys)∧∀ l,H l=none→Q (.ref l) (upd H l (.lst ys))) lstO:=fun φ G O H n R Q l xs pr dm ok r w q=>by
 match l,r,w with
 |[.lst z],r,w=>
  obtain⟨x,ex,r1⟩:=r.one;subst ex;clear r;have r:=r1;clear r1
  obtain⟨p,xs,rfl,h,e⟩:=r.lst_i
  exact⟨p,xs,rfl,.inl (SqL.of h),fun l hl=>q.mk ok hl (pr _ G.pB) e w⟩
 |[.tup z],r,w=>
  obtain⟨x,ex,r1⟩:=r.one;subst ex;clear r;have r:=r1;clear r1
  obtain⟨p,xs,rfl,h,e⟩:=r.tup_i
  exact⟨p,xs,rfl,.inr (SqT.of h),fun l hl=>q.mk ok hl (pr _ G.pB) e w⟩
end
end
section
variable {φ:Fam}
noncomputable def spP (φ:Fam) (f:List PV→M PV):Sp:=fun vs H Q _=> ∃ (G:Bg φ) (O:Addr→Prop) (l:List PV) (n:Nat) (R:PV→Nat→Prop),(∀ p,G.priv p→O p)∧(∀ p,O p→∃ o,H p=some o)∧G.ok H n∧Reps G.B O H l vs∧(f l).wp n R∧Wish G O H R Q
section
variable {X:Cx} {e:Expr} {es:List Expr} {ml:PEnv→M (List PV)} {f:List PV→M PV}
theorem ev_call (h:BE X e (tCall (spP φ f) [] E0 (taP φ ml))):EV φ X e (fun ρ=>(ml ρ).bind f):=BE.mono h fun σ H Q hq0=>by
 obtain⟨G,O,ρ,n,R,s,w,q⟩:=hq0
 rw[M.wZ] at w
 refine⟨G,O,ρ,n,_,s,w,fun l xs H1 n1 e1 ok1 r1 w1=>?_⟩
 show spP φ f (xs++[]) H1 Q E0
 rw[List.append_nil]
 exact⟨G,O,l,n1,R,s.pr,(s.ext e1 ok1).dm,ok1,r1,w1,fun y x H' n' e o r h=>q y x H' n' (e1.trans e) o r h⟩
def flatM (y:PV):M PV:=if flatP y=true then .ret y else .fail
theorem ev_callO (h:BE X e (tCall (spP φ f) [] E0 (taB φ ml))):EV φ X e (fun ρ=>(ml ρ).bind fun l=>(f l).bind flatM):=BE.mono h fun σ H Q hq0=>by
 obtain⟨G,O,ρ,n,R,s,w,q⟩:=hq0
 rw[M.wZ] at w
 refine⟨G,O,ρ,n,_,s,w,fun l xs H1 n1 e1 ok1 r1 w1=>?_⟩
 show spP φ f (xs++[]) H1 Q E0
 rw[List.append_nil]
 rw[M.wZ] at w1
 refine⟨G,G.priv,l,n1,_,fun p h=>h,fun p h=>G.dom _ _ _ ok1 h,ok1,⟨r1.1,fun i y x a b=>(r1.2 i y x a b).low s.pr⟩,w1,fun y x H' n' e o r h=>?_⟩
 unfold flatM at h
 by_cases hf:flatP y=true
 ·rw[if_pos hf] at h
  refine q y x H' n' (e1.trans e) o ?_ h
  rw[flat_rep r hf]
  cases y<;>first|exact .non|exact .bl _|exact .int _|exact .str _|(simp[flatP,toV,flatV] at hf)
 ·rw[if_neg hf] at h;exact h.elim
def SlV (r:V→Option Int→Option Int→Hp→VK→Prop) (op:PV→Option Int→Option Int→M PV):Prop:= ∀ (φ:Fam) (G:Bg φ) (O:Addr→Prop) (H:Hp) (n:Nat) (R:PV→Nat→Prop) (Q:VK) (y:PV) (lo hi:Option Int) (x:V),
 (∀ p,G.priv p→O p)→(∀ p,O p→∃ o,H p=some o)→G.ok H n→RepB G O H y x→(op y lo hi).wp n R→Wish G O H R Q→r x lo hi H Q
def WishO (G:Bg φ) (H:Hp) (R:Option Int→Nat→Prop) (Q:Option Int→Hp→Prop):Prop:= ∀ (o:Option Int) (H':Hp) (n':Nat),Ext G.B H H'→G.ok H' n'→R o n'→Q o H'
def toP (φ:Fam) (m:PEnv→M (Option Int)):TO:=fun σ H Q=> ∃ (G:Bg φ) (O:Addr→Prop) (ρ:PEnv) (n:Nat) (R:Option Int→Nat→Prop),ES G O H σ ρ n∧(m ρ).wp n R∧WishO G H R Q
def OV (φ:Fam) (X:Cx) (e:Option Expr) (m:PEnv→M (Option Int)):Prop:=BO X e (toP φ m)
theorem BO.mono {e:Option Expr} {t t':TO} (h:BO X e t) (f: ∀ σ H Q,t' σ H Q→t σ H Q):BO X e t':=⟨fun pZ s σ H Q I q=>h.out pZ s σ H Q I (f σ H Q q)⟩
theorem ov_none:OV φ X none (fun _=>.ret none):=BO.mono ⟨po_none⟩ fun σ H Q ⟨G,O,ρ,n,R,s,w,q⟩=>q none H n (Ext.refl _ _) s.ok w
def intM:PV→M Int
 | .int i=>.ret i
 |_=>.fail
theorem ov_some (h:EB φ X e m):OV φ X (some e) (fun ρ=>(m ρ).bind fun y=>(intM y).bind fun i=>.ret (some i)):=BO.mono ⟨po_some h.out⟩ fun σ H Q hq0=>by
 obtain⟨G,O,ρ,n,R,s,w,q⟩:=hq0
 rw[M.wZ] at w
 refine⟨G,O,ρ,n,_,s,w,fun y x H1 n1 e1 ok1 r1 w1=>?_⟩
 cases y<;>first|exact w1.elim|skip
 rename_i i
 rw[r1.int_i]
 exact⟨i,rfl,q _ _ _ e1 ok1 w1⟩
def sl3 (op:PV→Option Int→Option Int→M PV) (me:PEnv→M PV) (ml mh:PEnv→M (Option Int)):PEnv→M PV:=fun ρ=>(me ρ).bind fun y=>(ml ρ).bind fun lo=>(mh ρ).bind fun hi=>op y lo hi
theorem ev_slice {r:V→Option Int→Option Int→Hp→VK→Prop} {op:PV→Option Int→Option Int→M PV} {me:PEnv→M PV} {ml mh:PEnv→M (Option Int)} (h:BE X e (tSl r (teB φ me) (toP φ ml) (toP φ mh))) (hv:SlV r op):EV φ X e (sl3 op me ml mh):=BE.mono h fun σ H Q hq0=>by
 obtain⟨G,O,ρ,n,R,s,w,q⟩:=hq0
 unfold sl3 at w
 rw[M.wZ] at w
 refine⟨G,O,ρ,n,_,s,w,fun y x H1 n1 e1 ok1 r1 w1=>?_⟩
 rw[M.wZ] at w1
 refine⟨G,O,ρ,n1,_,s.ext e1 ok1,w1,fun lo H2 n2 e2 ok2 w2=>?_⟩
 rw[M.wZ] at w2
 refine⟨G,O,ρ,n2,_,s.ext (e1.trans e2) ok2,w2,fun hi H3 n3 e3 ok3 w3=>?_⟩
 exact hv φ G O H3 n3 R Q y lo hi x s.pr (s.ext (e1.trans (e2.trans e3)) ok3).dm ok3 (r1.ext s.B (e2.trans e3)) w3 fun y x H' n' e o r h=>q y x H' n' (e1.trans (e2.trans (e3.trans e))) o r h
def cutP (l:List PV) (lo hi:Option Int):List PV:=(l.drop (HT.sIx l.length 0 lo)).take (HT.sIx l.length l.length hi - HT.sIx l.length 0 lo)
theorem cut_reps (h:Reps B O H l xs) (lo hi:Option Int):Reps B O H (cutP l lo hi) (cutV xs lo hi):=by
 unfold cutP cutV
 rw[←h.1]
 exact(h.drop _).take _
theorem cutP_whole (l:List PV) (lo hi:Option Int) (h:HT.sIx l.length 0 lo=0∧HT.sIx l.length l.length hi=l.length):cutP l lo hi=l:=by
 unfold cutP
 rw[h.1,h.2]
 simp
def rSlD (K:PySem.W.Frag):V→Option Int→Option Int→Hp→VK→Prop:=fun x lo hi H Q=>rSlL K x lo hi H Q∨rSlT K x lo hi H Q
theorem sl_D:SlR X (rSlD X.K):=sl_list.or sl_tup
def signsP (x:Str):List PV:=x.cps.toList.map fun c=>.str ⟨#[c]⟩
def intsP (lo:Int) (n:Nat):List PV:=(List.range n).map fun i=>.int (lo+(i:Nat))
inductive ItOf (K:PySem.W.Frag) (G:Bg φ) (O:Addr→Prop) (c:Bool) (H:Hp):List PV→It→Prop where
 |lst {p:Addr} {xs:List V} {l:List PV} (np: ¬ G.priv p) (hp:c=true→¬ O p) (h:H p=some (.lst xs)) (r:Reps G.B O H l xs):ItOf K G O c H l (Itl K p)
 |tup {p:Addr} {xs:List V} {l:List PV} (hp: ¬ O p) (h:H p=some (.tup xs)) (r:Reps G.B O H l xs):ItOf K G O c H l (Itt K p)
 |txt (x:Str):ItOf K G O c H (signsP x) (Itx x)
 |rng (lo:Int) (n:Nat):ItOf K G O c H (intsP lo n) (Itr lo n)
theorem itl_go {K:PySem.W.Frag} {H:Hp} {p:Addr} {xs:List V} (h:H p=some (.lst xs)) {i:Nat} (hi:i < xs.length):(Itl K p).go i H:=⟨xs,xs[i],SqL.of h,by simp[hi]⟩
theorem itt_go {K:PySem.W.Frag} {H:Hp} {p:Addr} {xs:List V} (h:H p=some (.tup xs)) {i:Nat} (hi:i < xs.length):(Itt K p).go i H:=⟨xs,xs[i],SqT.of h,by simp[hi]⟩
theorem ItOf.go {K:PySem.W.Frag} {G:Bg φ} {O:Addr→Prop} {c:Bool} {H:Hp} {l:List PV} {J:It} (t:ItOf K G O c H l J) {i:Nat} {y:PV} (hi:l[i]?=some y):J.go i H∧∀ x H2,J.yld i H x H2→H2=H∧Rep G.B O H y x:=by
 have hl:i < l.length:=(List.getElem?_eq_some_iff.mp hi).1
 cases t with
 |lst np hp h r=>
  refine⟨itl_go h (r.1▸hl),fun x H2 z=>?_⟩
  obtain⟨e,z⟩:=z
  exact⟨e,r.2 i y x hi (z _ (SqL.of h))⟩
 |tup hp h r=>
  refine⟨itt_go h (r.1▸hl),fun x H2 z=>?_⟩
  obtain⟨e,z⟩:=z
  exact⟨e,r.2 i y x hi (z _ (SqT.of h))⟩
 |txt z=>
  unfold signsP at hi hl
  refine⟨by show i < z.cps.size;simpa using hl,fun x H2 q=>?_⟩
  obtain⟨e,c',hc,rfl⟩:=q
  refine⟨e,?_⟩
  rw[List.getElem?_map] at hi
  have:z.cps.toList[i]?=some c':=by simpa using hc
  rw[this] at hi
  cases hi
  exact .str _
 |rng lo n=>
  unfold intsP at hi hl
  have hn:i < n:=by simpa using hl
  refine⟨hn,fun x H2 q=>?_⟩
  obtain⟨e,rfl⟩:=q
  refine⟨e,?_⟩
  rw[List.getElem?_map,List.getElem?_range hn] at hi
  cases hi
  exact .int _
theorem ItOf.stop {K:PySem.W.Frag} {G:Bg φ} {O:Addr→Prop} {c:Bool} {H:Hp} {l:List PV} {J:It} (t:ItOf K G O c H l J):J.stop l.length H:=by
 cases t with
 |lst np hp h r=>exact⟨_,SqL.of h,Nat.le_of_eq r.1.symm⟩
 |tup hp h r=>exact⟨_,SqT.of h,Nat.le_of_eq r.1.symm⟩
 |txt z=>show (signsP z).length=z.cps.size;simp[signsP]
 |rng lo n=>show n≤(intsP lo n).length;simp[intsP]
theorem ItOf.keepS {K:PySem.W.Frag} {G:Bg φ} {O O':Addr→Prop} {c:Bool} {H H':Hp} {l:List PV} {J:It} (t:ItOf K G O c H l J) (k: ∀ p o,¬ O p→H p=some o→Stand H' p o∧¬ O' p) (k2:c=true∨∀ p xs,¬ G.priv p→H p=some (.lst xs)→H' p=some (.lst xs)) (hc: ∀ p,c=true→¬ O p→¬ O' p):ItOf K G O' c H' l J:=by
 cases t with
 |lst np hp h r=>
  refine .lst np (fun z=>hc _ z (hp z)) ?_ (r.keepS k)
  rcases k2 with z|z
  ·exact(k _ _ (hp z) h).1
  ·exact z _ _ np h
 |tup hp h r=>exact .tup (k _ _ hp h).2 (k _ _ hp h).1 (r.keepS k)
 |txt z=>exact .txt z
 |rng lo n=>exact .rng lo n
theorem ItOf.keep {K:PySem.W.Frag} {G:Bg φ} {O O':Addr→Prop} {c:Bool} {H H':Hp} {l:List PV} {J:It} (t:ItOf K G O c H l J) (k: ∀ p o,¬ O p→H p=some o→H' p=some o∧¬ O' p) (k2:c=true∨∀ p xs,¬ G.priv p→H p=some (.lst xs)→H' p=some (.lst xs)) (hc: ∀ p,c=true→¬ O p→¬ O' p):ItOf K G O' c H' l J:=t.keepS (fun p o n q=>⟨.of (k p o n q).1,(k p o n q).2⟩) k2 hc
noncomputable def tiP (φ:Fam) (K:PySem.W.Frag) (c:Bool) (m:PEnv→M (List PV)):TI:=fun σ H Q=> ∃ (G:Bg φ) (O:Addr→Prop) (ρ:PEnv) (n:Nat) (R:List PV→Nat→Prop),ES G O H σ ρ n∧(m ρ).wp n R∧
 ∀ (l:List PV) (J:It) (H':Hp) (n':Nat),Ext G.B H H'→G.ok H' n'→ItOf K G O c H' l J→R l n'→Q J H'
def IV (φ:Fam) (X:Cx) (c:Bool) (tg iter:Expr) (m:PEnv→M (List PV)):Prop:=BI X tg iter (tiP φ X.K c m)
def iterO:PV→M (List PV)
 | .lst l=>.ret l
 | .tup l=>.ret l
 | .str x=>.ret (signsP x)
 |_=>.fail
theorem pi_seq (hl:PE X l tl):PI X tg l (fun σ H R=>tl σ H fun x H1=>(∃ a,x= .ref a∧(∃ xs,SqL X.K H1 a xs)∧R (Itl X.K a) H1)∨(∃ a,x= .ref a∧(∃ xs,SqT X.K H1 a xs)∧R (Itt X.K a) H1)∨∃ z,x= .str z∧R (Itx z) H1):=by
 intro pZ s σ H R I h
 refine thn (hl pZ s σ H _ I h) fun v s1 ⟨x,H1,I1,r1,q1⟩=>?_
 rcases q1 with⟨a,e,⟨xs,hq⟩,q⟩|⟨a,e,⟨xs,hq⟩,q⟩|⟨z,e,q⟩
 ·subst e
  cases r1
  obtain⟨its,rv,p,hz⟩:=I1.list hq
  refine wpAny_pyIter_list p.isList ?_
  refine⟨s1.heap.objs.size,[s1.heap.objs.size],_,_,H1,rfl,I1.kept (t':=s1.toks) fun b o e=>Heap.get?_push_of_some _ e,turn_list a _,⟨_,Heap.get?_push_size _ rfl,rfl,rfl⟩,fun b hb=>?_,q⟩
  have e:b=s1.heap.objs.size:=by simpa using hb
  subst e
  exact I1.fpOk (Nat.le_refl _) (I1.hok.fresh (Nat.le_refl _))
 ·subst e
  cases r1
  obtain⟨its,rv,p,hz⟩:=I1.tuple hq
  refine wpAny_pyIter_tuple (show s1.heap.IsTuple a its.toArray from p) ?_
  refine⟨s1.heap.objs.size,[s1.heap.objs.size],_,_,H1,rfl,I1.kept (t':=s1.toks) fun b o e=>Heap.get?_push_of_some _ e,turn_tuple a _,⟨_,Heap.get?_push_size _ rfl,rfl,rfl⟩,fun b hb=>?_,q⟩
  have e:b=s1.heap.objs.size:=by simpa using hb
  subst e
  exact I1.fpOk (Nat.le_refl _) (I1.hok.fresh (Nat.le_refl _))
 ·subst e
  obtain⟨t,rfl⟩:=r1
  have fin: ∀ (o:Obj) (ty:String),o.cls= .type ty→o.data= .fields #[.str z t,.int (0:Nat) 0]→Turn X.prog X.w X.K tg (Itx z) [s1.heap.objs.size] s1.heap.objs.size (fun i h=>h.IsStrIter s1.heap.objs.size ty z t i)→o.isFreed=false→
    PIE X pZ σ tg R (.ref s1.heap.objs.size) {s1 with heap:=s1.heap.push o}:=fun o ty h1 h2 T hfr=>by
   refine⟨s1.heap.objs.size,[s1.heap.objs.size],_,_,H1,rfl,I1.kept (t':=s1.toks) fun b o e=>Heap.get?_push_of_some _ e,T,⟨_,Heap.get?_push_size _ hfr,h1,h2⟩,fun b hb=>?_,q⟩
   have e:b=s1.heap.objs.size:=by simpa using hb
   subst e
   exact I1.fpOk (Nat.le_refl _) (I1.hok.fresh (Nat.le_refl _))
  cases ha:z.cps.all (· < 128)
  ·exact wpAny_pyIter_wide ha (fin _ _ rfl rfl (turn_text _ z t (by decide) (fun A hA=>Walks.strWide hA _ z t) fun _ _ _ _ _ st h=>wpAny_pyIter_striter_wide st h) rfl)
  ·exact wpAny_pyIter_ascii ha (fin _ _ rfl rfl (turn_text _ z t (by decide) (fun A hA=>Walks.strAscii hA _ z t) fun _ _ _ _ _ st h=>wpAny_pyIter_striter_ascii st h) rfl)
theorem BI.mono {tg iter:Expr} {t t':TI} (h:BI X tg iter t) (f: ∀ σ H Q,t' σ H Q→t σ H Q):BI X tg iter t':=⟨fun pZ s σ H Q I q=>h.out pZ s σ H Q I (f σ H Q q)⟩
theorem iv_b (h:EB φ X e m):IV φ X false tg e (fun ρ=>(m ρ).bind iterO):=BI.mono ⟨pi_seq h.out⟩ fun σ H Q hq0=>by
 obtain⟨G,O,ρ,n,R,s,w,q⟩:=hq0
 rw[M.wZ] at w
 refine⟨G,O,ρ,n,_,s,w,fun y x H1 n1 e1 ok1 r1 w1=>?_⟩
 cases y<;>first|exact w1.elim|skip
 ·rw[r1.str_i]
  exact .inr (.inr ⟨_,rfl,q _ _ _ _ e1 ok1 (.txt _) w1⟩)
 ·cases r1 with
  |full r1=>cases r1 with
   |tup a b c d=>exact .inr (.inl ⟨_,rfl,⟨_,SqT.of b⟩,q _ _ _ _ e1 ok1 (.tup a b ⟨c,d⟩) w1⟩)
 ·cases r1 with
  |full r1=>cases r1 with
   |lst a b c d=>exact .inl ⟨_,rfl,⟨_,SqL.of b⟩,q _ _ _ _ e1 ok1 (.lst (fun z=>a (s.pr _ z)) (fun z=>by cases z) b ⟨c,d⟩) w1⟩
  |top a b c=>exact .inl ⟨_,rfl,⟨_,SqL.of b⟩,q _ _ _ _ e1 ok1 (.lst a (fun z=>by cases z) b c) w1⟩
theorem iv_v (h:EV φ X e m):IV φ X true tg e (fun ρ=>(m ρ).bind iterO):=BI.mono ⟨pi_seq h.out⟩ fun σ H Q hq0=>by
 obtain⟨G,O,ρ,n,R,s,w,q⟩:=hq0
 rw[M.wZ] at w
 refine⟨G,O,ρ,n,_,s,w,fun y x H1 n1 e1 ok1 r1 w1=>?_⟩
 cases r1 with
 |str z=>exact .inr (.inr ⟨_,rfl,q _ _ _ _ e1 ok1 (.txt _) w1⟩)
 |tup a b c d=>exact .inr (.inl ⟨_,rfl,⟨_,SqT.of b⟩,q _ _ _ _ e1 ok1 (.tup a b ⟨c,d⟩) w1⟩)
 |lst a b c d=>exact .inl ⟨_,rfl,⟨_,SqL.of b⟩,q _ _ _ _ e1 ok1 (.lst (fun z=>a (s.pr _ z)) (fun _=>a) b ⟨c,d⟩) w1⟩
 |_=>exact w1.elim
def rng1O:List PV→M (List PV)
 |[.int j]=>if -1000000≤j∧j≤100000 then .ret (intsP 0 j.toNat) else .fail
 |_=>.fail
theorem iv_rng1 (h:BI X tg e (iRng1 (taB φ ml))):IV φ X c tg e (fun ρ=>(ml ρ).bind rng1O):=BI.mono h fun σ H Q hq0=>by
 obtain⟨G,O,ρ,n,R,s,w,q⟩:=hq0
 rw[M.wZ] at w
 refine⟨G,O,ρ,n,_,s,w,fun l xs H1 n1 e1 ok1 r1 w1=>?_⟩
 match l,r1,w1 with
 |[.int j],r1,w1=>
  obtain⟨x,rfl,r2⟩:=r1.one
  rw[r2.int_i]
  unfold rng1O at w1
  dsimp only at w1
  by_cases hc: -1000000≤j∧j≤100000
  ·rw[if_pos hc] at w1
   have e62:(2:Int) ^ 62=4611686018427387904:=by decide
   exact⟨j,rfl,by lia,by lia,q _ _ _ _ e1 ok1 (.rng 0 j.toNat) w1⟩
  ·rw[if_neg hc] at w1;exact w1.elim
noncomputable def tgP (φ:Fam) (b:PV→PEnv→M PEnv):TG:=fun v σ H Q=> ∃ (G:Bg φ) (O:Addr→Prop) (ρ:PEnv) (n:Nat) (R:PEnv→Nat→Prop) (y:PV),ES G O H σ ρ n∧Rep G.B O H y v∧(b y ρ).wp n R∧
 ∀ (σ':St) (ρ':PEnv) (n':Nat),ES G O H σ' ρ' n'→R ρ' n'→Q σ' H
def GV (φ:Fam) (X:Cx) (tg:Expr) (b:PV→PEnv→M PEnv):Prop:=BG X tg (tgP φ b)
theorem EnvRep.set (h:EnvRep G O H σ ρ) (k:Nat) (r:EntRep G O H t (some x)):EnvRep G O H (σ.set k (some x)) (ρ.set k t):=by
 refine⟨by simp[h.1],fun i e he=>?_⟩
 by_cases hk:k=i
 ·subst hk
  have hl:k < ρ.length:=by have:=(List.getElem?_eq_some_iff.mp he).1;simpa using this
  rw[List.getElem?_set_self hl] at he
  cases he
  rw[List.getElem?_set_self (h.1▸hl)]
  exact r
 ·rw[List.getElem?_set_ne hk] at he ⊢
  exact h.2 i e he
theorem ES.set (s:ES G O H σ ρ n) (k:Nat) (r:EntRep G O H t (some x)):ES G O H (σ.set k (some x)) (ρ.set k t) n:=⟨s.er.set k r,s.ok,s.pr,s.dm⟩
def bindN (k:Nat) (y:PV) (ρ:PEnv):M PEnv:=.ret (ρ.set k (.val y))
theorem BG.mono {tg:Expr} {t t':TG} (h:BG X tg t) (f: ∀ v σ H Q,t' v σ H Q→t v σ H Q):BG X tg t':=⟨fun pZ s σ H v u Q I r q=>h.out pZ s σ H v u Q I r (f v σ H Q q)⟩
theorem gv_name (h:BG X tg (gName k)):GV φ X tg (bindN k):=BG.mono h fun v σ H Q ⟨G,O,ρ,n,R,y,s,r,w,q⟩=>q _ _ n (s.set k (t:=.val y) ⟨v,rfl,r⟩) w
def bindsN:List Nat→List PV→PEnv→PEnv
 |k::ks,y::l,ρ=>bindsN ks l (ρ.set k (.val y))
 |_,_,ρ=>ρ
def bindT (ks:List Nat) (y:PV) (ρ:PEnv):M PEnv:=match y with
 | .tup l=>if l.length=ks.length then .ret (bindsN ks l ρ) else .fail
 |_=>.fail
def gNames:List Nat→TGs
 |[]=>gNil
 |k::ks=>gCons (gName k) (gNames ks)
theorem gNames_ok {G:Bg φ}: ∀ (ks:List Nat) (l:List PV) (xs:List V) (σ:St) (ρ:PEnv) (Q:St→Hp→Prop),l.length=ks.length→Reps G.B O H l xs→ES G O H σ ρ n→(∀ σ',ES G O H σ' (bindsN ks l ρ) n→Q σ' H)→gNames ks xs σ H Q
 |[],l,xs,σ,ρ,Q,hl,r,s,q=>by
  have e:l=[]:=List.eq_nil_of_length_eq_zero hl
  subst e
  rw[r.nil_inv]
  exact⟨rfl,q σ s⟩
 |k::ks,l,xs,σ,ρ,Q,hl,r,s,q=>by
  cases l with
  |nil=>simp at hl
  |cons y l=>
   obtain⟨x,t,rfl,r1,r2⟩:=r.cons_inv
   exact⟨x,t,rfl,gNames_ok ks l t _ _ Q (by simpa using hl) r2 (s.set k (t:=.val y) ⟨x,rfl,r1⟩) q⟩
theorem gv_tup {ks:List Nat} (h:BG X tg (gTup X.K ks.length (gNames ks))):GV φ X tg (bindT ks):=BG.mono h fun v σ H Q hq0=>by
 obtain⟨G,O,ρ,n,R,y,s,r,w,q⟩:=hq0
 unfold bindT at w
 cases r with
 | @tup p xs l a b c d=>
  dsimp only at w
  by_cases hc:l.length=ks.length
  ·rw[if_pos hc] at w
   exact⟨p,xs,rfl,SqT.of b,by rw[←c];exact hc,gNames_ok ks l xs σ ρ Q hc ⟨c,d⟩ s fun σ' s'=>q σ' _ n s' w⟩
  ·rw[if_neg hc] at w;exact w.elim
 |_=>exact w.elim
noncomputable def lcM (bd:PV→PEnv→M PEnv) (tt:PEnv→M Bool) (te:PEnv→M PV):List PV→PEnv→M (List PV)
 |[],_=>.ret []
 |y::r,ρ=>(bd y ρ).bind fun ρ1=>(tt ρ1).bind fun ok=>if ok=true then(te ρ1).bind fun z=>(lcM bd tt te r ρ1).bind fun l=>.ret (z::l) else lcM bd tt te r ρ1
def capP (js:List (Option Nat)) (ρ:PEnv):PEnv:=js.map fun o=>match o with|some j=>(ρ[j]?).getD .un|none=>.un
theorem capP_rep (h:EnvRep G O H σ ρ) (js:List (Option Nat)):EnvRep G O H (capSt js σ) (capP js ρ):=by
 refine⟨by simp[capSt,capP],fun i e he=>?_⟩
 unfold capP at he
 unfold capSt
 rw[List.getElem?_map] at he ⊢
 cases q:js[i]? with
 |none=>rw[q] at he;cases he
 |some o=>
  rw[q] at he
  simp only[Option.map_some,Option.some.injEq] at he ⊢
  subst he
  cases o with
  |none=>trivial
  |some j=>
   dsimp only
   cases q2:ρ[j]? with
   |none=>rw[Option.getD_none];trivial
   |some t=>
    have:=h.2 j t q2
    rw[Option.getD_some]
    simpa using this
def allTs:PEnv→M Bool:=fun _=>.ret true
theorem BTs.mono {ifs:List Expr} {t t':TT} (h:BTs X ifs t) (f: ∀ σ H Q,t' σ H Q→t σ H Q):BTs X ifs t':=⟨fun pZ s σ H Q I q=>h.out pZ s σ H Q I (f σ H Q q)⟩
def TsV (φ:Fam) (X:Cx) (ifs:List Expr) (m:PEnv→M Bool):Prop:=BTs X ifs (ttP φ m)
theorem ts_nil:TsV φ X [] allTs:=BTs.mono ⟨pts_nil⟩ fun σ H Q ⟨G,O,ρ,n,R,s,w,q⟩=>q true H n (Ext.refl _ _) s.ok w
theorem ts_one (h:TV φ X c m):TsV φ X [c] m:=⟨pts_one h.out⟩
noncomputable def mkLC (js:List (Option Nat)) (mi:PEnv→M (List PV)) (bd:PV→PEnv→M PEnv) (tt:PEnv→M Bool) (te:PEnv→M PV):PEnv→M (List PV):=fun ρ=>(mi ρ).bind fun l=>if l.length≤100000 then lcM bd tt te l (capP js ρ) else .fail
noncomputable def Bg.with (G:Bg φ) (D:Addr) (hD:D≠G.B):Bg φ where
 B:=G.B
 priv:=fun p=>G.priv p∨p=D
 ok:=fun H n=>G.ok H n∧∃ ys,H D=some (.lst ys)
 pB:=.inl G.pB
 keep:=fun H H' n k h=>⟨G.keep H H' n (fun p o z=>k p o (z.imp .inl id)) h.1,by obtain⟨ys,e⟩:=h.2;exact⟨ys,k D _ (.inl (.inr rfl)) e⟩⟩
 tp:=fun e he=>.inl (G.tp e he)
 tab:=fun H n h=>G.tab H n h.1
 tset:=fun H H' n h h1 h2=>⟨G.tset H H' n h.1 h1 h2,by
  obtain⟨ys,e⟩:=h.2
  refine⟨ys,h2 D _ (fun z=>?_) e⟩
  obtain⟨q,hq,rfl⟩:=List.mem_map.mp z
  obtain⟨ps,e2,_⟩:=G.tab H n h.1 q hq
  rw[e] at e2;cases e2⟩
 dom:=fun H n p h z=>by
  rcases z with z|z
  ·exact G.dom H n p h.1 z
  ·subst z;obtain⟨ys,e⟩:=h.2;exact⟨_,e⟩
 dr:=fun H n m Q E h h0 h1 q=>G.dr H n m Q E h.1 h0 h1 fun d H' d0 d1 e o=>q d H' d0 d1 e ⟨o,by
  obtain⟨ys,e2⟩:=h.2
  exact⟨ys,e D _ hD e2⟩⟩
theorem lc_in {K:PySem.W.Frag} {js:List (Option Nat)} {mi:PEnv→M (List PV)} {bd:PV→PEnv→M PEnv} {tt:PEnv→M Bool} {te:PEnv→M PV}: ∀ σ H Q,teF φ (mkLC js mi bd tt te) σ H Q→tLC js (tiP φ K false mi) (tgP φ bd) (ttP φ tt) (teP φ te) σ H Q:=fun σ H Q hq0=>by
 obtain⟨G,O,ρ,n,R,s,w,q⟩:=hq0
 unfold mkLC at w
 rw[M.wZ] at w
 refine⟨G,O,ρ,n,_,s,w,fun l J H1 n1 e1 ok1 it w1=>fun D hD=>?_⟩
 by_cases hl:l.length≤100000
 case neg=>rw[if_neg hl] at w1;exact w1.elim
 rw[if_pos hl] at w1
 have s1:=s.ext e1 ok1
 have nD: ¬ O D:=fun z=>by obtain⟨o,g⟩:=s1.dm D z;rw[hD] at g;cases g
 have pD: ¬ G.priv D:=fun z=>nD (s.pr _ z)
 have hBD:D≠G.B:=fun z=>pD (z▸G.pB)
 have hne: ∀ p o,H1 p=some o→p≠D:=fun p o hp z=>by subst z;rw[hD] at hp;cases hp
 let O':Addr→Prop:=fun p=>O p∨p=D
 let G':Bg φ:=G.with D hBD
 have k0: ∀ p o,¬ O p→H1 p=some o→upd H1 D (HO.lst []) p=some o∧¬ O' p:=fun p o np hp=>⟨by rw[upd_ne (hne p o hp)];exact hp,fun z=>by
  rcases z with z|z
  ·exact np z
  ·exact hne p o hp z⟩
 have kD: ∀ (H5:Hp) (o:HO) p u,¬ O' p→H5 p=some u→upd H5 D o p=some u∧¬ O' p:=fun H5 o p u np hp=>⟨by rw[upd_ne (fun z=>np (.inr z))];exact hp,np⟩
 refine⟨fun i m σ' H'=>m=l.length - i∧i≤l.length∧∃ (ys:List V) (zs:List PV) (ρ':PEnv) (n':Nat),ys.length≤i∧H' D=some (.lst ys)∧Reps G.B O' H' zs ys∧ES G' O' H' σ' ρ' n'∧Ext G.B H1 H'∧ItOf K G' O' false H' l J∧
  (lcM bd tt te (l.drop i) ρ').wp n' (fun t k=>R (zs++t) k),⟨l.length,by simp,Nat.zero_le _,[],[],capP js ρ,n1,Nat.le_refl _,upd_same,.nil,?_,Ext.new hD _,?_,?_⟩,?_⟩
 ·have er:=capP_rep s1.er js
  refine⟨⟨er.1,fun i e he=>?_⟩,⟨Bg.new ok1 hD _,[],upd_same⟩,fun p z=>?_,fun p z=>?_⟩
  ·have r1:=er.2 i e he
   cases e with
   |un=>trivial
   |val y=>obtain⟨x,hx,rr⟩:=r1;exact⟨x,hx,rr.keep k0⟩
   |own t=>
    obtain⟨p,xs,hx,hp,np,hh,rr⟩:=r1
    exact⟨p,xs,hx,.inl hp,fun z=>by
     rcases z with z|z
     ·exact np z
     ·exact hne p _ hh z,by rw[upd_ne (hne p _ hh)];exact hh,rr.keep k0⟩
   |ownD t=>
    obtain⟨p,xs,hx,hp,np,hh,rr⟩:=r1
    exact⟨p,xs,hx,.inl hp,fun z=>by
     rcases z with z|z
     ·exact np z
     ·exact hne p _ hh z,by rw[upd_ne (hne p _ hh)];exact hh,rr.keep k0⟩
  ·rcases z with z|z
   ·exact .inl (s.pr p z)
   ·exact .inr z
  ·rcases z with z|z
   ·obtain⟨o,g⟩:=s1.dm p z;exact⟨o,by rw[upd_ne (hne p o g)];exact g⟩
   ·subst z;exact⟨_,upd_same⟩
 ·cases it with
  |lst np hp h r=>
   exact .lst (fun z=>by
    rcases z with z|z
    ·exact np z
    ·exact hne _ _ h z) (fun z=>by cases z) (by rw[upd_ne (hne _ _ h)];exact h) (r.keep k0)
  |tup hp h r=>exact .tup (k0 _ _ hp h).2 (k0 _ _ hp h).1 (r.keep k0)
  |txt z=>exact .txt z
  |rng lo n=>exact .rng lo n
 ·simpa using w1
 ·rintro i m σ' H' ⟨rfl,hi,ys,zs,ρ',n',hy,hDy,rz,s',ex,it',w'⟩
  by_cases hlt:i < l.length
  ·have hget:l[i]?=some l[i]:=List.getElem?_eq_getElem hlt
   have hdrop:l.drop i=l[i]::l.drop (i+1):=List.drop_eq_getElem_cons hlt
   rw[hdrop] at w'
   unfold lcM at w'
   obtain⟨g1,g2⟩:=it'.go hget
   refine .inr ⟨g1,fun x H2 yl=>?_⟩
   obtain⟨eH,rx⟩:=g2 x H2 yl
   subst eH
   rw[M.wZ] at w'
   refine⟨G',O',ρ',n',_,l[i],s',rx,w',fun σ2 ρ2 n2 s2 w2=>?_⟩
   rw[M.wZ] at w2
   refine⟨G',O',ρ2,n2,_,s2,w2,fun ok H4 n4 e4 ok4 w4=>?_⟩
   have D4:H4 D=some (.lst ys):=e4 D _ hBD hDy
   have it4:ItOf K G' O' false H4 l J:=it'.keepS (fun p o np hp=>⟨e4 p o (fun z=>np (.inl (z▸s.B))) hp,np⟩) (.inr fun p xs np hp=>e4 p _ (fun z=>np (z▸G'.pB)) hp) fun p z=>by cases z
   cases ok with
   |true=>
    simp only[if_true] at w4 ⊢
    rw[M.wZ] at w4
    refine⟨G',O',ρ2,n4,_,s2.ext e4 ok4,w4,fun z x5 H5 n5 e5 ok5 r5 w5=>?_⟩
    have D5:H5 D=some (.lst ys):=e5 D _ hBD D4
    rw[M.wZ] at w5
    have s5:=s2.ext (e4.trans e5) ok5
    have it5:ItOf K G' O' false H5 l J:=it4.keepS (fun p o np hp=>⟨e5 p o (fun z=>np (.inl (z▸s.B))) hp,np⟩) (.inr fun p xs np hp=>e5 p _ (fun z=>np (z▸G'.pB)) hp) fun p z=>by cases z
    refine⟨ys,D5,by rw[sizeLine_eq];lia,l.length - (i+1),by lia,rfl,hlt,ys++[x5],zs++[z],ρ2,n5,by simp;lia,upd_same,?_,?_,?_,?_,?_⟩
    ·exact((rz.ext (.inl s.B) (e4.trans e5)).append (.cons r5 .nil)).keep (kD H5 _)
    ·refine⟨⟨s5.er.1,fun j e he=>?_⟩,⟨G.keep H5 _ _ (fun p o hp hpo=>by
      have hpd:p≠D:=fun z=>by
       rcases hp with hp|hp
       ·exact pD (z▸hp)
       ·rw[z,D5] at hpo;cases hpo;exact hp
      rw[upd_ne hpd];exact hpo) ok5.1,_,upd_same⟩,s5.pr,fun p hp=>?_⟩
     ·have r1:=s5.er.2 j e he
      cases e with
      |un=>trivial
      |val y=>obtain⟨x,hx,rr⟩:=r1;exact⟨x,hx,rr.keep (kD H5 _)⟩
      |own t=>
       obtain⟨p,xs,hx,hp,np,hh,rr⟩:=r1
       exact⟨p,xs,hx,hp,np,by rw[upd_ne (fun z=>np (.inr z))];exact hh,rr.keep (kD H5 _)⟩
      |ownD t=>
       obtain⟨p,xs,hx,hp,np,hh,rr⟩:=r1
       exact⟨p,xs,hx,hp,np,by rw[upd_ne (fun z=>np (.inr z))];exact hh,rr.keep (kD H5 _)⟩
     ·by_cases hpd:p=D
      ·subst hpd;exact⟨_,upd_same⟩
      ·obtain⟨o,g⟩:=s5.dm p hp;exact⟨o,by rw[upd_ne hpd];exact g⟩
    ·intro p o np hp
     exact((ex.trans (e4.trans e5)) p o np hp).to fun u e=>.of (by rw[upd_ne (hne p o hp)];exact e)
    ·exact it5.keep (kD H5 _) (.inr fun p xs np hp=>by rw[upd_ne (fun z=>np (.inr z))];exact hp) fun p z=>by cases z
    ·refine M.wp_mono w5 fun t k' hk=>?_
     have hk':R (zs++z::t) k':=hk
     simpa using hk'
   |false=>
    exact⟨l.length - (i+1),by lia,rfl,hlt,ys,zs,ρ2,n4,by lia,D4,rz.ext (.inl s.B) e4,s2.ext e4 ok4,ex.trans e4,it4,w4⟩
  ·have e:i=l.length:=by lia
   subst e
   refine .inl ⟨it'.stop,?_⟩
   rw[List.drop_length] at w'
   have w2:R (zs++[]) n':=w'
   rw[List.append_nil] at w2
   exact q zs D ys H' n' (e1.trans ex) s'.ok.1 (new_before e1 ok1 hD) hDy rz w2
theorem ef_lc (h:BE X e (tLC js (tiP φ X.K false mi) (tgP φ bd) (ttP φ tt) (teP φ te))):EF φ X e (mkLC js mi bd tt te):=BE.mono h lc_in
end
end
section
variable {φ:Fam}
set_option genInjectivity true in
inductive Fl where
 |nx (ρ:PEnv)|rt (y:PV)|bk (ρ:PEnv)|ct (ρ:PEnv)
def Ent.isOwn:Ent→Bool
 | .own _=>true
 | .ownD _=>true
 |_=>false
def Ent.freeze:Ent→Ent
 | .own l=>.val (.lst l)
 | .ownD l=>.val (.dct l)
 |e=>e
def OwnAt (ρ:PEnv) (σ:St) (i:Nat) (p:Addr):Prop:= ∃ t,ρ[i]?=some t∧t.isOwn=true∧σ[i]?=some (some (.ref p))
structure SI (G:Bg φ) (O0:Addr→Prop) (H0:Hp) (O:Addr→Prop) (H:Hp) (σ:St) (ρ:PEnv) (n:Nat):Prop where
 es:ES G O H σ ρ n
 p0: ∀ p,G.priv p→O0 p
 sub: ∀ p,O0 p→O p
 ext:Ext G.B H0 H
 gr: ∀ p,O p→O0 p∨H0 p=none
 d0: ∀ p,O0 p→∃ o,H0 p=some o
 fr: ∀ i p,OwnAt ρ σ i p→H0 p=none
 dj: ∀ i j p,OwnAt ρ σ i p→OwnAt ρ σ j p→i=j
section
variable {G:Bg φ} {O0 O:Addr→Prop} {H0 H H':Hp} {σ:St} {ρ:PEnv} {n n':Nat}
theorem SI.to (s:SI G O0 H0 O H σ ρ n) (x:Ext G.B H H') (ok:G.ok H' n'):SI G O0 H0 O H' σ ρ n':=⟨s.es.ext x ok,s.p0,s.sub,s.ext.trans x,s.gr,s.d0,s.fr,s.dj⟩
theorem own_set (ht:t.isOwn=false) (h:OwnAt (ρ.set k t) (σ.set k o) i p):OwnAt ρ σ i p:=by
 obtain⟨e,h1,h2,h3⟩:=h
 by_cases hk:k=i
 ·subst hk
  rw[List.getElem?_set] at h1
  split at h1
  ·split at h1
   ·cases h1;rw[ht] at h2;cases h2
   ·cases h1
  ·exact⟨e,h1,h2,by rw[List.getElem?_set_ne (by lia)] at h3;exact h3⟩
 ·rw[List.getElem?_set_ne hk] at h1 h3
  exact⟨e,h1,h2,h3⟩
theorem SI.setV (s:SI G O0 H0 O H σ ρ n) (k:Nat) (r:Rep G.B O H y x):SI G O0 H0 O H (σ.set k (some x)) (ρ.set k (.val y)) n:=
 ⟨s.es.set k (t:=.val y) ⟨x,rfl,r⟩,s.p0,s.sub,s.ext,s.gr,s.d0,fun i p h=>s.fr i p (own_set rfl h),fun i j p h h'=>s.dj i j p (own_set rfl h) (own_set rfl h')⟩
theorem ownAt_O (s:ES G O H σ ρ n) (h:OwnAt ρ σ i p):O p∧¬ G.priv p∧∃ o,H p=some o:=by
 obtain⟨t,h1,h2,h3⟩:=h
 have r:=s.er.2 i t h1
 rw[h3] at r
 cases t with
 |own l=>obtain⟨q,xs,e,a,b,c,_⟩:=r;cases e;exact⟨a,b,_,c⟩
 |ownD l=>obtain⟨q,xs,e,a,b,c,_⟩:=r;cases e;exact⟨a,b,_,c⟩
 |_=>cases h2
theorem ownAt_nf (s:ES G O H σ ρ n) (h:OwnAt ρ σ i p) (e:H p=some o): ¬ IsFz o:=by
 obtain⟨t,h1,h2,h3⟩:=h
 have r:=s.er.2 i t h1
 rw[h3] at r
 cases t with
 |own l=>obtain⟨q,xs,e',a,b,c,_⟩:=r;cases e';rw[c] at e;cases e;exact id
 |ownD l=>obtain⟨q,xs,e',a,b,c,_⟩:=r;cases e';rw[c] at e;cases e;exact id
 |_=>cases h2
theorem SI.setO (s:SI G O0 H0 O H σ ρ n) (k:Nat) (x:Ext G.B H H') (ok:G.ok H' n') (hp:H p=none) (hp':H' p=some (.lst xs)) (r:Reps G.B (fun q=>O q∨q=p) H' l xs):
  SI G O0 H0 (fun q=>O q∨q=p) H' (σ.set k (some (.ref p))) (ρ.set k (.own l)) n':=by
 have nO: ¬ O p:=fun z=>by obtain⟨o,g⟩:=s.es.dm p z;rw[hp] at g;cases g
 have np: ¬ G.priv p:=fun z=>nO (s.es.pr p z)
 have h0:H0 p=none:=by
  cases e:H0 p with
  |none=>rfl
  |some o=>obtain⟨_,this⟩:=(s.ext p o (fun z=>np (z▸G.pB)) e).there;rw[hp] at this;cases this
 have hB:O G.B:=s.es.B
 have gw: ∀ q,(O q∨q=p)→O q∨H q=none:=fun q z=>by
  rcases z with z|z
  ·exact .inl z
  ·subst z;exact .inr hp
 have s':=s.es.ext x ok
 have es:ES G (fun q=>O q∨q=p) H' σ ρ n':=by
  refine⟨⟨s.es.er.1,fun i e he=>?_⟩,ok,fun q z=>.inl (s.es.pr q z),fun q z=>?_⟩
  ·have r1:=s.es.er.2 i e he
   cases e with
   |un=>trivial
   |val y=>obtain⟨v,hv,rr⟩:=r1;exact⟨v,hv,(rr.grow gw).ext (.inl hB) x⟩
   |own t=>
    obtain⟨q,ys,hv,hq,nq,hh,rr⟩:=r1
    exact⟨q,ys,hv,.inl hq,nq,x q _ (fun z=>nq (z▸G.pB)) hh,(rr.grow gw).ext (.inl hB) x⟩
   |ownD t=>
    obtain⟨q,ys,hv,hq,nq,hh,rr⟩:=r1
    exact⟨q,ys,hv,.inl hq,nq,x q _ (fun z=>nq (z▸G.pB)) hh,⟨rr.1,fun i a b c d=>((rr.2 i a b c d).grow gw).ext (.inl hB) x⟩⟩
  ·rcases z with z|z
   ·exact s'.dm q z
   ·subst z;exact⟨_,hp'⟩
 have ow: ∀ i q,OwnAt (ρ.set k (.own l)) (σ.set k (some (.ref p))) i q→(i=k∧q=p)∨(i≠k∧OwnAt ρ σ i q):=fun i q h=>by
  obtain⟨t,h1,h2,h3⟩:=h
  by_cases hk:k=i
  ·subst hk
   rw[List.getElem?_set] at h3
   split at h3
   ·split at h3
    ·cases h3;exact .inl ⟨rfl,rfl⟩
    ·cases h3
   ·rename_i hh;exact absurd rfl hh
  ·rw[List.getElem?_set_ne hk] at h1 h3
   exact .inr ⟨fun z=>hk z.symm,t,h1,h2,h3⟩
 refine⟨es.set k (t:=.own l) ⟨p,xs,rfl,.inr rfl,np,hp',r⟩,s.p0,fun q z=>.inl (s.sub q z),s.ext.trans x,fun q z=>?_,s.d0,fun i q h=>?_,fun i j q h h'=>?_⟩
 ·rcases z with z|z
  ·exact s.gr q z
  ·subst z;exact .inr h0
 ·rcases ow i q h with⟨_,rfl⟩|⟨_,h⟩
  ·exact h0
  ·exact s.fr i q h
 ·rcases ow i q h with⟨rfl,rfl⟩|⟨n1,h1⟩
  ·rcases ow j q h' with⟨rfl,_⟩|⟨n2,h2⟩
   ·rfl
   ·obtain⟨_,_,o,g⟩:=ownAt_O s.es h2;rw[hp] at g;cases g
  ·rcases ow j q h' with⟨rfl,rfl⟩|⟨n2,h2⟩
   ·obtain⟨_,_,o,g⟩:=ownAt_O s.es h1;rw[hp] at g;cases g
   ·exact s.dj i j q h1 h2
theorem SI.put (s:SI G O0 H0 O H σ ρ n) (hk:ρ[k]?=some (.own l)) (hp:σ[k]?=some (some (.ref p))) (r:Reps G.B O H l' xs'):SI G O0 H0 O (upd H p (.lst xs')) σ (ρ.set k (.own l')) n:=by
 have ho:OwnAt ρ σ k p:=⟨_,hk,rfl,hp⟩
 obtain⟨hO,np,o,hh⟩:=ownAt_O s.es ho
 have nfz:=ownAt_nf s.es ho hh
 have kp: ∀ q u,¬ O q→H q=some u→upd H p (.lst xs') q=some u∧¬ O q:=fun q u nq hq=>⟨by
  have hne:q≠p:=fun z=>nq (z▸hO)
  rw[upd_ne hne];exact hq,nq⟩
 have ow: ∀ i q,OwnAt (ρ.set k (.own l')) σ i q→OwnAt ρ σ i q:=fun i q h=>by
  obtain⟨t,h1,h2,h3⟩:=h
  by_cases e:k=i
  ·subst e;exact⟨_,hk,rfl,h3⟩
  ·rw[List.getElem?_set_ne e] at h1;exact⟨t,h1,h2,h3⟩
 refine⟨⟨⟨by simp[s.es.er.1],fun i e he=>?_⟩,G.keep H _ _ (fun q u hq hu=>by
   have hne:q≠p:=fun z=>by
    rcases hq with hq|hq
    ·exact np (z▸hq)
    ·rw[z,hh] at hu;cases hu;exact nfz hq
   rw[upd_ne hne];exact hu) s.es.ok,s.es.pr,fun q hq=>?_⟩,s.p0,s.sub,fun q u nb hq=>?_,s.gr,s.d0,fun i q h=>s.fr i q (ow i q h),fun i j q h h'=>s.dj i j q (ow i q h) (ow j q h')⟩
 ·by_cases e1:k=i
  ·subst e1
   have hl:k < ρ.length:=(List.getElem?_eq_some_iff.mp hk).1
   rw[List.getElem?_set_self hl] at he
   cases he
   rw[hp]
   exact⟨p,xs',rfl,hO,np,upd_same,r.keep kp⟩
  ·rw[List.getElem?_set_ne e1] at he
   have r1:=s.es.er.2 i e he
   cases e with
   |un=>trivial
   |val y=>obtain⟨v,hv,rr⟩:=r1;exact⟨v,hv,rr.keep kp⟩
   |own t=>
    obtain⟨q,ys,hv,hq,nq,hh',rr⟩:=r1
    have hne:q≠p:=fun z=>by
     subst z
     exact e1 (s.dj k i q ho ⟨_,he,rfl,sig_of s.es.er he hv⟩)
    exact⟨q,ys,hv,hq,nq,by rw[upd_ne hne];exact hh',rr.keep kp⟩
   |ownD t=>
    obtain⟨q,ys,hv,hq,nq,hh',rr⟩:=r1
    have hne:q≠p:=fun z=>by
     subst z
     exact e1 (s.dj k i q ho ⟨_,he,rfl,sig_of s.es.er he hv⟩)
    exact⟨q,ys,hv,hq,nq,by rw[upd_ne hne];exact hh',rr.keep kp⟩
 ·by_cases e1:q=p
  ·subst e1;exact⟨_,upd_same⟩
  ·obtain⟨u,g⟩:=s.es.dm q hq;exact⟨u,by rw[upd_ne e1];exact g⟩
 ·have hne:q≠p:=fun z=>by subst z;rw[s.fr k q ho] at hq;cases hq
  exact(s.ext q u nb hq).to fun v e=>.of (by rw[upd_ne hne];exact e)
theorem SI.frozen (s:SI G O0 H0 O H σ ρ n):ES G O0 H σ (ρ.map Ent.freeze) n:=by
 refine⟨⟨by simp[s.es.er.1],fun i e he=>?_⟩,s.es.ok,s.p0,fun p h=>s.es.dm p (s.sub p h)⟩
 rw[List.getElem?_map] at he
 cases q:ρ[i]? with
 |none=>rw[q] at he;cases he
 |some t=>
  rw[q] at he
  cases he
  have r1:=s.es.er.2 i t q
  cases t with
  |un=>trivial
  |val y=>obtain⟨v,hv,rr⟩:=r1;exact⟨v,hv,rr.less s.sub⟩
  |own t=>
   obtain⟨p,ys,hv,hq,nq,hh',rr⟩:=r1
   have h0:=s.fr i p ⟨_,q,rfl,sig_of s.es.er q hv⟩
   exact⟨_,hv,.lst (fun z=>by obtain⟨o,g⟩:=s.d0 p z;rw[h0] at g;cases g) hh' rr.1 (rr.less s.sub).2⟩
  |ownD t=>
   obtain⟨p,ys,hv,hq,nq,hh',rr⟩:=r1
   have h0:=s.fr i p ⟨_,q,rfl,sig_of s.es.er q hv⟩
   exact⟨_,hv,.dct (fun z=>by obtain⟨o,g⟩:=s.d0 p z;rw[h0] at g;cases g) (.inl hh') rr.1 fun i a b c d=>(rr.2 i a b c d).less s.sub⟩
theorem SI.frz (s:SI G O0 H0 O H σ ρ n):SI G O0 H0 O0 H σ (ρ.map Ent.freeze) n:=by
 have no: ∀ i p,¬ OwnAt (ρ.map Ent.freeze) σ i p:=fun i p h=>by
  obtain⟨t,h1,h2,_⟩:=h
  rw[List.getElem?_map] at h1
  cases q:ρ[i]? with
  |none=>rw[q] at h1;cases h1
  |some e=>rw[q] at h1;cases h1;cases e<;>cases h2
 exact⟨s.frozen,s.p0,fun p h=>h,s.ext,fun p h=>.inl h,s.d0,fun i p h=>(no i p h).elim,fun i j p h=>(no i p h).elim⟩
def hide (O0 O:Addr→Prop) (H:Hp):Hp:=fun p=>by
 classical exact if O p∧¬ O0 p then none else H p
theorem hide_in (h:O p) (h': ¬ O0 p):hide O0 O H p=none:=by unfold hide;rw[if_pos ⟨h,h'⟩]
theorem hide_out (h: ¬ (O p∧¬ O0 p)):hide O0 O H p=H p:=by unfold hide;rw[if_neg h]
theorem SI.now (s:SI G O0 H0 O H σ ρ n):SI G O0 (hide O0 O H) O H σ ρ n:=by
 refine⟨s.es,s.p0,s.sub,fun p o nb h=>?_,fun p h=>?_,fun p h=>?_,fun i p h=>?_,s.dj⟩
 ·by_cases c:O p∧¬ O0 p
  ·rw[hide_in c.1 c.2] at h;cases h
  ·rw[hide_out c] at h;exact .of h
 ·by_cases c:O0 p
  ·exact .inl c
  ·exact .inr (hide_in h c)
 ·rw[hide_out (fun z=>z.2 h)];exact s.es.dm p (s.sub p h)
 ·have h1:=ownAt_O s.es h
  have h0:=s.fr i p h
  exact hide_in h1.1 (fun z=>by obtain⟨o,g⟩:=s.d0 p z;rw[h0] at g;cases g)
theorem SI.base (s:SI G O0 H0 O H σ ρ n):Ext G.B H0 (hide O0 O H):=fun p o nb h=>by
 have c: ¬ (O p∧¬ O0 p):=fun z=>by
  rcases s.gr p z.1 with w|w
  ·exact z.2 w
  ·rw[w] at h;cases h
 exact(s.ext p o nb h).to fun v e=>.of (by rw[hide_out c];exact e)
theorem SI.back (s:SI G O0 H0 O H σ ρ n) (x:SI G O0 (hide O0 O H) O' H1 σ' ρ' n'):SI G O0 H0 O' H1 σ' ρ' n':=by
 have none0: ∀ p,¬ G.priv p→hide O0 O H p=none→H0 p=none:=fun p np h=>by
  cases e:H0 p with
  |none=>rfl
  |some o=>obtain⟨_,this⟩:=(s.base p o (fun z=>np (z▸G.pB)) e).there;rw[h] at this;cases this
 refine⟨x.es,x.p0,x.sub,s.base.trans x.ext,fun p h=>?_,s.d0,fun i p h=>none0 p (ownAt_O x.es h).2.1 (x.fr i p h),x.dj⟩
 by_cases c:O0 p
 ·exact .inl c
 ·rcases x.gr p h with w|w
  ·exact .inl w
  ·exact .inr (none0 p (fun z=>c (s.p0 p z)) w)
theorem SI.walk {K:PySem.W.Frag} {H1:Hp} {O':Addr→Prop} {σ':St} {ρ':PEnv} {l:List PV} {J:It} (s:SI G O0 H0 O H σ ρ n) (x:SI G O0 (hide O0 O H) O' H1 σ' ρ' n') (it:ItOf K G O true H l J):ItOf K G O' true H1 l J:=by
 have k: ∀ p o,¬ O p→H p=some o→Stand H1 p o∧¬ O' p:=fun p o np hp=>by
  have e:hide O0 O H p=some o:=by rw[hide_out (fun z=>np z.1)];exact hp
  refine⟨x.ext p o (fun z=>np (z▸s.es.B)) e,fun z=>?_⟩
  rcases x.gr p z with w|w
  ·exact np (s.sub p w)
  ·rw[w] at e;cases e
 cases it with
 |lst np hp h r=>exact .lst np (fun _=>(k _ _ (hp rfl) h).2) (k _ _ (hp rfl) h).1 (r.keepS k)
 |tup hp h r=>exact .tup (k _ _ hp h).2 (k _ _ hp h).1 (r.keepS k)
 |txt z=>exact .txt z
 |rng lo n=>exact .rng lo n
end
noncomputable def FlOk (G:Bg φ) (O0:Addr→Prop) (H0:Hp) (D:Ends) (n:Nat):Fl→Prop
 | .nx ρ=> ∀ O σ H,SI G O0 H0 O H σ ρ n→D.nx σ H
 | .bk ρ=> ∀ O σ H,SI G O0 H0 O H σ ρ n→D.bk σ H
 | .ct ρ=> ∀ O σ H,SI G O0 H0 O H σ ρ n→D.ct σ H
 | .rt y=> ∀ x H,Ext G.B H0 H→G.ok H n→Rep G.B O0 H y x→D.rt x H
def tsP (φ:Fam) (m:PEnv→M Fl):TS:=fun D σ H=> ∃ (G:Bg φ) (O0:Addr→Prop) (H0:Hp) (O:Addr→Prop) (ρ:PEnv) (n:Nat),SI G O0 H0 O H σ ρ n∧(m ρ).wp n fun f n'=>FlOk G O0 H0 D n' f
def SV (φ:Fam) (X:Cx) (st:Stmt) (m:PEnv→M Fl):Prop:=BS X st (tsP φ m)
def SsV (φ:Fam) (X:Cx) (sts:List Stmt) (m:PEnv→M Fl):Prop:=BSs X sts (tsP φ m)
section
variable {X:Cx} {st:Stmt} {sts:List Stmt}
theorem BS.mono (h:BS X st t) (f: ∀ D σ H,t' D σ H→t D σ H):BS X st t':=⟨fun pZ s σ H D I q=>h.out pZ s σ H D I (f D σ H q)⟩
theorem BSs.mono (h:BSs X sts t) (f: ∀ D σ H,t' D σ H→t D σ H):BSs X sts t':=⟨fun pZ s σ H D I q=>h.out pZ s σ H D I (f D σ H q)⟩
def seqP (m1 m2:PEnv→M Fl):PEnv→M Fl:=fun ρ=>(m1 ρ).bind fun f=>match f with| .nx ρ'=>m2 ρ'|o=>.ret o
theorem ss_nil:SsV φ X [] (fun ρ=>.ret (.nx ρ)):=BSs.mono ⟨pss_nil⟩ fun D σ H ⟨G,O0,H0,O,ρ,n,s,w⟩=>w O σ H s
theorem ss_one (h:SV φ X st m):SsV φ X [st] m:=⟨pss_one h.out⟩
theorem ss_cons (h:SV φ X st m1) (h':SsV φ X sts m2):SsV φ X (st::sts) (seqP m1 m2):=BSs.mono ⟨pss_cons h.out h'.out⟩ fun D σ H hq0=>by
 obtain⟨G,O0,H0,O,ρ,n,s,w⟩:=hq0
 unfold seqP at w
 rw[M.wZ] at w
 refine⟨G,O0,H0,O,ρ,n,s,M.wp_mono w fun f n' h=>?_⟩
 cases f with
 |nx ρ'=>exact fun O' σ' H' s'=>⟨G,O0,H0,O',ρ',n',s',h⟩
 |rt y=>exact h
 |bk ρ'=>exact h
 |ct ρ'=>exact h
def setP (k:Nat) (m:PEnv→M PV):PEnv→M Fl:=fun ρ=>(m ρ).bind fun y=>.ret (.nx (ρ.set k (.val y)))
theorem sv_set (h:BS X st (tAsg (teP φ m) (gName k))):SV φ X st (setP k m):=BS.mono h fun D σ H hq0=>by
 obtain⟨G,O0,H0,O,ρ,n,s,w⟩:=hq0
 unfold setP at w
 rw[M.wZ] at w
 exact⟨G,O,ρ,n,_,s.es,w,fun y x H1 n1 e1 ok1 r1 w1=>w1 O _ _ ((s.to e1 ok1).setV k r1)⟩
def ownP (k:Nat) (m:PEnv→M (List PV)):PEnv→M Fl:=fun ρ=>(m ρ).bind fun l=>.ret (.nx (ρ.set k (.own l)))
theorem sv_own (h:BS X st (tAsg (teF φ m) (gName k))):SV φ X st (ownP k m):=BS.mono h fun D σ H hq0=>by
 obtain⟨G,O0,H0,O,ρ,n,s,w⟩:=hq0
 unfold ownP at w
 rw[M.wZ] at w
 exact⟨G,O,ρ,n,_,s.es,w,fun l p xs H1 n1 e1 ok1 hp hp' r1 w1=>w1 _ _ _ (s.setO k e1 ok1 hp hp' r1)⟩
theorem asg_lc (h:BS X st (tAsg (tLC js (tiP φ X.K false mi) (tgP φ bd) (ttP φ tt) (teP φ te)) (gName k))):BS X st (tAsg (teF φ (mkLC js mi bd tt te)) (gName k)):=
 BS.mono h fun D σ H q=>lc_in σ H _ q
def lstV (m:PEnv→M (List PV)):PEnv→M PV:=fun ρ=>(m ρ).bind fun l=>.ret (.lst l)
theorem asg_v (h:BS X st (tAsg (teF φ m) (gName k))):BS X st (tAsg (teP φ (lstV m)) (gName k)):=BS.mono h fun D σ H hq0=>by
 obtain⟨G,O,ρ,n,R,s,w,q⟩:=hq0
 unfold lstV at w
 rw[M.wZ] at w
 refine⟨G,O,ρ,n,_,s,w,fun l p xs H' n' a b c d e f=>q (.lst l) _ H' n' a b (.lst (fun z=>?_) d e.1 (e.less fun q z=>.inl z).2) f⟩
 obtain⟨o,g⟩:=s.dm p z
 rw[c] at g;cases g
def unpP (ks:List Nat) (m:PEnv→M PV):PEnv→M Fl:=fun ρ=>(m ρ).bind fun y=>(bindT ks y ρ).bind fun ρ'=>.ret (.nx ρ')
theorem gNames_si {G:Bg φ}: ∀ (ks:List Nat) (l:List PV) (xs:List V) (σ:St) (ρ:PEnv) (Q:St→Hp→Prop),l.length=ks.length→Reps G.B O H l xs→SI G O0 H0 O H σ ρ n→(∀ σ',SI G O0 H0 O H σ' (bindsN ks l ρ) n→Q σ' H)→gNames ks xs σ H Q
 |[],l,xs,σ,ρ,Q,hl,r,s,q=>by
  have e:l=[]:=List.eq_nil_of_length_eq_zero hl
  subst e
  rw[r.nil_inv]
  exact⟨rfl,q σ s⟩
 |k::ks,l,xs,σ,ρ,Q,hl,r,s,q=>by
  cases l with
  |nil=>simp at hl
  |cons y l=>
   obtain⟨x,t,rfl,r1,r2⟩:=r.cons_inv
   exact⟨x,t,rfl,gNames_si ks l t _ _ Q (by simpa using hl) r2 (s.setV k r1) q⟩
theorem tup_si {K:PySem.W.Frag} {G:Bg φ} {O0 O:Addr→Prop} {H0 H:Hp} {n:Nat} {ks:List Nat} {y:PV} {x:V} {σ:St} {ρ:PEnv} {R:PEnv→Nat→Prop} {Q:St→Hp→Prop} (s:SI G O0 H0 O H σ ρ n) (r:Rep G.B O H y x) (w:(bindT ks y ρ).wp n R) (q: ∀ σ' ρ',SI G O0 H0 O H σ' ρ' n→R ρ' n→Q σ' H):gTup K ks.length (gNames ks) x σ H Q:=by
 unfold bindT at w
 cases r with
 | @tup p xs l a b c d=>
  dsimp only at w
  by_cases hc:l.length=ks.length
  ·rw[if_pos hc] at w
   exact⟨p,xs,rfl,SqT.of b,by rw[←c];exact hc,gNames_si ks l xs σ ρ Q hc ⟨c,d⟩ s fun σ' s'=>q σ' _ s' w⟩
  ·rw[if_neg hc] at w;exact w.elim
 |_=>exact w.elim
theorem sv_unp (h:BS X st (tAsg (teP φ m) (gTup X.K ks.length (gNames ks)))):SV φ X st (unpP ks m):=BS.mono h fun D σ H hq0=>by
 obtain⟨G,O0,H0,O,ρ,n,s,w⟩:=hq0
 unfold unpP at w
 rw[M.wZ] at w
 refine⟨G,O,ρ,n,_,s.es,w,fun y x H1 n1 e1 ok1 r1 w1=>?_⟩
 rw[M.wZ] at w1
 exact tup_si (s.to e1 ok1) r1 w1 fun σ' ρ' s' h=>h O σ' H1 s'
def retP (m:PEnv→M PV):PEnv→M Fl:=fun ρ=>(m (ρ.map Ent.freeze)).bind fun y=>.ret (.rt y)
theorem sv_ret (h:BS X st (tRet (teP φ m))):SV φ X st (retP m):=BS.mono h fun D σ H hq0=>by
 obtain⟨G,O0,H0,O,ρ,n,s,w⟩:=hq0
 unfold retP at w
 rw[M.wZ] at w
 exact⟨G,O0,_,n,_,s.frozen,w,fun y x H1 n1 e1 ok1 r1 w1=>w1 x H1 (s.ext.trans e1) ok1 r1⟩
def ifP (mc:PEnv→M Bool) (ma mb:PEnv→M Fl):PEnv→M Fl:=fun ρ=>(mc ρ).bind fun b=>if b=true then ma ρ else mb ρ
theorem sv_if (h:BS X st (tIfS (ttP φ mc) (tsP φ ma) (tsP φ mb))):SV φ X st (ifP mc ma mb):=BS.mono h fun D σ H hq0=>by
 obtain⟨G,O0,H0,O,ρ,n,s,w⟩:=hq0
 unfold ifP at w
 rw[M.wZ] at w
 refine⟨G,O,ρ,n,_,s.es,w,fun b H1 n1 e1 ok1 w1=>?_⟩
 cases b with
 |true=>exact⟨G,O0,H0,O,ρ,n1,s.to e1 ok1,w1⟩
 |false=>exact⟨G,O0,H0,O,ρ,n1,s.to e1 ok1,w1⟩
noncomputable def appP (k:Nat) (m:PEnv→M PV):PEnv→M Fl:=fun ρ=>match ρ[k]? with|some (.own l)=>(m ρ).bind fun y=>if l.length < 100000 then .ret (.nx (ρ.set k (.own (l++[y])))) else .fail|_=>.fail
theorem sv_app (h:BS X st (tDrop (tBM X.K "list" rAppend (tVar k) (tCons (teP φ m) tNil)))):SV φ X st (appP k m):=BS.mono h fun D σ H hq0=>by
 obtain⟨G,O0,H0,O,ρ,n,s,w⟩:=hq0
 unfold appP at w
 cases hk:ρ[k]? with
 |none=>simp only[hk] at w;exact w.elim
 |some t=>
  cases t with
  |own l=>
   simp only[hk] at w
   obtain⟨p,xs,hx,hO,np,hh,rr⟩:=s.es.er.2 k _ hk
   have hs:=sig_of s.es.er hk hx
   have npB:p≠G.B:=fun z=>np (z▸G.pB)
   rw[M.wZ] at w
   refine⟨_,hs,.inl ⟨rfl,xs,SqL.of hh⟩,G,O,ρ,n,_,s.es,w,fun y x H1 n1 e1 ok1 r1 w1=>?_⟩
   by_cases hc:l.length < 100000
   ·rw[if_pos hc] at w1
    have s1:=s.to e1 ok1
    have big:=big_le
    refine⟨p,xs,x,rfl,rfl,e1 p _ npB hh,by rw[←rr.1];lia,w1 O _ _ (s1.put hk hs ((rr.ext s.es.B e1).append (.cons r1 .nil)))⟩
   ·rw[if_neg hc] at w1;exact w1.elim
  |_=>simp only[hk] at w;exact w.elim
def frzP (m:PEnv→M Fl):PEnv→M Fl:=fun ρ=>m (ρ.map Ent.freeze)
theorem sv_frz (h:SV φ X st m):SV φ X st (frzP m):=BS.mono h fun D σ H ⟨G,O0,H0,O,ρ,n,s,w⟩=>⟨G,O0,H0,O0,_,n,s.frz,w⟩
noncomputable def tgS (φ:Fam) (b:PV→PEnv→M PEnv):TG:=fun v σ H Q=> ∃ (G:Bg φ) (O0:Addr→Prop) (H0:Hp) (O:Addr→Prop) (ρ:PEnv) (n:Nat) (R:PEnv→Nat→Prop) (y:PV),SI G O0 H0 O H σ ρ n∧Rep G.B O H y v∧(b y ρ).wp n R∧
 ∀ (σ':St) (ρ':PEnv) (n':Nat),SI G O0 H0 O H σ' ρ' n'→R ρ' n'→Q σ' H
def GS (φ:Fam) (X:Cx) (tg:Expr) (b:PV→PEnv→M PEnv):Prop:=BG X tg (tgS φ b)
theorem gs_name (h:BG X tg (gName k)):GS φ X tg (bindN k):=BG.mono h fun v σ H Q ⟨G,O0,H0,O,ρ,n,R,y,s,r,w,q⟩=>q _ _ n (s.setV k r) w
theorem gs_tup (h:BG X tg (gTup X.K ks.length (gNames ks))):GS φ X tg (bindT ks):=BG.mono h fun v σ H Q ⟨G,O0,H0,O,ρ,n,R,y,s,r,w,q⟩=>tup_si s r w fun σ' ρ' s' h=>q σ' ρ' n s' h
noncomputable def forP (bd:PV→PEnv→M PEnv) (mb:PEnv→M Fl):List PV→PEnv→M Fl
 |[],ρ=>.ret (.nx ρ)
 |y::r,ρ=>(bd y ρ).bind fun ρ1=>(mb ρ1).bind fun f=>match f with
  | .nx ρ2=>forP bd mb r ρ2
  | .ct ρ2=>forP bd mb r ρ2
  | .bk ρ2=>.ret (.nx ρ2)
  | .rt v=>.ret (.rt v)
def mkFor (mi:PEnv→M (List PV)) (bd:PV→PEnv→M PEnv) (mb:PEnv→M Fl):PEnv→M Fl:=fun ρ=>(mi ρ).bind fun l=>forP bd mb l ρ
theorem sv_for {mi:PEnv→M (List PV)} {bd:PV→PEnv→M PEnv} {mb:PEnv→M Fl} (h:BS X st (tFor (tiP φ X.K true mi) (tgS φ bd) (tsP φ mb))):SV φ X st (mkFor mi bd mb):=BS.mono h fun D σ H hq0=>by
 obtain⟨G,O0,H0,O,ρ,n,s,w⟩:=hq0
 unfold mkFor at w
 rw[M.wZ] at w
 refine⟨G,O,ρ,n,_,s.es,w,fun l J H1 n1 e1 ok1 it w1=>?_⟩
 have s1:=s.to e1 ok1
 refine⟨fun i m σ' H'=>m=l.length - i∧i≤l.length∧∃ (O':Addr→Prop) (ρ':PEnv) (n':Nat),SI G O0 (hide O0 O H1) O' H' σ' ρ' n'∧(forP bd mb (l.drop i) ρ').wp n' (fun f n'=>FlOk G O0 H0 D n' f),
  ⟨l.length,by simp,Nat.zero_le _,O,ρ,n1,s1.now,by simpa using w1⟩,?_⟩
 rintro i m σ' H' ⟨rfl,hi,O',ρ',n',s',w'⟩
 have it':=s1.walk s' it
 by_cases hlt:i < l.length
 ·have hget:l[i]?=some l[i]:=List.getElem?_eq_getElem hlt
  have hdrop:l.drop i=l[i]::l.drop (i+1):=List.drop_eq_getElem_cons hlt
  rw[hdrop] at w'
  unfold forP at w'
  obtain⟨g1,g2⟩:=it'.go hget
  refine .inr ⟨g1,fun σ2 H2=> ∃ (O':Addr→Prop) (ρ':PEnv) (n':Nat),SI G O0 (hide O0 O H1) O' H2 σ2 ρ' n'∧(forP bd mb (l.drop (i+1)) ρ').wp n' (fun f n'=>FlOk G O0 H0 D n' f),fun σ2 H2 hh=>⟨l.length - (i+1),by lia,rfl,hlt,hh⟩,fun x H2 yl=>?_⟩
  obtain⟨eH,rx⟩:=g2 x H2 yl
  subst eH
  rw[M.wZ] at w'
  refine⟨G,O0,_,O',ρ',n',_,l[i],s',rx,w',fun σ2 ρ2 n2 s2 w2=>?_⟩
  rw[M.wZ] at w2
  refine⟨G,O0,_,O',ρ2,n2,s2,M.wp_mono w2 fun f n3 w3=>?_⟩
  cases f with
  |nx ρ3=>exact fun O3 σ3 H3 s3=>⟨O3,ρ3,n3,s3,w3⟩
  |ct ρ3=>exact fun O3 σ3 H3 s3=>⟨O3,ρ3,n3,s3,w3⟩
  |bk ρ3=>exact fun O3 σ3 H3 s3=>w3 O3 σ3 H3 (s1.back s3)
  |rt y=>exact fun x3 H3 e3 ok3 r3=>w3 x3 H3 (s1.base.trans e3) ok3 r3
 ·have e:i=l.length:=by lia
  subst e
  rw[List.drop_length] at w'
  exact .inl ⟨it'.stop,w' O' σ' H' (s1.back s')⟩
noncomputable def whP (mt:PEnv→M Bool) (mb:PEnv→M Fl):Nat→PEnv→M Fl
 |0,_=>.fail
 |k+1,ρ=>(mt ρ).bind fun b=>if b=true then(mb ρ).bind fun f=>(match f with
  | .nx ρ2=>whP mt mb k ρ2
  | .ct ρ2=>whP mt mb k ρ2
  | .bk ρ2=>.ret (.nx ρ2)
  | .rt v=>.ret (.rt v)) else .ret (.nx ρ)
theorem sv_while {mt:PEnv→M Bool} {mb:PEnv→M Fl} (fuel:Nat) (h:BS X st (tWhile (ttP φ mt) (tsP φ mb))):SV φ X st (whP mt mb fuel):=BS.mono h fun D σ H hq0=>by
 obtain⟨G,O0,H0,O,ρ,n,s,w⟩:=hq0
 refine⟨fun m σ' H'=> ∃ (O':Addr→Prop) (ρ':PEnv) (n':Nat),SI G O0 H0 O' H' σ' ρ' n'∧(whP mt mb m ρ').wp n' (fun f n'=>FlOk G O0 H0 D n' f),⟨fuel,O,ρ,n,s,w⟩,?_⟩
 rintro m σ' H' ⟨O',ρ',n',s',w'⟩
 cases m with
 |zero=>exact w'.elim
 |succ k=>
  unfold whP at w'
  rw[M.wZ] at w'
  refine⟨G,O',ρ',n',_,s'.es,w',fun b H1 n1 e1 ok1 w1=>?_⟩
  cases b with
  |true=>
   simp only[if_true] at w1 ⊢
   rw[M.wZ] at w1
   refine⟨fun σ2 H2=> ∃ (O':Addr→Prop) (ρ':PEnv) (n':Nat),SI G O0 H0 O' H2 σ2 ρ' n'∧(whP mt mb k ρ').wp n' (fun f n'=>FlOk G O0 H0 D n' f),fun σ2 H2 hh=>⟨k,by lia,hh⟩,G,O0,H0,O',ρ',n1,s'.to e1 ok1,M.wp_mono w1 fun f n3 w3=>?_⟩
   cases f with
   |nx ρ3=>exact fun O3 σ3 H3 s3=>⟨O3,ρ3,n3,s3,w3⟩
   |ct ρ3=>exact fun O3 σ3 H3 s3=>⟨O3,ρ3,n3,s3,w3⟩
   |bk ρ3=>exact fun O3 σ3 H3 s3=>w3 O3 σ3 H3 s3
   |rt y=>exact fun x3 H3 e3 ok3 r3=>w3 x3 H3 e3 ok3 r3
  |false=>
   simp only[Bool.false_eq_true,if_false] at w1 ⊢
   exact w1 O' σ' H1 (s'.to e1 ok1)
end
def finP:Fl→M PV
 | .nx _=>.ret .non
 | .rt y=>.ret y
 |_=>.fail
def startP (k:Nat) (l:List PV):PEnv:=l.map val++List.replicate (k - l.length) .un
def fnP (a k:Nat) (m:PEnv→M Fl) (l:List PV):M PV:=if l.length=a then(m (startP k l)).bind finP else .fail
theorem start_get {vs:List V} {i:Nat} (h:vs[i]?=some x):(start N vs)[i]?=some (some x):=by
 unfold start
 have hi:i < vs.length:=(List.getElem?_eq_some_iff.mp h).1
 rw[List.getElem?_append_left (by simpa using hi),List.getElem?_map,h]
 rfl
section
variable {P:Program} {w:World} {K:PySem.W.Frag} {mg:Str→Option Value} {base:Heap}
theorem fn_ok {x qual:Str} {st:Stmt} {f:Addr} {fd:FuncData} {N ps:List Str} {k:Nat} {m:PEnv→M Fl} (F:Fun K x qual st f fd) (S:FnScope N ps (defScope st)) (hN:ps.length≤N.length)
  (hb: ∀ (cdv:Value) (A:Around) (outer:List Env) (s:Shared) (H:Hp) (E:XK),Room k (A.deeper (envOfC qual (defScope st) s.heap.objs.size f cdv))→SsV φ (cxOf CX0 P w K mg base N qual (defScope st) f cdv A outer s H E).nox (defBody st) m):
  FnOk P w K mg base CX0 (k+1) f fd ps (spP φ (fnP ps.length N.length m)):=by
 refine F.ok S (fun vs H Q E h=>?_) (fun cdv A outer s H vs Q E hr h=>⟨_,(hb cdv A outer s H E hr).out,?_⟩)
 ·obtain⟨G,O,l,n,R,_,_,_,r,w,_⟩:=h
  unfold fnP at w
  by_cases hc:l.length=ps.length
  ·rw[←r.1,hc]
  ·rw[if_neg hc] at w;exact w.elim
 ·obtain⟨G,O,l,n,R,pr,dm,ok,r,w,q⟩:=h
  unfold fnP at w
  by_cases hc:l.length=ps.length
  ·rw[if_pos hc,M.wZ] at w
   refine⟨G,O,H,O,startP N.length l,n,⟨⟨⟨?_,fun i e he=>?_⟩,ok,pr,dm⟩,pr,fun p h=>h,Ext.refl _ _,fun p h=>.inl h,dm,fun i p h=>?_,fun i j p h=>?_⟩,M.wp_mono w fun f n' h=>?_⟩
   ·unfold start startP;simp[r.1]
   ·unfold startP at he
    by_cases hi:i < l.length
    ·rw[List.getElem?_append_left (by simpa using hi),List.getElem?_map,List.getElem?_eq_getElem hi] at he
     cases he
     obtain⟨x,hx,rr⟩:=r.at (List.getElem?_eq_getElem hi)
     exact⟨x,by rw[start_get hx];rfl,rr⟩
    ·rw[List.getElem?_append_right (by simpa using hi),List.getElem?_replicate] at he
     split at he
     ·cases he;trivial
     ·cases he
   all_goals try (
    obtain⟨t,h1,h2,_⟩:=h
    exfalso
    unfold startP at h1
    by_cases hi:i < l.length
    ·rw[List.getElem?_append_left (by simpa using hi),List.getElem?_map,List.getElem?_eq_getElem hi] at h1
     cases h1;cases h2
    ·rw[List.getElem?_append_right (by simpa using hi),List.getElem?_replicate] at h1
     split at h1
     ·cases h1;cases h2
     ·cases h1)
   cases f with
   |nx ρ=>exact fun O' σ' H' s'=>q .non .non H' n' s'.ext s'.es.ok .non h
   |rt y=>exact fun x' H' e' ok' r'=>q y x' H' n' e' ok' r' h
   |bk ρ=>exact h.elim
   |ct ρ=>exact h.elim
  ·rw[if_neg hc] at w;exact w.elim
end
end
section
variable {φ:Fam}
section
variable {X:Cx} {e a b:Expr} {ma mb:PEnv→M PV}
def MtV (K:PySem.W.Frag) (T:String) (r:V→List V→Hp→VK→Prop) (op:PV→List PV→M PV):Prop:= ∀ (φ:Fam) (G:Bg φ) (O:Addr→Prop) (H0 H:Hp) (n:Nat) (R:PV→Nat→Prop) (Q:VK) (y:PV) (x:V) (l:List PV) (xs:List V),
 (∀ p,G.priv p→O p)→(∀ p,O p→∃ o,H p=some o)→G.ok H n→RepB G O H y x→RepBs G O H l xs→(op y l).wp n R→Wish G O H R Q→r x xs H Q
def tyP:PV→String
 | .str _=>"str"
 | .lst _=>"list"
 | .dct _=>"dict"
 |_=>""
def bmP (T:String) (op:PV→List PV→M PV) (mo:PEnv→M PV) (ml:PEnv→M (List PV)):PEnv→M PV:=fun ρ=>(mo ρ).bind fun y=>if tyP y=T then(ml ρ).bind fun l=>op y l else .fail
theorem ev_bm (h:BE X e (tBM X.K T r (teB φ mo) (taB φ ml))) (hv:MtV X.K T r op) (hT:T≠"":=by decide):EV φ X e (bmP T op mo ml):=BE.mono h fun σ H Q hq0=>by
 obtain⟨G,O,ρ,n,R,s,w,q⟩:=hq0
 unfold bmP at w
 rw[M.wZ] at w
 refine⟨G,O,ρ,n,_,s,w,fun y x H1 n1 e1 ok1 r1 w1=>?_⟩
 by_cases hc:tyP y=T
 ·rw[if_pos hc] at w1
  have ty:tyV X.K T x H1:=by
   subst hc
   cases y<;>first|exact absurd rfl hT|skip
   ·rw[r1.str_i];rfl
   ·obtain⟨p,xs,rfl,hh,_⟩:=r1.lst_i;exact .inl ⟨rfl,xs,SqL.of hh⟩
   ·obtain⟨p,ks,rfl,hh,_⟩:=r1.dct_i;exact .inr (.inr (.inl ⟨rfl,.inl ⟨ks,hh⟩⟩))
  refine⟨ty,?_⟩
  rw[M.wZ] at w1
  refine⟨G,O,ρ,n1,_,s.ext e1 ok1,w1,fun l xs H2 n2 e2 ok2 r2 w2=>?_⟩
  exact hv φ G O H1 H2 n2 R Q y x l xs s.pr (s.ext (e1.trans e2) ok2).dm ok2 (r1.ext s.B e2) r2 w2 fun y x H' n' e o r h=>q y x H' n' (e1.trans (e2.trans e)) o r h
 ·rw[if_neg hc] at w1;exact w1.elim
def strsOf:List PV→Option (List Str)
 |[]=>some []
 | .str b::r=>(strsOf r).map (b:: ·)
 |_=>none
theorem strs_rep: ∀ {l:List PV} {xs:List V} {bs:List Str},Reps B O H l xs→strsOf l=some bs→xs=bs.map V.str
 |[],xs,bs,h,e=>by simp[strsOf] at e;subst e;exact h.nil_inv
 |y::l,xs,bs,h,e=>by
  cases y<;>simp[strsOf] at e
  obtain⟨bs',e1,rfl⟩:=e
  obtain⟨x,r,rfl,h1,h2⟩:=h.cons_inv
  cases h1
  rw[List.map_cons,strs_rep h2 e1]
noncomputable def joinO:PV→List PV→M PV
 | .str sep,[.lst l]=>(M.ofO (strsOf l)).bind fun ys=>if(ys.map (·.length)).sum+ys.length * sep.length≤16777216 then .ret (.str (Txt.join sep ys)) else .fail
 |_,_=>.fail
theorem joinO_inv (w:(joinO y l).wp n R): ∃ sep m,y= .str sep∧l=[.lst m]:=by
 unfold joinO at w
 split at w
 ·exact⟨_,_,rfl,rfl⟩
 ·exact w.elim
theorem mv_join {K:PySem.W.Frag}:MtV K "str" (fun x xs H Q=> ∃ (sep:Str) (p:Addr) (ys:List Str),x= .str sep∧xs=[.ref p]∧SqL K H p (ys.map V.str)∧(ys.map (·.length)).sum+ys.length * sep.length≤16777216∧Q (.str (Txt.join sep ys)) H) joinO:=fun φ G O H0 H n R Q y x l xs pr dm ok r1 r2 w q=>by
 obtain⟨sep,l,rfl,rfl⟩:=joinO_inv w
 ·rw[r1.str_i]
  obtain⟨x2,ex,r3⟩:=r2.one
  subst ex
  obtain⟨p,xs,ep,hh,rr⟩:=r3.lst_i
  subst ep
  unfold joinO at w
  dsimp only at w
  cases es:strsOf l with
  |none=>rw[es] at w;exact w.elim
  |some ys=>
   rw[es] at w
   replace w:(if(ys.map (·.length)).sum+ys.length * sep.length≤16777216 then M.ret (.str (Txt.join sep ys)) else .fail:M PV).wp n R:=w
   by_cases hc:(ys.map (·.length)).sum+ys.length * sep.length≤16777216
   ·rw[if_pos hc] at w
    rw[strs_rep rr es] at hh
    exact⟨sep,p,ys,rfl,rfl,SqL.of hh,hc,q.sc ok (.str _) w⟩
   ·rw[if_neg hc] at w;exact w.elim
def negO:PV→M PV
 | .int i=>.ret (.int (-i))
 |_=>.fail
theorem ev_neg (h:BE X e (tUn (rU fun i=>.int (-i)) (teB φ ma))):EV φ X e (fun ρ=>(ma ρ).bind negO):=BE.mono h fun σ H Q hq0=>by
 obtain⟨G,O,ρ,n,R,s,w,q⟩:=hq0
 rw[M.wZ] at w
 refine⟨G,O,ρ,n,_,s,w,fun y x H1 n1 e1 ok1 r1 w1=>?_⟩
 cases y<;>first|exact w1.elim|skip
 rw[r1.int_i]
 exact⟨_,rfl,q _ _ _ _ e1 ok1 (.int _) w1⟩
noncomputable def catF (ma mb:PEnv→M PV):PEnv→M (List PV):=fun ρ=>(ma ρ).bind fun x=>(mb ρ).bind fun y=>match x,y with| .lst a,.lst b=>if a.length+b.length≤100000 then .ret (a++b) else .fail|_,_=>.fail
theorem ef_cat (h:BE X e (tOp rCat (teB φ ma) (teB φ mb))):EF φ X e (catF ma mb):=BE.mono h fun σ H Q hq0=>by
 obtain⟨G,O,ρ,n,R,s,w,q⟩:=hq0
 unfold catF at w
 rw[M.wZ] at w
 refine⟨G,O,ρ,n,_,s,w,fun y x H1 n1 e1 ok1 r1 w1=>?_⟩
 rw[M.wZ] at w1
 refine⟨G,O,ρ,n1,_,s.ext e1 ok1,w1,fun y' x' H2 n2 e2 ok2 r2 w2=>?_⟩
 replace r1:=r1.ext s.B e2
 cases y<;>cases y'<;>first|exact w2.elim|skip
 rename_i i j
 obtain⟨a,xs,rfl,h1,q1⟩:=r1.lst_i
 obtain⟨b,ys,rfl,h2,q2⟩:=r2.lst_i
 dsimp only at w2
 by_cases hc:i.length+j.length≤100000
 ·rw[if_pos hc] at w2
  have q':WishF G O H2 R Q:=fun l p xs H' n' e o hp a b h=>q l p xs H' n' (e1.trans (e2.trans e)) o (new_before (e1.trans e2) ok2 hp) a b h
  exact⟨a,b,xs,ys,rfl,rfl,h1,h2,Nat.le_trans (by rw[←q1.1,←q2.1];exact hc) big_le,fun p hp=>q'.mk ok2 hp s.B (q1.append q2) w2⟩
 ·rw[if_neg hc] at w2;exact w2.elim
end
end
section
variable {φ:Fam}
section
variable {X:Cx} {e a b o:Expr} {es:List Expr} {pos p:Pos} {x:Str} {id T:String} {r:List V→Hp→VK→Prop} {t:TA} {st:Stmt}
theorem bv (i:Nat) (hN:X.N[i]?=some x:=by rfl) (hv:Vis X.env.scope x:=by first|exact Or.inl rfl|exact Or.inr (Or.inl rfl)|exact Or.inr (Or.inr rfl)) (hd:(x==("__debug__":Str))=false:=by decide)
  (hcd:(x==("__classdict__":Str))=false:=by decide):BE X (.Name x pos) (tVar i):=⟨pe_var hN hv hd hcd⟩
theorem be_callB (hc:CallR X (.builtin id) r) (hg:Gl X x) (hm:X.mg x=none) (hv:bootBuiltins x=some (.builtin id)) (ha:BA X (e::es) t) (hn:x≠"__name__":=by decide) (hdb:(x==("__debug__":Str))=false:=by decide)
  (he:starEach (e::es) X.env=(false,eval e X.env)::starEach es X.env:=by rfl) (hpl:(backTo pos (starEach es X.env)).any (·.1)=false:=by rfl):BE X (.Call (.Name x p) (e::es) [] pos) (tCB r t):=⟨pe_callB hc hg hm hv ha.out hn hdb he hpl⟩
theorem be_callTy (hc:CallR X (.type T) r) (hg:Gl X x) (hm:X.mg x=none) (hv:bootBuiltins x=some (.type T)) (ha:BA X (e::es) t) (hn:x≠"__name__":=by decide) (hdb:(x==("__debug__":Str))=false:=by decide)
  (he:starEach (e::es) X.env=(false,eval e X.env)::starEach es X.env:=by rfl) (hpl:(backTo pos (starEach es X.env)).any (·.1)=false:=by rfl):BE X (.Call (.Name x p) (e::es) [] pos) (tCB r t):=⟨pe_callTy hc hg hm hv ha.out hn hdb he hpl⟩
theorem be_call (F:FnOk X.prog X.w X.K X.mg X.base CX k f fd ps sp) (hr:Room k X.A) (hg:Gl X x) (hm:X.mg x=some (.ref f)) (hk:PySem.W.keepIn X.K (.ref f)=true) (hb:Binds X.K fd ps ds) (hd:Vals dvs ds) (hx:Passes CX X E)
  (ha:BA X (e::es) t) (hdb:(x==("__debug__":Str))=false:=by decide) (he:starEach (e::es) X.env=(false,eval e X.env)::starEach es X.env:=by rfl) (hpl:(backTo pos (starEach es X.env)).any (·.1)=false:=by rfl):
  BE X (.Call (.Name x p) (e::es) [] pos) (tCall sp dvs E t):=⟨pe_call F hr hg hm hk hb hd hx ha.out hdb he hpl⟩
theorem ba_nil:BA X [] tNil:=⟨pa_nil⟩
theorem ba_cons (ha:BE X e te) (hr:BA X es t) (hs:starEach (e::es) X.env=(false,eval e X.env)::starEach es X.env:=by rfl):BA X (e::es) (tCons te t):=⟨pa_cons ha.out hr.out hs⟩
theorem be_bm {apos cpos:Pos} {name:Str} {to:TE} {r:V→List V→Hp→VK→Prop} (pa:PlainAttrs T) (slot:Slot T name id) (hty:typeOf (.builtin id)=pure (.type "method_descriptor")) (hm:MtR X id r) (ho:BE X o to) (ha:BA X (e::es) t)
  (hbase:attributeBase o name X.env (eval o X.env)=eval o X.env:=by rfl)
  (hfew:((backTo cpos (starEach (e::es) X.env)).all (fun x=>!x.1)&&(backToKw cpos (keywordEach [] X.env)).all (fun x=>x.1.isSome)
   &&decide ((e::es).length+([]:List Keyword).length+(if([]:List Keyword).isEmpty then 0 else 1) < 30))=true:=by rfl)
  (hline:(apos.endLine==cpos.line)=true:=by rfl) (hs:starEach (e::es) X.env=(false,eval e X.env)::starEach es X.env:=by rfl) (hplain:(backTo cpos (starEach es X.env)).any (·.1)=false:=by rfl):
  BE X (.Call (.Attribute o name apos) (e::es) [] cpos) (tBM X.K T r to t):=⟨pe_bm pa slot hty hm ho.out ha.out hbase hfew hline hs hplain⟩
theorem be_lc (L:LcScope X scope N js) (hc:X.calm=true) (hi:BI X target iter wi)
  (hg: ∀ s₀ H₀ ex pn,BG (cxC X scope N s₀ H₀ ex pn) target g) (ht: ∀ s₀ H₀ ex pn,BTs (cxC X scope N s₀ H₀ ex pn) ifs tt) (he: ∀ s₀ H₀ ex pn,BE (cxC X scope N s₀ H₀ ex pn) elt te)
  (hs: ∀ x,foldedSetIterable iter X.env x=pure x:=by intro _;rfl):BE X (.ListComp elt [⟨target,iter,ifs,0⟩] scope pos) (tLC js wi g tt te):=⟨pe_lc L hc hi.out (fun a b c d=>(hg a b c d).out) (fun a b c d=>(ht a b c d).out) (fun a b c d=>(he a b c d).out) hs⟩
theorem bs_lc (hN:X.N.Nodup) (hk:X.N[k]?=some y) (hy:Loc X.env.scope y) (L:LcScope X scope N js) (hc:X.calm=true) (hi:BI X target iter wi)
  (hg: ∀ s₀ H₀ ex pn,BG (cxC X scope N s₀ H₀ ex pn) target g) (ht: ∀ s₀ H₀ ex pn,BTs (cxC X scope N s₀ H₀ ex pn) ifs tt) (he: ∀ s₀ H₀ ex pn,BE (cxC X scope N s₀ H₀ ex pn) elt te)
  (hsw:swapsWith (.ListComp elt [⟨target,iter,ifs,0⟩] scope pos) (some (.Name y py)) spos.line X.env=pure true:=by rfl)
  (hs: ∀ x,foldedSetIterable iter X.env x=pure x:=by intro _;rfl) (hf:X.fn y=true∨X.env.scope.names.lookup y=some .local:=by first|exact .inl rfl|exact .inr rfl|assumption):
  BS X (.Assign [.Name y py] (.ListComp elt [⟨target,iter,ifs,0⟩] scope pos) spos) (tAsg (tLC js wi g tt te) (gName k)):=⟨ps_lc hN hk hy L hc hi.out (fun a b c d=>(hg a b c d).out) (fun a b c d=>(ht a b c d).out) (fun a b c d=>(he a b c d).out) hsw hs hf⟩
theorem bs_set (hN:X.N.Nodup) (hi:X.N[i]?=some x) (hx:Loc X.env.scope x) (he:BE X e te) (hs:swapsWith e (some (.Name x pos')) pos.line X.env=pure false:=by rfl) (hf:X.fn x=true∨X.env.scope.names.lookup x=some .local:=by first|exact .inl rfl|exact .inr rfl|assumption):
  BS X (.Assign [.Name x pos'] e pos) (tAsg te (gName i)):=⟨ps_set hN hi hx he.out hs hf⟩
theorem bs_asg (he:BE X e te) (hg:BG X tg g) (hs:swapsWithSole [tg] e pos.line X.env=pure false:=by rfl) (hw:swappedStores [tg] e X.env=pure none:=by rfl)
  (h1:(assignEach [tg] X.env).map (·.2)=[assign tg X.env]:=by rfl):BS X (.Assign [tg] e pos) (tAsg te g):=⟨ps_asg he.out hg.out hs hw h1⟩
theorem bs_ret (he:BE X e te):BS X (.Return (some e) pos) (tRet te):=⟨ps_ret he.out⟩
theorem bs_if {c:Expr} {ss tt:List Stmt} {tc:TT} {t u:TS} (hc:BT X c tc) (ha:BSs X ss t) (hb:BSs X tt u):BS X (.If c ss tt pos) (tIfS tc t u):=⟨ps_if hc.out ha.out hb.out⟩
theorem bs_for (hp:PassesOwn (model X.prog X.w) X.A X.env X.xe) (hc:X.calm=true) (hi:BI X tg iter wi) (hg:BG X tg g) (hb:BSs X body tb)
  (hs: ∀ x,foldedSetIterable iter X.env x=pure x:=by intro _;rfl):BS X (.For tg iter body [] pos) (tFor wi g tb):=⟨ps_for hp hc hi.out hg.out hb.out hs⟩
theorem bs_while (hp:PassesOwn (model X.prog X.w) X.A X.env X.xe) (hc:BT X c tc) (hb:BSs X body tb):BS X (.While c body [] pos) (tWhile tc tb):=⟨ps_while hp hc.out hb.out⟩
theorem bs_expr (he:BE X e te) (hs:swapsWith e none pos.line X.env=pure false:=by rfl):BS X (.Expr e pos) (tDrop te):=⟨ps_expr he.out hs⟩
theorem bi_range1 (hg:Gl X "range") (hm:X.mg "range"=none) (ha:BA X [a] ta) (hs:starEach [a] X.env=[(false,eval a X.env)]:=by rfl):BI X tg (.Call (.Name "range" p) [a] [] pos) (iRng1 ta):=⟨pi_range1 hg hm ha.out hs⟩
theorem be_slice {r:V→Option Int→Option Int→Hp→VK→Prop} {te:TE} {tl th:TO} {lo hi:Option Expr} {p2:Pos} (hr:SlR X r) (he:BE X e te) (hl:BO X lo tl) (hu:BO X hi th):BE X (.Subscript e (.Slice lo hi none p2) pos) (tSl r te tl th):=⟨pe_slice hr he.out hl.out hu.out⟩
theorem be_un {op:UnaryOp} {r:V→Hp→VK→Prop} {ta:TE} (ho:UnR X (unaryOp op) r) (ha:BE X a ta):BE X (.UnaryOp op a pos) (tUn r ta):=⟨pe_un ho ha.out⟩
theorem be_op {op:Operator} {r:R2} {ta tb:TE} (ho:OpR X (binaryOp op) r) (ha:BE X a ta) (hb:BE X b tb):BE X (.BinOp a op b pos) (tOp r ta tb):=⟨pe_op ho ha.out hb.out⟩
theorem bg_name (hN:X.N.Nodup) (hi:X.N[i]?=some x) (hx:Loc X.env.scope x) (hf:X.fn x=true∨X.env.scope.names.lookup x=some .local:=by first|exact .inl rfl|exact .inr rfl|assumption):BG X (.Name x pos) (gName i):=⟨pg_name hN hi hx hf⟩
theorem bgs_nil:BGs X [] gNil:=⟨pgs_nil⟩
theorem bgs_cons {t:TG} {u:TGs} (h1:BG X e t) (h2:BGs X es u)
  (hs:(assignEach (e::es) X.env).map (·.2)=assign e X.env::(assignEach es X.env).map (·.2):=by rfl):BGs X (e::es) (gCons t u):=⟨pgs_cons h1.out h2.out hs⟩
theorem bg_tup {k:Nat} {t:TGs} {n:Nat} (hc:X.calm=true) (h:BGs X es t)
  (hn:(assignEach es X.env).length=n:=by rfl) (hst:(assignEach es X.env).findIdx? (·.1)=none:=by rfl):BG X (.Tuple es k pos) (gTup X.K n t):=⟨pg_tup hc h.out hn hst⟩
end
section
variable {P:Program} {w:World} {K:PySem.W.Frag} {mg:Str→Option Value} {base:Heap}
theorem fn_ok3 {x qual:Str} {st:Stmt} {f:Addr} {fd:FuncData} {N ps:List Str} {k:Nat} {m:PEnv→M Fl} {body:List Stmt} {sc:Scope} {Ff:List PV→M PV} (hF:Ff=fnP ps.length N.length m) (F:Fun K x qual st f fd) (S:FnScope N ps (defScope st)) (hN:ps.length≤N.length) (eb:defBody st=body) (es:defScope st=sc)
  (hb: ∀ (cdv:Value) (A:Around) (outer:List Env) (s:Shared) (H:Hp) (E:XK),Room k (A.deeper (envOfC qual sc s.heap.objs.size f cdv))→SsV φ (cxOf CX0 P w K mg base N qual sc f cdv A outer s H E).nox body m):
  FnOk P w K mg base CX0 (k+1) f fd ps (spP φ Ff):=by
 subst hF eb es
 exact fn_ok F S hN hb
end
end
section
open PySem.AutoSeq1 (wpAny_loadPart')
theorem noFill_tuple_mul:fillsNumberSlot (.type "tuple") "mul"=pure false:=
 PySem.fillsNumberSlot_seq (id:="tuple.__mul__") (r:=some (.builtin "tuple.__rmul__")) F.slot_tuple_mul.lookup (by decide +kernel) F.slot_tuple_rmul.lookup (by decide +kernel)
theorem repeat_tuple:seqRepeat? (.type "tuple")=pure (some (.builtin "tuple.__mul__")):=by
 unfold seqRepeat?
 rw[PySem.seqSlot_of (T:="tuple") (name:="__mul__") (id:="tuple.__mul__") F.slot_tuple_mul.lookup (by decide +kernel),PySem.seqSlot_of (T:="tuple") (name:="__rmul__") (id:="tuple.__rmul__") F.slot_tuple_rmul.lookup (by decide +kernel)]
 rfl
theorem int_rmul_tuple (a:Int) (t:Tok) (l:Addr) (items:Array Value) (n:Nat) (dd:Option Addr) (sl:Array (Option Value)):
  Meets (Builtin.«int.__rmul__» ⟨[.int a t,.ref l],[]⟩) (fun _ R s=>s.heap.get? l=some {cls:=.type "tuple",dict:=dd,data:=.seq items n,slots:=sl}∧R (.ok (.ret Value.notImplemented)) s):=
 .of_wp fun prog w A R s h=>by obtain⟨hp,g,d,tk,os⟩:=s;obtain⟨hl,h⟩:=h;wp_walk using wpAny_loadPart' hl;exact⟨_,rfl,h⟩
theorem tuple_mulW (l:Addr) (items:Array Value) (n:Nat) (dd:Option Addr) (sl:Array (Option Value)) (x:Int) (u:Tok) (hc0: ¬(decide (x < -(2 ^ 63))||decide (x ≥ 2 ^ 63))=true) (hc1: ¬(items.isEmpty||x==1)=true) (hc2: ¬(decide (x≤0)||items.isEmpty)=true) (hc3: ¬((items.size:Int) * x > (2 ^ 63 - 1) / 8)) (hc4: ¬Builtin.Tuple.tupleTooMany (items.size * x)=true) (hc5: ¬ (List.foldl (fun x1 x2=>x1++x2) #[] (List.replicate x.toNat items)).size > sizeLine):
  Meets (Builtin.«tuple.__mul__» ⟨[.ref l,.int x u],[]⟩) (fun _ R s=>s.heap.get? l=some {cls:=.type "tuple",dict:=dd,data:=.seq items n,slots:=sl}∧R (.ok (.ret (Value.ref s.heap.objs.size))) {s with heap:=s.heap.push {cls:=Value.type "tuple",data:=Data.seq ((List.replicate x.toNat items).foldl (· ++ ·) #[])},toks:=s.toks}):=
 .of_wp fun prog w A R s h=>by
  obtain⟨hp,g,d,tk,os⟩:=s;obtain⟨hl,h⟩:=h
  have f1:=AutoSeq1.idx_int
  wp_walk using wpAny_loadPart' hl
  refine wpAny_ite_false (decide_eq_false hc0) ?_
  wp_walk using wpAny_loadPart' hl
  refine wpAny_ite_false (decide_eq_false hc3) ?_
  wp_walk using wpAny_loadPart' hl
  exact⟨_,rfl,h⟩
noncomputable def rRepT:R2:=fun x y H Q=> ∃ l k xs,x= .ref l∧y= .int k∧H l=some (.tup xs)∧xs≠[]∧1 < k∧k < 1000∧xs.length * k.toNat≤100000∧∀ p,H p=none→Q (.ref p) (upd H p (.tup (List.replicate k.toNat xs).flatten))
theorem op_repT:OpR X (binaryOp .Mult) rRepT:=by
 intro pZ s σ H x y v u Q I rx ry h
 obtain⟨l,k,xs,rfl,rfl,hH,hne,h1,h2,hz,q⟩:=h
 cases rx
 obtain⟨t,rfl⟩:=ry
 obtain⟨its,r,p,_⟩:=I.tuple (SqT.of (K:=X.K) hH)
 obtain⟨⟨cls,dd,data,sl⟩,ho,hc,n,hd⟩:=id p
 simp only at hc hd
 subst hc hd
 have hlen:=r.length
 have hie:its≠[]:=fun z=>hne (r.nil_iff.mp z)
 have hnew:List.foldl (fun x1 x2=>x1++x2) #[] (List.replicate k.toNat its.toArray)=(List.replicate k.toNat its).flatten.toArray:=by
  have:=foldl_rep its k.toNat []
  rw[List.nil_append] at this
  exact this
 have e63:(2:Int) ^ 63=9223372036854775808:=by decide
 have hsz:(its.length:Int) * k≤100000:=by
  have e:(k.toNat:Int)=k:=by lia
  have:((its.length * k.toNat:Nat):Int)≤100000:=by
   rw[←hlen]
   exact Int.ofNat_le.mpr hz
  rw[Int.natCast_mul,e] at this
  exact this
 have hs:sizeLine=16777216:=sizeLine_eq
 have hfl:(List.replicate k.toNat xs).flatten.length≤sizeLine:=by rw[len_rep,Nat.mul_comm];lia
 refine wpAny_binaryOp_repeat_ref (T:="tuple") (U:="int") (by decide) ⟨_,ho,rfl⟩ (fun s'=>typeIs_int s' k t) noFill_tuple_mul F.fills_int_mul F.slot_int_rmul repeat_tuple F.slot_int_index.lookup
  (call_meets F.slot_int_rmul (typeIs_int s k t) F.entry_int_rmul (F.args_int_rmul_2 _ _) (int_rmul_tuple k t l its.toArray n dd sl)
   ⟨ho,rfl,⟨_,ho,rfl⟩,call_meets F.slot_tuple_mul ⟨_,ho,rfl⟩ F.entry_tuple_mul (F.args_tuple_mul_2 _ _) (tuple_mulW l its.toArray n dd sl k t ?_ ?_ ?_ ?_ ?_ ?_) ⟨ho,?_⟩⟩)
 ·simp;lia
 ·simp[hie];lia
 ·simp[hie];lia
 ·simp only[List.size_toArray];lia
 ·unfold Builtin.Tuple.tupleTooMany;simp only[List.size_toArray,decide_eq_true_eq];lia
 ·rw[hnew,List.size_toArray,len_rep,Nat.mul_comm,←hlen];lia
 ·rw[hnew]
  refine⟨.ref s.heap.objs.size,_,I.laid (t':=s.toks) (o:=.tup (List.replicate k.toNat xs).flatten) (fun b ob q=>Heap.get?_push_of_some _ q) (Nat.le_refl _) ?_,rfl,q _ (I.hok.fresh (Nat.le_refl _))⟩
  exact⟨hfl,_,r.rep k.toNat,IsTup.new _ _⟩
def rMulE:R2:=fun x y H Q=>rMulD x y H Q∨rRepT x y H Q
theorem op_mulE:OpR X (binaryOp .Mult) rMulE:=op_mulD.or op_repT
noncomputable def mulE (y z:PV):M PV:=match y,z with
 | .tup l,.int k=>if 0 < l.length∧1 < k∧k < 1000∧l.length * k.toNat≤100000 then .ret (.tup (List.replicate k.toNat l).flatten) else .fail
 |y,z=>mulO y z
theorem ov_mulE:OpV rMulE mulE:=fun φ G O H n R Q y z x x' pr dm ok r1 r2 w q=>by
 have hB:O G.B:=pr _ G.pB
 cases y with
 |tup l=>
  cases z<;>first|exact w.elim|skip
  rename_i k
  obtain⟨a,xs,rfl,h1,e1⟩:=r1.tup_i
  rw[r2.int_i]
  unfold mulE at w
  dsimp only at w
  by_cases hc:0 < l.length∧1 < k∧k < 1000∧l.length * k.toNat≤100000
  ·rw[if_pos hc] at w
   refine .inr ⟨a,k,xs,rfl,rfl,h1,fun z=>?_,hc.2.1,hc.2.2.1,by rw[←e1.1];exact hc.2.2.2,fun p hp=>q.tup ok dm hp hB (e1.rep _) w⟩
   subst z
   have:=e1.1
   simp at this
   have:=hc.1
   simp_all
  ·rw[if_neg hc] at w;exact w.elim
 |_=>exact .inl (ov_mul φ G O H n R Q _ z x x' pr dm ok r1 r2 w q)
end
def drawF:List PV→M PV:=fun l=>match l with|[.bag,.int m]=>.draw m fun d=>.ret (.int d)|_=>.fail
theorem draw_pure {φ:Fam} {P:Program} {w:World} {K:PySem.W.Frag} {mg:Str→Option Value} {base:Heap} {k:Nat} {f:Addr} {fd:FuncData} {ps:List Str} (F:FnOk P w K mg base CX0 k f fd ps φ.sp):FnOk P w K mg base CX0 k f fd ps (spP φ drawF):=by
 refine F.imp fun vs H Q E h=>?_
 obtain⟨G,O,l,n,R,pr,dm,ok,r,w,q⟩:=h
 match l,r,w with
 |[.bag,.int m],r,w=>
  obtain⟨x,t,rfl,r1,r2⟩:=r.cons_inv
  obtain⟨x',t',rfl,r3,r4⟩:=r2.cons_inv
  rw[r4.nil_inv]
  cases r1
  cases r3
  obtain⟨h0,h1,n',rfl,h⟩:=w
  exact G.dr H n' m Q E ok h0 h1 fun d H' d0 d1 e o=>q (.int d) _ H' n' e o (.int d) (h d d0 d1)
structure Gen {α:Type} (m:M α) (c:Nat) (Pr:α→Prop):Prop where
 h: ∀ n,c≤n→m.wp n fun y n'=>n≤n'+c∧Pr y
theorem Gen.ret (h:Pr y):Gen (.ret y) 0 Pr:=⟨fun n _=>⟨Nat.le_refl _,h⟩⟩
theorem Gen.bind (h:Gen m c Pr) (k: ∀ y,Pr y→Gen (f y) d Rr):Gen (m.bind f) (c+d) Rr:=⟨fun n hn=>by
 rw[M.wZ]
 refine M.wp_mono (h.h n (by lia)) fun y n1 ⟨h1,h2⟩=>?_
 exact M.wp_mono ((k y h2).h n1 (by lia)) fun z n2 ⟨h3,h4⟩=>⟨by lia,h4⟩⟩
theorem Gen.mono (h:Gen m c Pr) (hc:c≤d) (k: ∀ y,Pr y→Rr y):Gen m d Rr:=⟨fun n hn=>M.wp_mono (h.h n (by lia)) fun y n1 ⟨h1,h2⟩=>⟨by lia,k y h2⟩⟩
theorem Gen.le (h:Gen m c Pr) (hc:c≤d):Gen m d Pr:=h.mono hc fun _ z=>z
theorem Gen.draw (h0:0 < m) (h1:m < 1073741824):Gen (drawF [.bag,.int m]) 1 fun y=> ∃ d,y= .int d∧0≤d∧d < m:=⟨fun n hn=>by
 obtain⟨n',rfl⟩: ∃ n',n=n'+1:=⟨n - 1,by lia⟩
 exact⟨h0,h1,n',rfl,fun d d0 d1=>⟨Nat.le_refl _,d,rfl,d0,d1⟩⟩⟩
theorem Gen.eq (e:m= .ret y) (h:Pr y):Gen m 0 Pr:=e▸Gen.ret h
theorem Gen.lc {te:PEnv→M PV} {ρ:PEnv}: ∀ (l:List PV) (ρ':PEnv),(∀ e,ρ'.set k e=ρ.set k e)→(∀ y∈l,Gen (te (ρ.set k (.val y))) c Pr)→Gen (lcM (bindN k) allTs te l ρ') (l.length * c) (fun zs=>zs.length=l.length∧∀ z∈zs,Pr z)
 |[],ρ',_,_=>Gen.le (Gen.ret ⟨rfl,fun z hz=>by simp at hz⟩) (by simp)
 |y::l,ρ',hρ,h=>by
  unfold lcM
  simp only[bindN,allTs,rZ,if_true]
  rw[hρ]
  refine Gen.le (Gen.bind (h y List.mem_cons_self) fun z hz=>Gen.bind (Gen.lc (ρ:=ρ) l _ (fun e=>by rw[List.set_set]) fun y' hy=>h y' (List.mem_cons_of_mem _ hy)) fun zs hzs=>Gen.ret ?_) (Nat.le_of_eq ?_)
  ·refine⟨by simp[hzs.1],fun u hu=>?_⟩
   rcases List.mem_cons.mp hu with rfl|hu
   ·exact hz
   ·exact hzs.2 u hu
  ·simp only[List.length_cons,Nat.succ_mul]
   lia
theorem lcM_map {te:PEnv→M PV} {f:PV→PV} {ρ:PEnv}: ∀ (l:List PV) (ρ':PEnv),(∀ e,ρ'.set k e=ρ.set k e)→(∀ y∈l,te (ρ.set k (.val y))= .ret (f y))→lcM (bindN k) allTs te l ρ'= .ret (l.map f)
 |[],ρ',_,_=>rfl
 |y::l,ρ',hρ,h=>by
  unfold lcM
  simp only[bindN,allTs,rZ,if_true]
  rw[hρ,h y List.mem_cons_self,lcM_map (f:=f) (ρ:=ρ) l _ (fun e=>by rw[List.set_set]) fun y' hy=>h y' (List.mem_cons_of_mem _ hy)]
  rfl
theorem lcM_filter {tt:PEnv→M Bool} {te:PEnv→M PV} {p:PV→Bool} {f:PV→PV} {ρ:PEnv}: ∀ (l:List PV) (ρ':PEnv),(∀ e,ρ'.set k e=ρ.set k e)→(∀ y∈l,tt (ρ.set k (.val y))= .ret (p y))→(∀ y∈l,p y=true→te (ρ.set k (.val y))= .ret (f y))→lcM (bindN k) tt te l ρ'= .ret ((l.filter p).map f)
 |[],ρ',_,_,_=>rfl
 |y::l,ρ',hρ,h,h'=>by
  unfold lcM
  simp only[bindN,rZ]
  have ih:=lcM_filter (p:=p) (f:=f) (ρ:=ρ) l (ρ.set k (.val y)) (fun e=>by rw[List.set_set]) (fun y' hy=>h y' (List.mem_cons_of_mem _ hy)) (fun y' hy=>h' y' (List.mem_cons_of_mem _ hy))
  rw[hρ,h y List.mem_cons_self,rZ]
  cases hp:p y with
  |true=>
   simp only[if_true]
   rw[h' y List.mem_cons_self hp,rZ,ih,List.filter_cons_of_pos hp]
   rfl
  |false=>
   simp only[Bool.false_eq_true,if_false]
   rw[ih,List.filter_cons_of_neg (by simp[hp])]
section
variable {φ:Fam}
def rSlS:V→Option Int→Option Int→Hp→VK→Prop:=fun x lo hi H Q=> ∃ z,x= .str z∧z.length≤100000∧Q (.str (Txt.slice z lo hi)) H
theorem part_of (p:IsPart v o): ∃ l:Option (Int×Tok),v=PySem.partValue l∧l.map (·.1)=o:=by
 cases p with
 |none=>exact⟨none,rfl,rfl⟩
 |int i t=>exact⟨some (i,t),rfl,rfl⟩
theorem sl_str:SlR X rSlS:=by
 intro pZ s σ H x v vl vu lo hi sl Q I rx hs pl pu h
 obtain⟨z,rfl,hz,q⟩:=h
 obtain⟨t,rfl⟩:=rx
 obtain⟨l,rfl,hl⟩:=part_of pl
 obtain⟨u,rfl,hu⟩:=part_of pu
 refine⟨"str",_,F.slot_str_getitem.lookup,typeIs_str _ _ _,wpAny_getItem_str_slice (l:=l) (u:=u) (st:=none) hs rfl ?_⟩
 subst hl hu
 exact(post_val_or_str ⟨Nat.le_trans (Txt.slice_le z _ _) (Nat.le_trans hz big_le),fun t' k=>⟨.str (Txt.slice z _ _),H,I.tok _,⟨_,rfl⟩,q⟩⟩)
section
open HT
variable {prog:Program} {w:World} {A:Around} {E:Value→Shared→Prop} {s:Shared}
theorem getItem_tuple_whole {t sl:Addr} {items:Array Value} {vl vu:Value} {lo hi:Option Int} {Q:Value→Shared→Prop} (ht:IsTup s.heap t items) (hs:s.heap.IsSliceOf sl vl vu .none) (pl:IsPart vl lo) (pu:IsPart vu hi)
  (hw:sIx items.size 0 lo=0∧sIx items.size items.size hi=items.size) (h:Q (.ref t) s):wpAny (model prog w) A (getItem (.ref t) (.ref sl)) Q E s:=by
 obtain⟨os,hos,hcs,hds⟩:=id hs
 have hTs:s.TypeIs (.ref sl) "slice":=⟨os,hos,hcs⟩
 unfold getItem
 try with_reducible refine wpAny_holding ?_
 first|refine wpAny_bind (wpAny_pure ?_)|skip
 refine wpAny_bind (wpAny_sequenceKey ht.typeIs (by decide) ?_)
 refine wpAny_bind (wpAny_callSpecial?_slot (name:=Str.ofString "__getitem__") ht.typeIs PyProof.Rows.slot_tuple_getitem
  (wpAny_call_entry PyProof.Rows.slot_tuple_getitem ht.typeIs entry_tuple_getitem ?_ (args_tuple_getitem _ _)))
 show wpAny _ _ (Builtin.Tuple.tupleItemsOf (.ref t) >>= _) _ _ s
 refine wpAny_bind (tupleItemsOf_ ht ?_)
 refine wpAny_bind (wpAny_typeOf hTs ?_)
 rw[if_pos (by decide)]
 refine wpAny_bind (sliceApplied_gen hs pl pu ?_)
 have hyes:((((sIx items.size 0 lo:Nat):Int)==0&&(1:Int)==1&&(sIx items.size items.size hi - sIx items.size 0 lo)==items.size)=true):=by
  rw[hw.1,hw.2];simp
 show wpAny _ _ (if(((sIx items.size 0 lo:Nat):Int)==0&&(1:Int)==1&&(sIx items.size items.size hi - sIx items.size 0 lo)==items.size)=true then _ else _) _ _ s
 rw[if_pos hyes]
 refine wpAny_bind (m:=Builtin.Tuple.tupleIsExact _) (wpAny_bind (wpAny_typeOf ht.typeIs (wpAny_pure ?_)))
 rw[if_pos (by decide)]
 refine wpAny_bind (wpAny_rule ?_)
 exact wpAny_pure ⟨_,rfl,wpAny_pure h⟩
end
def rSlW:V→Option Int→Option Int→Hp→VK→Prop:=fun x lo hi H Q=> ∃ a xs,x= .ref a∧H a=some (.tup xs)∧(HT.sIx xs.length 0 lo=0∧HT.sIx xs.length xs.length hi=xs.length)∧Q (.ref a) H
theorem sl_tupW:SlR X rSlW:=by
 intro pZ s σ H x v vl vu lo hi sl Q I rx hs pl pu h
 obtain⟨a,xs,rfl,hx,hw,q⟩:=h
 cases rx
 obtain⟨its,r,ht,hz⟩:=I.tuple (SqT.of (K:=X.K) hx)
 have hlen:its.toArray.size=xs.length:=by rw[List.size_toArray];exact r.length.symm
 exact⟨"tuple",_,PyProof.Rows.slot_tuple_getitem.lookup,ht.typeIs,getItem_tuple_whole ht hs pl pu (by rw[hlen];exact hw) ⟨.ref a,H,I,rfl,q⟩⟩
def rSlE (K:PySem.W.Frag):V→Option Int→Option Int→Hp→VK→Prop:=fun x lo hi H Q=>rSlD K x lo hi H Q∨rSlW x lo hi H Q∨rSlS x lo hi H Q
theorem sl_E:SlR X (rSlE X.K):=sl_D.or (sl_tupW.or sl_str)
noncomputable def slE:PV→Option Int→Option Int→M PV
 | .lst l,lo,hi=>.ret (.lst (cutP l lo hi))
 | .tup l,lo,hi=>.ret (.tup (cutP l lo hi))
 | .str z,lo,hi=>if z.length≤100000 then .ret (.str (Txt.slice z lo hi)) else .fail
 |_,_,_=>.fail
theorem sv_E {K:PySem.W.Frag}:SlV (rSlE K) slE:=fun φ G O H n R Q y lo hi x pr dm ok r w q=>by
 cases y<;>first|exact w.elim|skip
 ·rename_i z
  rw[r.str_i]
  unfold slE at w
  dsimp only at w
  by_cases hc:z.length≤100000
  ·rw[if_pos hc] at w;exact .inr (.inr ⟨z,rfl,hc,q.sc ok (.str _) w⟩)
  ·rw[if_neg hc] at w;exact w.elim
 ·rename_i l
  obtain⟨p,xs,rfl,h,e⟩:=r.tup_i
  replace w:R (.tup (cutP l lo hi)) n:=w
  by_cases hc:HT.sIx l.length 0 lo=0∧HT.sIx l.length l.length hi=l.length
  ·rw[cutP_whole l lo hi hc] at w
   cases r with
   |full r=>exact .inr (.inl ⟨p,xs,rfl,h,by rw[←e.1];exact hc,q.sc ok r w⟩)
  ·exact .inl (.inr ⟨p,xs,rfl,SqT.of h,by rw[←e.1];exact hc,fun p' hp=>q.tup ok dm hp (pr _ G.pB) (cut_reps e lo hi) w⟩)
 ·rename_i l
  obtain⟨p,xs,rfl,h,e⟩:=r.lst_i
  exact .inl (.inl ⟨p,xs,rfl,SqL.of h,fun p' hp=>q.lst ok dm hp (pr _ G.pB) (cut_reps e lo hi) w⟩)
end
section
variable {φ:Fam}
section
variable {X:Cx} {e:Expr} {pos:Pos}
def keyOf:PV→Key
 | .int i=>.inl i
 | .str x=>.inr x
 |_=>.inl 0
def inK (ks:List Key) (k:Key):Bool:=ks.any fun k'=>decide (k'=k)
def dk (zs:List PV):List Key:=zs.foldl (fun ks z=>if inK ks (keyOf z)=true then ks else ks++[keyOf z]) []
end
end
section
variable {X:Cx} {pZ:List (Addr×Obj)} {σ:St} {H:Hp} {s:Shared} {h':Heap}
theorem Inv.turnedN {t':Nat} {wr:List Addr} {T:Addr} (I:Inv X pZ σ H s) (hf: ∀ b∈wr,FpOk X pZ H b) (k: ∀ b u,b∉wr→s.heap.get? b=some u→h'.get? b=some u) (hT:s.heap.objs.size≤T)
  (new:ObjOk X.prog X.w (upd H T o) h' T o):Inv X pZ σ (upd H T o) {s with heap:=h',toks:=t'}:=by
 have nT:H T=none:=I.hok.fresh hT
 have neT: ∀ b u,s.heap.get? b=some u→b≠T:=fun b u e z=>absurd (Nat.lt_of_lt_of_le (Heap.lt_size e) (z▸hT)) (Nat.lt_irrefl _)
 have neH: ∀ b u,H b=some u→b≠T:=fun b u e z=>by rw[z,nT] at e;cases e
 have nw: ∀ b u,H b=some u→b∉wr:=fun b u e z=>by rw[(hf b z).1] at e;cases e
 refine I.step (g':=s.gens) (d':=s.drawn) (ch:=wr) (fun b hb=>⟨(hf b hb).2.2.2.1,(hf b hb).2.1,(hf b hb).2.2.2.2.1,(hf b hb).2.2.2.2.2⟩) (fun b u _ _ hc e _=>k b u hc e) (fun b u _ _ hc e _=>⟨u.slots,k b u hc e⟩)
  (fun b u _ e n=>by rw[upd_ne (neT b u e)];exact n) (fun b u hc e=>⟨u,k b u hc e⟩) (fun b xs e=>by rw[upd_ne (neH b _ e)];exact e) (fun b ob u e=>by rw[upd_ne (neH b _ e)];exact e) (fun b ps e=>⟨#[],by rw[upd_ne (neH b _ e),e];simp⟩) (fun m hm=>?_) (fun b u e=>?_) I.bare
 ·obtain⟨ob,es,ep,ho,r⟩:=hm
  exact⟨ob,es,ep,k _ ob (fun z=>(hf _ z).2.1 rfl) ho,r⟩
 ·by_cases hb:b=T
  ·subst hb;rw[upd_same] at e;cases e;exact new
  ·rw[upd_ne hb] at e
   refine(I.hok b u e).stay (fun c v hc q=>k c v ?_ q) (fun c q=>by rw[upd_ne (neH c _ q)];exact q) fun c xs q=>by rw[upd_ne (neH c _ q)];exact q
   rcases hc with z|z
   ·rw[z];exact nw b u e
   ·exact nw c _ z
theorem Inv.turnedL {t':Nat} {wr:List Addr} (I:Inv X pZ σ H s) (hf: ∀ b∈wr,FpOk X pZ H b) (k: ∀ b u,b∉wr→s.heap.get? b=some u→h'.get? b=some u):Inv X pZ σ H {s with heap:=h',toks:=t'}:=by
 have nw: ∀ b u,H b=some u→b∉wr:=fun b u e z=>by rw[(hf b z).1] at e;cases e
 refine I.step (g':=s.gens) (d':=s.drawn) (ch:=wr) (fun b hb=>⟨(hf b hb).2.2.2.1,(hf b hb).2.1,(hf b hb).2.2.2.2.1,(hf b hb).2.2.2.2.2⟩) (fun b u _ _ hc e _=>k b u hc e) (fun b u _ _ hc e _=>⟨u.slots,k b u hc e⟩)
  (fun b u _ e n=>n) (fun b u hc e=>⟨u,k b u hc e⟩) (fun b xs e=>e) (fun b ob u e=>e) (fun b ps e=>⟨#[],by rw[e];simp⟩) (fun m hm=>?_) (fun b u e=>?_) I.bare
 ·obtain⟨ob,es,ep,ho,r⟩:=hm
  exact⟨ob,es,ep,k _ ob (fun z=>(hf _ z).2.1 rfl) ho,r⟩
 ·refine(I.hok b u e).stay (fun c v hc q=>k c v ?_ q) (fun c q=>q) fun c xs q=>q
  rcases hc with z|z
  ·rw[z];exact nw b u e
  ·exact nw c _ z
end
noncomputable def Ite (K:PySem.W.Frag) (a:Addr):It:=
 ⟨fun i H=> ∃ xs x,SqL K H a xs∧xs[i]?=some x,fun i H y H'=> ∃ T,y= .ref T∧H T=none∧∀ xs x,SqL K H a xs→xs[i]?=some x→H'=upd H T (.tup [.int i,x]),fun i H=> ∃ xs,SqL K H a xs∧xs.length≤i⟩
theorem pair_ok (hT:h.get? T=some {cls:=.type "tuple",data:=.seq #[u,v]}) (ru:RelV x u) (rv:RelV y v):ObjOk P w H h T (.tup [x,y]):=
 ⟨by show 2≤sizeLine;decide,[u,v],.cons ru (.cons rv .nil),_,hT,rfl,_,rfl⟩
theorem turn_enum {P:Program} {w:World} {K:PySem.W.Frag} {elts:List Expr} {kk:Nat} {pos:Pos} (a e it:Addr) (hne:e≠it):Turn P w K (.Tuple elts kk pos) (Ite K a) [e,it] e (fun i h=>(∃ old,IsEnum h e it i old)∧h.IsListIter it a i) where
 mem:=by simp
 obj:=fun i h st b hb=>by
  obtain⟨⟨old,he⟩,o,ho,hc,hd⟩:=st
  have hb':b=e∨b=it:=by simpa using hb
  rcases hb' with rfl|rfl
  ·exact⟨_,he,fun v z=>by cases z⟩
  ·exact⟨o,ho,fun v z=>by rw[hd] at z;cases z⟩
 keep:=fun i h h' st k=>by
  obtain⟨⟨old,he⟩,o,ho,hc,hd⟩:=st
  exact⟨⟨old,k e (by simp) _ he⟩,o,k it (by simp) _ ho,hc,hd⟩
 item:=by
  intro X hP hw hK hc i pZ s σ H E I hf st hg
  subst hP hw hK
  obtain⟨xs,x,hq,hx⟩:=hg
  obtain⟨its,rv,p,hz⟩:=I.list hq
  obtain⟨u,hu,ru⟩:=rv.get hx
  obtain⟨⟨old,he⟩,hit⟩:=st
  refine wpAny_pyNext_enum_item he hit p.isList (x:=u) (by simpa using hu) hne fun h1 ho hit1 hT hsz k1=>?_
  refine⟨_,rfl,wpAny_letOwnedTupleGo_enum (s:={s with heap:=h1,toks:=s.toks+1}) ho fun h2 he2 s2=>?_⟩
  have lt: ∀ b o,s.heap.get? b=some o→b≠s.heap.objs.size:=fun b o q=>Nat.ne_of_lt (Heap.lt_size q)
  have neT:s.heap.objs.size≠e:=fun z=>lt e _ he z.symm
  have hT2:h2.get? s.heap.objs.size=some {cls:=.type "tuple",data:=.seq #[.int i s.toks,u]}:=(s2.2 _ neT).trans hT
  have I2:=I.turnedN (t':=s.toks+1) (h':=h2) (wr:=[e,it]) (T:=s.heap.objs.size) (o:=.tup [.int i,x]) hf (fun b o hb q=>by
   have hb':b≠e∧b≠it:=by simpa using hb
   exact(s2.2 b hb'.1).trans (k1 b o hb'.1 hb'.2 q)) (Nat.le_refl _) (pair_ok hT2 ⟨_,rfl⟩ ru)
  refine⟨.ref s.heap.objs.size,_,I2,rfl,⟨_,rfl,I.hok.fresh (Nat.le_refl _),fun ys y hy hyx=>?_⟩,⟨⟨_,by simpa using he2⟩,hit1.at fun o q=>(s2.2 it hne.symm).trans q⟩,fun b hb=>?_⟩
  ·rw[I.list_inj hy hq,hx] at hyx
   cases hyx
   rfl
  ·have hlt:b≠s.heap.objs.size:=by
    have hb':b=e∨b=it:=by simpa using hb
    rcases hb' with rfl|rfl
    ·exact fun z=>neT z.symm
    ·obtain⟨o,ho',_⟩:=hit
     exact lt _ _ ho'
   rw[upd_ne hlt]
   exact(hf b hb).1
 done:=by
  intro X hP hw hK hc i pZ s σ H E I hf st hg
  subst hP hw hK
  obtain⟨xs,hq,hx⟩:=hg
  obtain⟨its,rv,p,hz⟩:=I.list hq
  have hl:=rv.length
  obtain⟨⟨old,he⟩,hit⟩:=st
  refine wpAny_pyNext_enum_end (I.ok.hd hc) he hit p.isList (by simp;lia) fun h1 k1=>⟨rfl,I.turnedL (t':=s.toks) hf fun b o hb q=>k1 b o (fun z=>hb (by simp[z])) q⟩
 self:=fun _ _ _ _ _ st h=>by
  obtain⟨⟨old,he⟩,_⟩:=st
  exact wpAny_pyIter_enum he h
noncomputable def Itz (a b:Addr):It:=
 ⟨fun i H=> ∃ xs ys x y,H a=some (.tup xs)∧H b=some (.tup ys)∧xs[i]?=some x∧ys[i]?=some y,fun i H r H'=> ∃ T,r= .ref T∧H T=none∧∀ xs ys x y,H a=some (.tup xs)→H b=some (.tup ys)→xs[i]?=some x→ys[i]?=some y→H'=upd H T (.tup [x,y]),fun i H=> ∃ xs ys,H a=some (.tup xs)∧H b=some (.tup ys)∧(xs.length≤i∨ys.length≤i)⟩
section
variable {X:Cx} {e e2:Expr} {t1 t2:TE} {elts:List Expr} {kk:Nat} {tpos pos p:Pos} {x:Str}
theorem zip_apart {z TI TO i1 i2 n l1 l2:Nat} (hz:z=n+4) (hTI:TI=n+2) (hTO:TO=n+3) (h1:i1=n) (h2:i2=n+1) (n1:l1∉[z,TO,i1,i2]) (n2:l2∉[z,TO,i1,i2]):ZipApart z TI TO i1 i2 l1 l2:=by
 simp only[List.mem_cons,List.not_mem_nil,or_false,not_or] at n1 n2
 obtain⟨a1,a2,a3,a4⟩:=n1
 obtain⟨b1,b2,b3,b4⟩:=n2
 have ne: ∀ {p q:Nat},(p < q∨q < p)→p≠q:=fun h e=>by lia
 exact⟨ne (by lia),ne (by lia),ne (by lia),ne (by lia),ne (by lia),ne (by lia),ne (by lia),ne (by lia),ne (by lia),ne (by lia),a1,a2,a3,a4,b1,b2,b3,b4⟩
def iEnum (K:PySem.W.Frag) (ta:TA):TI:=fun σ H R=>ta σ H fun vs H1=> ∃ a xs,vs=[.ref a]∧SqL K H1 a xs∧R (Ite K a) H1
theorem enum_it {pZ:List (Addr×Obj)} {σ:St} {H:Hp} {s:Shared} {R:It→Hp→Prop} {a:Addr} {xs:List V} (I:Inv X pZ σ H s) (ha:SqL X.K H a xs) (q:R (Ite X.K a) H):
  wpAny (model X.prog X.w) X.A (call (.type "enumerate") [.ref a]) (fun v s1=>wpAny (model X.prog X.w) X.A (pyIter v) (PIE X pZ σ (.Tuple elts kk tpos) R) X.xe s1) X.xe s:=by
 obtain⟨its,rv,p1,hz⟩:=I.list ha
 refine call_enumerate_list p1.isList fun h1 he hit hsz k1=>?_
 have I1:Inv X pZ σ H {s with heap:=h1}:=I.kept (t':=s.toks) k1
 refine wpAny_pyIter_enum (s:={s with heap:=h1}) he ?_
 refine⟨_,[s.heap.objs.size+1,s.heap.objs.size],_,Ite X.K a,H,rfl,I1,turn_enum a _ _ (Nat.succ_ne_self _),⟨⟨_,he⟩,hit⟩,fun c hc=>?_,q⟩
 have hle:s.heap.objs.size≤c:=by
  rcases List.mem_cons.mp hc with h|hc
  ·rw[h];exact Nat.le_succ _
  ·rw[List.mem_singleton.mp hc];exact Nat.le_refl _
 exact I.fpOk hle (I.hok.fresh hle)
theorem pi_enum (hg:Gl X x) (hm:X.mg x=none) (hv:bootBuiltins x=some (.type "enumerate")) (ha:PA X [e] ta) (hn:x≠"__name__":=by decide) (hdb:(x==("__debug__":Str))=false:=by decide)
  (he:starEach [e] X.env=(false,eval e X.env)::starEach [] X.env:=by rfl) (hpl:(backTo pos (starEach [] X.env)).any (·.1)=false:=by rfl):PI X (.Tuple elts kk tpos) (.Call (.Name x p) [e] [] pos) (iEnum X.K ta):=by
 intro pZ s σ H R I h
 refine wpAny_Call_Name_kw (ld_blt I hg hm hv ?_ hn hdb)
 refine PyProof.Rows.callWith_type1 (thn (ha pos pZ s σ H _ I h) fun us s1 ⟨vs,H1,I1,r1,q1⟩=>?_) he hpl
 obtain⟨a,xs,rfl,h1,q⟩:=q1
 obtain⟨u,rfl,ru⟩:=r1.one
 cases ru
 exact enum_it I1 h1 q
end
section
variable {φ:Fam}
def zipL (l1 l2:List PV):List PV:=List.zipWith (fun x y=>PV.tup [x,y]) l1 l2
inductive ItQ (G:Bg φ) (O:Addr→Prop) (H:Hp):List PV→It→Prop where
 |zip {a b:Addr} {xs ys:List V} {l1 l2:List PV} (na: ¬ O a) (ha:H a=some (.tup xs)) (ra:Reps G.B O H l1 xs) (nb: ¬ O b) (hb:H b=some (.tup ys)) (rb:Reps G.B O H l2 ys):ItQ G O H (zipL l1 l2) (Itz a b)
end
section
variable {prog:Program} {w:World} {A:Around} {E:Value→Shared→Prop} {s:Shared}
theorem zip_pairL {z TI TO i1 i2 l1 l2:Addr} {k:Nat} {xs ys:Array Value} {x y a b:Value} {Q:Option Value→Shared→Prop} (D:ZipApart z TI TO i1 i2 l1 l2) (hz:IsZip s.heap z TI TO .none) (hTI:IsPair s.heap TI (.ref i1) (.ref i2)) (hTO:IsPair s.heap TO a b)
  (h1:s.heap.IsListIter i1 l1 k) (h2:s.heap.IsListIter i2 l2 k) (t1:s.heap.IsList l1 xs) (t2:s.heap.IsList l2 ys) (hx:xs[k]?=some x) (hy:ys[k]?=some y)
  (q: ∀ h',IsZip h' z TI TO (rawInt s.heap.objs.size)→IsPair h' TO x y→h'.IsListIter i1 l1 (k+1)→h'.IsListIter i2 l2 (k+1)→IsPair h' s.heap.objs.size x y→
   (∀ c o,c≠z→c≠TO→c≠i1→c≠i2→s.heap.get? c=some o→h'.get? c=some o)→Q (some (.ref s.heap.objs.size)) {s with heap:=h'}):
  wpAny (model prog w) A (pyNext (.ref z)) Q E s:=by
 have hT:s.TypeIs (.ref z) "zip":=⟨_,hz,rfl⟩
 unfold pyNext
 refine wpAny_bind (wpAny_attempt (wpAny_callSpecial?_slot (name:=Str.ofString "__next__") hT F.slot_zip_next (wpAny_call_entry F.slot_zip_next hT F.entry_zip_next ?_ (F.args_zip_next_1 _))))
 change wpAny _ _ (field (.ref z) 2 >>= _) _ _ _
 apply wpAny_bind
 apply wpAny_field hz rfl (x:=.bool false) rfl
 change wpAny _ _ (field (.ref z) 3 >>= _) _ _ _
 apply wpAny_bind
 apply wpAny_field hz rfl (x:=.ref TI) rfl
 refine wpAny_bind (wpAny_seqItems hTI rfl ?_)
 change wpAny _ _ (Builtin.SmallTypes.ownedTupleIsFree (.ref z) >>= _) _ _ _
 apply wpAny_bind
 unfold Builtin.SmallTypes.ownedTupleIsFree
 refine wpAny_bind (wpAny_field hz rfl (x:=.none) rfl (wpAny_pure ?_))
 simp only[if_true]
 refine wpAny_bind (wpAny_rule (wpAny_bind (wpAny_field hz rfl (x:=.ref TO) rfl (wpAny_bind (wpAny_setField_rec hz (by simp) fun ha za sa=>?_)))))
 have za:IsZip ha z TI TO .ellipsis:=za
 apply wpAny_bind
 simp only[List.zipIdx_cons,List.zipIdx_nil,List.forIn_cons,List.forIn_nil]
 refine wpAny_bind (wpAny_bind (wpAny_onRaise ?_))
 change wpAny _ _ (Builtin.SmallTypes.nextOf (.ref i1) >>= _) _ _ _
 refine wpAny_bind (wpAny_nextOf_list_item (h1.extBut sa.extBut D.i1z) (t1.extBut sa.extBut D.l1z) hx fun hb pb sb=>wpAny_pure ?_)
 have ob:IsPair hb TO a b:=sb.extBut _ _ D.TOi1 (sa.extBut _ _ D.TOz hTO)
 refine wpAny_bind (wpAny_seqItems ob rfl (wpAny_bind (wpAny_updateSeq_pair ob fun hc oc sc=>wpAny_bind (wpAny_letGo (wpAny_pure ?_)))))
 have oc:IsPair hc TO x b:=oc
 refine wpAny_bind (wpAny_bind (wpAny_onRaise ?_))
 change wpAny _ _ (Builtin.SmallTypes.nextOf (.ref i2) >>= _) _ _ _
 refine wpAny_bind (wpAny_nextOf_list_item (((h2.extBut sa.extBut D.i2z).extBut sb.extBut D.i12.symm).extBut sc.extBut D.TOi2.symm) (((t2.extBut sa.extBut D.l2z).extBut sb.extBut D.l2i1).extBut sc.extBut D.l2TO) hy fun hd pd sd=>wpAny_pure ?_)
 have od:IsPair hd TO x b:=sd.extBut _ _ D.TOi2 oc
 refine wpAny_bind (wpAny_seqItems od rfl (wpAny_bind (wpAny_updateSeq_pair od fun he oe se=>wpAny_bind (wpAny_letGo (wpAny_pure (wpAny_pure ?_))))))
 have oe:IsPair he TO x y:=oe
 refine wpAny_bind (wpAny_seqItems oe rfl (wpAny_bind (wpAny_newTuple ?_)))
 have size:he.objs.size=s.heap.objs.size:=by rw[se.1,sd.1,sc.1,sb.1,sa.1]
 have ze:IsZip he z TI TO .ellipsis:=se.extBut _ _ D.TOz.symm (sd.extBut _ _ D.i2z.symm (sc.extBut _ _ D.TOz.symm (sb.extBut _ _ D.i1z.symm za)))
 have lz:z < he.objs.size:=Heap.lt_size ze
 change wpAny _ _ (Builtin.SmallTypes.ownedTupleHandOut (.ref z) (.ref he.objs.size) >>= _) _ _ _
 apply wpAny_bind
 unfold Builtin.SmallTypes.ownedTupleHandOut
 refine wpAny_bind (wpAny_setField_rec (Heap.get?_push_of_some _ ze:IsZip (he.push {cls:=.type "tuple",data:=.seq #[x,y]}) z TI TO .ellipsis) (by simp) fun hf zf sf=>?_)
 have zf:IsZip hf z TI TO (rawInt he.objs.size):=zf
 refine wpAny_setField_rec zf (by simp) fun hg zg sg=>?_
 have zg:IsZip hg z TI TO (rawInt he.objs.size):=zg
 have up: ∀ c o,c≠z→he.get? c=some o→hg.get? c=some o:=fun c o n e=>sg.extBut _ _ n (sf.extBut _ _ n (Heap.get?_push_of_some _ e))
 have pg:IsPair hg he.objs.size x y:=sg.extBut _ _ (Nat.ne_of_gt lz) (sf.extBut _ _ (Nat.ne_of_gt lz) (Heap.get?_push_size _ rfl))
 have p1:he.IsListIter i1 l1 (k+1):=((pb.extBut sc.extBut D.TOi1.symm).extBut sd.extBut D.i12).extBut se.extBut D.TOi1.symm
 have p2:he.IsListIter i2 l2 (k+1):=pd.extBut se.extBut D.TOi2.symm
 rw[size] at zg pg
 refine wpAny_pure ⟨_,rfl,wpAny_pure ?_⟩
 change Q (some (.ref he.objs.size)) _
 rw[size]
 refine q hg zg (up _ _ D.TOz oe) ?_ ?_ pg fun c o c1 c2 c3 c4 e=>up c o c1 (se.extBut _ _ c2 (sd.extBut _ _ c4 (sc.extBut _ _ c2 (sb.extBut _ _ c3 (sa.extBut _ _ c1 e)))))
 ·obtain⟨o,e,r⟩:=p1
  exact⟨o,up _ o D.i1z e,r⟩
 ·obtain⟨o,e,r⟩:=p2
  exact⟨o,up _ o D.i2z e,r⟩
theorem zip_overL {z TI TO i1 i2 l1 l2:Addr} {k:Nat} {xs ys:Array Value} {a b:Value} {Q:Option Value→Shared→Prop} (hh:A.handled=none) (D:ZipApart z TI TO i1 i2 l1 l2) (hz:IsZip s.heap z TI TO .none) (hTI:IsPair s.heap TI (.ref i1) (.ref i2)) (hTO:IsPair s.heap TO a b)
  (h1:s.heap.IsListIter i1 l1 k) (h2:s.heap.IsListIter i2 l2 k) (t1:s.heap.IsList l1 xs) (t2:s.heap.IsList l2 ys) (hend:xs[k]?=none∨ys[k]?=none)
  (q: ∀ h',(∀ c o,c≠z→c≠TO→c≠i1→c≠i2→s.heap.get? c=some o→h'.get? c=some o)→Q none {s with heap:=h'}):wpAny (model prog w) A (pyNext (.ref z)) Q E s:=by
 have hT:s.TypeIs (.ref z) "zip":=⟨_,hz,rfl⟩
 have fin: ∀ h' e,(∀ c o,c≠z→c≠TO→c≠i1→c≠i2→s.heap.get? c=some o→h'.get? c=some o)→(∃ o,h'.get? e=some o∧o.cls= .type "StopIteration")→wpAny (model prog w) A (isInstance (.ref e) (.type "StopIteration") >>= fun r=>if r=true then pure none else throw (.ref e)) Q E {s with heap:=h'}:=fun h' e k ⟨o,ho,hc⟩=>
  wpAny_bind (wpAny_isInstance (T:="StopIteration") (b:=true) ⟨o,ho,hc⟩ isSubtype_stop (wpAny_pure (q _ k)))
 unfold pyNext
 refine wpAny_bind (wpAny_attempt (wpAny_callSpecial?_slot (name:=Str.ofString "__next__") hT F.slot_zip_next (wpAny_call_entry F.slot_zip_next hT F.entry_zip_next ?_ (F.args_zip_next_1 _))))
 change wpAny _ _ (field (.ref z) 2 >>= _) _ _ _
 apply wpAny_bind
 apply wpAny_field hz rfl (x:=.bool false) rfl
 change wpAny _ _ (field (.ref z) 3 >>= _) _ _ _
 apply wpAny_bind
 apply wpAny_field hz rfl (x:=.ref TI) rfl
 refine wpAny_bind (wpAny_seqItems hTI rfl ?_)
 change wpAny _ _ (Builtin.SmallTypes.ownedTupleIsFree (.ref z) >>= _) _ _ _
 apply wpAny_bind
 unfold Builtin.SmallTypes.ownedTupleIsFree
 refine wpAny_bind (wpAny_field hz rfl (x:=.none) rfl (wpAny_pure ?_))
 simp only[if_true]
 refine wpAny_bind (wpAny_rule (wpAny_bind (wpAny_field hz rfl (x:=.ref TO) rfl (wpAny_bind (wpAny_setField_rec hz (by simp) fun ha za sa=>?_)))))
 have za:IsZip ha z TI TO .ellipsis:=za
 apply wpAny_bind
 simp only[List.zipIdx_cons,List.zipIdx_nil,List.forIn_cons,List.forIn_nil]
 refine wpAny_bind (wpAny_bind (wpAny_onRaise ?_))
 change wpAny _ _ (Builtin.SmallTypes.nextOf (.ref i1) >>= _) _ _ _
 have other: ∀ {h:Heap} {e:Addr},IsZip h z TI TO .ellipsis→(∃ o,h.get? e=some o∧o.cls= .type "StopIteration")→e≠z:=fun {h e} hz' ⟨o,ho,hc⟩ n=>by
  subst n
  rw[hz'] at ho
  cases ho
  simp at hc
 cases hx:xs[k]? with
 |none=>
  refine wpAny_bind (wpAny_nextOf_list_end hh (h1.extBut sa.extBut D.i1z) (t1.extBut sa.extBut D.l1z) hx fun hb e sb he=>?_)
  have zb:IsZip hb z TI TO .ellipsis:=sb _ _ D.i1z.symm za
  have ne:=other zb he
  obtain⟨o,ho,hc⟩:=he
  exact wpAny_setField_rec zb (by simp) fun hc' _ sc=>fin hc' e (fun c u c1 _ c3 _ g=>sc.extBut _ _ c1 (sb _ _ c3 (sa.extBut _ _ c1 g))) ⟨o,sc.extBut _ _ ne ho,hc⟩
 |some x=>
  have hy:ys[k]?=none:=hend.elim (fun g=>by rw[hx] at g;cases g) id
  refine wpAny_bind (wpAny_nextOf_list_item (h1.extBut sa.extBut D.i1z) (t1.extBut sa.extBut D.l1z) hx fun hb pb sb=>wpAny_pure ?_)
  have ob:IsPair hb TO a b:=sb.extBut _ _ D.TOi1 (sa.extBut _ _ D.TOz hTO)
  refine wpAny_bind (wpAny_seqItems ob rfl (wpAny_bind (wpAny_updateSeq_pair ob fun hc oc sc=>wpAny_bind (wpAny_letGo (wpAny_pure ?_)))))
  refine wpAny_bind (wpAny_bind (wpAny_onRaise ?_))
  change wpAny _ _ (Builtin.SmallTypes.nextOf (.ref i2) >>= _) _ _ _
  refine wpAny_bind (wpAny_nextOf_list_end hh (((h2.extBut sa.extBut D.i2z).extBut sb.extBut D.i12.symm).extBut sc.extBut D.TOi2.symm) (((t2.extBut sa.extBut D.l2z).extBut sb.extBut D.l2i1).extBut sc.extBut D.l2TO) hy fun hd e sd he=>?_)
  have zd:IsZip hd z TI TO .ellipsis:=sd _ _ D.i2z.symm (sc.extBut _ _ D.TOz.symm (sb.extBut _ _ D.i1z.symm za))
  have ne:=other zd he
  obtain⟨o,ho,hcl⟩:=he
  exact wpAny_setField_rec zd (by simp) fun hg _ sg=>fin hg e (fun c u c1 c2 c3 c4 g=>sg.extBut _ _ c1 (sd _ _ c4 (sc.extBut _ _ c2 (sb.extBut _ _ c3 (sa.extBut _ _ c1 g))))) ⟨o,sg.extBut _ _ ne ho,hcl⟩
end
noncomputable def ItzL (a b:Addr):It:=
 ⟨fun i H=> ∃ xs ys x y,H a=some (.lst xs)∧H b=some (.lst ys)∧xs[i]?=some x∧ys[i]?=some y,fun i H r H'=> ∃ T,r= .ref T∧H T=none∧∀ xs ys x y,H a=some (.lst xs)→H b=some (.lst ys)→xs[i]?=some x→ys[i]?=some y→H'=upd H T (.tup [x,y]),fun i H=> ∃ xs ys,H a=some (.lst xs)∧H b=some (.lst ys)∧(xs.length≤i∨ys.length≤i)⟩
theorem turn_zipL {P:Program} {w:World} {K:PySem.W.Frag} {elts:List Expr} {kk:Nat} {pos:Pos} (a b z TI TO i1 i2:Addr) (mk: ∀ l1 l2:Addr,l1∉[z,TO,i1,i2]→l2∉[z,TO,i1,i2]→ZipApart z TI TO i1 i2 l1 l2):
  Turn P w K (.Tuple elts kk pos) (ItzL a b) [z,TI,TO,i1,i2] z (fun i h=>IsZip h z TI TO .none∧IsPair h TI (.ref i1) (.ref i2)∧(∃ p q,IsPair h TO p q)∧h.IsListIter i1 a i∧h.IsListIter i2 b i) where
 mem:=by simp
 obj:=fun i h st c hc=>by
  obtain⟨hz,hTI,⟨p,q,hTO⟩,⟨o1,e1,_,d1⟩,o2,e2,_,d2⟩:=st
  have hc':c=z∨c=TI∨c=TO∨c=i1∨c=i2:=by simpa using hc
  rcases hc' with rfl|rfl|rfl|rfl|rfl
  ·exact⟨_,hz,fun v z=>by cases z⟩
  ·exact⟨_,hTI,fun v z=>by cases z⟩
  ·exact⟨_,hTO,fun v z=>by cases z⟩
  ·exact⟨_,e1,fun v z=>by rw[d1] at z;cases z⟩
  ·exact⟨_,e2,fun v z=>by rw[d2] at z;cases z⟩
 keep:=fun i h h' st k=>by
  obtain⟨hz,hTI,⟨p,q,hTO⟩,⟨o1,e1,r1⟩,o2,e2,r2⟩:=st
  exact⟨k z (by simp) _ hz,k TI (by simp) _ hTI,⟨p,q,k TO (by simp) _ hTO⟩,⟨o1,k i1 (by simp) _ e1,r1⟩,o2,k i2 (by simp) _ e2,r2⟩
 item:=by
  intro X hP hw hK hc i pZ s σ H E I hf st hg
  subst hP hw hK
  obtain⟨xs,ys,x,y,ha,hb,hx,hy⟩:=hg
  have off: ∀ l xs,H l=some (HO.lst xs)→l∉[z,TO,i1,i2]:=fun l xs e m=>by
   have m':l∈[z,TI,TO,i1,i2]:=by simp at m ⊢;rcases m with h|h|h|h<;>simp[h]
   rw[(hf l m').1] at e;cases e
  have D:=mk a b (off a xs ha) (off b ys hb)
  obtain⟨its1,rv1,p1,hz1⟩:=I.list (SqL.of ha)
  obtain⟨its2,rv2,p2,hz2⟩:=I.list (SqL.of hb)
  obtain⟨u,hu,ru⟩:=rv1.get hx
  obtain⟨v,hv,rv⟩:=rv2.get hy
  obtain⟨hz,hTI,⟨p,q,hTO⟩,h1,h2⟩:=st
  refine zip_pairL D hz hTI hTO h1 h2 p1.isList p2.isList (x:=u) (y:=v) (by simpa using hu) (by simpa using hv) fun g zg og j1 j2 pg kg=>?_
  refine⟨_,rfl,wpAny_letOwnedTupleGo_zip (s:={s with heap:=g}) zg fun g2 zg2 s2=>?_⟩
  have lt: ∀ b o,s.heap.get? b=some o→s.heap.objs.size≠b:=fun b o q=>Nat.ne_of_gt (Heap.lt_size q)
  have pT:IsPair g2 s.heap.objs.size u v:=(s2.2 _ (lt z _ hz)).trans pg
  have I2:=I.turnedN (t':=s.toks) (h':=g2) (wr:=[z,TI,TO,i1,i2]) (T:=s.heap.objs.size) (o:=.tup [x,y]) hf (fun c o hc q=>by
   have hc':c≠z∧c≠TI∧c≠TO∧c≠i1∧c≠i2:=by simpa using hc
   exact(s2.2 c hc'.1).trans (kg c o hc'.1 hc'.2.2.1 hc'.2.2.2.1 hc'.2.2.2.2 q)) (Nat.le_refl _) (pair_ok pT ru rv)
  refine⟨.ref s.heap.objs.size,_,I2,rfl,⟨_,rfl,I.hok.fresh (Nat.le_refl _),fun xs' ys' x' y' ha' hb' hx' hy'=>?_⟩,⟨zg2,(s2.2 _ D.TIz).trans (kg _ _ D.TIz D.TITO D.TIi1 D.TIi2 hTI),⟨_,_,(s2.2 _ D.TOz).trans og⟩,j1.extBut s2.extBut D.i1z,j2.extBut s2.extBut D.i2z⟩,fun c hc=>?_⟩
  ·rw[ha] at ha';rw[hb] at hb'
   cases ha';cases hb'
   rw[hx] at hx';rw[hy] at hy'
   cases hx';cases hy'
   rfl
  ·have hlt:c≠s.heap.objs.size:=by
    have hc':c=z∨c=TI∨c=TO∨c=i1∨c=i2:=by simpa using hc
    obtain⟨o1,e1,_⟩:=h1
    obtain⟨o2,e2,_⟩:=h2
    rcases hc' with rfl|rfl|rfl|rfl|rfl
    ·exact(lt _ _ hz).symm
    ·exact(lt _ _ hTI).symm
    ·exact(lt _ _ hTO).symm
    ·exact(lt _ _ e1).symm
    ·exact(lt _ _ e2).symm
   rw[upd_ne hlt]
   exact(hf c hc).1
 done:=by
  intro X hP hw hK hc i pZ s σ H E I hf st hg
  subst hP hw hK
  obtain⟨xs,ys,ha,hb,hend⟩:=hg
  have off: ∀ l xs,H l=some (HO.lst xs)→l∉[z,TO,i1,i2]:=fun l xs e m=>by
   have m':l∈[z,TI,TO,i1,i2]:=by simp at m ⊢;rcases m with h|h|h|h<;>simp[h]
   rw[(hf l m').1] at e;cases e
  have D:=mk a b (off a xs ha) (off b ys hb)
  obtain⟨its1,rv1,p1,hz1⟩:=I.list (SqL.of ha)
  obtain⟨its2,rv2,p2,hz2⟩:=I.list (SqL.of hb)
  have l1:=rv1.length
  have l2:=rv2.length
  obtain⟨hz,hTI,⟨p,q,hTO⟩,h1,h2⟩:=st
  refine zip_overL (I.ok.hd hc) D hz hTI hTO h1 h2 p1.isList p2.isList ?_ fun g kg=>⟨rfl,I.turnedL (t':=s.toks) hf fun c o hc q=>?_⟩
  ·rcases hend with h|h
   ·exact .inl (by simp;lia)
   ·exact .inr (by simp;lia)
  ·have hc':c≠z∧c≠TI∧c≠TO∧c≠i1∧c≠i2:=by simpa using hc
   exact kg c o hc'.1 hc'.2.2.1 hc'.2.2.2.1 hc'.2.2.2.2 q
 self:=fun _ _ _ _ _ st h=>wpAny_pyIter_zip st.1 h
abbrev lit (a:Addr):Obj:={cls:=.type "list_iterator",data:=.fields #[.ref a,.int 0 0]}
abbrev zlA (h:Heap) (a b:Addr):Heap:=(h.push (lit a)).push (lit b)
abbrev zlB (h:Heap) (a b:Addr):Heap:=(zlA h a b).push {cls:=.type "tuple",data:=.seq #[.ref h.objs.size,.ref (h.push (lit a)).objs.size]}
abbrev zlC (h:Heap) (a b:Addr):Heap:=(zlB h a b).push {cls:=.type "tuple",data:=.seq #[.none,.none]}
abbrev zlD (h:Heap) (a b:Addr):Heap:=(zlC h a b).push {cls:=.type "zip",data:=.fields #[.none,.bool false,.bool false,.ref (zlA h a b).objs.size,.ref (zlB h a b).objs.size]}
theorem zip_makeL (a b:Addr) (xs ys:Array Value):Meets (Builtin.«zip.__new__» ⟨[.type "zip",.ref a,.ref b],[]⟩) (fun _ R s=>s.heap.IsList a xs∧s.heap.IsList b ys∧R (.ok (.ret (.ref (zlC s.heap a b).objs.size))) {s with heap:=zlD s.heap a b}):=
 .of_wp fun prog w A R s h=>by
  obtain⟨hp,g,d,tk,os⟩:=s
  obtain⟨ta,tb,h⟩:=h
  have sub:=sub_zip
  have A1:Heap.IsList (Shared.heap ⟨hp,g,d,tk,os⟩) a xs:=ta
  have A2:Heap.IsList (Shared.heap ⟨hp.push (lit a),g,d,tk,os⟩) b ys:=Heap.IsList.push tb _
  wp_walk using wpAny_pyIter_list A1,wpAny_pyIter_list A2
  exact⟨_,rfl,h⟩
section
variable {X:Cx} {e e2:Expr} {t1 t2:TE} {elts:List Expr} {kk:Nat} {tpos pos p:Pos} {x:Str}
def iZipL (ta:TA):TI:=fun σ H R=>ta σ H fun vs H1=> ∃ a b xs ys,vs=[.ref a,.ref b]∧H1 a=some (.lst xs)∧H1 b=some (.lst ys)∧R (ItzL a b) H1
theorem zip_itL {pZ:List (Addr×Obj)} {σ:St} {H:Hp} {s:Shared} {R:It→Hp→Prop} {a b:Addr} {xs ys:List V} (I:Inv X pZ σ H s) (ha:H a=some (.lst xs)) (hb:H b=some (.lst ys)) (q:R (ItzL a b) H):
  wpAny (model X.prog X.w) X.A (call (.type "zip") [.ref a,.ref b]) (fun v s1=>wpAny (model X.prog X.w) X.A (pyIter v) (PIE X pZ σ (.Tuple elts kk tpos) R) X.xe s1) X.xe s:=by
 obtain⟨its1,rv1,p1,hz1⟩:=I.list (SqL.of ha)
 obtain⟨its2,rv2,p2,hz2⟩:=I.list (SqL.of hb)
 refine callType_new F.called_zip (by decide) (F.typeCall_zip_2 _ _) (F.newCall_zip_2 _ _) (fun obj=>F.args_object_init_3 obj _ _) F.entry_zip_new (zip_makeL a b its1.toArray its2.toArray) ⟨p1.isList,p2.isList,?_⟩
 have z1:(s.heap.push (lit a)).objs.size=s.heap.objs.size+1:=Heap.size_push ..
 have z2:(zlA s.heap a b).objs.size=s.heap.objs.size+2:=by rw[Heap.size_push,z1]
 have z3:(zlB s.heap a b).objs.size=s.heap.objs.size+3:=by rw[Heap.size_push,z2]
 have z4:(zlC s.heap a b).objs.size=s.heap.objs.size+4:=by rw[Heap.size_push,z3]
 have up1: ∀ c o,(s.heap.push (lit a)).get? c=some o→(zlD s.heap a b).get? c=some o:=fun c o g=>Heap.get?_push_of_some _ (Heap.get?_push_of_some _ (Heap.get?_push_of_some _ (Heap.get?_push_of_some _ g)))
 have g5:(zlD s.heap a b).get? (zlC s.heap a b).objs.size=some _:=Heap.get?_push_size _ rfl
 have g4:(zlD s.heap a b).get? (zlB s.heap a b).objs.size=some _:=Heap.get?_push_of_some _ (Heap.get?_push_size _ rfl)
 have g3:(zlD s.heap a b).get? (zlA s.heap a b).objs.size=some _:=Heap.get?_push_of_some _ (Heap.get?_push_of_some _ (Heap.get?_push_size _ rfl))
 have g2:(zlD s.heap a b).get? (s.heap.push (lit a)).objs.size=some _:=Heap.get?_push_of_some _ (Heap.get?_push_of_some _ (Heap.get?_push_of_some _ (Heap.get?_push_size _ rfl)))
 have g1:(zlD s.heap a b).get? s.heap.objs.size=some _:=up1 _ _ (Heap.get?_push_size _ rfl)
 have I1:Inv X pZ σ H {s with heap:=zlD s.heap a b}:=I.kept (t':=s.toks) fun c o g=>up1 c o (Heap.get?_push_of_some _ g)
 refine⟨⟨_,g5,rfl⟩,wpAny_pyIter_zip (s:={s with heap:=zlD s.heap a b}) g5 ?_⟩
 refine⟨_,[(zlC s.heap a b).objs.size,(zlA s.heap a b).objs.size,(zlB s.heap a b).objs.size,s.heap.objs.size,(s.heap.push (lit a)).objs.size],_,ItzL a b,H,rfl,I1,turn_zipL a b _ _ _ _ _ ?_,⟨g5,g3,⟨_,_,g4⟩,⟨_,g1,rfl,rfl⟩,⟨_,g2,rfl,rfl⟩⟩,fun c hc=>?_,q⟩
 ·exact fun l1 l2 n1 n2=>zip_apart z4 z2 z3 rfl z1 n1 n2
 ·have hle:s.heap.objs.size≤c:=by
   rcases List.mem_cons.mp hc with h|hc
   ·rw[h,z4];lia
   rcases List.mem_cons.mp hc with h|hc
   ·rw[h,z2];lia
   rcases List.mem_cons.mp hc with h|hc
   ·rw[h,z3];lia
   rcases List.mem_cons.mp hc with h|hc
   ·rw[h];lia
   rw[List.mem_singleton.mp hc,z1];lia
  exact I.fpOk hle (I.hok.fresh hle)
theorem pi_zipL (hg:Gl X x) (hm:X.mg x=none) (hv:bootBuiltins x=some (.type "zip")) (ha:PA X [e,e2] ta) (hn:x≠"__name__":=by decide) (hdb:(x==("__debug__":Str))=false:=by decide)
  (he:starEach [e,e2] X.env=(false,eval e X.env)::starEach [e2] X.env:=by rfl) (hpl:(backTo pos (starEach [e2] X.env)).any (·.1)=false:=by rfl):PI X (.Tuple elts kk tpos) (.Call (.Name x p) [e,e2] [] pos) (iZipL ta):=by
 intro pZ s σ H R I h
 refine wpAny_Call_Name_kw (ld_blt I hg hm hv ?_ hn hdb)
 refine PyProof.Rows.callWith_type1 (thn (ha pos pZ s σ H _ I h) fun us s1 ⟨vs,H1,I1,r1,q1⟩=>?_) he hpl
 obtain⟨a,b,xs,ys,rfl,h1,h2,q⟩:=q1
 obtain⟨u,v,rfl,ru,rv⟩:=r1.two
 cases ru
 cases rv
 exact zip_itL I1 h1 h2 q
end
section
variable {φ:Fam}
section
variable {X:Cx} {e:Expr}
def small3 (a b c:Int):Prop:=0 < c∧c < 1000000000∧-1000000000000 < a∧a < 1000000000000∧-1000000000000 < b∧b < 1000000000000
end
end
section
variable {φ:Fam}
instance (a b c:Int):Decidable (small3 a b c):=by unfold small3;infer_instance
end
theorem mul_small (h0:0≤j) (h1:j < 2 ^ 63):CMul i j:=by
 have e:(2:Int) ^ 63=9223372036854775808:=by decide
 have e2:(2:Int) ^ 64=18446744073709551616:=by decide
 rw[e] at h1
 exact .inr ⟨by rw[e2];lia,by rw[e2];lia⟩
theorem mul_smallL (h0:0≤i) (h1:i < 2 ^ 63):CMul i j:=by
 have e:(2:Int) ^ 63=9223372036854775808:=by decide
 have e2:(2:Int) ^ 64=18446744073709551616:=by decide
 rw[e] at h1
 exact .inl ⟨by rw[e2];lia,by rw[e2];lia⟩
theorem at0 (x:Int) (ns:List Int):atI ((x::ns).map V.int) 0=some (.int x):=(atI_nat (j:=0) rfl:atI ((x::ns).map V.int) ((0:Nat):Int)=some (.int x))
theorem cut63 (ns:List Int):cutV (ns.map V.int) none (some 63)=(ns.take 63).map V.int:=by
 unfold cutV
 rw[HT.sIx_none]
 have e:HT.sIx (ns.map V.int).length (ns.map V.int).length (some 63)=min 63 (ns.map V.int).length:=HT.sIx_nat _ _ 63
 rw[e,List.drop_zero,Nat.sub_zero,List.length_map,←List.map_take]
 congr 1
 rw[List.take_eq_take_iff]
 lia
theorem for_enum {K:PySem.W.Frag} {a:Addr} {xs:List V} {g:TG} {tb:TS} {D:Ends} {σ:St} {H:Hp} (Pv:Nat→L2.St→Hp→Prop) (h0:Pv 0 σ H) (hl: ∀ i σ H,i≤xs.length→Pv i σ H→SqL K H a xs)
  (hs: ∀ i x σ H T,xs[i]?=some x→H T=none→Pv i σ H→g (.ref T) σ (upd H T (.tup [.int i,x])) fun σ2 H2=>tb {D with nx:=Pv (i+1),ct:=Pv (i+1),bk:=D.nx} σ2 H2) (hd: ∀ σ H,Pv xs.length σ H→D.nx σ H):
  ∃ W:Nat→Nat→L2.St→Hp→Prop,(∃ m,W 0 m σ H)∧∀ i m σ H,W i m σ H→
   ((Ite K a).stop i H∧D.nx σ H)∨((Ite K a).go i H∧∃ N:L2.St→Hp→Prop,(∀ σ' H',N σ' H'→∃ m',m' < m∧W (i+1) m' σ' H')∧∀ x H',(Ite K a).yld i H x H'→g x σ H' fun σ2 H2=>tb {D with nx:=N,ct:=N,bk:=D.nx} σ2 H2):=by
 refine⟨fun i m σ H=>m=xs.length - i∧i≤xs.length∧Pv i σ H,⟨xs.length,by simp,Nat.zero_le _,h0⟩,?_⟩
 rintro i m σ H ⟨rfl,hi,p⟩
 have q:=hl i σ H hi p
 by_cases hlt:i < xs.length
 ·refine .inr ⟨⟨xs,xs[i],q,by simp[hlt]⟩,Pv (i+1),fun σ' H' p'=>⟨xs.length - (i+1),by lia,rfl,hlt,p'⟩,fun x H' y=>?_⟩
  obtain⟨T,rfl,hT,y⟩:=y
  rw[y xs xs[i] q (by simp[hlt])]
  exact hs i _ σ H T (by simp[hlt]) hT p
 ·have e:i=xs.length:=by lia
  subst e
  exact .inl ⟨⟨xs,q,Nat.le_refl _⟩,hd σ H p⟩
section
variable {X:Cx} {x:Str} {p pos tpos:Pos} {e:Expr} {elts:List Expr} {kk:Nat}
theorem pi_enumT (hg:Gl X x) (hm:X.mg x=none) (hv:bootBuiltins x=some (.type "enumerate")) (ha:PA X [e] ta) (hn:x≠"__name__":=by decide) (hdb:(x==("__debug__":Str))=false:=by decide)
  (he:starEach [e] X.env=(false,eval e X.env)::starEach [] X.env:=by rfl) (hpl:(backTo pos (starEach [] X.env)).any (·.1)=false:=by rfl):PI X (.Tuple elts kk tpos) (.Call (.Name x p) [e] [] pos) (iEnum X.K ta):=pi_enum hg hm hv ha hn hdb he hpl
end
mutual
def toD:PV→Option PyData
 | .non=>some .none
 | .bl b=>some (.bool b)
 | .int i=>some (.int i)
 | .str x=>some (.str x)
 | .tup l=>(toDs l).map .tuple
 | .lst l=>(toDs l).map .list
 |_=>none
def toDs:List PV→Option (List PyData)
 |[]=>some []
 |y::l=>(toD y).bind fun d=>(toDs l).map (d:: ·)
end
section
variable {X:Cx}
def showsD (d:PyData):Prop:=d.showable=true∧d.hasDict=false∧d.shown.length≤1000000∧d.depth≤40
end
instance (d:PyData):Decidable (showsD d):=by unfold showsD;infer_instance
section
variable {X:Cx} {φ:Fam} {st:Stmt}
noncomputable def rInsert:V→List V→Hp→VK→Prop:=fun x vs H Q=> ∃ (l:Addr) (xs:List V) (i:Nat) (y:V),x= .ref l∧vs=[.int i,y]∧H l=some (.lst xs)∧i≤xs.length∧xs.length < 1000000∧Q .non (upd H l (.lst (xs.take i++y::xs.drop i)))
theorem mt_insert:MtM X "list.insert" rInsert:=by
 intro pZ s σ H x vs v us Q I rx rv h
 obtain⟨l,xs,i,y,rfl,rfl,hH,hi,hz,q⟩:=h
 cases rx
 obtain⟨u1,u,rfl,r1,ru⟩:=rv.two
 obtain⟨t,rfl⟩:=r1
 obtain⟨z,its,n,r,hl,e⟩:=I.lstM hH
 have hlen:its.length=xs.length:=r.length.symm
 have fit: ¬ (!Builtin.List.listFitsIndex (i:Int))=true:=by
  have e:Builtin.List.listFitsIndex (i:Int)=true:=by
   unfold Builtin.List.listFitsIndex
   rw[Bool.and_eq_true,decide_eq_true_eq,decide_eq_true_eq]
   have e62:(2:Int) ^ 63=9223372036854775808:=by decide
   rw[e62]
   lia
  rw[e]
  simp
 have hsz:its.toArray.size≤sizeLine:=by rw[List.size_toArray,sizeLine_eq];lia
 generalize e0:((i:Nat):Int)=j at fit ⊢
 have mt:=PySem.AutoSeq1.list_insert_list_int_val_1 l its.toArray n j t u fit hsz
 refine call_meets PySem.F.slot_list_insert ⟨_,e,rfl⟩ PySem.F.entry_list_insert (PySem.F.args_list_insert_3 _ _ _) mt ⟨e,?_⟩
 refine⟨.non,_,I.lset (its':=its.take i++u::its.drop i) hH e ?_ ((r.take i).append (.cons ru (r.drop i))) ?_,rfl,q⟩
 ·have hk:(if j < 0 then(j+((its.toArray.size:Nat):Int)).toNat else min j.toNat its.toArray.size)=i:=by
   rw[if_neg (by lia),List.size_toArray]
   lia
  have key: ∀ c:Nat,c=i→(its.toArray.extract 0 c).push u++its.toArray.extract c=(its.take i++u::its.drop i).toArray:=by
   rintro _ rfl
   apply Array.toList_inj.mp
   simp[List.take_of_length_le]
  exact key _ hk
 ·rw[sizeLine_eq]
  simp only[List.length_append,List.length_take,List.length_cons,List.length_drop]
  lia
noncomputable def insP (k:Nat) (ml:PEnv→M (List PV)):PEnv→M Fl:=fun ρ=>match ρ[k]? with
 |some (.own l)=>(ml ρ).bind fun a=>match a with
  |[.int i,y]=>if 0≤i∧i≤l.length∧l.length < 100000 then .ret (.nx (ρ.set k (.own (l.take i.toNat++y::l.drop i.toNat)))) else .fail
  |_=>.fail
 |_=>.fail
theorem insP_inv {l:List PV} {ρ:PEnv} (w:(match a with
  |[.int i,y]=>if 0≤i∧i≤l.length∧l.length < 100000 then M.ret (Fl.nx (ρ.set k (.own (l.take i.toNat++y::l.drop i.toNat)))) else .fail
  |_=>.fail:M Fl).wp n R): ∃ (i:Nat) (y:PV),a=[.int i,y]∧i≤l.length∧l.length < 100000∧R (.nx (ρ.set k (.own (l.take i++y::l.drop i)))) n:=by
 split at w
 ·rename_i i y
  split at w
  ·rename_i h
   refine⟨i.toNat,y,by rw[Int.toNat_of_nonneg h.1],by lia,h.2.2,w⟩
  ·exact w.elim
 ·exact w.elim
theorem sv_ins (h:BS X st (tDrop (tBM X.K "list" rInsert (tVar k) (taP φ ml)))):SV φ X st (insP k ml):=BS.mono h fun D σ H hq0=>by
 obtain⟨G,O0,H0,O,ρ,n,s,w⟩:=hq0
 unfold insP at w
 cases hk:ρ[k]? with
 |none=>simp only[hk] at w;exact w.elim
 |some t=>
  cases t with
  |own l=>
   simp only[hk] at w
   obtain⟨p,xs,hx,hO,np,hh,rr⟩:=s.es.er.2 k _ hk
   have hs:=sig_of s.es.er hk hx
   have npB:p≠G.B:=fun z=>np (z▸G.pB)
   rw[M.wZ] at w
   refine⟨_,hs,.inl ⟨rfl,xs,SqL.of hh⟩,G,O,ρ,n,_,s.es,w,fun a vs H1 n1 e1 ok1 r1 w1=>?_⟩
   obtain⟨i,y,rfl,hi,hc,w2⟩:=insP_inv w1
   obtain⟨x1,t1,rfl,q1,q2⟩:=r1.cons_inv
   obtain⟨x2,t2,rfl,q3,q4⟩:=q2.cons_inv
   rw[q4.nil_inv]
   cases q1
   have s1:=s.to e1 ok1
   have rr1:=rr.ext s.es.B e1
   refine⟨p,xs,i,x2,rfl,rfl,e1 p _ npB hh,by rw[←rr.1];exact hi,by rw[←rr.1];lia,w2 O _ _ (s1.put hk hs ((rr1.take i).append (.cons q3 (rr1.drop i))))⟩
  |_=>simp only[hk] at w;exact w.elim
end
section
open PySem.W (KasT kas_rev kas_asc kas_desc kas_tail3 kas_descPart kas_count kas_place kas_bin kas_sort)
section
variable (r:Nat→Int)
def runK {α:Type}:KasT α→α
 | .ret a=>a
 | .ask i j k=>runK (k (decide (r i < r j)))
theorem run_bind (f:α→KasT β): ∀ t:KasT α,runK r (t.bind f)=runK r (f (runK r t))
 | .ret a=>rfl
 | .ask i j k=>run_bind f (k (decide (r i < r j)))
theorem run_ite [Decidable c] (a b:KasT α):runK r (if c then a else b)=if c then runK r a else runK r b:=by split<;>rfl
def kg (p:Array Nat) (k:Nat):Int:=r (p.getD k 0)
def Ups (p:Array Nat) (m:Nat):Prop:= ∀ i j,i < j→j < m→kg r p i < kg r p j
def Unl (p:Array Nat):Prop:= ∀ i j,i < p.size→j < p.size→i≠j→kg r p i≠kg r p j
variable {r}
theorem ups_succ (h1:1≤n) (h:Ups r p n) (h':kg r p (n - 1) < kg r p n):Ups r p (n+1):=fun i j hij hj=>by
 by_cases e:j=n
 ·subst e
  by_cases e2:i=j - 1
  ·subst e2;exact h'
  ·exact Int.lt_trans (h i (j - 1) (by lia) (by lia)) h'
 ·exact h i j hij (by lia)
theorem asc_is (u:Unl r p): ∀ (f n:Nat),1≤n→n+f≤p.size→Ups r p n→∃ m,runK r (kas_asc p f n)=m∧n≤m∧m≤n+f∧Ups r p m∧(m < n+f→kg r p m < kg r p (m - 1))
 |0,n,h1,hz,h=>⟨n,rfl,by lia,by lia,h,fun z=>by lia⟩
 |f+1,n,h1,hz,h=>by
  unfold kas_asc
  show ∃ m,runK r (if decide (r (p.getD n 0) < r (p.getD (n - 1) 0))=true then KasT.ret n else kas_asc p f (n+1))=m∧_
  by_cases c:r (p.getD n 0) < r (p.getD (n - 1) 0)
  ·rw[if_pos (by simpa using c)]
   exact⟨n,rfl,by lia,by lia,h,fun _=>c⟩
  ·rw[if_neg (by simpa using c)]
   have ne:=u (n - 1) n (by lia) (by lia) (by lia)
   have lt:kg r p (n - 1) < kg r p n:=by
    have: ¬ kg r p n < kg r p (n - 1):=c
    lia
   obtain⟨m,e,a1,a2,a3,a4⟩:=asc_is u f (n+1) (by lia) (by lia) (ups_succ h1 h lt)
   exact⟨m,e,by lia,by lia,a3,fun z=>a4 (by lia)⟩
def Dns (r:Nat→Int) (p:Array Nat) (m:Nat):Prop:= ∀ i j,i < j→j < m→kg r p j < kg r p i
theorem dns_succ (h1:1≤n) (h:Dns r p n) (h':kg r p n < kg r p (n - 1)):Dns r p (n+1):=fun i j hij hj=>by
 by_cases e:j=n
 ·subst e
  by_cases e2:i=j - 1
  ·subst e2;exact h'
  ·exact Int.lt_trans h' (h i (j - 1) (by lia) (by lia))
 ·exact h i j hij (by lia)
theorem desc_is (u:Unl r p): ∀ (f n:Nat),1≤n→n+f≤p.size→Dns r p n→∃ m,runK r (kas_desc f p n 0)=(p,m,0)∧n≤m∧m≤n+f∧Dns r p m
 |0,n,h1,hz,h=>⟨n,rfl,by lia,by lia,h⟩
 |f+1,n,h1,hz,h=>by
  unfold kas_desc
  by_cases c:r (p.getD n 0) < r (p.getD (n - 1) 0)
  ·obtain⟨m,e,a1,a2,a3⟩:=desc_is u f (n+1) (by lia) (by lia) (dns_succ h1 h c)
   refine⟨m,?_,by lia,by lia,a3⟩
   show runK r (if decide (r (p.getD n 0) < r (p.getD (n - 1) 0))=true then _ else _)=_
   rw[if_pos (by simpa using c),if_neg (by lia)]
   exact e
  ·have ne:=u (n - 1) n (by lia) (by lia) (by lia)
   have lt:r (p.getD (n - 1) 0) < r (p.getD n 0):=by
    have n1: ¬ kg r p n < kg r p (n - 1):=c
    have n2:kg r p (n - 1) < kg r p n:=by lia
    exact n2
   refine⟨n,?_,by lia,by lia,h⟩
   show runK r (if decide (r (p.getD n 0) < r (p.getD (n - 1) 0))=true then _ else _)=_
   rw[if_neg (by simpa using c)]
   show runK r (if decide (r (p.getD (n - 1) 0) < r (p.getD n 0))=true then _ else _)=_
   rw[if_pos (by simpa using lt)]
   rfl
theorem rev_at (hm:m≤p.size):(kas_rev p 0 m).getD k 0=if k < m then p.getD (m - 1 - k) 0 else p.getD k 0:=by
 have e:=getElem?_mirror_all (xs:=p) (i:=0) (j:=m) hm k
 unfold kas_rev
 rw[Array.getD_eq_getD_getElem?,e]
 by_cases c:k < m
 ·rw[if_pos ⟨Nat.zero_le _,c⟩,if_pos c,Array.getD_eq_getD_getElem?]
  congr 2
  lia
 ·rw[if_neg (fun z=>c z.2),if_neg c,Array.getD_eq_getD_getElem?]
theorem rev_kg (hm:m≤p.size) (k:Nat):kg r (kas_rev p 0 m) k=if k < m then kg r p (m - 1 - k) else kg r p k:=by
 unfold kg
 rw[rev_at hm]
 by_cases c:k < m
 ·rw[if_pos c,if_pos c]
 ·rw[if_neg c,if_neg c]
theorem rev_unl (hm:m≤p.size) (u:Unl r p):Unl r (kas_rev p 0 m):=fun i j hi hj ne=>by
 have hz:(kas_rev p 0 m).size=p.size:=mirror_size _ _ _ _
 rw[hz] at hi hj
 rw[rev_kg hm,rev_kg hm]
 split<;>split
 ·exact u _ _ (by lia) (by lia) (by lia)
 ·exact u _ _ (by lia) (by lia) (by lia)
 ·exact u _ _ (by lia) (by lia) (by lia)
 ·exact u _ _ hi hj ne
theorem rev_ups (hm:m≤p.size) (h:Dns r p m):Ups r (kas_rev p 0 m) m:=fun i j hij hj=>by
 rw[rev_kg hm,rev_kg hm,if_pos (by lia),if_pos hj]
 exact h (m - 1 - j) (m - 1 - i) (by lia) (by lia)
theorem count_is (u:Unl r p) (h2:1≤p.size): ∃ m p',runK r (kas_count p.size p)=(m,p')∧1≤m∧m≤p.size∧p'.size=p.size∧p'.Perm p∧Unl r p'∧Ups r p' m:=by
 unfold kas_count
 rw[run_bind]
 obtain⟨n,e,a1,a2,a3,a4⟩:=asc_is u (p.size - 1) 1 (by lia) (by lia) (fun i j hij hj=>by lia)
 rw[e]
 by_cases c1:n=p.size
 ·rw[if_pos (by simpa using c1)]
  exact⟨n,p,rfl,a1,by lia,rfl,.refl _,u,a3⟩
 ·rw[if_neg (by simpa using c1)]
  by_cases c2:n > 1
  ·rw[if_pos c2]
   have lt:r (p.getD 0 0) < r (p.getD (n - 1) 0):=a3 0 (n - 1) (by lia) (by lia)
   refine⟨n,p,?_,a1,by lia,rfl,.refl _,u,a3⟩
   show runK r (if decide (r (p.getD 0 0) < r (p.getD (n - 1) 0))=true then _ else _)=_
   rw[if_pos (by simpa using lt)]
   rfl
  ·rw[if_neg c2]
   have en:n=1:=by lia
   subst en
   have lt:=a4 (by lia)
   unfold kas_descPart
   rw[run_bind]
   obtain⟨m,e2,b1,b2,b3⟩:=desc_is u (p.size - (1+1)) (1+1) (by lia) (by lia) (dns_succ (Nat.le_refl 1) (fun i j hij hj=>by lia) lt)
   rw[e2]
   rw[if_neg (by show ¬ (0 > 0);lia)]
   unfold kas_tail3
   rw[run_bind]
   have hz:(kas_rev p 0 m).size=p.size:=mirror_size _ _ _ _
   obtain⟨m',e3,d1,d2,d3,d4⟩:=asc_is (rev_unl (m:=m) (by lia) u) (p.size - m) m (by lia) (by rw[hz];lia) (rev_ups (by lia) b3)
   rw[e3]
   exact⟨m',kas_rev p 0 m,rfl,by lia,by lia,hz,mirror_perm _ _ _ _,rev_unl (by lia) u,d3⟩
theorem place_is (u:Unl r p) (hk:k < p.size) (h:Ups r p k): ∀ (f l q:Nat),q≤l+f→q≤k→l≤q→(∀ i,i < l→kg r p i < kg r p k)→(∀ i,q≤i→i < k→kg r p k < kg r p i)→∃ m,runK r (kas_place p k f l q)=m∧m≤k∧(∀ i,i < m→kg r p i < kg r p k)∧∀ i,m≤i→i < k→kg r p k < kg r p i
 |0,l,q,hf,hq,hl,lo,hi=>⟨l,rfl,by lia,lo,fun i h1 h2=>hi i (by lia) h2⟩
 |f+1,l,q,hf,hq,hl,lo,hi=>by
  unfold kas_place
  rw[run_ite]
  by_cases c:l ≥ q
  ·rw[if_pos c]
   exact⟨l,rfl,by lia,lo,fun i h1 h2=>hi i (by lia) h2⟩
  ·rw[if_neg c]
   show ∃ m,runK r (if decide (r (p.getD k 0) < r (p.getD ((l+q) / 2) 0))=true then _ else _)=m∧_
   have hmid:(l+q) / 2 < q:=by lia
   by_cases d:r (p.getD k 0) < r (p.getD ((l+q) / 2) 0)
   ·rw[if_pos (by simpa using d)]
    refine place_is u hk h f l ((l+q) / 2) (by lia) (by lia) (by lia) lo fun i h1 h2=>?_
    by_cases e:i=(l+q) / 2
    ·subst e;exact d
    ·exact Int.lt_trans d (h _ i (by lia) h2)
   ·rw[if_neg (by simpa using d)]
    have ne:=u ((l+q) / 2) k (by lia) hk (by lia)
    have lt:kg r p ((l+q) / 2) < kg r p k:=by
     have d': ¬ kg r p k < kg r p ((l+q) / 2):=d
     lia
    refine place_is u hk h f ((l+q) / 2+1) q (by lia) hq (by lia) (fun i h1=>?_) hi
    by_cases e:i=(l+q) / 2
    ·subst e;exact lt
    ·exact Int.lt_trans (h i _ (by lia) (by lia)) lt
theorem bub_kg (hk:k < p.size) (hl:l≤k):kg r (bubble p k (k - l)) i=if i=l then kg r p k else if l < i∧i≤k then kg r p (i - 1) else kg r p i:=by
 have e:=getElem?_bubble (xs:=p) hk (k - l) (by lia) i
 unfold kg
 rw[Array.getD_eq_getD_getElem?,e,show k - (k - l)=l by lia]
 by_cases c1:i=l
 ·rw[if_pos c1,if_pos c1,Array.getD_eq_getD_getElem?]
 ·rw[if_neg c1,if_neg c1]
  by_cases c2:l < i∧i≤k
  ·rw[if_pos c2,if_pos c2,Array.getD_eq_getD_getElem?]
  ·rw[if_neg c2,if_neg c2,Array.getD_eq_getD_getElem?]
theorem bin_is: ∀ (f:Nat) (p:Array Nat) (k:Nat),k+f=p.size→Unl r p→Ups r p k→∃ p',runK r (kas_bin f p k)=p'∧p'.size=p.size∧p'.Perm p∧Ups r p' p.size
 |0,p,k,hz,u,h=>⟨p,rfl,rfl,.refl _,by rw[←hz];exact h⟩
 |f+1,p,k,hz,u,h=>by
  unfold kas_bin
  rw[run_bind]
  obtain⟨l,e,a1,a2,a3⟩:=place_is u (show k < p.size by lia) h k 0 k (by lia) (Nat.le_refl _) (Nat.zero_le _) (fun i hi=>by lia) (fun i h1 h2=>by lia)
  rw[e]
  have hb:(bubble p k (k - l)).size=p.size:=bubble_size _ _ _
  have at_:=fun i=>bub_kg (r:=r) (p:=p) (k:=k) (l:=l) (i:=i) (by lia) a1
  have u':Unl r (bubble p k (k - l)):=fun i j hi hj ne=>by
   rw[hb] at hi hj
   rw[at_ i,at_ j]
   repeat' split
   all_goals first|(exfalso;lia)|exact u _ _ (by lia) (by lia) (by lia)
  have h':Ups r (bubble p k (k - l)) (k+1):=fun i j hij hj=>by
   rw[at_ i,at_ j]
   repeat' split
   all_goals first|(exfalso;lia)|exact a2 _ (by lia)|exact a3 _ (by lia) (by lia)|exact h _ _ (by lia) (by lia)
  obtain⟨p',e',b1,b2,b3⟩:=bin_is f (bubble p k (k - l)) (k+1) (by rw[hb];lia) u' h'
  exact⟨p',e',b1.trans hb,b2.trans (bubble_perm _ _ _),by rw[hb] at b3;exact b3⟩
theorem sort_is (hn:1≤n) (u: ∀ i j,i < n→j < n→i≠j→r i≠r j): ∃ p,runK r (kas_sort n)=p∧p.size=n∧p.Perm (List.toArray (List.range n))∧Ups r p n:=by
 have hz:(List.toArray (List.range n)).size=n:=by simp
 have u0:Unl r (List.toArray (List.range n)):=fun i j hi hj ne=>by
  rw[hz] at hi hj
  unfold kg
  have e: ∀ k,k < n→(List.toArray (List.range n)).getD k 0=k:=fun k hk=>by
   rw[Array.getD_eq_getD_getElem?]
   simp[hk]
  rw[e i hi,e j hj]
  exact u i j hi hj ne
 unfold kas_sort
 rw[run_bind]
 obtain⟨m,p',e,a1,a2,a3,a4,a5,a6⟩:=count_is u0 (by rw[hz];exact hn)
 rw[hz] at e a2 a3
 rw[e]
 dsimp only
 rw[run_ite]
 by_cases c:m < n
 ·rw[if_pos c,Nat.max_eq_left a1]
  obtain⟨p2,e2,b1,b2,b3⟩:=bin_is (n - m) p' m (by lia) a5 a6
  rw[a3] at b1 b3
  exact⟨p2,e2,b1,b2.trans a4,b3⟩
 ·rw[if_neg c]
  have:m=n:=by lia
  subst this
  exact⟨p',rfl,a3,a4,a6⟩
end
end
def BIn (h:Heap) (mg:Str→Option Value):Prop:= ∃ bm ob,mg "__builtins__"=some (.ref bm)∧bm≠builtinsNs∧h.get? bm=some ob∧ob.cls= .type "module"∧ob.dict=some builtinsNs∧ob.data= .plain
abbrev emptyTab:Obj:={cls:=.none,data:=.fields #[]}
theorem head_tabs {K:PySem.W.Frag} {a:Addr} {tbs:List Addr} {x:Str} {s:Shared} {vs:List Value}
  (KX:K.In s.heap) (hns:s.heap.Ns mainGlobals mg) (hbn:s.heap.Ns builtinsNs mb) (hbb: ∀ x:Str,x≠"__name__"→mb x=bootBuiltins x) (hlim:s.heap.NoLimit) (hbm:BIn s.heap mg) (hg:s.gens= #[])
  (ha:s.heap.get? a=some {cls:=.type "list",data:=.seq vs.toArray}) (hi:IntsAre vs ns) (hl:ns.length≤sizeLine) (hr:Room k callerA)
  (ht: ∀ tb∈tbs,isCodeTable s.heap tb∧s.heap.get? tb=some emptyTab∧K.lookup tb=none)
  (F: ∀ base:Heap,K.In base→base.Ns mainGlobals mg→BIn base mg→FnOk P w K mg base CX k fa fd [x] sp) (hbind: ∀ (s:Shared) (u:Value),BindsTo s fd ⟨[u],[]⟩ [(x,u)])
  (hsp: ∀ H:Hp,(∀ tb∈tbs,H tb=some (.tbl #[]))→SqL K H a (ns.map V.int)→sp [.ref a] H (fun v _=>v= .bl true) fun _ _ _=>False)
  (hCX: ∀ H e s',CX [] H s (fun _ _ _=>False) e s'→False):
  codeAny (model P w) callerA (.call (.ref fa) ⟨[.ref a],[]⟩) (fun r s'=>r= .ok (.ret (.bool true))∧OldK s.heap s'.heap∧s'.os=s.os∧AllBare s'.gens) s:=by
 have hta:a∉tbs:=fun z=>by
  have gt:=(ht a z).2.1
  rw[ha] at gt
  cases gt
 let so:HO:=.frz {cls:=.type "list",data:=.seq vs.toArray} (.lst (ns.map V.int))
 let H:Hp:=fun b=>if b∈tbs then some (.tbl #[]) else if b=a∧K.lookup a=none then some so else none
 have Ht: ∀ tb∈tbs,H tb=some (.tbl #[]):=fun tb z=>if_pos z
 have cases_: ∀ b u,H b=some u→(b∈tbs∧u= .tbl #[])∨(b=a∧K.lookup a=none∧u=so):=fun b u e=>by
  by_cases c1:b∈tbs
  ·rw[Ht b c1] at e
   cases e
   exact .inl ⟨c1,rfl⟩
  ·by_cases c2:b=a∧K.lookup a=none
   ·rw[show H b=some so from(if_neg c1).trans (if_pos c2)] at e
    cases e
    exact .inr ⟨c2.1,c2.2,rfl⟩
   ·rw[show H b=none from(if_neg c1).trans (if_neg c2)] at e
    cases e
 have hok:HOk P w H s.heap:=fun b u e=>by
  rcases cases_ b u e with⟨z,rfl⟩|⟨rfl,_,rfl⟩
  ·exact(ht b z).2.1
  ·exact⟨ha,by rw[List.length_map];exact hl,vs,_,vals_ints hi,ha⟩
 have free': ∀ {b:Addr} {o:Obj},s.heap.get? b=some o→o≠emptyTab→o≠{cls:=.type "list",data:=.seq vs.toArray}→H b=none:=fun {b o} e n1 n2=>by
  cases q:H b with
  |none=>rfl
  |some u=>
   rcases cases_ b u q with⟨z,_⟩|⟨rfl,_,_⟩
   ·rw[(ht b z).2.1] at e;cases e;exact(n1 rfl).elim
   ·rw[ha] at e;cases e;exact(n2 rfl).elim
 have free: ∀ {b:Addr} {o:Obj} {es:Array DictEntry} {ep:Nat},s.heap.get? b=some o→o.data= .dict es ep→H b=none:=fun {b o es ep} e d=>free' e (fun z=>by rw[z] at d;cases d) (fun z=>by rw[z] at d;cases d)
 have nsK: ∀ {b:Addr} {m:Str→Option Value},s.heap.Ns b m→(hidT s.heap H).Ns b m:=fun {b m} ⟨o,es,ep,e,d,r⟩=>⟨o,es,ep,hidT_get e (free e d),d,r⟩
 have hKb:K.In (hidT s.heap H):=fun b o e=>hidT_get (KX b o e) (by
  cases q:H b with
  |none=>rfl
  |some u=>
   rcases cases_ b u q with⟨z,_⟩|⟨rfl,hk,_⟩
   ·rw[(ht b z).2.2] at e;cases e
   ·rw[hk] at e;cases e)
 have hBI:BIn (hidT s.heap H) mg:=by
  obtain⟨bm,ob,b1,b2,b3,b4,b5,b6⟩:=hbm
  exact⟨bm,ob,b1,b2,hidT_get b3 (free' b3 (fun z=>by rw[z] at b6;cases b6) (fun z=>by rw[z] at b6;cases b6)),b4,b5,b6⟩
 have md:Mod K mg (hidT s.heap H):=⟨hKb,nsK hns,⟨mb,nsK hbn,hbb⟩,let ⟨mc,h1,h2⟩:=hlim;⟨mc,nsK h1,h2⟩⟩
 have e0:Env0 P w K mg (hidT s.heap H) callerA [] s H:=⟨rfl,md,fun b o e=>of_hidT e,Nat.le_of_eq (hidT_size _ _),trivial,fun b hb=>(nomatch (show b∈([]:List Addr) from hb)),hok,.of_eq hg⟩
 have sq:SqL K H a (ns.map V.int):=by
  cases hk:K.lookup a with
  |some o=>
   have e:=KX a o hk
   rw[ha] at e
   cases e
   exact .inr ⟨_,vs.toArray,_,hk,rfl,rfl,rfl,by rw[List.size_toArray,hi.length];exact hl,by simpa using vals_ints hi⟩
  |none=>exact .inl (.inr ⟨_,(if_neg hta).trans (if_pos ⟨rfl,hk⟩)⟩)
 refine codeAny_mono ((F _ hKb (nsK hns) hBI).run callerA [] s H ⟨[.ref a],[]⟩ [.ref a] [.ref a] _ _ hr e0 (hbind s (.ref a)) (.cons rfl .nil) (hsp H Ht sq)) fun r s' h=>?_
 match r,h with
 | .error e,h=>exact(hCX H e s' h).elim
 | .ok (.ret u),h=>
  obtain⟨v,H',os,bare,un,hok',r',q⟩:=h
  obtain rfl:v= .bl true:=q
  obtain rfl:u=Value.bool true:=r'
  have kept: ∀ b o,b∉tbs→s.heap.get? b=some o→s'.heap.get? b=some o:=fun b o nb e=>by
   cases qb:H b with
   |none=>exact un.keep b o e qb (fun z=>nomatch (show b∈([]:List Addr) from z)) (fun z=>nomatch z)
   |some u=>
    rcases cases_ b u qb with⟨z,_⟩|⟨rfl,_,rfl⟩
    ·exact absurd z nb
    ·obtain⟨e1,_⟩:=hok b _ qb
     obtain⟨e2,_⟩:=hok' b _ (un.frzs b _ _ qb)
     rw[e] at e1
     cases e1
     exact e2
  have grown: ∀ b∈tbs,∃ more,s'.heap.get? b=some {cls:=.none,data:=.fields (#[]++more)}:=fun b z=>by
   obtain⟨more,et⟩:=un.tbls b #[] (Ht b z)
   exact⟨more,hok' b _ et⟩
  refine⟨rfl,⟨fun b o e=>?_,fun b o e=>?_⟩,os,bare⟩
  ·by_cases nb:b∈tbs
   ·obtain⟨more,gt'⟩:=grown b nb
    rw[(ht b nb).2.1] at e
    cases e
    exact .inr (.inl ⟨(ht b nb).1,rfl,#[],more,rfl,gt'⟩)
   ·exact .inl (kept b o nb e)
  ·by_cases nb:b∈tbs
   ·obtain⟨more,gt'⟩:=grown b nb
    exact⟨_,gt'⟩
   ·exact⟨o,kept b o nb e⟩
theorem walk_tabs {l:PySem.W.OpenLaw} {YP:World→Heap→Prop} {d:DefRec} {K:Params→PySem.W.Frag} {CX:World→CXT} {sp:World→List Addr→Sp} {x:Str}
  (hn:l.most=some n) (hn2:n≤sizeLine) (hdf:d.params.defaults=[]) (hr:Room k callerA)
  (hY: ∀ (w:World) (h:Heap),YP w h→(K w.params).In h)
  (F: ∀ (w:World) (mg:Str→Option Value) (fa:Addr) (h:Heap),(K w.params).In h→h.Ns mainGlobals mg→mg d.name=some (.ref fa)→
   ∃ (fd:FuncData) (ts:List (Str×Addr×Addr)),(∀ e∈ts,PySem.W.tabIn (K w.params) e.1=some e.2∧(K w.params).lookup e.2.2=none∧((recsOf q).find? fun r=>r.name==e.1).isSome=true)∧
    (∀ (s:Shared) (u:Value),BindsTo s fd ⟨[u],[]⟩ [(x,u)])∧
    ∀ base:Heap,(K w.params).In base→base.Ns mainGlobals mg→BIn base mg→FnOk l.prog w (K w.params) mg base (CX w) k fa fd [x] (sp w (ts.map (·.2.2))))
  (hsp: ∀ (w:World) (H:Hp) (a:Addr) (ns:List Int) (tbs:List Addr),ns.length≤n→(∀ tb∈tbs,H tb=some (.tbl #[]))→SqL (K w.params) H a (ns.map V.int)→sp w tbs [.ref a] H (fun v _=>v= .bl true) fun _ _ _=>False)
  (hCX: ∀ (w:World) (H:Hp) (s:Shared) (e:Value) (s':Shared),CX w [] H s (fun _ _ _=>False) e s'→False):
  PySem.W.WalkO q loose XP YP l.row.toRowW d [] (fun f vs=>PySem.call f vs):=by
 refine Att.attach_call hn hdf fun w s₀ s₁ mg mb fa o pm cd doc a vs ns G Y ho hd hcd hmg hobj hints hlen hg=>?_
 have KX:=hY w _ Y
 obtain⟨fd,ts,hts,hb,hF⟩:=F w mg fa _ KX G.T.g hmg
 refine head_tabs (tbs:=ts.map (·.2.2)) KX G.T.g G.T.b G.T.builtins G.T.nolimit ?_ hg hobj hints (Nat.le_trans hlen hn2) hr (fun tb z=>?_) hF hb (fun H hO hS=>hsp w H a ns _ hlen hO hS) fun H e s'=>hCX w H s₁ e s'
 ·obtain⟨bm,ob,b1,b2,b3,b4,b5,b6⟩:=G.T.bmain
  exact⟨bm,ob,b1,b2,b3,b4,b5,b6⟩
 ·obtain⟨e,he,rfl⟩:=List.mem_map.mp z
  obtain⟨h1,h2,h3⟩:=hts e he
  obtain⟨d',h3⟩:=Option.isSome_iff_exists.mp h3
  obtain⟨g1,g2⟩:=PySem.W.tab_of G.T KX h3 h1
  exact⟨(g1.tab g2).isCodeTable,g2,h2⟩
section
open PySem.W (KasT kas_rev kas_asc kas_desc kas_tail3 kas_descPart kas_count kas_place kas_bin kas_sort)
def InR (N:Nat) {α:Type} (V:α→Prop):KasT α→Prop
 | .ret a=>V a
 | .ask i j k=>i < N∧j < N∧∀ b,InR N V (k b)
theorem InR.bind {N:Nat} {α β:Type} {V:α→Prop} {W:β→Prop} {f:α→KasT β}: ∀ {t:KasT α},InR N V t→(∀ a,V a→InR N W (f a))→InR N W (t.bind f)
 | .ret a,h,k=>k a h
 | .ask i j g,h,k=>⟨h.1,h.2.1,fun b=>InR.bind (h.2.2 b) k⟩
theorem InR.ite {N:Nat} {α:Type} {V:α→Prop} {c:Prop} [Decidable c] {a b:KasT α} (h1:InR N V a) (h2:InR N V b):InR N V (if c then a else b):=by
 by_cases h:c
 ·rw[if_pos h];exact h1
 ·rw[if_neg h];exact h2
def Bd (N:Nat) (p:Array Nat):Prop:=0 < N∧∀ x∈p.toList,x < N
theorem Bd.at (h:Bd N p) (k:Nat):p.getD k 0 < N:=by
 rw[Array.getD_eq_getD_getElem?]
 cases e:p[k]? with
 |none=>exact h.1
 |some x=>exact h.2 x (Array.mem_toList_iff.mpr (Array.mem_of_getElem? e))
theorem Bd.perm (h:Bd N p) (pm:q.Perm p):Bd N q:=⟨h.1,fun x hx=>h.2 x ((Array.perm_iff_toList_perm.mp pm).mem_iff.mp hx)⟩
theorem Bd.rev (h:Bd N p) (i j:Nat):Bd N (kas_rev p i j):=h.perm (mirror_perm _ _ _ _)
section
variable {N:Nat}
theorem asc_in (h:Bd N p): ∀ f n,InR N (fun _=>True) (kas_asc p f n)
 |0,_=>trivial
 |f+1,n=>⟨h.at _,h.at _,fun b=>InR.ite trivial (asc_in h f (n+1))⟩
theorem desc_in: ∀ (f:Nat) {p:Array Nat} (n q:Nat),Bd N p→InR N (fun r=>Bd N r.1) (kas_desc f p n q)
 |0,_,_,_,h=>h
 |f+1,p,n,q,h=>⟨h.at _,h.at _,fun b=>InR.ite (InR.ite (desc_in f _ _ (h.rev _ _)) (desc_in f _ _ h)) ⟨h.at _,h.at _,fun d=>InR.ite h (desc_in f _ _ h)⟩⟩
theorem tail3_in (h:Bd N p) (n m:Nat):InR N (fun r=>Bd N r.2) (kas_tail3 n m p):=InR.bind (asc_in (h.rev _ _) _ _) fun a _=>h.rev _ _
theorem descPart_in (h:Bd N p) (n m:Nat):InR N (fun r=>Bd N r.2) (kas_descPart n m p):=InR.bind (desc_in _ _ _ h) fun r hr=>InR.ite (tail3_in (hr.rev _ _) _ _) (tail3_in hr _ _)
theorem count_in (h:Bd N p) (m:Nat):InR N (fun r=>Bd N r.2) (kas_count m p):=
 InR.bind (asc_in h _ _) fun n _=>InR.ite h (InR.ite ⟨h.at _,h.at _,fun c=>InR.ite h (descPart_in (h.rev _ _) _ _)⟩ (descPart_in h _ _))
theorem place_in {p:Array Nat} (h:Bd N p) (k:Nat): ∀ f l r,InR N (fun _=>True) (kas_place p k f l r)
 |0,_,_=>trivial
 |f+1,l,r=>by
  unfold kas_place
  exact InR.ite trivial ⟨h.at _,h.at _,fun c=>InR.ite (place_in h k f _ _) (place_in h k f _ _)⟩
theorem bin_in: ∀ (f:Nat) {p:Array Nat} (k:Nat),Bd N p→InR N (Bd N) (kas_bin f p k)
 |0,_,_,h=>h
 |f+1,p,k,h=>InR.bind (place_in h _ _ _ _) fun l _=>bin_in f (k+1) (h.perm (bubble_perm _ _ _))
theorem sort_in (hN:0 < N):InR N (Bd N) (kas_sort N):=by
 have h:Bd N (List.toArray (List.range N)):=⟨hN,fun x hx=>by simpa using hx⟩
 exact InR.bind (count_in h _) fun r hr=>InR.ite (bin_in _ _ hr) hr
theorem wp_run {α:Type} {V:α→Prop} {r:Nat→Int} {cmp:Nat→Nat→(Bool→Shared→Prop)→Shared→Prop} {Q:α→Shared→Prop} {s:Shared} (hc: ∀ i j C,i < N→j < N→C (decide (r i < r j)) s→cmp i j C s): ∀ (t:KasT α),InR N V t→Q (runK r t) s→t.kasWp cmp Q s
 | .ret a,_,h=>h
 | .ask i j k,hi,h=>hc i j _ hi.1 hi.2.1 (wp_run hc (k (decide (r i < r j))) (hi.2.2 _) h)
end
end
section
open PySem.W (kla_fn kla_obj CodeHd tabObj)
theorem lam_run {CX:CXT} {P:Program} {w:World} {K:PySem.W.Frag} {mg:Str→Option Value} {base:Heap} {f c:Addr} {name qual:Str} {params:Arguments} {body:Expr} {scope:Scope} {pm ctv:Value} {oc:Obj} {fs:Array Value} {tq:Tok} {N ps:List Str} {k:Nat}
  {A:Around} {outer:List Env} {s:Shared} {H:Hp} {args:Args} {us:List Value} {vs:List V} {Q:VK} {E:XK} {tE:TE}
  (S:FnScope N ps scope) (hr:Room (k+1) A) (e0:Env0 P w K mg base A outer s H) (hf:s.heap.get? f=some (kla_obj name qual params body scope [] pm c ctv))
  (hc:s.heap.get? c=some oc) (hoc:oc.data= .fields fs) (hfs:fs[1]?=some (.str qual tq))
  (hb:BindsTo s (kla_fn name qual params body scope [] pm (.ref c) ctv) args (ps.zip us)) (hl:vs.length=ps.length) (r:Vals vs us)
  (hbody:PE (cxOf CX P w K mg base N qual scope f (.ref c) A outer s H E) body tE) (hq:tE (start N vs) H Q):
  codeAny (model P w) A (.call (.ref f) args) (CR CX outer P w H s Q E) s:=by
 have lim:s.heap.NoLimit:=e0.mod.nolimit.keeps fun b o e=>(e0.bs b o e).1
 have hkind: ∀ y∈ps.zip us,scope.names.lookup y.1=some .local∨(scope.names.lookup y.1=some .cell∧((cellsFrom (s.heap.objs.size+1) scope.names []).lookup y.1).isSome=true):=fun hq0 hy=>by
  obtain⟨n,v⟩:=hq0
  rcases S.par n (List.of_mem_zip hy).1 with q|q
  ·exact .inl q
  ·exact .inr ⟨q,PySem.W.cellsFrom_some _ _ _ (.inl q)⟩
 refine PySem.W.kla_callFunE hr.depth hf rfl S.co S.gen rfl ⟨c,oc,fs,tq,rfl,hc,hoc,hfs⟩ (hb _ _ _ _ ?_)
 refine wpAny_newFunctionEnv_cells S.kind hkind fun env he s1 x=>?_
 subst he
 refine⟨lim.keeps x.toInCall.keep,PySem.W.kla_codeExpr ?_⟩
 have I:Inv (cxOf CX P w K mg base N qual scope f (.ref c) A outer s H E) [] (start N vs) H s1:=inv_start S hr.hd e0 hl r x
 refine wpAny_mono (hbody [] s1 (start N vs) H _ I hq) (fun u s' hs=>?_) fun e s' hs=>hs
 obtain⟨v,H',J,rv,q⟩:=hs
 exact⟨v,H',J.os,J.bare,J.base,J.hok,rv,q⟩
theorem lam_call (S:FnScope N ps scope) (hr:Room (k+1) A) (hA:A.frames=X.A.frames) (I:Inv X pZ σ H s) (hf:s.heap.get? f=some (kla_obj name qual params body scope [] pm c ctv))
  (hc:s.heap.get? c=some oc) (hoc:oc.data= .fields fs) (hfs:fs[1]?=some (.str qual tq))
  (hb:BindsTo s (kla_fn name qual params body scope [] pm (.ref c) ctv) ⟨us,[]⟩ (ps.zip us)) (hl:vs.length=ps.length) (r:Vals vs us)
  (hbody:PE (cxOf CX0 X.prog X.w X.K X.mg X.base N qual scope f (.ref c) A X.stack s H E0).nox body tE) (hq:tE (start N vs) H Q):
  wpAny (model X.prog X.w) A (call (.ref f) us) (EP X pZ σ Q) (fun _ _=>False) s:=by
 have e0:Env0 X.prog X.w X.K X.mg X.base A X.stack s H:=⟨hA.trans I.env0.frames,I.env0.mod,I.env0.bs,I.env0.bsz,I.env0.funs,I.env0.frf,I.env0.hok,I.env0.bare⟩
 refine wpAny_call (codeAny_mono (lam_run S hr e0 hf hc hoc hfs hb hl r hbody.nox hq) fun r s' h=>?_)
 cases r with
 |error e=>exact h
 |ok fl=>
  cases fl with
  |ret u=>exact I.after h
  |next=>exact False.elim h
  |brk=>exact False.elim h
  |cont=>exact False.elim h
end
section
open PySem.W (kas_sort kas_ask KatTups)
theorem Inv.grab (I:Inv X pZ σ H s) (fp:FpOk X pZ H D) (k: ∀ b u,b≠D→s.heap.get? b=some u→h'.get? b=some u) (new:ObjOk X.prog X.w (upd H D o) h' D o):
  Inv X pZ σ (upd H D o) {s with heap:=h',toks:=t'}:=by
 obtain⟨hn,hL,hF,h1,h2,h3⟩:=fp
 have nD: ∀ b u,H b=some u→b≠D:=fun b u e z=>by rw[z,hn] at e;cases e
 refine I.step (g':=s.gens) (d':=s.drawn) (ch:=[D]) (fun b hb=>?_) (fun b u _ _ hc e _=>k b u (fun z=>hc (by simp[z])) e) (fun b u _ _ hc e _=>⟨u.slots,k b u (fun z=>hc (by simp[z])) e⟩) (fun b u hc _ n=>by rw[upd_ne (fun z=>hc (by simp[z]))];exact n)
  (fun b u hc e=>⟨u,k b u (fun z=>hc (by simp[z])) e⟩) (fun b xs e=>by rw[upd_ne (nD b _ e)];exact e) (fun b ob u e=>by rw[upd_ne (nD b _ e)];exact e) (fun b ps e=>⟨#[],by rw[upd_ne (nD b _ e),e];simp⟩) (fun m hm=>?_) (fun b u e=>?_) I.bare
 ·have e:b=D:=by simpa using hb
  subst e
  exact⟨h1,hL,h2,h3⟩
 ·obtain⟨ob,es,ep,ho,r⟩:=hm
  exact⟨ob,es,ep,k _ ob (Ne.symm hL) ho,r⟩
 ·by_cases z:b=D
  ·subst z
   rw[upd_same] at e
   cases e
   exact new
  ·rw[upd_ne z] at e
   refine(I.hok b u e).stay (fun c v hc q=>k c v ?_ q) (fun c q=>?_) fun c xs q=>?_
   ·rcases hc with y|y
    ·rw[y];exact z
    ·exact nD c _ y
   ·rw[upd_ne (nD c _ q)];exact q
   ·rw[upd_ne (nD c _ q)];exact q
end
section
open PySem.W (kla_fn kla_obj CodeHd tabObj)
theorem among_snoc (l:List Value) (h:TriplesOk l) (hn:codeAmong pos (l++[rawInt a,rawInt b,c])=some cv):codeAmong pos l=some cv∨cv=c:=by
 fun_induction TriplesOk l with
 |case1=>
  simp[codeAmong,rawInt] at hn
  exact .inr hn.2.symm
 |case2 a' t b' u x rest ih=>
  simp only[List.cons_append,codeAmong] at hn ⊢
  split at hn
  ·rename_i hc
   rw[if_pos hc]
   exact .inl hn
  ·rename_i hc
   rw[if_neg hc]
   exact ih h hn
 |case3 l h1 h2=>exact h.elim
theorem lam_eval (I:Inv X pZ σ H s) (hB:BIn X.base X.mg) (hcode:X.env.code= .ref c) (hC:CodeHd X.base c P) (tab:TabAt H (P,X.env.qual++"<lambda>")) (hcl:closureFor scope X.env=pure []) (hdef:defaultsOf params X.env=([],[]))
  (h: ∀ (f c':Addr) (oc:Obj) (fs:Array Value) (tq:Tok) (pm ctv:Value) (H':Hp) (s':Shared),Inv X pZ σ H' s'→H f=none→H' f=some (.frz (kla_obj "<lambda>" (X.env.qual++"<lambda>") params body scope [] pm c' ctv) (.own f))→H' c'=some (.frz oc (.own c'))→oc.data= .fields fs→fs[1]?=some (.str (X.env.qual++"<lambda>") tq)→
   TabAt H' (P,X.env.qual++"<lambda>")→(∀ b o,b≠P→H b=some o→H' b=some o)→Q (.ref f) s'):
  wpAny (model X.prog X.w) X.A (eval (.Lambda params body scope pos) X.env) Q E s:=by
 obtain⟨ps,hP,ht,hrow⟩:=tab
 have gP:s.heap.get? P=some (tabObj ps):=I.hok P _ hP
 obtain⟨bm,ob,b1,b2,b3,b4,b5,b6⟩:=hB
 have hg:s.heap.Ns mainGlobals X.mg:=I.mod.glob.keeps I.bk
 have hgP:mainGlobals≠P:=fun q=>by
  obtain⟨o,es,ep,e,hd,_⟩:=hg
  rw[q,gP] at e;cases e;cases hd
 have hbP:bm≠P:=fun q=>by
  have e:=I.bk _ _ b3
  rw[q,gP] at e;cases e;cases b4
 have hbG:bm≠mainGlobals:=fun q=>by
  obtain⟨o,es,ep,e,hd,_⟩:=I.mod.glob
  rw[q,e] at b3;cases b3;rw[hd] at b6;cases b6
 have hBA:s.heap.BuiltinsAt X.mg P:=⟨bm,ob,b1,b2,hbG,hbP,I.bk _ _ b3,b4,b5,b6⟩
 refine PySem.W.kla_eval hdef ?_
 cases hf:codeAmong pos ps.toList with
 |none=>
  refine PySem.W.kla_makeFunction (mg:=X.mg) hcl I.ok.glob hg hcode (hC.keeps I.bk) gP ht hf hgP hBA fun c' ctv h' tk hx hge hlt hrec htb=>?_
  obtain⟨c2,oc,fs,tq,e2,hoc,hfd,hfs⟩:=hrec
  cases e2
  generalize hko:kla_obj "<lambda>" (X.env.qual++"<lambda>") params body scope [] ((X.mg "__name__").getD .none) c' ctv=ko
  have hkf:ko.isFreed=false:=by rw[←hko];rfl
  have hcn:H c'=none:=I.hok.fresh hge
  have hfn:H h'.objs.size=none:=I.hok.fresh (Nat.le_trans hge (Nat.le_of_lt hlt))
  have ncP:c'≠P:=fun z=>by rw[z,hP] at hcn;cases hcn
  have nfP:h'.objs.size≠P:=fun z=>by rw[z,hP] at hfn;cases hfn
  have nfc:h'.objs.size≠c':=Nat.ne_of_gt hlt
  let H':Hp:=upd (upd (upd H P (.tbl (ps++ #[rawInt pos.line,rawInt pos.col,.ref c']))) c' (.frz oc (.own c'))) h'.objs.size (.frz ko (.own h'.objs.size))
  have at_f:H' h'.objs.size=some (.frz ko (.own h'.objs.size)):=upd_same
  have at_c:H' c'=some (.frz oc (.own c')):=by
   show upd _ _ _ c'=_
   rw[upd_ne (Ne.symm nfc),upd_same]
  have at_P:H' P=some (.tbl (ps++ #[rawInt pos.line,rawInt pos.col,.ref c'])):=by
   show upd _ _ _ P=_
   rw[upd_ne (Ne.symm nfP),upd_ne (Ne.symm ncP),upd_same]
  have at_o: ∀ b,b≠h'.objs.size→b≠c'→b≠P→H' b=H b:=fun b n1 n2 n3=>by
   show upd _ _ _ b=_
   rw[upd_ne n1,upd_ne n2,upd_ne n3]
  have keepH: ∀ b o,b≠P→H b=some o→H' b=some o:=fun b o nb e=>by
   rw[at_o b (ne_of_none e hfn) (ne_of_none e hcn) nb]
   exact e
  have kp: ∀ b o,b≠P→s.heap.get? b=some o→(h'.push ko).get? b=some o:=fun b o nb e=>Heap.get?_push_of_some _ (hx b o nb e)
  have tbP:(h'.push ko).get? P=some (tabObj (ps++ #[rawInt pos.line,rawInt pos.col,.ref c'])):=Heap.get?_push_of_some _ htb
  have un:Un X.fs [] H H' s.heap (h'.push ko):=by
   have nP: ∀ b,H b=none→b≠P:=fun b n z=>by rw[z,hP] at n;cases n
   refine⟨fun b o e n _ _=>kp b o (nP b n) e,fun b o e n _ _=>⟨o.slots,kp b o (nP b n) e⟩,fun b o e n _=>?_,fun b o e _=>?_,fun b xs e=>keepH b _ (fun z=>by rw[z,hP] at e;cases e) e,fun b ob u e=>keepH b _ (fun z=>by rw[z,hP] at e;cases e) e,fun b qs e=>?_⟩
   ·have lt:=Heap.lt_size e
    rw[at_o b (Nat.ne_of_lt (Nat.lt_of_lt_of_le lt (Nat.le_trans hge (Nat.le_of_lt hlt)))) (Nat.ne_of_lt (Nat.lt_of_lt_of_le lt hge)) (nP b n)]
    exact n
   ·by_cases z:b=P
    ·exact⟨_,z▸tbP⟩
    ·exact⟨o,kp b o z e⟩
   ·by_cases z:b=P
    ·subst z
     rw[hP] at e
     cases e
     exact⟨_,at_P⟩
    ·exact⟨#[],by rw[keepH b _ z e];simp⟩
  have hok:HOk X.prog X.w H' (h'.push ko):=fun b u e=>by
   by_cases n1:b=h'.objs.size
   ·subst n1
    rw[at_f] at e
    cases e
    exact⟨Heap.get?_push_size _ hkf,_,Heap.get?_push_size _ hkf⟩
   ·by_cases n2:b=c'
    ·subst n2
     rw[at_c] at e
     cases e
     exact⟨Heap.get?_push_of_some _ hoc,_,Heap.get?_push_of_some _ hoc⟩
    ·by_cases n3:b=P
     ·subst n3
      rw[at_P] at e
      cases e
      exact tbP
     ·rw[at_o b n1 n2 n3] at e
      refine(I.hok b u e).stay (fun d v hd q=>kp d v ?_ q) (fun d q=>keepH d _ (fun z=>by rw[z,hP] at q;cases q) q) fun d xs q=>keepH d _ (fun z=>by rw[z,hP] at q;cases q) q
      rcases hd with z|z
      ·rw[z];exact n3
      ·exact fun y=>by rw[y,hP] at z;cases z
  subst hko
  refine h h'.objs.size c' oc fs tq _ ctv H' _ (I.un (t':=tk) un hok) hfn at_f at_c hfd hfs ⟨_,at_P,?_,fun pos' cv e=>?_⟩ keepH
  ·rw[Array.toList_append]
   exact TriplesOk_snoc _ _ _ _ ht
  ·rw[Array.toList_append] at e
   rcases among_snoc _ ht e with e|rfl
   ·obtain⟨c3,o3,f3,t3,rfl,g1,g2,g3⟩:=hrow pos' cv e
    exact⟨c3,o3,f3,t3,rfl,keepH _ _ (fun z=>by rw[z,hP] at g1;cases g1) g1,g2,g3⟩
   ·exact⟨c',oc,fs,tq,rfl,at_c,hfd,hfs⟩
 |some cv=>
  obtain⟨c',oc,fs,tq,rfl,g1,hfd,hfs⟩:=hrow pos cv hf
  refine PySem.W.kla_makeFunctionHit (mg:=X.mg) hcl I.ok.glob hg hcode (hC.keeps I.bk) gP ht hf hBA fun ctv h' tk hk hsz=>?_
  have hfn:H h'.objs.size=none:=I.hok.fresh hsz
  have nf: ∀ b u,H b=some u→b≠h'.objs.size:=fun b u e=>ne_of_none e hfn
  have J:=I.laid (t':=tk) (h':=h'.push (kla_obj "<lambda>" (X.env.qual++"<lambda>") params body scope [] ((X.mg "__name__").getD .none) c' ctv)) (a:=h'.objs.size) (o:=.frz (kla_obj "<lambda>" (X.env.qual++"<lambda>") params body scope [] ((X.mg "__name__").getD .none) c' ctv) (.own h'.objs.size))
   (fun b u e=>Heap.get?_push_of_some _ (hk b u e)) hsz ⟨Heap.get?_push_size _ rfl,_,Heap.get?_push_size _ rfl⟩
  refine h h'.objs.size c' oc fs tq _ ctv _ _ J hfn upd_same (by rw[upd_ne (nf _ _ g1)];exact g1) hfd hfs ⟨ps,by rw[upd_ne (nf _ _ hP)];exact hP,ht,fun pos' cv e=>?_⟩ fun b o _ e=>by rw[upd_ne (nf _ _ e)];exact e
  obtain⟨c3,o3,f3,t3,rfl,k1,k2,k3⟩:=hrow pos' cv e
  exact⟨c3,o3,f3,t3,rfl,by rw[upd_ne (nf _ _ k1)];exact k1,k2,k3⟩
end
section
variable {φ:Fam}
def seqPV:PV→Option (List PV)
 | .lst l=>some l
 | .tup l=>some l
 |_=>none
theorem seq_rep (r:RepB G O H y x) (e:seqPV y=some l): ∃ p xs,x= .ref p∧(H p=some (.lst xs)∨H p=some (.tup xs))∧Reps G.B O H l xs:=by
 cases y with
 |lst l'=>
  cases e
  obtain⟨p,xs,rfl,h,r⟩:=r.lst_i
  exact⟨p,xs,rfl,.inl h,r⟩
 |tup l'=>
  cases e
  obtain⟨p,xs,rfl,h,r⟩:=r.tup_i
  exact⟨p,xs,rfl,.inr h,r⟩
 |_=>cases e
theorem atI_of {α:Type} {l:List α} {k:Nat} {x:α} (h:l[k]?=some x):atI l (k:Int)=some x:=by
 have hk:k < l.length:=(List.getElem?_eq_some_iff.mp h).1
 unfold atI ixN
 rw[if_pos (by lia),if_pos (by lia)]
 show l[((k:Nat):Int).toNat]?=_
 rw[Int.toNat_natCast]
 exact h
end
def meet (l:List Str) (z:Str):List Str:=if l.any (· ==z) then l else l++[z]
def met (zs:List Str):List Str:=zs.foldl meet []
structure FunC (K:PySem.W.Frag) (x qual:Str) (st:Stmt) (f:Addr) (fd:FuncData) (c tb:Addr):Prop where
 ex: ∃ (oc:Value) (od:Option Addr) (kV doc pm:Value) (an:Option Addr) (ct:Value) (osl:Array (Option Value)),
  fd=PySem.W.fnOf x qual (defArgs st) (defBody st) (defScope st) .none kV doc pm an (.ref c) ct∧K.lookup f=some ⟨oc,od,.func fd,osl⟩∧PySem.W.codeIn K (.ref c) qual=true
 hd:PySem.W.codeHdIn K c tb=true
section
variable {φ:Fam} {P:Program} {w:World} {K:PySem.W.Frag} {mg:Str→Option Value} {base:Heap}
theorem FunC.ok {x qual:Str} {st:Stmt} {f c tb:Addr} {fd:FuncData} {N ps:List Str} {k:Nat} {sp:Sp} (F:FunC K x qual st f fd c tb) (S:FnScope N ps (defScope st)) (len: ∀ vs H Q E,sp vs H Q E→vs.length=ps.length)
  (hbody: ∀ (A:Around) (outer:List Env) (s:Shared) (H:Hp) (vs:List V) (Q:VK) (E:XK),Room k (A.deeper (envOfC qual (defScope st) s.heap.objs.size f (.ref c)))→sp vs H Q E→
   ∃ t,PSs (cxOf CX0 P w K mg base N qual (defScope st) f (.ref c) A outer s H E).nox (defBody st) t∧t {nx:=fun _ H'=>Q .non H',rt:=Q} (start N vs) H):FnOk P w K mg base CX0 (k+1) f fd ps sp:=by
 obtain⟨oc,od,kV,doc,pm,an,ct,osl,rfl,lk,hcd⟩:=F.ex
 refine fn_of lk hcd S len fun A outer s H vs Q E hr hsp=>?_
 obtain⟨t,h,q⟩:=hbody A outer s H vs Q E hr hsp
 exact⟨t,h.nox,q⟩
theorem fn_okC0 {x qual:Str} {st:Stmt} {f c tb:Addr} {fd:FuncData} {N ps:List Str} {k:Nat} {m:PEnv→M Fl} (F:FunC K x qual st f fd c tb) (S:FnScope N ps (defScope st)) (hN:ps.length≤N.length)
  (hb: ∀ (A:Around) (outer:List Env) (s:Shared) (H:Hp) (E:XK),Room k (A.deeper (envOfC qual (defScope st) s.heap.objs.size f (.ref c)))→SsV φ (cxOf CX0 P w K mg base N qual (defScope st) f (.ref c) A outer s H E).nox (defBody st) m):
  FnOk P w K mg base CX0 (k+1) f fd ps (spP φ (fnP ps.length N.length m)):=by
 refine F.ok S (fun vs H Q E h=>?_) (fun A outer s H vs Q E hr h=>⟨_,(hb A outer s H E hr).out,?_⟩)
 ·obtain⟨G,O,l,n,R,_,_,_,r,w,_⟩:=h
  unfold fnP at w
  by_cases hc:l.length=ps.length
  ·rw[←r.1,hc]
  ·rw[if_neg hc] at w;exact w.elim
 ·obtain⟨G,O,l,n,R,pr,dm,ok,r,w,q⟩:=h
  unfold fnP at w
  by_cases hc:l.length=ps.length
  ·rw[if_pos hc,M.wZ] at w
   refine⟨G,O,H,O,startP N.length l,n,⟨⟨⟨?_,fun i e he=>?_⟩,ok,pr,dm⟩,pr,fun p h=>h,Ext.refl _ _,fun p h=>.inl h,dm,fun i p h=>?_,fun i j p h=>?_⟩,M.wp_mono w fun f n' h=>?_⟩
   ·unfold start startP;simp[r.1]
   ·unfold startP at he
    by_cases hi:i < l.length
    ·rw[List.getElem?_append_left (by simpa using hi),List.getElem?_map,List.getElem?_eq_getElem hi] at he
     cases he
     obtain⟨x,hx,rr⟩:=r.at (List.getElem?_eq_getElem hi)
     exact⟨x,by rw[start_get hx];rfl,rr⟩
    ·rw[List.getElem?_append_right (by simpa using hi),List.getElem?_replicate] at he
     split at he
     ·cases he;trivial
     ·cases he
   all_goals try (
    obtain⟨t,h1,h2,_⟩:=h
    exfalso
    unfold startP at h1
    by_cases hi:i < l.length
    ·rw[List.getElem?_append_left (by simpa using hi),List.getElem?_map,List.getElem?_eq_getElem hi] at h1
     cases h1;cases h2
    ·rw[List.getElem?_append_right (by simpa using hi),List.getElem?_replicate] at h1
     split at h1
     ·cases h1;cases h2
     ·cases h1)
   cases f with
   |nx ρ=>exact fun O' σ' H' s'=>q .non .non H' n' s'.ext s'.es.ok .non h
   |rt y=>exact fun x' H' e' ok' r'=>q y x' H' n' e' ok' r' h
   |bk ρ=>exact h.elim
   |ct ρ=>exact h.elim
  ·rw[if_neg hc] at w;exact w.elim
theorem fn_okC {x qual:Str} {st:Stmt} {f c tb:Addr} {fd:FuncData} {N ps:List Str} {k:Nat} {m:PEnv→M Fl} {body:List Stmt} {sc:Scope} {Ff:List PV→M PV} (hF:Ff=fnP ps.length N.length m) (F:FunC K x qual st f fd c tb) (S:FnScope N ps (defScope st)) (hN:ps.length≤N.length) (eb:defBody st=body) (es:defScope st=sc)
  (hb: ∀ (A:Around) (outer:List Env) (s:Shared) (H:Hp) (E:XK),Room k (A.deeper (envOfC qual sc s.heap.objs.size f (.ref c)))→SsV φ (cxOf CX0 P w K mg base N qual sc f (.ref c) A outer s H E).nox body m):
  FnOk P w K mg base CX0 (k+1) f fd ps (spP φ Ff):=by
 subst hF eb es
 exact fn_okC0 F S hN hb
end
noncomputable def spLawT (K:PySem.W.Frag) (tbs:List Addr):Sp:=fun vs H Q _=> ∃ (a:Addr) (ns:List Int),vs=[.ref a]∧SqL K H a (ns.map V.int)∧ns.length≤63∧(∀ tb∈tbs,H tb=some (.tbl #[]))∧∀ H',Q (.bl true) H'
def Sml (c dp:Nat) (y:PV):Prop:= ∃ d:PyData,toD y=some d∧d.showable=true∧d.hasDict=false∧d.shown.length≤c∧d.depth≤dp
theorem sml_str (h:x.length≤k) (hc: ∀ c∈x.cps.toList,c < 16 ^ 8):Sml (10 * k+2) 0 (.str x):=by
 refine⟨.str x,by simp only[toD],by simp only[PyData.showable],by simp only[PyData.hasDict],?_,by simp only[PyData.depth];lia⟩
 simp only[PyData.shown]
 have:=PySem.StrLaws.reprText_len x hc
 lia
def ItV (K:PySem.W.Frag) (a:Addr) (xs:List V):It:=⟨fun i H=>SqL K H a xs∧i < xs.length,fun i H x H'=>H'=H∧xs.reverse[i]?=some x,fun i H=>SqL K H a xs∧i=xs.length⟩
theorem turn_rev {P:Program} {w:World} {K:PySem.W.Frag} {tg:Expr} (a it:Addr) (xs:List V):Turn P w K tg (ItV K a xs) [it] it (fun i h=>h.IsRevIter it a ((xs.length:Int) - 1 - i)) where
 mem:=by simp
 obj:=fun i h st b hb=>by
  have e:b=it:=by simpa using hb
  subst e
  obtain⟨o,e,c,d⟩:=st
  exact⟨o,e,fun v z=>by rw[d] at z;cases z⟩
 keep:=fun i h h' st k=>st.at fun o e=>k it (by simp) o e
 item:=by
  intro X hP hw hK hc i pZ s σ H E I hf st hg
  subst hP hw hK
  obtain⟨hq,hi⟩:=hg
  obtain⟨its,rv,p,hz⟩:=I.list hq
  have hl:=rv.length
  obtain⟨u,hu,ru⟩:=rv.get (List.getElem?_eq_getElem (show xs.length - 1 - i < xs.length by lia))
  obtain⟨f0,f1,f2,f3,f4,f5⟩:=hf it (by simp)
  have ei:(xs.length:Int) - 1 - i=((xs.length - 1 - i:Nat):Int):=by lia
  have st2:=st
  rw[ei] at st2
  refine wpAny_pyNext_rev_item st2 p.isList (x:=u) (by simpa using hu) fun h' st' sb=>?_
  have I1:Inv X pZ σ H {s with heap:=h'}:=I.turned (t':=s.toks) (fun b o hb e=>(sb.2 b hb).trans e) f0 f1 f3 f4 f5
  have e2:((xs.length - 1 - i:Nat):Int) - 1=(xs.length:Int) - 1 - ((i+1:Nat):Int):=by lia
  rw[e2] at st'
  obtain⟨o,e,c,d⟩:=id st'
  refine⟨u,rfl,go_of (s:={s with heap:=h'}) e c d (by decide) ⟨_,H,I1,ru,⟨rfl,?_⟩,st',fun b hb=>(hf b hb).1⟩⟩
  rw[List.getElem?_reverse hi]
  exact List.getElem?_eq_getElem _
 done:=by
  intro X hP hw hK hc i pZ s σ H E I hf st hg
  subst hP hw hK
  obtain⟨hq,rfl⟩:=hg
  obtain⟨f0,f1,f2,f3,f4,f5⟩:=hf it (by simp)
  rw[show (xs.length:Int) - 1 - (xs.length:Int)= -1 by lia] at st
  exact wpAny_pyNext_rev_end (I.ok.hd hc) st fun h' eb=>⟨rfl,I.turned (t':=s.toks) (fun b o hb e=>eb b o hb e) f0 f1 f3 f4 f5⟩
 self:=fun _ _ _ _ _ st h=>wpAny_pyIter_revIter st h
def iRev (K:PySem.W.Frag) (ta:TA):TI:=fun σ H R=>ta σ H fun vs H1=> ∃ a xs,vs=[.ref a]∧SqL K H1 a xs∧R (ItV K a xs) H1
section
variable {X:Cx} {x:Str} {p pos:Pos} {e tg:Expr}
theorem pi_rev {ta:TA} (hg:Gl X x) (hm:X.mg x=none) (hv:bootBuiltins x=some (.type "reversed")) (ha:PA X [e] ta) (hn:x≠"__name__":=by decide) (hdb:(x==("__debug__":Str))=false:=by decide)
  (he:starEach [e] X.env=(false,eval e X.env)::starEach [] X.env:=by rfl) (hpl:(backTo pos (starEach [] X.env)).any (·.1)=false:=by rfl):PI X tg (.Call (.Name x p) [e] [] pos) (iRev X.K ta):=by
 intro pZ s σ H R I h
 refine wpAny_Call_Name_kw (ld_blt I hg hm hv ?_ hn hdb)
 refine PyProof.Rows.callWith_type1 (thn (ha pos pZ s σ H _ I h) fun us s1 ⟨vs,H1,I1,r1,q1⟩=>?_) he hpl
 obtain⟨a,xs,rfl,hq,q⟩:=q1
 obtain⟨u,rfl,ru⟩:=r1.one
 cases ru
 obtain⟨its,rv,p,hz⟩:=I1.list hq
 have hl:=rv.length
 refine call_reversed_list p.isList ?_
 have I2:Inv X pZ σ H1 {s1 with heap:=s1.heap.push (revObj a ((its.toArray.size:Int) - 1))}:=I1.kept (t':=s1.toks) fun b o e=>Heap.get?_push_of_some _ e
 have ez:((its.toArray.size:Nat):Int) - 1=(xs.length:Int) - 1 - ((0:Nat):Int):=by rw[List.size_toArray];lia
 have st:(s1.heap.push (revObj a ((its.toArray.size:Int) - 1))).IsRevIter s1.heap.objs.size a ((xs.length:Int) - 1 - ((0:Nat):Int)):=by
  rw[←ez]
  exact⟨_,Heap.get?_push_size _ rfl,rfl,rfl⟩
 refine wpAny_pyIter_revIter st ?_
 refine⟨s1.heap.objs.size,[s1.heap.objs.size],_,_,H1,rfl,I2,turn_rev a _ xs,st,fun b hb=>?_,q⟩
 have e:b=s1.heap.objs.size:=by simpa using hb
 subst e
 exact I1.fpOk (Nat.le_refl _) (I1.hok.fresh (Nat.le_refl _))
end
theorem for_rev {K:PySem.W.Frag} {a:Addr} {xs:List V} {g:TG} {tb:TS} {D:Ends} {σ:St} {H:Hp} (Pv:Nat→L2.St→Hp→Prop) (h0:Pv 0 σ H) (hl: ∀ i σ H,i≤xs.length→Pv i σ H→SqL K H a xs)
  (hs: ∀ i x σ H,x∈xs→i < xs.length→Pv i σ H→g x σ H fun σ2 H2=>tb {D with nx:=Pv (i+1),ct:=Pv (i+1),bk:=D.nx} σ2 H2) (hd: ∀ σ H,Pv xs.length σ H→D.nx σ H):
  ∃ W:Nat→Nat→L2.St→Hp→Prop,(∃ m,W 0 m σ H)∧∀ i m σ H,W i m σ H→
   ((ItV K a xs).stop i H∧D.nx σ H)∨((ItV K a xs).go i H∧∃ N:L2.St→Hp→Prop,(∀ σ' H',N σ' H'→∃ m',m' < m∧W (i+1) m' σ' H')∧∀ x H',(ItV K a xs).yld i H x H'→g x σ H' fun σ2 H2=>tb {D with nx:=N,ct:=N,bk:=D.nx} σ2 H2):=by
 refine⟨fun i m σ H=>m=xs.length - i∧i≤xs.length∧Pv i σ H,⟨xs.length,by simp,Nat.zero_le _,h0⟩,?_⟩
 rintro i m σ H ⟨rfl,hi,p⟩
 have q:=hl i σ H hi p
 by_cases hlt:i < xs.length
 ·refine .inr ⟨⟨q,hlt⟩,Pv (i+1),fun σ' H' p'=>⟨xs.length - (i+1),by lia,rfl,hlt,p'⟩,fun x H' y=>?_⟩
  obtain⟨rfl,y⟩:=y
  exact hs i x σ _ (List.mem_reverse.mp (List.mem_of_getElem? y)) hlt p
 ·have e:i=xs.length:=by lia
  subst e
  exact .inl ⟨⟨q,rfl⟩,hd σ H p⟩
structure Pik (H:Hp) (a:Addr) (n:Nat):Prop where
 ex: ∃ (d sd k:Int),H a=some (.lst [.int d,.int sd,.int k])∧0≤d∧0≤sd∧sd < 2305843009213693951∧0≤k∧k≤n
noncomputable def spPick:Sp:=fun vs H Q _=> ∃ (a:Addr) (n:Nat) (m:Int),vs=[.ref a,.int m]∧Pik H a n∧n < 1000000∧0 < m∧m < 1073741824∧
 ∀ (d:Int) (o:HO),0≤d→d < m→Pik (upd H a o) a (n+1)→Q (.int d) (upd H a o)
def spStart (K:PySem.W.Frag):Sp:=fun vs H Q _=> ∃ (a:Addr) (ns:List Int),vs=[.ref a]∧SqL K H a (ns.map V.int)∧ns.length≤63∧∀ (b:Addr) (H':Hp),Same H H'→Pik H' b 0→Q (.ref b) H'
abbrev famPik (K:PySem.W.Frag) (tabs:List (Addr×Str)):Fam:=⟨K,spPick,tabs⟩
noncomputable def pikBg (K:PySem.W.Frag) (tabs:List (Addr×Str)) (a:Addr):Bg (famPik K tabs) where
 B:=a
 priv:=fun p=>p=a∨p∈tabs.map (·.1)
 ok:=fun H n=>(∃ k,k+n≤1000000∧Pik H a k)∧∀ e∈tabs,TabAt H e
 pB:=.inl rfl
 keep:=fun H H' n k h=>by
  obtain⟨⟨j,hj,b⟩,ht⟩:=h
  obtain⟨d,sd,k',h1,r⟩:=b.ex
  exact⟨⟨j,hj,d,sd,k',k a _ (.inl (.inl rfl)) h1,r⟩,fun e he=>(ht e he).keep (fun ps z=>k _ _ (.inl (.inr (List.mem_map_of_mem he))) z) fun b ob u z=>k _ _ (.inr trivial) z⟩
 tp:=fun e he=>.inr (List.mem_map_of_mem he)
 tab:=fun H n h=>h.2
 tset:=fun H H' n h h1 h2=>by
  obtain⟨⟨j,hj,b⟩,ht⟩:=h
  obtain⟨d,sd,k',g1,r⟩:=b.ex
  have no:a∉tabs.map (·.1):=fun z=>by
   obtain⟨e',he',z2⟩:=List.mem_map.mp z
   obtain⟨ps,e2,_⟩:=ht e' he'
   rw[z2,g1] at e2;cases e2
  exact⟨⟨j,hj,d,sd,k',h2 a _ no g1,r⟩,h1⟩
 dom:=fun H n p h z=>by
  obtain⟨⟨j,hj,b⟩,ht⟩:=h
  obtain⟨d,sd,k',g1,r⟩:=b.ex
  rcases z with rfl|z
  ·exact⟨_,g1⟩
  ·obtain⟨e',he',rfl⟩:=List.mem_map.mp z
   obtain⟨ps,e3,_⟩:=ht e' he'
   exact⟨_,e3⟩
 dr:=fun H n m Q E ok h0 h1 q=>by
  obtain⟨⟨k,hk,b⟩,ht⟩:=ok
  obtain⟨_,_,_,e1,_⟩:=id b.ex
  exact⟨a,k,m,rfl,b,by lia,h0,h1,fun d o d0 d1 b'=>q d _ d0 d1 (fun p u np hp=>.of (by rw[upd_ne np];exact hp)) ⟨⟨k+1,by lia,b'⟩,fun e he=>(ht e he).keep (fun ps z=>by rw[upd_ne (ne_of z e1 (by intro y;cases y))];exact z) fun b ob u z=>by rw[upd_ne (ne_of z e1 (by intro y;cases y))];exact z⟩⟩
theorem law_okP {tabs:List (Addr×Str)} {P:Program} {w:World} {K:PySem.W.Frag} {mg:Str→Option Value} {base:Heap} {x qual:Str} {st s0:Stmt} {f:Addr} {fd:FuncData} {N:List Str} {k b:Nat} {m:PEnv→M Fl} {rest:List Stmt} {sc:Scope} (F:Fun K x qual st f fd) (S:FnScope N ["_law_script"] (defScope st)) (eb:defBody st=s0::rest) (es:defScope st=sc)
  (h0: ∀ (cdv:Value) (A:Around) (outer:List Env) (s:Shared) (H:Hp) (E:XK),Room k (A.deeper (envOfC qual sc s.heap.objs.size f cdv))→BS (cxOf CX0 P w K mg base N qual sc f cdv A outer s H E).nox s0 (tAsg (tCall (spStart K) [] E0 (tCons (tVar 0) tNil)) (gName b)))
  (hb: ∀ (cdv:Value) (A:Around) (outer:List Env) (s:Shared) (H:Hp) (E:XK),Room k (A.deeper (envOfC qual sc s.heap.objs.size f cdv))→SsV (famPik K tabs) (cxOf CX0 P w K mg base N qual sc f cdv A outer s H E).nox rest m)
  (hm:(m ((List.replicate N.length un).set b (.val .bag))).wp 1000000 fun f _=>f= .rt (.bl true)) (h1:0 < N.length) (hb1:b < N.length) (hb0:b≠0):
  FnOk P w K mg base CX0 (k+1) f fd ["_law_script"] (spLawT K (tabs.map (·.1))):=by
 subst es
 refine F.ok S (fun vs H Q E h=>by obtain⟨a,ns,rfl,_⟩:=h;rfl) (fun cdv A outer s H vs Q E hr h=>?_)
 rw[eb]
 refine⟨_,pss_cons (h0 cdv A outer s H E hr).out (hb cdv A outer s H E hr).out,?_⟩
 obtain⟨a,ns,rfl,hS,h63,ht,q⟩:=h
 refine⟨.ref a,?_,a,ns,rfl,hS,h63,fun b' H' sm bag=>?_⟩
 ·exact start_get (N:=N) rfl
 ·have hl:(start N [V.ref a]).length=N.length:=by
   unfold start
   simp only[List.length_append,List.length_map,List.length_replicate,List.length_cons,List.length_nil]
   lia
  have okT:(pikBg K tabs b').ok H' 1000000:=⟨⟨0,by lia,bag⟩,fun e he=>⟨#[],sm _ _ (ht _ (List.mem_map_of_mem he)),trivial,fun pos cv z=>nomatch z⟩⟩
  have no: ∀ i p,¬ OwnAt ((List.replicate N.length un).set b (.val .bag)) ((start N [V.ref a]).set b (some (V.ref b'))) i p:=fun i p hh=>by
   obtain⟨t,g1,g2,_⟩:=hh
   by_cases e:b=i
   ·subst e
    rw[List.getElem?_set_self (by simpa using hb1)] at g1
    cases g1;cases g2
   ·rw[List.getElem?_set_ne e,List.getElem?_replicate] at g1
    split at g1
    ·cases g1;cases g2
    ·cases g1
  refine⟨pikBg K tabs b',(pikBg K tabs b').priv,H',(pikBg K tabs b').priv,_,1000000,⟨⟨⟨by simp[hl],fun i e he=>?_⟩,okT,fun p z=>z,fun p z=>(pikBg K tabs b').dom H' 1000000 p okT z⟩,fun p z=>z,fun p z=>z,Ext.refl _ _,fun p z=>.inl z,fun p z=>(pikBg K tabs b').dom H' 1000000 p okT z,fun i p hh=>(no i p hh).elim,fun i j p hh=>(no i p hh).elim⟩,M.wp_mono hm fun f n' hf=>?_⟩
  ·by_cases e1:b=i
   ·subst e1
    rw[List.getElem?_set_self (by simpa using hb1)] at he
    cases he
    rw[List.getElem?_set_self (by lia)]
    exact⟨_,rfl,.bag⟩
   ·rw[List.getElem?_set_ne e1,List.getElem?_replicate] at he
    split at he
    ·cases he;trivial
    ·cases he
  ·subst hf
   intro x' H2 _ _ r2
   cases r2
   exact q H2
end L2
namespace HT
open L2
open L2.Ent (val un)
end HT
namespace L2
open Ent (val un)
section
variable {X:Cx} {pZ:List (Addr×Obj)} {σ:St} {H:Hp} {s:Shared} {d:Addr} {o:Obj} {ks:List (Key×V)}
theorem hok_swap (x:HOk P w H h) (e:H d=some u) (no: ∀ y,u≠.own y) (nt: ∀ xs,u≠.tup xs) (new:ObjOk P w H h d u'):HOk P w (upd H d u') h:=fun b v q=>by
 have ho: ∀ y c,H c=some (.own y)→upd H d u' c=some (.own y):=fun y c g=>by
  rw[upd_ne (fun z=>by subst z;rw[e] at g;exact no y (Option.some.inj g))];exact g
 have ht: ∀ c xs,H c=some (.tup xs)→upd H d u' c=some (.tup xs):=fun c xs g=>by
  rw[upd_ne (fun z=>by subst z;rw[e] at g;exact nt xs (Option.some.inj g))];exact g
 by_cases hb:b=d
 ·subst hb
  rw[upd_same] at q;cases q
  exact new.stay (fun _ _ _ g=>g) (fun c g=>ho _ c g) ht
 ·rw[upd_ne hb] at q
  exact(x b v q).stay (fun _ _ _ g=>g) (fun c g=>ho _ c g) ht
theorem Inv.swap (I:Inv X pZ σ H s) (e:H d=some u) (no: ∀ y,u≠.own y) (nt: ∀ xs,u≠.tup xs) (nb: ∀ ps,u≠.tbl ps) (nf: ∀ ob v,X.H₀ d=some (.frz ob v)→u'= .frz ob v) (new:ObjOk X.prog X.w H s.heap d u'):Inv X pZ σ (upd H d u') s:=by
 have nn: ∀ b,H b=none→upd H d u' b=none:=fun b g=>by
  rw[upd_ne (fun z=>by subst z;rw[e] at g;cases g)];exact g
 refine⟨I.ok,I.os,I.bare,⟨I.base.keep,I.base.slot,fun b o q n hx=>nn b (I.base.free b o q n hx),I.base.there,fun b xs q=>?_,fun b ob v q=>?_,fun b ps q=>?_⟩,I.loc,I.cell,nn _ I.free,fun x c q=>nn _ (I.freeC x c q),fun p hp=>?_,hok_swap I.hok e no nt new,I.len⟩
 ·have g:=I.base.tups b xs q
  rw[upd_ne (fun z=>by subst z;rw[e] at g;exact nt xs (Option.some.inj g))];exact g
 ·by_cases hb:b=d
  ·subst hb
   rw[upd_same,nf ob v q]
  ·rw[upd_ne hb];exact I.base.frzs b ob v q
 ·obtain⟨more,g⟩:=I.base.tbls b ps q
  exact⟨more,by rw[upd_ne (fun z=>by subst z;rw[e] at g;exact nb _ (Option.some.inj g))];exact g⟩
 ·obtain⟨a1,a2,a3⟩:=I.pin p hp
  exact⟨a1,nn _ a2,a3⟩
def Was (X:Cx) (d:Addr) (o:Obj) (ks:List (Key×V)) (u:HO):Prop:=(u= .dK ks∧∀ ob v,X.H₀ d≠some (.frz ob v))∨u= .frz o (.dK ks)
theorem Inv.know (I:Inv X pZ σ H s) (r:Rd H d (.dK ks)): ∃ o u,s.heap.get? d=some o∧H d=some u∧Was X d o ks u∧Inv X pZ σ (upd H d (.frz o (.dK ks))) s:=by
 rcases r with e|⟨o,e⟩
 ·obtain⟨_,_,vs,_,o,es,ep,g,_⟩:=I.hok d _ e
  refine⟨o,_,g,e,.inl ⟨rfl,fun ob v q=>?_⟩,I.swap e (fun _ z=>nomatch z) (fun _ z=>nomatch z) (fun _ z=>nomatch z) (fun ob v q=>?_) ⟨g,I.hok d _ e⟩⟩
  ·have:=I.base.frzs d ob v q;rw[e] at this;cases this
  ·have:=I.base.frzs d ob v q;rw[e] at this;cases this
 ·obtain⟨g,_⟩:=I.hok d _ e
  refine⟨o,_,g,e,.inr rfl,I.swap e (fun _ z=>nomatch z) (fun _ z=>nomatch z) (fun _ z=>nomatch z) (fun ob v q=>?_) (I.hok d _ e)⟩
  have:=I.base.frzs d ob v q;rw[e] at this;exact Option.some.inj this
theorem Inv.thaw (I:Inv X pZ σ H s) (e:H d=some (.frz o (.dK ks))) (w:Was X d o ks u):Inv X pZ σ (upd H d u) s:=by
 rcases w with⟨rfl,nf⟩|rfl
 ·exact I.swap e (fun _ z=>nomatch z) (fun _ z=>nomatch z) (fun _ z=>nomatch z) (fun ob v q=>absurd q (nf ob v)) (I.hok d _ e).2
 ·exact I.swap e (fun _ z=>nomatch z) (fun _ z=>nomatch z) (fun _ z=>nomatch z) (fun ob v q=>by have:=I.base.frzs d ob v q;rw[e] at this;exact Option.some.inj this) (I.hok d _ e)
def thawed (X:Cx) (P:Hp→Prop) (H:Hp):Prop:= ∃ d o ks u,H d=some (.frz o (.dK ks))∧Was X d o ks u∧P (upd H d u)
def Ends.thaw (X:Cx) (D:Ends):Ends:=⟨fun σ H=>thawed X (D.nx σ) H,fun v H=>thawed X (D.rt v) H,fun σ H=>thawed X (D.bk σ) H,fun σ H=>thawed X (D.ct σ) H⟩
theorem ps_thaw {st:Stmt} {t:TS} (h:PS X st t):PS X st (fun D σ H=>t (D.thaw X) σ H):=fun pZ s σ H D I q=>by
 refine thn (h pZ s σ H (D.thaw X) I q) fun f s1 q1=>?_
 cases f with
 |next=>obtain⟨σ',H',I',d,o,ks,u,e,w,p⟩:=q1;exact⟨σ',_,I'.thaw e w,p⟩
 |brk=>obtain⟨σ',H',I',d,o,ks,u,e,w,p⟩:=q1;exact⟨σ',_,I'.thaw e w,p⟩
 |cont=>obtain⟨σ',H',I',d,o,ks,u,e,w,p⟩:=q1;exact⟨σ',_,I'.thaw e w,p⟩
 |ret v=>obtain⟨x,σ',H',I',r,d,o,ks,u,e,w,p⟩:=q1;exact⟨x,σ',_,I'.thaw e w,r,p⟩
theorem kV_of (h:(mixKind P w).is k u=true):RelV (kV k) u:=by
 rw[mixKind_is] at h
 rcases keyIs_shape h with⟨i,t,rfl,rfl⟩|⟨x,t,rfl,rfl⟩
 ·exact⟨t,rfl⟩
 ·exact⟨t,rfl⟩
noncomputable def Itd (d:Addr) (o:Obj) (ks:List (Key×V)):It:=
 ⟨fun i H=>H d=some (.frz o (.dK ks))∧i < ks.length,fun i H x H'=>H'=H∧∃ k,(ks.map (·.1))[i]?=some k∧x=kV k,fun i H=>H d=some (.frz o (.dK ks))∧ks.length≤i⟩
theorem KV.at {kvs:List (Key×V)} {vs:List (Key×Value)} (r:KV kvs vs) (i:Nat) (h:i < kvs.length): ∃ k v,vs[i]?=some (k,v)∧(kvs.map (·.1))[i]?=some k:=by
 have hl:=r.length
 refine⟨(vs[i]'(by lia)).1,(vs[i]'(by lia)).2,by rw[List.getElem?_eq_getElem],?_⟩
 rw[KV.keys r,List.getElem?_map,List.getElem?_eq_getElem (by lia)]
 rfl
theorem turn_dict {P:Program} {w:World} {K:PySem.W.Frag} {tg:Expr} {vs:List (Key×Value)} {es:Array DictEntry} {ep:Nat} (d it:Addr) (o:Obj) (ks:List (Key×V)) (r:KV ks vs) (ho:o.ExactDict∧o.data= .dict es ep∧KeysOf (mixKind P w) es∧Pairs (mixKind P w) es.toList vs∧(vs.map (·.1)).Nodup):
  Turn P w K tg (Itd d o ks) [it] it (fun i h=>h.IsKeyIter it d i vs.length ep) where
 mem:=by simp
 obj:=fun i h st b hb=>by
  have e:b=it:=by simpa using hb
  subst e
  obtain⟨o,e,c,d⟩:=st
  exact⟨o,e,fun v z=>by rw[d] at z;cases z⟩
 keep:=fun i h h' st k=>st.at fun o e=>k it (by simp) o e
 item:=by
  intro X hP hw hK hc i pZ s σ H E I hf st hg
  subst hP hw hK
  obtain⟨e,hi⟩:=hg
  obtain⟨g,_⟩:=I.hok d _ e
  obtain⟨f0,f1,f2,f3,f4,f5⟩:=hf it (by simp)
  obtain⟨k,v,hk,hk'⟩:=r.at i hi
  refine wpAny_pyNext_dict_item (knd:=mixKind X.prog X.w) st ⟨o,es,g,ho⟩ hk fun key h' ik st' sb=>?_
  have I1:Inv X pZ σ H {s with heap:=h'}:=I.turned (t':=s.toks) (fun b o hb e=>(sb.2 b hb).trans e) f0 f1 f3 f4 f5
  obtain⟨o',e',c',d'⟩:=id st'
  exact⟨key,rfl,go_of (s:={s with heap:=h'}) e' c' d' (by decide) ⟨kV k,H,I1,kV_of ik,⟨rfl,k,hk',rfl⟩,st',fun b hb=>(hf b hb).1⟩⟩
 done:=by
  intro X hP hw hK hc i pZ s σ H E I hf st hg
  subst hP hw hK
  obtain⟨e,hi⟩:=hg
  obtain⟨g,_⟩:=I.hok d _ e
  obtain⟨f0,f1,f2,f3,f4,f5⟩:=hf it (by simp)
  have hl:=r.length
  exact wpAny_pyNext_dict_end (knd:=mixKind X.prog X.w) (I.ok.hd hc) st ⟨o,es,g,ho⟩ (List.getElem?_eq_none_iff.mpr (by lia)) fun h' eb=>⟨rfl,I.turned (t':=s.toks) (fun b o hb e=>eb b o hb e) f0 f1 f3 f4 f5⟩
 self:=fun _ _ _ _ _ st h=>wpAny_pyIter_keyiter st h
def iDict (X:Cx) (td:TE):TI:=fun σ H R=>td σ H fun x H1=> ∃ d ks,x= .ref d∧Rd H1 d (.dK ks)∧∀ o u,H1 d=some u→Was X d o ks u→R (Itd d o ks) (upd H1 d (.frz o (.dK ks)))
theorem pi_dict {l:Expr} {tg:Expr} {td:TE} (hl:PE X l td):PI X tg l (iDict X td):=by
 intro pZ s σ H R I h
 refine thn (hl pZ s σ H _ I h) fun v s1 ⟨x,H1,I1,r1,q1⟩=>?_
 obtain⟨a,ks,e,hq,q⟩:=q1
 subst e
 cases r1
 obtain⟨o,u,g,eu,wu,I2⟩:=I1.know hq
 obtain⟨_,hs,vs,r,ob,es,ep,g',rest⟩:=hq.ok I1.hok
 rw[g] at g';cases g'
 refine wpAny_pyIter_dict (knd:=mixKind X.prog X.w) (kvs:=vs) (ep:=ep) hs ⟨o,es,g,rest⟩ ?_
 refine⟨s1.heap.objs.size,[s1.heap.objs.size],_,_,_,rfl,I2.kept (t':=s1.toks) fun b o e=>Heap.get?_push_of_some _ e,turn_dict a _ o ks r rest,⟨_,Heap.get?_push_size _ rfl,rfl,rfl⟩,fun b hb=>?_,q o u eu wu⟩
 have e:b=s1.heap.objs.size:=by simpa using hb
 subst e
 exact I2.fpOk (Nat.le_refl _) (I2.hok.fresh (Nat.le_refl _))
end
section
variable {φ:Fam} {G:Bg φ} {O0 O:Addr→Prop} {H0 H H':Hp} {σ:St} {ρ:PEnv} {n n':Nat}
theorem SI.setD (s:SI G O0 H0 O H σ ρ n) (k:Nat) (x:Ext G.B H H') (ok:G.ok H' n') (hp:H p=none) (hp':H' p=some (.dK xs)) (r:RepsK G.B (fun q=>O q∨q=p) H' l xs):
  SI G O0 H0 (fun q=>O q∨q=p) H' (σ.set k (some (.ref p))) (ρ.set k (.ownD l)) n':=by
 have nO: ¬ O p:=fun z=>by obtain⟨o,g⟩:=s.es.dm p z;rw[hp] at g;cases g
 have np: ¬ G.priv p:=fun z=>nO (s.es.pr p z)
 have h0:H0 p=none:=by
  cases e:H0 p with
  |none=>rfl
  |some o=>obtain⟨_,this⟩:=(s.ext p o (fun z=>np (z▸G.pB)) e).there;rw[hp] at this;cases this
 have hB:O G.B:=s.es.B
 have gw: ∀ q,(O q∨q=p)→O q∨H q=none:=fun q z=>by
  rcases z with z|z
  ·exact .inl z
  ·subst z;exact .inr hp
 have s':=s.es.ext x ok
 have es:ES G (fun q=>O q∨q=p) H' σ ρ n':=by
  refine⟨⟨s.es.er.1,fun i e he=>?_⟩,ok,fun q z=>.inl (s.es.pr q z),fun q z=>?_⟩
  ·have r1:=s.es.er.2 i e he
   cases e with
   |un=>trivial
   |val y=>obtain⟨v,hv,rr⟩:=r1;exact⟨v,hv,(rr.grow gw).ext (.inl hB) x⟩
   |own t=>
    obtain⟨q,ys,hv,hq,nq,hh,rr⟩:=r1
    exact⟨q,ys,hv,.inl hq,nq,x q _ (fun z=>nq (z▸G.pB)) hh,(rr.grow gw).ext (.inl hB) x⟩
   |ownD t=>
    obtain⟨q,ys,hv,hq,nq,hh,rr⟩:=r1
    exact⟨q,ys,hv,.inl hq,nq,x q _ (fun z=>nq (z▸G.pB)) hh,⟨rr.1,fun i a b c d=>((rr.2 i a b c d).grow gw).ext (.inl hB) x⟩⟩
  ·rcases z with z|z
   ·exact s'.dm q z
   ·subst z;exact⟨_,hp'⟩
 have ow: ∀ i q,OwnAt (ρ.set k (.ownD l)) (σ.set k (some (.ref p))) i q→(i=k∧q=p)∨(i≠k∧OwnAt ρ σ i q):=fun i q h=>by
  obtain⟨t,h1,h2,h3⟩:=h
  by_cases hk:k=i
  ·subst hk
   rw[List.getElem?_set] at h3
   split at h3
   ·split at h3
    ·cases h3;exact .inl ⟨rfl,rfl⟩
    ·cases h3
   ·rename_i hh;exact absurd rfl hh
  ·rw[List.getElem?_set_ne hk] at h1 h3
   exact .inr ⟨fun z=>hk z.symm,t,h1,h2,h3⟩
 refine⟨es.set k (t:=.ownD l) ⟨p,xs,rfl,.inr rfl,np,hp',r⟩,s.p0,fun q z=>.inl (s.sub q z),s.ext.trans x,fun q z=>?_,s.d0,fun i q h=>?_,fun i j q h h'=>?_⟩
 ·rcases z with z|z
  ·exact s.gr q z
  ·subst z;exact .inr h0
 ·rcases ow i q h with⟨_,rfl⟩|⟨_,h⟩
  ·exact h0
  ·exact s.fr i q h
 ·rcases ow i q h with⟨rfl,rfl⟩|⟨n1,h1⟩
  ·rcases ow j q h' with⟨rfl,_⟩|⟨n2,h2⟩
   ·rfl
   ·obtain⟨_,_,o,g⟩:=ownAt_O s.es h2;rw[hp] at g;cases g
  ·rcases ow j q h' with⟨rfl,rfl⟩|⟨n2,h2⟩
   ·obtain⟨_,_,o,g⟩:=ownAt_O s.es h1;rw[hp] at g;cases g
   ·exact s.dj i j q h1 h2
theorem SI.putD (s:SI G O0 H0 O H σ ρ n) {k:Nat} {l l':List (Key×PV)} {p:Addr} {xs':List (Key×V)} (hk:ρ[k]?=some (.ownD l)) (hp:σ[k]?=some (some (.ref p))) (r:RepsK G.B O H l' xs'):SI G O0 H0 O (upd H p (.dK xs')) σ (ρ.set k (.ownD l')) n:=by
 have ho:OwnAt ρ σ k p:=⟨_,hk,rfl,hp⟩
 obtain⟨hO,np,o,hh⟩:=ownAt_O s.es ho
 have nfz:=ownAt_nf s.es ho hh
 have kp: ∀ q u,¬ O q→H q=some u→upd H p (.dK xs') q=some u∧¬ O q:=fun q u nq hq=>⟨by
  have hne:q≠p:=fun z=>nq (z▸hO)
  rw[upd_ne hne];exact hq,nq⟩
 have ow: ∀ i q,OwnAt (ρ.set k (.ownD l')) σ i q→OwnAt ρ σ i q:=fun i q h=>by
  obtain⟨t,h1,h2,h3⟩:=h
  by_cases e:k=i
  ·subst e;exact⟨_,hk,rfl,h3⟩
  ·rw[List.getElem?_set_ne e] at h1;exact⟨t,h1,h2,h3⟩
 refine⟨⟨⟨by simp[s.es.er.1],fun i e he=>?_⟩,G.keep H _ _ (fun q u hq hu=>by
   have hne:q≠p:=fun z=>by
    rcases hq with hq|hq
    ·exact np (z▸hq)
    ·rw[z,hh] at hu;cases hu;exact nfz hq
   rw[upd_ne hne];exact hu) s.es.ok,s.es.pr,fun q hq=>?_⟩,s.p0,s.sub,fun q u nb hq=>?_,s.gr,s.d0,fun i q h=>s.fr i q (ow i q h),fun i j q h h'=>s.dj i j q (ow i q h) (ow j q h')⟩
 ·by_cases e1:k=i
  ·subst e1
   have hl:k < ρ.length:=(List.getElem?_eq_some_iff.mp hk).1
   rw[List.getElem?_set_self hl] at he
   cases he
   rw[hp]
   exact⟨p,xs',rfl,hO,np,upd_same,r.keep kp⟩
  ·rw[List.getElem?_set_ne e1] at he
   have r1:=s.es.er.2 i e he
   cases e with
   |un=>trivial
   |val y=>obtain⟨v,hv,rr⟩:=r1;exact⟨v,hv,rr.keep kp⟩
   |own t=>
    obtain⟨q,ys,hv,hq,nq,hh',rr⟩:=r1
    have hne:q≠p:=fun z=>by
     subst z
     exact e1 (s.dj k i q ho ⟨_,he,rfl,sig_of s.es.er he hv⟩)
    exact⟨q,ys,hv,hq,nq,by rw[upd_ne hne];exact hh',rr.keep kp⟩
   |ownD t=>
    obtain⟨q,ys,hv,hq,nq,hh',rr⟩:=r1
    have hne:q≠p:=fun z=>by
     subst z
     exact e1 (s.dj k i q ho ⟨_,he,rfl,sig_of s.es.er he hv⟩)
    exact⟨q,ys,hv,hq,nq,by rw[upd_ne hne];exact hh',rr.keep kp⟩
 ·by_cases e1:q=p
  ·subst e1;exact⟨_,upd_same⟩
  ·obtain⟨u,g⟩:=s.es.dm q hq;exact⟨u,by rw[upd_ne e1];exact g⟩
 ·have hne:q≠p:=fun z=>by subst z;rw[s.fr k q ho] at hq;cases hq
  exact(s.ext q u nb hq).to fun v e=>.of (by rw[upd_ne hne];exact e)
end
def valP (l:List (Key×PV)) (k:Key):Option PV:=(l.find? fun kv=>decide (kv.1=k)).map (·.2)
def putP (l:List (Key×PV)) (k:Key) (y:PV):List (Key×PV):=
 if(l.any fun kv=>decide (kv.1=k))=true then l.map (fun kv=>if kv.1=k then(kv.1,y) else kv) else l++[(k,y)]
def keyP:Key→PV
 | .inl i=>.int i
 | .inr x=>.str x
def keyO:PV→Option Key
 | .int i=>some (.inl i)
 | .str x=>some (.inr x)
 |_=>none
section
variable {B:Addr} {O:Addr→Prop} {H:Hp}
theorem RepsK.nil:RepsK B O H [] []:=⟨rfl,fun i y x a=>by simp at a⟩
theorem RepsK.cons {y:Key×PV} {x:Key×V} {l:List (Key×PV)} {ks:List (Key×V)} (e:y.1=x.1) (r:Rep B O H y.2 x.2) (t:RepsK B O H l ks):RepsK B O H (y::l) (x::ks):=by
 refine⟨by simp[e,t.1],fun i a b h1 h2=>?_⟩
 cases i with
 |zero=>simp at h1 h2;subst h1 h2;exact r
 |succ i=>simp at h1 h2;exact t.2 i a b h1 h2
theorem RepsK.inv (r:RepsK B O H l ks):(l=[]∧ks=[])∨∃ y l' x ks',l=y::l'∧ks=x::ks'∧y.1=x.1∧Rep B O H y.2 x.2∧RepsK B O H l' ks':=by
 cases l with
 |nil=>exact .inl ⟨rfl,by have:=r.1;simpa using this.symm⟩
 |cons y l=>
  cases ks with
  |nil=>have:=r.1;simp at this
  |cons x ks=>
   have h:=r.1
   simp only[List.map_cons,List.cons.injEq] at h
   exact .inr ⟨y,l,x,ks,rfl,rfl,h.1,r.2 0 y x rfl rfl,h.2,fun i a b h1 h2=>r.2 (i+1) a b (by simpa using h1) (by simpa using h2)⟩
theorem RepsK.val (k:Key): ∀ {l:List (Key×PV)} {ks:List (Key×V)},RepsK B O H l ks→(valP l k=none∧valV ks k=none)∨∃ y x,valP l k=some y∧valV ks k=some x∧Rep B O H y x
 |[],ks,r=>by
  rcases r.inv with⟨_,rfl⟩|⟨_,_,_,_,e,_⟩
  ·exact .inl ⟨rfl,rfl⟩
  ·cases e
 |y::l,ks,r=>by
  rcases r.inv with⟨e,_⟩|⟨y',l',x,ks',e,rfl,ek,ry,rt⟩
  ·cases e
  ·cases e
   by_cases c:y.1=k
   ·refine .inr ⟨y.2,x.2,by simp[valP,c],?_,ry⟩
    exact valV_pos (ek.symm.trans c)
   ·have c': ¬ x.1=k:=fun z=>c (ek.trans z)
    rw[valV_neg c']
    have e1:valP (y::l) k=valP l k:=by simp[valP,List.find?_cons,c]
    rw[e1]
    exact RepsK.val k rt
theorem RepsK.any (k:Key) (r:RepsK B O H l ks):(l.any fun kv=>decide (kv.1=k))=ks.any fun kv=>decide (kv.1=k):=by
 have e1:(l.any fun kv=>decide (kv.1=k))=(l.map (·.1)).any fun z=>decide (z=k):=by rw[List.any_map];rfl
 have e2:(ks.any fun kv=>decide (kv.1=k))=(ks.map (·.1)).any fun z=>decide (z=k):=by rw[List.any_map];rfl
 rw[e1,e2,r.1]
theorem RepsK.snoc (rx:Rep B O H y x): ∀ {l:List (Key×PV)} {ks:List (Key×V)},RepsK B O H l ks→RepsK B O H (l++[(k,y)]) (ks++[(k,x)])
 |[],ks,r=>by
  rcases r.inv with⟨_,rfl⟩|⟨_,_,_,_,e,_⟩
  ·exact RepsK.cons (y:=(k,y)) (x:=(k,x)) rfl rx RepsK.nil
  ·cases e
 |z::l,ks,r=>by
  rcases r.inv with⟨e,_⟩|⟨y',l',x',ks',e,rfl,ek,ry,rt⟩
  ·cases e
  ·cases e
   exact RepsK.cons ek ry (RepsK.snoc rx rt)
theorem RepsK.repl (rx:Rep B O H y x): ∀ {l:List (Key×PV)} {ks:List (Key×V)},RepsK B O H l ks→RepsK B O H (l.map fun kv=>if kv.1=k then(kv.1,y) else kv) (ks.map fun kv=>if kv.1=k then(kv.1,x) else kv)
 |[],ks,r=>by
  rcases r.inv with⟨_,rfl⟩|⟨_,_,_,_,e,_⟩
  ·exact RepsK.nil
  ·cases e
 |z::l,ks,r=>by
  rcases r.inv with⟨e,_⟩|⟨y',l',x',ks',e,rfl,ek,ry,rt⟩
  ·cases e
  ·cases e
   rw[List.map_cons,List.map_cons]
   by_cases c:z.1=k
   ·rw[if_pos c,if_pos (ek.symm.trans c)]
    exact RepsK.cons ek rx (RepsK.repl rx rt)
   ·rw[if_neg c,if_neg (fun q=>c (ek.trans q))]
    exact RepsK.cons ek ry (RepsK.repl rx rt)
theorem RepsK.put {k:Key} {y:PV} {x:V} {l:List (Key×PV)} {ks:List (Key×V)} (r:RepsK B O H l ks) (rx:Rep B O H y x):RepsK B O H (putP l k y) (putK ks k x):=by
 unfold putP putK
 rw[r.any k]
 split
 ·exact r.repl rx
 ·exact r.snoc rx
theorem keyP_rep (k:Key):Rep B O H (keyP k) (kV k):=by
 cases k with
 |inl i=>exact .int i
 |inr x=>exact .str x
end
theorem keyO_rep {φ:Fam} {G:Bg φ} {O:Addr→Prop} {H:Hp} {y:PV} {x:V} {k:Key} (r:RepB G O H y x) (e:keyO y=some k):x=kV k:=by
 cases y<;>first|cases e|skip
 ·rw[r.int_i];rfl
 ·rw[r.str_i];rfl
theorem RepsK.len {B:Addr} {O:Addr→Prop} {H:Hp} {l:List (Key×PV)} {ks:List (Key×V)} (r:RepsK B O H l ks):l.length=ks.length:=by simpa using congrArg List.length r.1
section
variable {φ:Fam} {X:Cx} {e o i a b:Expr} {pos:Pos} {md mk mv:PEnv→M PV}
def dgetO:PV→PV→M PV
 | .dct l,y=>(M.ofO (keyO y)).bind fun k=>M.ofO (valP l k)
 |_,_=>.fail
theorem ofO_wp {α:Type} {o:Option α} {n:Nat} {R:α→Nat→Prop} (w:(M.ofO o).wp n R): ∃ y,o=some y∧R y n:=by
 cases o with
 |none=>exact w.elim
 |some y=>exact⟨y,rfl,w⟩
theorem ev_dget (h:BE X e (tDGet (teB φ md) (teB φ mk))):EV φ X e (bin2 dgetO md mk):=BE.mono h fun σ H Q hq0=>by
 obtain⟨G,O,ρ,n,R,s,w,q⟩:=hq0
 unfold bin2 at w
 rw[M.wZ] at w
 refine⟨G,O,ρ,n,_,s,w,fun y x H1 n1 e1 ok1 r1 w1=>?_⟩
 have s1:=s.ext e1 ok1
 rw[M.wZ] at w1
 refine⟨G,O,ρ,n1,_,s1,w1,fun z x' H2 n2 e2 ok2 r2 w2=>?_⟩
 cases y<;>first|exact w2.elim|skip
 rename_i l
 unfold dgetO at w2
 rw[M.wZ] at w2
 obtain⟨k,ek,w2⟩:=ofO_wp w2
 obtain⟨v,ev,w2⟩:=ofO_wp w2
 obtain⟨p,ks,rfl,hd,rr⟩:=(r1.ext s.B e2).dct_i
 rcases rr.val k with⟨z1,_⟩|⟨v',xv,z1,z2,rv⟩
 ·rw[z1] at ev;cases ev
 ·rw[z1] at ev;cases ev
  exact⟨p,xv,rfl,.inl ⟨ks,k,hd,keyO_rep r2 ek,z2.symm⟩,q _ _ _ _ (e1.trans e2) ok2 rv w2⟩
def dinO (neg:Bool):PV→PV→M PV
 |y,.dct l=>(M.ofO (keyO y)).bind fun k=>.ret (.bl ((valP l k).isSome !=neg))
 |_,_=>.fail
theorem din_core {neg:Bool} {σ:St} {H:Hp} {Q:VK} (h:teP φ (bin2 (dinO neg) mk md) σ H Q):teB φ mk σ H fun y H1=>teB φ md σ H1 fun x H2=> ∃ a o,x= .ref a∧DGet H2 a y o∧Q (.bl (o.isSome !=neg)) H2:=by
 obtain⟨G,O,ρ,n,R,s,w,q⟩:=h
 unfold bin2 at w
 rw[M.wZ] at w
 refine⟨G,O,ρ,n,_,s,w,fun z x' H1 n1 e1 ok1 r1 w1=>?_⟩
 have s1:=s.ext e1 ok1
 rw[M.wZ] at w1
 refine⟨G,O,ρ,n1,_,s1,w1,fun y x H2 n2 e2 ok2 r2 w2=>?_⟩
 cases y<;>first|(simp only[dinO] at w2;exact w2.elim)|skip
 rename_i l
 have w2':((M.ofO (keyO z)).bind fun k=>M.ret (.bl ((valP l k).isSome !=neg)):M PV).wp n2 R:=by cases z<;>exact w2
 rw[M.wZ] at w2'
 obtain⟨k,ek,w2'⟩:=ofO_wp w2'
 obtain⟨p,ks,rfl,hd,rr⟩:=r2.dct_i
 refine⟨p,valV ks k,rfl,.inl ⟨ks,k,hd,keyO_rep (r1.ext s.B e2) ek,rfl⟩,q _ _ _ _ (e1.trans e2) ok2 (.bl _) ?_⟩
 have e3:(valV ks k).isSome=(valP l k).isSome:=by
  rcases rr.val k with⟨z1,z2⟩|⟨_,_,z1,z2,_⟩<;>simp[z1,z2]
 rw[e3]
 exact w2'
theorem be_din (hu:X.A.units+1 < cLine) (hk:EB φ X a mk) (hd:EB φ X b md) (hm:behindInMarks .In b=false):EV φ X (.Compare a [.In] [b] pos) (bin2 (dinO false) mk md):=
 BE.mono ⟨pe_cmp (pc_din hu hk.out hd.out) hm⟩ fun σ H Q h=>by
  obtain h:=din_core h
  unfold tDIn
  simpa only[Bool.bne_false] using h
theorem tv_din (hu:X.A.units+1 < cLine) (hk:EB φ X a mk) (hd:EB φ X b md) (hm:behindInMarks .In b=false):TV φ X (.Compare a [.In] [b] pos) (asB (bin2 (dinO false) mk md)):=
 BT.mono ⟨pt_cmp (pc_din hu hk.out hd.out) hm⟩ (asB_in fun σ H Q h=>by
  obtain h:=din_core h
  unfold tDIn
  simpa only[Bool.bne_false] using h)
theorem be_dget (hu:X.A.units+1 < cLine) (ho:EB φ X o md) (hi:EB φ X i mk) (hs:NoSl i):EV φ X (.Subscript o i pos) (bin2 dgetO md mk):=ev_dget ⟨pe_dget hu ho.out hi.out hs⟩
end
section
variable {φ:Fam} {X:Cx} {st:Stmt}
def ownDP (k:Nat):PEnv→M Fl:=fun ρ=>.ret (.nx (ρ.set k (.ownD [])))
theorem sv_dnew (h:BS X st (tAsg tDNewK (gName k))):SV φ X st (ownDP k):=BS.mono h fun D σ H ⟨G,O0,H0,O,ρ,n,s,w⟩ p hp=>
 w _ _ _ (s.setD k (Ext.new hp _) (Bg.new s.es.ok hp _) hp upd_same RepsK.nil)
noncomputable def dputP (k:Nat) (mk mv:PEnv→M PV):PEnv→M Fl:=fun ρ=>(mv ρ).bind fun y=>match ρ[k]? with|some (.ownD l)=>(mk ρ).bind fun z=>(M.ofO (keyO z)).bind fun key=>if l.length < 100000 then .ret (.nx (ρ.set k (.ownD (putP l key y)))) else .fail|_=>.fail
theorem sv_dput {k:Nat} {mk mv:PEnv→M PV} (h:BS X st (sDPut (tVar k) (teB φ mk) (teP φ mv))):SV φ X st (dputP k mk mv):=BS.mono h fun D σ H hq0=>by
 obtain⟨G,O0,H0,O,ρ,n,s,w⟩:=hq0
 unfold dputP at w
 rw[M.wZ] at w
 refine⟨G,O,ρ,n,_,s.es,w,fun y x H1 n1 e1 ok1 r1 w1=>?_⟩
 have s1:=s.to e1 ok1
 cases hk:ρ[k]? with
 |none=>simp only[hk] at w1;exact w1.elim
 |some t=>
  cases t with
  |ownD l=>
   simp only[hk] at w1
   obtain⟨p,xs,hx,hO,np,hh,rr⟩:=s1.es.er.2 k _ hk
   have hs:=sig_of s.es.er hk hx
   have npB:p≠G.B:=fun z=>np (z▸G.pB)
   rw[M.wZ] at w1
   refine⟨_,hs,G,O,ρ,n1,_,s1.es,w1,fun i x2 H2 n2 e2 ok2 r2 w2=>?_⟩
   rw[M.wZ] at w2
   obtain⟨key,ek,w2⟩:=ofO_wp w2
   by_cases c:l.length < 100000
   ·rw[if_pos c] at w2
    have s2:=s1.to e2 ok2
    have hh2:H2 p=some (.dK xs):=e2 p _ npB hh
    refine⟨p,_,rfl,.inl ⟨xs,key,hh2,keyO_rep r2 ek,?_,rfl⟩,w2 O _ _ (s2.putD hk hs ((rr.ext s.es.B e2).put (r1.ext s.es.B e2)))⟩
    rw[←rr.len,sizeLine_eq];lia
   ·rw[if_neg c] at w2;exact w2.elim
  |_=>simp only[hk] at w1;exact w1.elim
theorem bs_dput (hu:X.A.units+1 < cLine) (ho:BE X o td) (hi:BE X i ty) (hv:BE X value tv) (hs:swapsWith value (some (.Subscript o i pos')) pos.line X.env=pure false:=by rfl):
  BS X (.Assign [.Subscript o i pos'] value pos) (sDPut td ty tv):=⟨ps_dput hu ho.out hi.out hv.out hs⟩
end
def DK (ks:List (Key×V)) (u:HO):Prop:=u= .dK ks∨∃ o,u= .frz o (.dK ks)
theorem DK.rd (h:DK ks u) (e:H p=some u):Rd H p (.dK ks):=by
 rcases h with rfl|⟨o,rfl⟩
 ·exact .inl e
 ·exact .inr ⟨o,e⟩
theorem DK.nfz (h:DK ks u): ¬ IsFz u:=by
 rcases h with rfl|⟨o,rfl⟩<;>exact id
section
variable {B:Addr} {O:Addr→Prop} {H:Hp} {p:Addr} {ks:List (Key×V)} {u u':HO}
theorem Rep.swapD (r:Rep B O H y x) (e:H p=some u) (d:DK ks u) (d':DK ks u'):Rep B O (upd H p u') y x:=by
 have ne: ∀ q v,H q=some v→¬ DK ks v→upd H p u' q=some v:=fun q v g nd=>by
  rw[upd_ne (fun z=>by subst z;rw[e] at g;cases g;exact nd d)];exact g
 induction r with
 |non=>exact .non
 |bl b=>exact .bl b
 |int i=>exact .int i
 |str x=>exact .str x
 |tup hO h hl hr ih=>exact .tup hO (ne _ _ h (fun z=>by rcases z with z|⟨_,z⟩<;>cases z)) hl ih
 |lst hO h hl hr ih=>exact .lst hO (ne _ _ h (fun z=>by rcases z with z|⟨_,z⟩<;>cases z)) hl ih
 |scr hO h=>
  obtain⟨o,h⟩:=h
  exact .scr hO ⟨o,ne _ _ h (fun z=>by rcases z with z|⟨_,z⟩<;>cases z)⟩
 | @dct q ks' l hO h hl hr ih=>
  by_cases c:q=p
  ·subst c
   obtain rfl:=rd_inj h (d.rd e)
   exact .dct hO (d'.rd upd_same) hl ih
  ·refine .dct hO ?_ hl ih
   rcases h with h|⟨o,h⟩
   ·exact .inl (by rw[upd_ne c];exact h)
   ·exact .inr ⟨o,by rw[upd_ne c];exact h⟩
 |bag=>exact .bag
theorem hide_upd (h:q≠p):hide O0 O (upd H p u') q=hide O0 O H q:=by
 unfold hide
 by_cases c:O q∧¬ O0 q
 ·rw[if_pos c,if_pos c]
 ·rw[if_neg c,if_neg c,upd_ne h]
end
section
variable {φ:Fam} {G:Bg φ} {O0 O O':Addr→Prop} {H Ha Hx:Hp} {σ:St} {ρ:PEnv} {n:Nat} {p:Addr} {ks:List (Key×V)} {u u':HO}
theorem Ext.swapD (nO: ¬ O p) (x:Ext G.B (hide O0 O Ha) Hx):Ext G.B (hide O0 O (upd Ha p u')) (upd Hx p u'):=fun q v nb h=>by
 by_cases c:q=p
 ·subst c
  rw[hide_out (fun z=>nO z.1),upd_same] at h
  cases h
  exact .of upd_same
 ·rw[hide_upd c] at h
  exact(x q v nb h).to fun v e=>.of (by rw[upd_ne c];exact e)
theorem Bg.swapD (ok:G.ok Hx n) (np: ¬ G.priv p) (e:Hx p=some u) (d:DK ks u):G.ok (upd Hx p u') n:=G.keep Hx _ _ (fun q v hq hv=>by
 have hne:q≠p:=fun z=>by
  rcases hq with hq|hq
  ·exact np (z▸hq)
  ·rw[z,e] at hv;cases hv;exact d.nfz hq
 rw[upd_ne hne];exact hv) ok
theorem SI.swapD (s:SI G O0 (hide O0 O Ha) O' Hx σ ρ n) (nO: ¬ O p) (nO': ¬ O' p) (e:Hx p=some u) (d:DK ks u) (d':DK ks u'):SI G O0 (hide O0 O (upd Ha p u')) O' (upd Hx p u') σ ρ n:=by
 have np: ¬ G.priv p:=fun z=>nO' (s.es.pr p z)
 have ne: ∀ q,O' q→q≠p:=fun q h z=>nO' (z▸h)
 refine⟨⟨⟨s.es.er.1,fun i t ht=>?_⟩,Bg.swapD s.es.ok np e d,s.es.pr,fun q hq=>?_⟩,s.p0,s.sub,Ext.swapD nO s.ext,fun q hq=>?_,fun q hq=>?_,fun i q h=>?_,s.dj⟩
 ·have r1:=s.es.er.2 i t ht
  cases t with
  |un=>trivial
  |val y=>obtain⟨v,hv,rr⟩:=r1;exact⟨v,hv,rr.swapD e d d'⟩
  |own t=>
   obtain⟨q,ys,hv,hq,nq,hh,rr⟩:=r1
   exact⟨q,ys,hv,hq,nq,by rw[upd_ne (ne q hq)];exact hh,rr.1,fun i a b c f=>(rr.2 i a b c f).swapD e d d'⟩
  |ownD t=>
   obtain⟨q,ys,hv,hq,nq,hh,rr⟩:=r1
   exact⟨q,ys,hv,hq,nq,by rw[upd_ne (ne q hq)];exact hh,rr.1,fun i a b c f=>(rr.2 i a b c f).swapD e d d'⟩
 ·obtain⟨v,g⟩:=s.es.dm q hq
  exact⟨v,by rw[upd_ne (ne q hq)];exact g⟩
 ·rw[hide_upd (ne q hq)];exact s.gr q hq
 ·rw[hide_upd (ne q (s.sub q hq))];exact s.d0 q hq
 ·rw[hide_upd (ne q (ownAt_O s.es h).1)];exact s.fr i q h
end
section
variable {φ:Fam} {X:Cx} {st:Stmt}
def keysO:PV→M (List PV)
 | .dct l=>.ret (l.map fun kv=>keyP kv.1)
 |_=>.fail
theorem upd_id (e:H p=some u):upd H p u=H:=by
 funext q
 by_cases c:q=p
 ·subst c;rw[upd_same,e]
 ·rw[upd_ne c]
theorem Was.dk (h:Was X d o ks u):DK ks u:=by
 rcases h with⟨rfl,_⟩|rfl
 ·exact .inl rfl
 ·exact .inr ⟨o,rfl⟩
theorem sv_forD (h:BS X st (fun D σ H=>tFor (iDict X (teP φ mi)) (tgS φ bd) (tsP φ mb) (D.thaw X) σ H)):SV φ X st (mkFor (fun ρ=>(mi ρ).bind keysO) bd mb):=BS.mono h fun D σ H hq0=>by
 obtain⟨G,O0,H0,O,ρ,n,s,w⟩:=hq0
 unfold mkFor at w
 rw[M.bZ,M.wZ] at w
 refine⟨G,O,ρ,n,_,s.es,w,fun y x H1 n1 e1 ok1 r1 w1=>?_⟩
 cases y<;>first|exact w1.elim|skip
 rename_i l0
 obtain⟨l,hl⟩: ∃ l,l=l0.map fun kv=>keyP kv.1:=⟨_,rfl⟩
 replace w1:(forP bd mb l ρ).wp n1 (fun f n'=>FlOk G O0 H0 D n' f):=by rw[hl];exact w1
 cases r1 with
 | @dct p ks _ hO hd hk hr=>
 refine⟨p,ks,rfl,hd,fun o u eu wu=>?_⟩
 have s1:=s.to e1 ok1
 have sf:SI G O0 (hide O0 O (upd H1 p (.frz o (.dK ks)))) O (upd H1 p (.frz o (.dK ks))) σ ρ n1:=s1.now.swapD hO hO eu wu.dk (.inr ⟨o,rfl⟩)
 have nB:p≠G.B:=fun z=>hO (z▸s.es.B)
 have hlen:l.length=ks.length:=by rw[hl,List.length_map];simpa using congrArg List.length hk
 have hid: ∀ q:Addr,hide O0 O (upd (upd H1 p (.frz o (.dK ks))) p u) q=hide O0 O H1 q:=fun q=>by rw[upd_upd,upd_id eu]
 have hid':hide O0 O (upd (upd H1 p (.frz o (.dK ks))) p u)=hide O0 O H1:=funext hid
 have hpf:hide O0 O (upd H1 p (.frz o (.dK ks))) p=some (.frz o (.dK ks)):=by rw[hide_out (fun z=>hO z.1)];exact upd_same
 have at_: ∀ {H3:Hp},Ext G.B (hide O0 O (upd H1 p (.frz o (.dK ks)))) H3→H3 p=some (.frz o (.dK ks)):=fun x=>x p _ nB hpf
 have nO': ∀ {O':Addr→Prop} {H':Hp} {σ':St} {ρ':PEnv} {n':Nat},SI G O0 (hide O0 O (upd H1 p (.frz o (.dK ks)))) O' H' σ' ρ' n'→¬ O' p:=fun x z=>by
  rcases x.gr p z with g|g
  ·exact hO (s.sub p g)
  ·rw[hpf] at g;cases g
 have thw: ∀ {O':Addr→Prop} {H':Hp} {σ':St} {ρ':PEnv} {n':Nat},SI G O0 (hide O0 O (upd H1 p (.frz o (.dK ks)))) O' H' σ' ρ' n'→SI G O0 H0 O' (upd H' p u) σ' ρ' n':=fun x=>by
  have q:=x.swapD hO (nO' x) (at_ x.ext) (.inr ⟨o,rfl⟩) wu.dk
  rw[hid'] at q
  exact s1.back q
 refine⟨fun i m σ' H'=>m=l.length - i∧i≤l.length∧∃ (O':Addr→Prop) (ρ':PEnv) (n':Nat),SI G O0 (hide O0 O (upd H1 p (.frz o (.dK ks)))) O' H' σ' ρ' n'∧(forP bd mb (l.drop i) ρ').wp n' (fun f n'=>FlOk G O0 H0 D n' f),
  ⟨l.length,by simp,Nat.zero_le _,O,ρ,n1,sf,by simpa using w1⟩,?_⟩
 rintro i m σ' H' ⟨rfl,hi,O',ρ',n',s',w'⟩
 have hp':=at_ s'.ext
 by_cases hlt:i < l.length
 ·have hdrop:l.drop i=l[i]::l.drop (i+1):=List.drop_eq_getElem_cons hlt
  rw[hdrop] at w'
  unfold forP at w'
  refine .inr ⟨⟨hp',by lia⟩,fun σ2 H2=> ∃ (O':Addr→Prop) (ρ':PEnv) (n':Nat),SI G O0 (hide O0 O (upd H1 p (.frz o (.dK ks)))) O' H2 σ2 ρ' n'∧(forP bd mb (l.drop (i+1)) ρ').wp n' (fun f n'=>FlOk G O0 H0 D n' f),fun σ2 H2 hh=>⟨l.length - (i+1),by lia,rfl,hlt,hh⟩,fun x H2 yl=>?_⟩
  obtain⟨eH,k,ek,rfl⟩:=yl
  subst eH
  have elk:l[i]=keyP k:=by
   have g:l[i]?=some (keyP k):=by
    have g0:(l0.map fun x=>x.1)[i]?=some k:=by rw[hk];exact ek
    rw[List.getElem?_map] at g0
    rw[hl,List.getElem?_map]
    cases c:l0[i]? with
    |none=>rw[c] at g0;cases g0
    |some z=>
     rw[c] at g0
     have g1:z.1=k:=Option.some.inj g0
     show some (keyP z.1)=_
     rw[g1]
   rw[List.getElem?_eq_getElem hlt] at g
   exact Option.some.inj g
  rw[M.wZ] at w'
  refine⟨G,O0,_,O',ρ',n',_,l[i],s',by rw[elk];exact keyP_rep k,w',fun σ2 ρ2 n2 s2 w2=>?_⟩
  rw[M.wZ] at w2
  refine⟨G,O0,_,O',ρ2,n2,s2,M.wp_mono w2 fun f n3 w3=>?_⟩
  cases f with
  |nx ρ3=>exact fun O3 σ3 H3 s3=>⟨O3,ρ3,n3,s3,w3⟩
  |ct ρ3=>exact fun O3 σ3 H3 s3=>⟨O3,ρ3,n3,s3,w3⟩
  |bk ρ3=>exact fun O3 σ3 H3 s3=>⟨p,o,ks,u,at_ s3.ext,wu,w3 O3 σ3 _ (thw s3)⟩
  |rt y=>exact fun x3 H3 e3 ok3 r3=>⟨p,o,ks,u,at_ e3,wu,w3 x3 _ (by
    have q:=Ext.swapD (u':=u) hO e3
    rw[hid'] at q
    exact s1.base.trans q) (Bg.swapD ok3 (fun z=>hO (s.es.pr p z)) (at_ e3) (.inr ⟨o,rfl⟩)) (r3.swapD (at_ e3) (.inr ⟨o,rfl⟩) wu.dk)⟩
 ·have e:i=l.length:=by lia
  subst e
  rw[List.drop_length] at w'
  exact .inl ⟨⟨hp',by lia⟩,p,o,ks,u,hp',wu,w' O' σ' _ (thw s')⟩
theorem bs_forD (hp:PassesOwn (model X.prog X.w) X.A X.env X.xe) (hc:X.calm=true) (hi:BE X iter td) (hg:BG X tg g) (hb:BSs X body tb)
  (hs: ∀ x,foldedSetIterable iter X.env x=pure x:=by intro _;rfl):BS X (.For tg iter body [] pos) (fun D σ H=>tFor (iDict X td) g tb (D.thaw X) σ H):=⟨ps_thaw (ps_for hp hc (pi_dict hi.out) hg.out hb.out hs)⟩
end
section
open AutoSeq1 (wpAny_loadPart')
noncomputable def IteT (K:PySem.W.Frag) (a:Addr):It:=
 ⟨fun i H=> ∃ xs x,SqT K H a xs∧xs[i]?=some x,fun i H y H'=> ∃ T,y= .ref T∧H T=none∧∀ xs x,SqT K H a xs→xs[i]?=some x→H'=upd H T (.tup [.int i,x]),fun i H=> ∃ xs,SqT K H a xs∧xs.length≤i⟩
end
section
variable {φ:Fam}
def enumL (l:List PV):List PV:=l.mapIdx fun i x=>PV.tup [.int i,x]
inductive ItE (K:PySem.W.Frag) (G:Bg φ) (O:Addr→Prop) (H:Hp):List PV→It→Prop where
 |enL {a:Addr} {xs:List V} {l:List PV} (na: ¬ O a) (ha:H a=some (.lst xs)) (ra:Reps G.B O H l xs):ItE K G O H (enumL l) (Ite K a)
 |enT {a:Addr} {xs:List V} {l:List PV} (na: ¬ O a) (ha:H a=some (.tup xs)) (ra:Reps G.B O H l xs):ItE K G O H (enumL l) (IteT K a)
 |zpL {a b:Addr} {xs ys:List V} {l1 l2:List PV} (na: ¬ O a) (ha:H a=some (.lst xs)) (ra:Reps G.B O H l1 xs) (nb: ¬ O b) (hb:H b=some (.lst ys)) (rb:Reps G.B O H l2 ys):ItE K G O H (zipL l1 l2) (ItzL a b)
theorem enumL_at {i:Nat} (h:(enumL l)[i]?=some y): ∃ u,l[i]?=some u∧y= .tup [.int i,u]:=by
 unfold enumL at h
 rw[List.getElem?_mapIdx] at h
 cases e:l[i]? with
 |none=>rw[e] at h;cases h
 |some u=>rw[e] at h;exact⟨u,rfl,(Option.some.inj h).symm⟩
theorem enumL_len (l:List PV):(enumL l).length=l.length:=by simp[enumL]
theorem ItE.go {K:PySem.W.Frag} {G:Bg φ} {O:Addr→Prop} {H:Hp} {l:List PV} {J:It} (t:ItE K G O H l J) {i:Nat} {y:PV} (hi:l[i]?=some y):J.go i H∧∀ x H2,J.yld i H x H2→∃ T us vs,x= .ref T∧H T=none∧H2=upd H T (.tup vs)∧y= .tup us∧Reps G.B O H us vs:=by
 cases t with
 | @enL a xs l1 na ha ra=>
  obtain⟨u,e1,rfl⟩:=enumL_at hi
  obtain⟨x1,hx1,r1⟩:=ra.at e1
  refine⟨⟨xs,x1,SqL.of ha,hx1⟩,fun x H2 z=>?_⟩
  obtain⟨T,rfl,hT,q⟩:=z
  exact⟨T,[.int i,u],[.int i,x1],rfl,hT,q xs x1 (SqL.of ha) hx1,rfl,.cons (.int _) (.cons r1 .nil)⟩
 | @enT a xs l1 na ha ra=>
  obtain⟨u,e1,rfl⟩:=enumL_at hi
  obtain⟨x1,hx1,r1⟩:=ra.at e1
  refine⟨⟨xs,x1,SqT.of ha,hx1⟩,fun x H2 z=>?_⟩
  obtain⟨T,rfl,hT,q⟩:=z
  exact⟨T,[.int i,u],[.int i,x1],rfl,hT,q xs x1 (SqT.of ha) hx1,rfl,.cons (.int _) (.cons r1 .nil)⟩
 |zpL na ha ra nb hb rb=>
  rename_i a b xs ys l1 l2
  unfold zipL at hi
  rw[List.getElem?_zipWith] at hi
  cases e1:l1[i]? with
  |none=>rw[e1] at hi;simp at hi
  |some u=>
   cases e2:l2[i]? with
   |none=>rw[e1,e2] at hi;simp at hi
   |some v=>
    rw[e1,e2] at hi
    have hi':PV.tup [u,v]=y:=by simpa using hi
    obtain⟨x1,hx1,r1⟩:=ra.at e1
    obtain⟨x2,hx2,r2⟩:=rb.at e2
    refine⟨⟨xs,ys,x1,x2,ha,hb,hx1,hx2⟩,fun x H2 z=>?_⟩
    obtain⟨T,rfl,hT,q⟩:=z
    exact⟨T,[u,v],[x1,x2],rfl,hT,q xs ys x1 x2 ha hb hx1 hx2,hi'.symm,.cons r1 (.cons r2 .nil)⟩
theorem ItE.stop {K:PySem.W.Frag} {G:Bg φ} {O:Addr→Prop} {H:Hp} {l:List PV} {J:It} (t:ItE K G O H l J):J.stop l.length H:=by
 cases t with
 | @enL a xs l1 na ha ra=>exact⟨xs,SqL.of ha,by rw[enumL_len,ra.1];exact Nat.le_refl _⟩
 | @enT a xs l1 na ha ra=>exact⟨xs,SqT.of ha,by rw[enumL_len,ra.1];exact Nat.le_refl _⟩
 |zpL na ha ra nb hb rb=>
  rename_i a b xs ys l1 l2
  refine⟨xs,ys,ha,hb,?_⟩
  have h1:=ra.1
  have h2:=rb.1
  unfold zipL
  rw[List.length_zipWith]
  lia
section
variable {G:Bg φ} {O0 O:Addr→Prop} {H0 H:Hp} {σ:St} {ρ:PEnv} {n n':Nat}
theorem SI.walkE {K:PySem.W.Frag} {H1:Hp} {O':Addr→Prop} {σ':St} {ρ':PEnv} {l:List PV} {J:It} (s:SI G O0 H0 O H σ ρ n) (x:SI G O0 (hide O0 O H) O' H1 σ' ρ' n') (it:ItE K G O H l J):ItE K G O' H1 l J:=by
 have k: ∀ p o,¬ O p→H p=some o→Stand H1 p o∧¬ O' p:=fun p o np hp=>by
  have e:hide O0 O H p=some o:=by rw[hide_out (fun z=>np z.1)];exact hp
  refine⟨x.ext p o (fun z=>np (z▸s.es.B)) e,fun z=>?_⟩
  rcases x.gr p z with w|w
  ·exact np (s.sub p w)
  ·rw[w] at e;cases e
 cases it with
 |enL na ha ra=>exact .enL (k _ _ na ha).2 (k _ _ na ha).1 (ra.keepS k)
 |enT na ha ra=>exact .enT (k _ _ na ha).2 (k _ _ na ha).1 (ra.keepS k)
 |zpL na ha ra nb hb rb=>exact .zpL (k _ _ na ha).2 (k _ _ na ha).1 (ra.keepS k) (k _ _ nb hb).2 (k _ _ nb hb).1 (rb.keepS k)
end
noncomputable def tiE (φ:Fam) (K:PySem.W.Frag) (m:PEnv→M (List PV)):TI:=fun σ H Q=> ∃ (G:Bg φ) (O:Addr→Prop) (ρ:PEnv) (n:Nat) (R:List PV→Nat→Prop),ES G O H σ ρ n∧(m ρ).wp n R∧
 ∀ (l:List PV) (J:It) (H':Hp) (n':Nat),Ext G.B H H'→G.ok H' n'→ItE K G O H' l J→R l n'→Q J H'
section
variable {X:Cx} {st:Stmt} {e e2:Expr} {p pos tpos:Pos} {elts:List Expr} {kk:Nat}
def enLO:List PV→M (List PV)
 |[.lst l]=>.ret (enumL l)
 |_=>.fail
theorem enLO_inv (w:(enLO l).wp n R): ∃ l1,l=[.lst l1]:=by
 unfold enLO at w
 split at w
 ·exact⟨_,rfl⟩
 ·exact w.elim
theorem bi_enL (hg:Gl X "enumerate") (hm:X.mg "enumerate"=none) (ha:BA X [e] ta)
  (he:starEach [e] X.env=(false,eval e X.env)::starEach [] X.env:=by rfl) (hpl:(backTo pos (starEach [] X.env)).any (·.1)=false:=by rfl):BI X (.Tuple elts kk tpos) (.Call (.Name "enumerate" p) [e] [] pos) (iEnum X.K ta):=⟨pi_enum hg hm PyProof.Rows.boot_enumerate ha.out (by decide) (by decide) he hpl⟩
theorem ie_L (h:BI X tg iter (iEnum X.K (taP φ ml))):BI X tg iter (tiE φ X.K fun ρ=>(ml ρ).bind enLO):=BI.mono h fun σ H Q hq0=>by
 obtain⟨G,O,ρ,n,R,s,w,q⟩:=hq0
 rw[M.wZ] at w
 refine⟨G,O,ρ,n,_,s,w,fun l xs H1 n1 e1 ok1 r1 w1=>?_⟩
 obtain⟨l1,rfl⟩:=enLO_inv w1
 obtain⟨x1,t1,rfl,a1,r2⟩:=r1.cons_inv
 rw[r2.nil_inv]
 cases a1 with
 |lst na ha la ra=>exact⟨_,_,rfl,SqL.of ha,q _ _ _ _ e1 ok1 (.enL na ha ⟨la,ra⟩) w1⟩
def zipLO:List PV→M (List PV)
 |[.lst l1,.lst l2]=>.ret (zipL l1 l2)
 |_=>.fail
theorem zipLO_inv (w:(zipLO l).wp n R): ∃ l1 l2,l=[.lst l1,.lst l2]:=by
 unfold zipLO at w
 split at w
 ·exact⟨_,_,rfl⟩
 ·exact w.elim
theorem bi_zipL (hg:Gl X "zip") (hm:X.mg "zip"=none) (ha:BA X [e,e2] ta)
  (he:starEach [e,e2] X.env=(false,eval e X.env)::starEach [e2] X.env:=by rfl) (hpl:(backTo pos (starEach [e2] X.env)).any (·.1)=false:=by rfl):BI X (.Tuple elts kk tpos) (.Call (.Name "zip" p) [e,e2] [] pos) (iZipL ta):=⟨pi_zipL hg hm (by decide +kernel) ha.out (by decide) (by decide) he hpl⟩
theorem ie_Z (h:BI X tg iter (iZipL (taP φ ml))):BI X tg iter (tiE φ X.K fun ρ=>(ml ρ).bind zipLO):=BI.mono h fun σ H Q hq0=>by
 obtain⟨G,O,ρ,n,R,s,w,q⟩:=hq0
 rw[M.wZ] at w
 refine⟨G,O,ρ,n,_,s,w,fun l xs H1 n1 e1 ok1 r1 w1=>?_⟩
 obtain⟨l1,l2,rfl⟩:=zipLO_inv w1
 obtain⟨x1,t1,rfl,a1,r2⟩:=r1.cons_inv
 obtain⟨x2,t2,rfl,a2,r3⟩:=r2.cons_inv
 rw[r3.nil_inv]
 cases a1 with
 |lst na ha la ra=>
  cases a2 with
  |lst nb hb lb rb=>exact⟨_,_,_,_,rfl,ha,hb,q _ _ _ _ e1 ok1 (.zpL na ha ⟨la,ra⟩ nb hb ⟨lb,rb⟩) w1⟩
theorem sv_forE {mi:PEnv→M (List PV)} {bd:PV→PEnv→M PEnv} {mb:PEnv→M Fl} (h:BS X st (tFor (tiE φ X.K mi) (tgS φ bd) (tsP φ mb))):SV φ X st (mkFor mi bd mb):=BS.mono h fun D σ H hq0=>by
 obtain⟨G,O0,H0,O,ρ,n,s,w⟩:=hq0
 unfold mkFor at w
 rw[M.wZ] at w
 refine⟨G,O,ρ,n,_,s.es,w,fun l J H1 n1 e1 ok1 it w1=>?_⟩
 have s1:=s.to e1 ok1
 refine⟨fun i m σ' H'=>m=l.length - i∧i≤l.length∧∃ (O':Addr→Prop) (ρ':PEnv) (n':Nat),SI G O0 (hide O0 O H1) O' H' σ' ρ' n'∧(forP bd mb (l.drop i) ρ').wp n' (fun f n'=>FlOk G O0 H0 D n' f),
  ⟨l.length,by simp,Nat.zero_le _,O,ρ,n1,s1.now,by simpa using w1⟩,?_⟩
 rintro i m σ' H' ⟨rfl,hi,O',ρ',n',s',w'⟩
 have it':=s1.walkE s' it
 by_cases hlt:i < l.length
 ·have hget:l[i]?=some l[i]:=List.getElem?_eq_getElem hlt
  have hdrop:l.drop i=l[i]::l.drop (i+1):=List.drop_eq_getElem_cons hlt
  rw[hdrop] at w'
  unfold forP at w'
  obtain⟨g1,g2⟩:=it'.go hget
  refine .inr ⟨g1,fun σ2 H2=> ∃ (O':Addr→Prop) (ρ':PEnv) (n':Nat),SI G O0 (hide O0 O H1) O' H2 σ2 ρ' n'∧(forP bd mb (l.drop (i+1)) ρ').wp n' (fun f n'=>FlOk G O0 H0 D n' f),fun σ2 H2 hh=>⟨l.length - (i+1),by lia,rfl,hlt,hh⟩,fun x H2 yl=>?_⟩
  obtain⟨T,us,vs,rfl,hT,rfl,ey,rr⟩:=g2 x H2 yl
  have ex:Ext G.B H' (upd H' T (.tup vs)):=Ext.new hT _
  have nT: ¬ O' T:=fun z=>by obtain⟨o,g⟩:=s'.es.dm T z;rw[hT] at g;cases g
  have rx:Rep G.B O' (upd H' T (.tup vs)) l[i] (.ref T):=by
   rw[ey]
   exact .tup nT upd_same rr.1 (rr.ext s'.es.B ex).2
  rw[M.wZ] at w'
  refine⟨G,O0,_,O',ρ',n',_,l[i],s'.to ex (Bg.new s'.es.ok hT _),rx,w',fun σ2 ρ2 n2 s2 w2=>?_⟩
  rw[M.wZ] at w2
  refine⟨G,O0,_,O',ρ2,n2,s2,M.wp_mono w2 fun f n3 w3=>?_⟩
  cases f with
  |nx ρ3=>exact fun O3 σ3 H3 s3=>⟨O3,ρ3,n3,s3,w3⟩
  |ct ρ3=>exact fun O3 σ3 H3 s3=>⟨O3,ρ3,n3,s3,w3⟩
  |bk ρ3=>exact fun O3 σ3 H3 s3=>w3 O3 σ3 H3 (s1.back s3)
  |rt y=>exact fun x3 H3 e3 ok3 r3=>w3 x3 H3 (s1.base.trans e3) ok3 r3
 ·have e:i=l.length:=by lia
  subst e
  rw[List.drop_length] at w'
  exact .inl ⟨it'.stop,w' O' σ' H' (s1.back s')⟩
end
end
section
variable {φ:Fam}
theorem ItE.keepS {K:PySem.W.Frag} {G G':Bg φ} {O O':Addr→Prop} {H H':Hp} {l:List PV} {J:It} (t:ItE K G O H l J) (hB:G'.B=G.B) (k: ∀ p o,¬ O p→H p=some o→Stand H' p o∧¬ O' p):ItE K G' O' H' l J:=by
 cases t with
 |enL na ha ra=>exact .enL (k _ _ na ha).2 (k _ _ na ha).1 (by rw[hB];exact ra.keepS k)
 |enT na ha ra=>exact .enT (k _ _ na ha).2 (k _ _ na ha).1 (by rw[hB];exact ra.keepS k)
 |zpL na ha ra nb hb rb=>exact .zpL (k _ _ na ha).2 (k _ _ na ha).1 (by rw[hB];exact ra.keepS k) (k _ _ nb hb).2 (k _ _ nb hb).1 (by rw[hB];exact rb.keepS k)
section
variable {X:Cx} {e:Expr}
theorem lc_inE {K:PySem.W.Frag} {js:List (Option Nat)} {mi:PEnv→M (List PV)} {bd:PV→PEnv→M PEnv} {tt:PEnv→M Bool} {te:PEnv→M PV}: ∀ σ H Q,teF φ (mkLC js mi bd tt te) σ H Q→tLC js (tiE φ K mi) (tgP φ bd) (ttP φ tt) (teP φ te) σ H Q:=fun σ H Q hq0=>by
 obtain⟨G,O,ρ,n,R,s,w,q⟩:=hq0
 unfold mkLC at w
 rw[M.wZ] at w
 refine⟨G,O,ρ,n,_,s,w,fun l J H1 n1 e1 ok1 it w1=>fun D hD=>?_⟩
 by_cases hl:l.length≤100000
 case neg=>rw[if_neg hl] at w1;exact w1.elim
 rw[if_pos hl] at w1
 have s1:=s.ext e1 ok1
 have nD: ¬ O D:=fun z=>by obtain⟨o,g⟩:=s1.dm D z;rw[hD] at g;cases g
 have pD: ¬ G.priv D:=fun z=>nD (s.pr _ z)
 have hBD:D≠G.B:=fun z=>pD (z▸G.pB)
 have hne: ∀ p o,H1 p=some o→p≠D:=fun p o hp z=>by subst z;rw[hD] at hp;cases hp
 let O':Addr→Prop:=fun p=>O p∨p=D
 let G':Bg φ:=G.with D hBD
 have k0: ∀ p o,¬ O p→H1 p=some o→upd H1 D (HO.lst []) p=some o∧¬ O' p:=fun p o np hp=>⟨by rw[upd_ne (hne p o hp)];exact hp,fun z=>by
  rcases z with z|z
  ·exact np z
  ·exact hne p o hp z⟩
 have kD: ∀ (H5:Hp) (o:HO) p u,¬ O' p→H5 p=some u→upd H5 D o p=some u∧¬ O' p:=fun H5 o p u np hp=>⟨by rw[upd_ne (fun z=>np (.inr z))];exact hp,np⟩
 refine⟨fun i m σ' H'=>m=l.length - i∧i≤l.length∧∃ (ys:List V) (zs:List PV) (ρ':PEnv) (n':Nat),ys.length≤i∧H' D=some (.lst ys)∧Reps G.B O' H' zs ys∧ES G' O' H' σ' ρ' n'∧Ext G.B H1 H'∧ItE K G' O' H' l J∧
  (lcM bd tt te (l.drop i) ρ').wp n' (fun t k=>R (zs++t) k),⟨l.length,by simp,Nat.zero_le _,[],[],capP js ρ,n1,Nat.le_refl _,upd_same,.nil,?_,Ext.new hD _,?_,?_⟩,?_⟩
 ·have er:=capP_rep s1.er js
  refine⟨⟨er.1,fun i e he=>?_⟩,⟨Bg.new ok1 hD _,[],upd_same⟩,fun p z=>?_,fun p z=>?_⟩
  ·have r1:=er.2 i e he
   cases e with
   |un=>trivial
   |val y=>obtain⟨x,hx,rr⟩:=r1;exact⟨x,hx,rr.keep k0⟩
   |own t=>
    obtain⟨p,xs,hx,hp,np,hh,rr⟩:=r1
    exact⟨p,xs,hx,.inl hp,fun z=>by
     rcases z with z|z
     ·exact np z
     ·exact hne p _ hh z,by rw[upd_ne (hne p _ hh)];exact hh,rr.keep k0⟩
   |ownD t=>
    obtain⟨p,xs,hx,hp,np,hh,rr⟩:=r1
    exact⟨p,xs,hx,.inl hp,fun z=>by
     rcases z with z|z
     ·exact np z
     ·exact hne p _ hh z,by rw[upd_ne (hne p _ hh)];exact hh,rr.keep k0⟩
  ·rcases z with z|z
   ·exact .inl (s.pr p z)
   ·exact .inr z
  ·rcases z with z|z
   ·obtain⟨o,g⟩:=s1.dm p z;exact⟨o,by rw[upd_ne (hne p o g)];exact g⟩
   ·subst z;exact⟨_,upd_same⟩
 ·exact it.keepS rfl fun p o np hp=>⟨.of (k0 p o np hp).1,(k0 p o np hp).2⟩
 ·simpa using w1
 ·rintro i m σ' H' ⟨rfl,hi,ys,zs,ρ',n',hy,hDy,rz,s',ex,it',w'⟩
  by_cases hlt:i < l.length
  ·have hget:l[i]?=some l[i]:=List.getElem?_eq_getElem hlt
   have hdrop:l.drop i=l[i]::l.drop (i+1):=List.drop_eq_getElem_cons hlt
   rw[hdrop] at w'
   unfold lcM at w'
   obtain⟨g1,g2⟩:=it'.go hget
   refine .inr ⟨g1,fun x H2 yl=>?_⟩
   obtain⟨T,us,vs,rfl,hT,rfl,ey,rr⟩:=g2 x H2 yl
   have e0:Ext G.B H' (upd H' T (.tup vs)):=Ext.new hT _
   have nT: ¬ O' T:=fun z=>by obtain⟨o,g⟩:=s'.dm T z;rw[hT] at g;cases g
   have DT:upd H' T (.tup vs) D=some (.lst ys):=by rw[upd_ne (ne_of_none hDy hT)];exact hDy
   have s'':=s'.ext e0 (Bg.new s'.ok hT _)
   have rx:Rep G'.B O' (upd H' T (.tup vs)) l[i] (.ref T):=by
    rw[ey]
    exact .tup nT upd_same rr.1 (rr.ext s'.B e0).2
   have itT:ItE K G' O' (upd H' T (.tup vs)) l J:=it'.keepS rfl fun p o np hp=>⟨e0 p o (fun z=>np (.inl (z▸s.B))) hp,np⟩
   have rzT:=rz.ext (.inl s.B) e0
   have exT:=ex.trans e0
   rw[M.wZ] at w'
   refine⟨G',O',ρ',n',_,l[i],s'',rx,w',fun σ2 ρ2 n2 s2 w2=>?_⟩
   rw[M.wZ] at w2
   refine⟨G',O',ρ2,n2,_,s2,w2,fun ok H4 n4 e4 ok4 w4=>?_⟩
   have D4:H4 D=some (.lst ys):=e4 D _ hBD DT
   have it4:ItE K G' O' H4 l J:=itT.keepS rfl fun p o np hp=>⟨e4 p o (fun z=>np (.inl (z▸s.B))) hp,np⟩
   cases ok with
   |true=>
    simp only[if_true] at w4 ⊢
    rw[M.wZ] at w4
    refine⟨G',O',ρ2,n4,_,s2.ext e4 ok4,w4,fun z x5 H5 n5 e5 ok5 r5 w5=>?_⟩
    have D5:H5 D=some (.lst ys):=e5 D _ hBD D4
    rw[M.wZ] at w5
    have s5:=s2.ext (e4.trans e5) ok5
    have it5:ItE K G' O' H5 l J:=it4.keepS rfl fun p o np hp=>⟨e5 p o (fun z=>np (.inl (z▸s.B))) hp,np⟩
    refine⟨ys,D5,by rw[sizeLine_eq];lia,l.length - (i+1),by lia,rfl,hlt,ys++[x5],zs++[z],ρ2,n5,by simp;lia,upd_same,?_,?_,?_,?_,?_⟩
    ·exact((rzT.ext (.inl s.B) (e4.trans e5)).append (.cons r5 .nil)).keep (kD H5 _)
    ·refine⟨⟨s5.er.1,fun j e he=>?_⟩,⟨G.keep H5 _ _ (fun p o hp hpo=>by
      have hpd:p≠D:=fun z=>by
       rcases hp with hp|hp
       ·exact pD (z▸hp)
       ·rw[z,D5] at hpo;cases hpo;exact hp
      rw[upd_ne hpd];exact hpo) ok5.1,_,upd_same⟩,s5.pr,fun p hp=>?_⟩
     ·have r1:=s5.er.2 j e he
      cases e with
      |un=>trivial
      |val y=>obtain⟨x,hx,rr⟩:=r1;exact⟨x,hx,rr.keep (kD H5 _)⟩
      |own t=>
       obtain⟨p,xs,hx,hp,np,hh,rr⟩:=r1
       exact⟨p,xs,hx,hp,np,by rw[upd_ne (fun z=>np (.inr z))];exact hh,rr.keep (kD H5 _)⟩
      |ownD t=>
       obtain⟨p,xs,hx,hp,np,hh,rr⟩:=r1
       exact⟨p,xs,hx,hp,np,by rw[upd_ne (fun z=>np (.inr z))];exact hh,rr.keep (kD H5 _)⟩
     ·by_cases hpd:p=D
      ·subst hpd;exact⟨_,upd_same⟩
      ·obtain⟨o,g⟩:=s5.dm p hp;exact⟨o,by rw[upd_ne hpd];exact g⟩
    ·intro p o np hp
     exact((exT.trans (e4.trans e5)) p o np hp).to fun u e=>.of (by rw[upd_ne (hne p o hp)];exact e)
    ·exact it5.keepS rfl fun p o np hp=>⟨.of (kD H5 _ p o np hp).1,np⟩
    ·refine M.wp_mono w5 fun t k' hk=>?_
     have hk':R (zs++z::t) k':=hk
     simpa using hk'
   |false=>
    exact⟨l.length - (i+1),by lia,rfl,hlt,ys,zs,ρ2,n4,by lia,D4,rzT.ext (.inl s.B) e4,s2.ext e4 ok4,exT.trans e4,it4,w4⟩
  ·have e:i=l.length:=by lia
   subst e
   refine .inl ⟨it'.stop,?_⟩
   rw[List.drop_length] at w'
   have w2:R (zs++[]) n':=w'
   rw[List.append_nil] at w2
   exact q zs D ys H' n' (e1.trans ex) s'.ok.1 (new_before e1 ok1 hD) hDy rz w2
theorem ef_lcE (h:BE X e (tLC js (tiE φ X.K mi) (tgP φ bd) (ttP φ tt) (teP φ te))):EF φ X e (mkLC js mi bd tt te):=BE.mono h lc_inE
theorem asg_lcE {st:Stmt} {k:Nat} {js:List (Option Nat)} {mi:PEnv→M (List PV)} {bd:PV→PEnv→M PEnv} {tt:PEnv→M Bool} {te:PEnv→M PV} (h:BS X st (tAsg (tLC js (tiE φ X.K mi) (tgP φ bd) (ttP φ tt) (teP φ te)) (gName k))):BS X st (tAsg (teF φ (mkLC js mi bd tt te)) (gName k)):=
 BS.mono h fun D σ H q=>lc_inE σ H _ q
end
end
section
variable {φ:Fam}
section
variable {X:Cx}
theorem a1 (h0:EV φ X e0 m0) (s0:isStar e0=false:=by rfl):AV φ X [e0] (consA m0 (fun _=>.ret [])):=av_cons h0 (av_nil) s0
theorem a2 (h0:EV φ X e0 m0) (h1:EV φ X e1 m1) (s0:isStar e0=false:=by rfl) (s1:isStar e1=false:=by rfl):AV φ X [e0,e1] (consA m0 (consA m1 (fun _=>.ret []))):=av_cons h0 (av_cons h1 (av_nil) s1) s0
theorem a3 (h0:EV φ X e0 m0) (h1:EV φ X e1 m1) (h2:EV φ X e2 m2) (s0:isStar e0=false:=by rfl) (s1:isStar e1=false:=by rfl) (s2:isStar e2=false:=by rfl):AV φ X [e0,e1,e2] (consA m0 (consA m1 (consA m2 (fun _=>.ret [])))):=av_cons h0 (av_cons h1 (av_cons h2 (av_nil) s2) s1) s0
theorem a4 (h0:EV φ X e0 m0) (h1:EV φ X e1 m1) (h2:EV φ X e2 m2) (h3:EV φ X e3 m3) (s0:isStar e0=false:=by rfl) (s1:isStar e1=false:=by rfl) (s2:isStar e2=false:=by rfl) (s3:isStar e3=false:=by rfl):AV φ X [e0,e1,e2,e3] (consA m0 (consA m1 (consA m2 (consA m3 (fun _=>.ret []))))):=av_cons h0 (av_cons h1 (av_cons h2 (av_cons h3 (av_nil) s3) s2) s1) s0
theorem a5 (h0:EV φ X e0 m0) (h1:EV φ X e1 m1) (h2:EV φ X e2 m2) (h3:EV φ X e3 m3) (h4:EV φ X e4 m4) (s0:isStar e0=false:=by rfl) (s1:isStar e1=false:=by rfl) (s2:isStar e2=false:=by rfl) (s3:isStar e3=false:=by rfl) (s4:isStar e4=false:=by rfl):AV φ X [e0,e1,e2,e3,e4] (consA m0 (consA m1 (consA m2 (consA m3 (consA m4 (fun _=>.ret [])))))):=av_cons h0 (av_cons h1 (av_cons h2 (av_cons h3 (av_cons h4 (av_nil) s4) s3) s2) s1) s0
theorem a6 (h0:EV φ X e0 m0) (h1:EV φ X e1 m1) (h2:EV φ X e2 m2) (h3:EV φ X e3 m3) (h4:EV φ X e4 m4) (h5:EV φ X e5 m5) (s0:isStar e0=false:=by rfl) (s1:isStar e1=false:=by rfl) (s2:isStar e2=false:=by rfl) (s3:isStar e3=false:=by rfl) (s4:isStar e4=false:=by rfl) (s5:isStar e5=false:=by rfl):AV φ X [e0,e1,e2,e3,e4,e5] (consA m0 (consA m1 (consA m2 (consA m3 (consA m4 (consA m5 (fun _=>.ret []))))))):=av_cons h0 (av_cons h1 (av_cons h2 (av_cons h3 (av_cons h4 (av_cons h5 (av_nil) s5) s4) s3) s2) s1) s0
end
abbrev gv (i:Nat):PEnv→M PV:=fun ρ=>getV ρ i
structure CalT (K:PySem.W.Frag) (mg:Str→Option Value) (x:Str) (st:Stmt) (a:Addr) (d:FuncData) (ps:List Str):Prop where
 F:Fun K x x st a d
 m:mg x=some (.ref a)
 b:Binds K d ps []
theorem ec {X:Cx} {x:Str} {p pos:Pos} {e:Expr} {es:List Expr} {st:Stmt} {k k':Nat} {f:Addr} {fd:FuncData} {ps:List Str} {Fm:List PV→M PV} {ml:PEnv→M (List PV)} (G:FnOk X.prog X.w X.K X.mg X.base CX0 k f fd ps (spP φ Fm)) (c:CalT X.K X.mg x st f fd ps) (hr:Room k' X.A) (ha:AV φ X (e::es) ml) (hk:k≤k':=by decide) (hg:Gl X x:=by rfl) (hdb:(x==("__debug__":Str))=false:=by decide)
  (he:starEach (e::es) X.env=(false,eval e X.env)::starEach es X.env:=by rfl) (hpl:(backTo pos (starEach es X.env)).any (·.1)=false:=by rfl):EV φ X (.Call (.Name x p) (e::es) [] pos) (fun ρ=>(ml ρ).bind Fm):=ev_call (be_call G (hr.mono hk) hg c.m c.F.kp c.b .nil pass0 ha hdb he hpl)
end
section
variable {φ:Fam}
def tgN:Expr→List Str
 | .Name x _=>[x]
 | .Tuple es _ _=>es.filterMap fun e=>match e with| .Name x _=>some x|_=>none
 |_=>[]
def lcN (tg:Expr) (XN:List Str) (js:List (Option Nat)):List Str:=tgN tg++js.filterMap fun o=>o.bind fun i=>XN[i]?
end
section
open PySem.W (KasT kas_rev kas_asc kas_desc kas_tail3 kas_descPart kas_count kas_place kas_bin kas_sort)
open PySem.W (kas_sort kas_ask KatTups)
open PySem.W (kla_fn kla_obj CodeHd tabObj)
def Bp (N:Nat) (p0 p:Array Nat):Prop:=Bd N p∧p.Perm p0
theorem Bp.at {N:Nat} {p0 p:Array Nat} (h:Bp N p0 p) (k:Nat):p.getD k 0 < N:=h.1.at k
theorem Bp.perm {N:Nat} {p0 p q:Array Nat} (h:Bp N p0 p) (pm:q.Perm p):Bp N p0 q:=⟨h.1.perm pm,pm.trans h.2⟩
theorem Bp.rev {N:Nat} {p0 p:Array Nat} (h:Bp N p0 p) (i j:Nat):Bp N p0 (kas_rev p i j):=h.perm (mirror_perm _ _ _ _)
section
variable {N:Nat} {p0:Array Nat}
theorem asc_inE {p:Array Nat} (h:Bp N p0 p): ∀ f n,InR N (fun _=>True) (kas_asc p f n)
 |0,_=>trivial
 |f+1,n=>⟨h.at _,h.at _,fun b=>InR.ite trivial (asc_inE h f (n+1))⟩
theorem desc_inE: ∀ (f:Nat) {p:Array Nat} (n q:Nat),Bp N p0 p→InR N (fun r=>Bp N p0 r.1) (kas_desc f p n q)
 |0,_,_,_,h=>h
 |f+1,p,n,q,h=>⟨h.at _,h.at _,fun b=>InR.ite (InR.ite (desc_inE f _ _ (h.rev _ _)) (desc_inE f _ _ h)) ⟨h.at _,h.at _,fun d=>InR.ite h (desc_inE f _ _ h)⟩⟩
theorem tail3_inE {p:Array Nat} (h:Bp N p0 p) (n m:Nat):InR N (fun r=>Bp N p0 r.2) (kas_tail3 n m p):=InR.bind (asc_inE (h.rev _ _) _ _) fun a _=>h.rev _ _
theorem descPart_inE {p:Array Nat} (h:Bp N p0 p) (n m:Nat):InR N (fun r=>Bp N p0 r.2) (kas_descPart n m p):=InR.bind (desc_inE _ _ _ h) fun r hr=>InR.ite (tail3_inE (hr.rev _ _) _ _) (tail3_inE hr _ _)
theorem count_inE {p:Array Nat} (h:Bp N p0 p) (m:Nat):InR N (fun r=>Bp N p0 r.2) (kas_count m p):=
 InR.bind (asc_inE h _ _) fun n _=>InR.ite h (InR.ite ⟨h.at _,h.at _,fun c=>InR.ite h (descPart_inE (h.rev _ _) _ _)⟩ (descPart_inE h _ _))
theorem place_inE {p:Array Nat} (h:Bp N p0 p) (k:Nat): ∀ f l r,InR N (fun _=>True) (kas_place p k f l r)
 |0,_,_=>trivial
 |f+1,l,r=>by
  unfold kas_place
  exact InR.ite trivial ⟨h.at _,h.at _,fun c=>InR.ite (place_inE h k f _ _) (place_inE h k f _ _)⟩
theorem bin_inE: ∀ (f:Nat) {p:Array Nat} (k:Nat),Bp N p0 p→InR N (Bp N p0) (kas_bin f p k)
 |0,_,_,h=>h
 |f+1,p,k,h=>InR.bind (place_inE h _ _ _ _) fun l _=>bin_inE f (k+1) (h.perm (bubble_perm _ _ _))
theorem sort_inE (hN:0 < N):InR N (Bp N (List.toArray (List.range N))) (kas_sort N):=by
 have h:Bp N (List.toArray (List.range N)) (List.toArray (List.range N)):=⟨⟨hN,fun x hx=>by simpa using hx⟩,Array.Perm.refl _⟩
 exact InR.bind (count_inE h _) fun r hr=>InR.ite (bin_inE _ _ hr) hr
end
theorem run_in {N:Nat} {α:Type} {V:α→Prop} {r:Nat→Int}: ∀ (t:KasT α),InR N V t→V (runK r t)
 | .ret a,h=>h
 | .ask i j k,h=>run_in (k (decide (r i < r j))) (h.2.2 _)
def ordN (r:Nat→Int) (n:Nat):Array Nat:=if n < 2 then List.toArray (List.range n) else runK r (kas_sort n)
theorem ordN_perm (r:Nat→Int) (n:Nat):(ordN r n).Perm (List.toArray (List.range n)):=by
 unfold ordN
 split
 ·exact Array.Perm.refl _
 ·exact(run_in (r:=r) _ (sort_inE (N:=n) (by omega))).2
theorem ordN_size (r:Nat→Int) (n:Nat):(ordN r n).size=n:=by
 have:=(Array.perm_iff_toList_perm.mp (ordN_perm r n)).length_eq
 simpa using this
variable {φ:Fam}
end
section
open PySem.W (KasT kas_rev kas_asc kas_desc kas_tail3 kas_descPart kas_count kas_place kas_bin kas_sort)
open PySem.W (kas_sort kas_ask KatTups)
open PySem.W (kla_fn kla_obj CodeHd tabObj)
section
variable {X:Cx} {A:Around} {E:Value→Shared→Prop} {pZ:List (Addr×Obj)} {σ:St} {H:Hp} {s:Shared} {f D:Addr} {its:List Value} {xs:List V} {kf:Nat→Int} {P:PySem.Fin→Shared→Prop}
theorem sort_tailN {kS:Addr} {zs:List V} {e1:Nat} {st:SortSt} {p:Array Nat} {H1:Hp} (I:Inv X ((D,seqObj "list" #[] e1)::pZ) σ H1 s) (fp:FpOk X pZ H1 D) (hk:H1 kS=some (.lst zs)) (rv:Vals xs its) (h64:xs.length < 64) (hTs:zs.length≤100)
  (hz:p.size=xs.length) (har:(arrOf st).map (·.2)=List.toArray (p.toList.map fun i=>its.getD i Value.none)) (hin: ∀ i∈p.toList,i < xs.length) (hf:failedOf st=none)
  (h: ∀ s',Inv X pZ σ (upd (upd H1 kS (.lst [])) D (.lst (p.toList.map fun i=>xs.getD i .non))) s'→P (.done (.ret .none)) s'):
  wpAny (model X.prog X.w) A (ksk_tail D false e1 (.ref kS) st) P E s:=by
 obtain⟨_,its',n',r1,r2,ho⟩:=I.lstM hk
 have hl:=rv.length
 unfold ksk_tail
 try dsimp only
 rw[har]
 refine wpAny_bind (listUpdate_at ho rfl ?_ (by rw[List.size_toArray,sizeLine_eq];lia) (Nat.zero_le _))
 have I1:=I.lset (t':=s.toks) (f:=fun _=>(#[]:Array Value)) (its':=[]) (ys:=[]) hk ho rfl .nil (Nat.zero_le _)
 have hD:=(I1.pin _ (List.mem_append_right _ List.mem_cons_self)).1
 refine wpAny_bind (wpAny_letGo ?_)
 refine wpAny_bind (seqEpoch_at hD rfl ?_)
 refine wpAny_bind (listUpdate_at hD rfl ?_ (Nat.zero_le _) (by simp only[Bool.false_eq_true,if_false,List.size_toArray,List.length_map,Array.length_toList];rw[hz,sizeLine_eq];lia))
 rw[hf]
 simp only[bne_self_eq_false,Bool.false_eq_true,if_false]
 have neD:kS≠D:=fun z=>by rw[z,fp.1] at hk;cases hk
 have fp1:FpOk X pZ (upd H1 kS (.lst [])) D:=⟨by rw[upd_ne (Ne.symm neD)];exact fp.1,fp.2⟩
 have I2:Inv X pZ σ (upd H1 kS (.lst [])) {s with heap:=s.heap.update kS (Obj.mapSeq fun _=>(#[]:Array Value))}:=I1.pins_of fun q hq=>I1.pin q (List.mem_append_right _ (List.mem_cons_of_mem _ hq))
 refine wpAny_pure (h _ (I2.grab (t':=s.toks) fp1 (fun b u hb e=>(Heap.get?_update_other _ _ (Ne.symm hb)).trans e) ?_))
 have g:=get?_update_seq hD fun _=>List.toArray (p.toList.map fun i=>its.getD i Value.none)
 refine⟨by rw[List.length_map,Array.length_toList,hz,sizeLine_eq];lia,p.toList.map fun i=>its.getD i Value.none,_,?_,g⟩
 have go: ∀ l:List Nat,(∀ i∈l,i < xs.length)→Vals (l.map fun i=>xs.getD i V.non) (l.map fun i=>its.getD i Value.none):=fun l=>by
  induction l with
  |nil=>intro _;exact .nil
  |cons i l ih=>
   intro hl'
   refine .cons ?_ (ih fun j hj=>hl' j (List.mem_cons_of_mem _ hj))
   have hi:=hl' i List.mem_cons_self
   obtain⟨u,hu,ru⟩:=rv.get (List.getElem?_eq_getElem hi)
   show RelV (xs.getD i V.non) (its.getD i Value.none)
   rw[List.getD_eq_getElem?_getD,List.getD_eq_getElem?_getD,hu,List.getElem?_eq_getElem hi]
   exact ru
 exact go _ hin
theorem sort_keyedN (I:Inv X pZ σ H s) (fp:FpOk X pZ H D) (ho:s.heap.get? D=some (seqObj "list" its.toArray n0)) (rv:Vals xs its) (h64:xs.length < 64)
  (hkey: ∀ (pins':List (Addr×Obj)) (H1:Hp) (s1:Shared) (i:Nat) (u:Value),its[i]?=some u→Same H H1→Inv X pins' σ H1 s1→wpAny (model X.prog X.w) A (call (.ref f) [u]) (EP X pins' σ fun v H2=>v= .int (kf i)∧H2=H1) (fun _ _=>False) s1)
  (h: ∀ (H':Hp) (s':Shared),Inv X pZ σ H' s'→H' D=some (.lst ((ordN (kf) xs.length).toList.map fun i=>xs.getD i .non))→Same H H'→P (.done (.ret .none)) s'):
  wpAny (model X.prog X.w) A (Builtin.«list.sort» ⟨[.ref D],[(Str.ofString "key",.ref f)]⟩) P E s:=by
 have hl:=rv.length
 have hzL:its.length≤sizeLine:=by rw[sizeLine_eq];lia
 rw[ksk_t1]
 unfold ksk_tree
 refine wpAny_bind (listItems_at ho rfl ?_)
 refine wpAny_bind (listUpdate_at ho rfl ?_ (by rw[List.size_toArray];exact hzL) (Nat.zero_le _))
 obtain⟨e1,ho1⟩: ∃ e1,(s.heap.update D (Obj.mapSeq fun _=>(#[]:Array Value))).get? D=some (seqObj "list" #[] e1):=⟨_,get?_update_seq ho fun _=> #[]⟩
 refine wpAny_bind (seqEpoch_at ho1 rfl ?_)
 refine wpAny_bind (wpAny_newTuple ?_ hzL)
 refine wpAny_bind (wpAny_newList ?_ (Nat.zero_le _))
 refine wpAny_holding ?_
 have I1:Inv X pZ σ H {s with heap:=s.heap.update D (Obj.mapSeq fun _=>(#[]:Array Value))}:=I.turned (t':=s.toks) (fun b u hb' e=>(Heap.get?_update_other _ _ (Ne.symm hb')).trans e) fp.1 fp.2.1 fp.2.2.2.1 fp.2.2.2.2.1 fp.2.2.2.2.2
 have I2:Inv X ((D,seqObj "list" #[] e1)::pZ) σ H {s with heap:=s.heap.update D (Obj.mapSeq fun _=>(#[]:Array Value))}:=I1.pins_of fun q hq=>by
  rcases List.mem_cons.mp hq with rfl|hq
  ·exact⟨ho1,fp.1,fp.2.1,fp.2.2.1,fun v z=>by cases z⟩
  ·exact I1.pin q (List.mem_append_right _ hq)
 have I3:Inv X ((D,seqObj "list" #[] e1)::pZ) σ H {s with heap:=(s.heap.update D (Obj.mapSeq fun _=>(#[]:Array Value))).push (seqObj "tuple" its.toArray 0)}:=I2.kept (t':=s.toks) fun b u e=>Heap.get?_push_of_some _ e
 have hkn:H ((s.heap.update D (Obj.mapSeq fun _=>(#[]:Array Value))).push (seqObj "tuple" its.toArray 0)).objs.size=none:=I3.fresh
 have I4:=I3.lnew (t':=s.toks) (ys:=[]) (its:=[]) .nil (Nat.zero_le _)
 generalize hks:((s.heap.update D (Obj.mapSeq fun _=>(#[]:Array Value))).push (seqObj "tuple" its.toArray 0)).objs.size=kS at *
 have hDk: ∀ (H1:Hp),H1 D=none→H1 kS≠none→kS≠D:=fun H1 a b z=>b (z▸a)
 unfold ksk_rest
 refine wpAny_bind (wpAny_rule ?_)
 rw[List.forIn_toArray]
 refine wpAny_bind (ksk_fold (fun i s'=> ∃ (Hi:Hp),Inv X ((D,seqObj "list" #[] e1)::pZ) σ Hi s'∧Hi kS=some (.lst ((List.range i).map fun j=>V.int (kf j)))∧Same H Hi) its 0 _ ?_ (fun j x s' hx hJ=>?_) fun s' hJ=>?_)
 ·refine⟨_,I4,upd_same,fun b o e=>?_⟩
  rw[upd_ne (ne_of_none e hkn)]
  exact e
 ·obtain⟨Hi,J,hk,sm⟩:=hJ
  rw[Nat.zero_add] at hk
  refine wpAny_bind (wpAny_attempt (wpAny_mono (hkey _ Hi s' j x hx sm J) (fun k s'' hk'=>?_) fun _ _ hF=>hF.elim))
  obtain⟨v,H2,J2,rk',rfl,rfl⟩:=hk'
  obtain⟨tk,rfl⟩:=rk'
  obtain⟨_,its',n',r1,r2,hob⟩:=J2.lstM hk
  have hjl:j < its.length:=(List.getElem?_eq_some_iff.mp hx).1
  have hs':its'.length=j:=by rw[←r2,List.length_map,List.length_range]
  try dsimp only
  refine wpAny_bind (listUpdate_at hob rfl ?_ (by rw[List.size_toArray,sizeLine_eq];lia) (Nat.le_trans (Nat.le_of_eq (Array.size_push ..)) (by rw[List.size_toArray,sizeLine_eq];lia)))
  have J3:=J2.lset (t':=s''.toks) (f:=(·.push (Value.int (kf j) tk))) (its':=its'++[.int (kf j) tk]) (ys:=((List.range j).map fun j=>V.int (kf j))++[.int (kf j)]) hk hob (by simp) (r1.append (show Vals [V.int (kf j)] [Value.int (kf j) tk] from .cons ⟨tk,rfl⟩ .nil)) (by rw[List.length_append,List.length_map,List.length_range,List.length_singleton,sizeLine_eq];lia)
  refine wpAny_pure ⟨rfl,_,J3,by rw[upd_same,Nat.zero_add,List.range_succ,List.map_append];rfl,fun b o e=>?_⟩
  have g:=sm b o e
  have n1:b≠kS:=ne_of_none e hkn
  rw[upd_ne n1]
  exact g
 ·obtain⟨Hi,J,hk,sm⟩:=hJ
  rw[Nat.zero_add] at hk
  obtain⟨_,ks,n',r1,r2,hob⟩:=J.lstM hk
  have hkx:ks.length=xs.length:=by rw[←r2,List.length_map,List.length_range];lia
  have kat: ∀ i,i < xs.length→∃ t,ks[i]?=some (Value.int (kf i) t):=fun i hi=>by
   obtain⟨u,hu,ru⟩:=r1.get (i:=i) (x:=.int (kf i)) (by rw[List.getElem?_map,List.getElem?_range (by lia)];rfl)
   obtain⟨t,rfl⟩:=ru
   exact⟨t,hu⟩
  have fpD:FpOk X pZ Hi D:=⟨(J.pin _ (List.mem_append_right _ List.mem_cons_self)).2.1,fp.2⟩
  have hkD:kS≠D:=fun z=>by rw[z,fpD.1] at hk;cases hk
  have fin: ∀ (p:Array Nat) (s'':Shared),p=ordN (kf) xs.length→Inv X pZ σ (upd (upd Hi kS (.lst [])) D (.lst (p.toList.map fun i=>xs.getD i .non))) s''→P (.done (.ret .none)) s'':=fun p s'' hp J'=>by
   subst hp
   refine h _ s'' J' upd_same fun b o e=>?_
   rw[upd_ne (ne_of_none e fp.1),upd_ne (ne_of_none e hkn)]
   exact sm b o e
  have inP: ∀ p:Array Nat,p.Perm (List.toArray (List.range xs.length))→∀ i∈p.toList,i < xs.length:=fun p hp i hi=>by
   have:=(Array.perm_iff_toList_perm.mp hp).mem_iff.mp hi
   simpa using this
  have hkl:ks.length=its.length:=by lia
  try dsimp only
  refine wpAny_bind (listItems_at hob rfl ?_)
  unfold ksk_end
  try dsimp only
  simp only[Bool.false_eq_true,if_false]
  by_cases h2:its.toArray.size < 2
  ·rw[if_pos h2,if_pos h2]
   refine wpAny_bind (wpAny_pure ?_)
   rw[StateT.run_pure]
   refine wpAny_bind (wpAny_pure ?_)
   try dsimp only
   rw[List.size_toArray] at h2
   have hz:(List.toArray (List.range xs.length)).size=xs.length:=by simp
   refine sort_tailN (p:=List.toArray (List.range xs.length)) J fpD hk rv h64 (by rw[List.length_map,List.length_range];lia) hz ?_ (inP _ (Array.Perm.refl _)) rfl fun s'' J'=>fin _ s'' (by unfold ordN;rw[if_pos (by lia)]) J'
   have hmap:=PySem.W.kat_snds (ks:=ks) (vs:=its) hkl (st:=SortSt.mk' general' (ks.toArray.zip its.toArray) #[] 7 none) (p:=List.toArray (List.range xs.length)) (by
    have e:=PySem.W.kas_range (ks.toArray.zip its.toArray)
    rw[show (ks.toArray.zip its.toArray).size=xs.length by simp;lia] at e
    exact e.symm)
   exact hmap
  ·rw[if_neg h2,if_neg h2]
   rw[List.size_toArray] at h2
   refine wpAny_bind (PySem.W.kas_kind (T:=Value.type "int") (by lia) (fun v hv=>?_) (by decide) (by decide) ?_)
   ·obtain⟨i,hi,e⟩:=List.getElem_of_mem hv
    obtain⟨t,g⟩:=kat i (by lia)
    rw[List.getElem?_eq_getElem hi,e] at g
    cases g
    exact PySem.W.Looks.now
   ·obtain⟨p,ep⟩: ∃ p,runK (kf) (kas_sort xs.length)=p:=⟨_,rfl⟩
    have eo:p=ordN (kf) xs.length:=by unfold ordN;rw[if_neg (by lia)];exact ep.symm
    have hp:p.Perm (List.toArray (List.range xs.length)):=eo▸ordN_perm _ _
    have hz:p.size=xs.length:=eo▸ordN_size _ _
    refine wpAny_bind (wpAny_mono (PySem.W.kat_run (vs:=its) (ks:=ks) (Q:=fun st' s''=> ∃ p':Array Nat,arrOf st'=p'.map (PySem.W.kas_item (ks.toArray.zip its.toArray))∧failedOf st'=none∧p'=p∧s''=s') (G:=fun p' s''=>p'=p∧s''=s')
     hkl (by lia) (by lia) (fun p' st' s'' a1 a2 a3 a4=>⟨p',a2,a3,a4.1,a4.2⟩) ?_) ?_ fun _ _ e=>e)
    ·rw[show its.length=xs.length from hl.symm]
     refine wp_run (N:=xs.length) (V:=Bd xs.length) (r:=kf) (fun i j C hi hj hC=>?_) _ (sort_in (by lia)) ⟨ep,rfl⟩
     obtain⟨ti,gi⟩:=kat i hi
     obtain⟨tj,gj⟩:=kat j hj
     unfold PySem.W.kas_ask
     rw[List.getD_eq_getElem?_getD,List.getD_eq_getElem?_getD,gi,gj]
     exact PySem.W.kat_lt_int hC
    ·rintro⟨⟨⟩,st'⟩ s'' ⟨p',har,hf,rfl,rfl⟩
     try dsimp only
     exact sort_tailN J fpD hk rv h64 (by rw[List.length_map,List.length_range];lia) hz (PySem.W.kat_snds hkl har) (inP _ hp) hf fun s3 J'=>fin _ s3 eo J'
end
theorem sorted_keyedN (I:Inv X pZ σ H s) (hT:T="list"∨T="tuple") (ho:s.heap.get? l=some o) (hc:o.cls= .type T) (hd:o.data= .seq its.toArray n0) (rv:Vals xs its) (h64:xs.length < 64)
  (hkey: ∀ (pins':List (Addr×Obj)) (H1:Hp) (s1:Shared) (i:Nat) (u:Value),its[i]?=some u→Same H H1→Inv X pins' σ H1 s1→wpAny (model X.prog X.w) X.A.in1.in1 (call (.ref f) [u]) (EP X pins' σ fun v H2=>v= .int (kf i)∧H2=H1) (fun _ _=>False) s1)
  (hq: ∀ (D:Addr) (H':Hp),H D=none→H' D=some (.lst ((ordN (kf) xs.length).toList.map fun i=>xs.getD i .non))→Same H H'→Q (.ref D) H'):
  wpAny (model X.prog X.w) X.A (call (.builtin "sorted") [.ref l] [(Str.ofString "key",.ref f)]) (EP X pZ σ Q) X.xe s:=by
 have hl:=rv.length
 refine call_function_entry_kw kind_sorted plain_sorted entry_sorted (ksk_s1 _ _) ?_
 unfold Builtin.«sorted»
 refine wpAny_bind (m:=checkCount "sorted" 1 1 _) (wpAny_pure ?_)
 refine wpAny_bind (wpAny_collect_seq l hT ho hc hd (fun h1 kp=>?_) (by rw[List.size_toArray,sizeLine_eq];lia))
 have I1:Inv X pZ σ H {s with heap:=h1}:=I.kept (t':=s.toks) kp
 have fr:H h1.objs.size=none:=I1.fresh
 have fp:FpOk X pZ H h1.objs.size:=I1.fpOk (Nat.le_refl _) fr
 refine wpAny_bind (wpAny_newList ?_ (by show its.length≤_;rw[sizeLine_eq];lia))
 have I2:Inv X pZ σ H {s with heap:=h1.push (seqObj "list" its.toArray 0)}:=I1.kept (t':=s.toks) fun b u e=>Heap.get?_push_of_some _ e
 have hoL:(h1.push (seqObj "list" its.toArray 0)).get? h1.objs.size=some (seqObj "list" its.toArray 0):=Heap.get?_push_size _ rfl
 refine wpAny_bind (wpAny_holding (wpAny_call_entry_kw slot_list_sort ⟨_,hoL,rfl⟩ entry_list_sort ?body (ksk_l1 _ _)))
 case body=>
  show wpAny (model X.prog X.w) X.A.in1.in1 (Builtin.«list.sort» ⟨[.ref h1.objs.size],[(Str.ofString "key",.ref f)]⟩) _ _ {s with heap:=h1.push (seqObj "list" its.toArray 0)}
  refine sort_keyedN I2 fp hoL rv h64 hkey fun H' s' J e1 sm=>⟨_,rfl,wpAny_pure ⟨_,rfl,.ref h1.objs.size,H',J,rfl,hq _ H' fr e1 sm⟩⟩
def SortN (e:Addr×Str) (N:List Str) (tE:TE) (Q:VK) (x:V) (H1:Hp):Prop:= ∃ (l:Addr) (xs:List V) (kf:Nat→Int),x= .ref l∧(H1 l=some (.lst xs)∨H1 l=some (.tup xs))∧xs.length < 64∧TabAt H1 e∧
 (∀ i x,xs[i]?=some x→∀ H2,(∀ b o,b≠e.1→H1 b=some o→H2 b=some o)→tE (start N [x]) H2 fun v H3=>v= .int (kf i)∧H3=H2)∧
 ∀ (D:Addr) (H':Hp),H1 D=none→H' D=some (.lst ((ordN (kf) xs.length).toList.map fun i=>xs.getD i .non))→(∀ b o,b≠e.1→H1 b=some o→H' b=some o)→TabAt H' e→Q (.ref D) H'
def tSortN (e:Addr×Str) (N:List Str) (tE ta:TE):TE:=fun σ H Q=>ta σ H (SortN e N tE Q)
def SortN1 (e:Addr×Str) (N:List Str) (tE:TE) (Q:VK):List V→Hp→Prop
 |[x],H1=>SortN e N tE Q x H1
 |_,_=>False
theorem pe_sortN (hr:Room (k+3) X.A) (hB:BIn X.base X.mg) (hcode:X.env.code= .ref c) (hC:CodeHd X.base c P) (hcl:closureFor scope X.env=pure []) (hdef:defaultsOf params X.env=([],[])) (S:FnScope N [y] scope)
  (hbind: ∀ (s:Shared) (pm:Value) (c:Addr) (ctv u:Value),BindsTo s (kla_fn "<lambda>" (X.env.qual++"<lambda>") params body scope [] pm (.ref c) ctv) ⟨[u],[]⟩ [(y,u)])
  (hbody: ∀ (f c:Addr) (A:Around) (s:Shared) (H:Hp),PE (cxOf CX0 X.prog X.w X.K X.mg X.base N (X.env.qual++"<lambda>") scope f (.ref c) A X.stack s H E0).nox body tE)
  (hg:Gl X "sorted") (hm:X.mg "sorted"=none) (ha:PE X e ta) (hs:starEach [e] X.env=(false,eval e X.env)::starEach [] X.env:=by rfl):
  PE X (.Call (.Name "sorted" p) [e] [⟨some (Str.ofString "key"),.Lambda params body scope lpos,kpos⟩] pos) (tSortN (P,X.env.qual++"<lambda>") N tE ta):=by
 intro pZ s σ H Q I h
 refine wpAny_Call_Name_kw (ld_blt I hg hm boot_sorted ?_)
 have hpa:=pa_cons ha pa_nil hs
 refine callWith_kw (thn (hpa pos pZ s σ H (SortN1 (P,X.env.qual++"<lambda>") N tE Q) I h) fun us s1 hu=>?_) (by rw[hs];rfl) (by rw[hs];rfl)
 obtain⟨vs,H1,I1,r,q⟩:=hu
 match vs,r,q with
 |[x],r,q=>
 obtain⟨u,rfl,rx⟩:=vals1 r
 obtain⟨l,xs,kf,rfl,hl,h64,tab,hk,q⟩:=q
 cases rx
 refine kws_cons (lam_eval I1 hB hcode hC tab hcl hdef fun f c' oc fs tq pm ctv H' s' J hfn at_f at_c hfd hfs tab' keepH=>kws_nil ?_)
 show wpAny (model X.prog X.w) X.A (call (.builtin "sorted") [.ref l] [(Str.ofString "key",.ref f)]) (EP X pZ σ Q) X.xe s'
 have nl:l≠P:=fun z=>by
  obtain⟨ps,hP,_⟩:=tab
  have hP:H1 P=some (.tbl ps):=hP
  rw[z,hP] at hl
  rcases hl with z|z<;>cases z
 have src: ∃ T o n0 its,(T="list"∨T="tuple")∧s'.heap.get? l=some o∧o.cls= .type T∧o.data= .seq (List.toArray its) n0∧Vals xs its:=by
  rcases hl with hl|hl
  ·obtain⟨_,its,n,rv,ho⟩:=J.hok l _ (keepH l _ nl hl)
   exact⟨"list",_,n,its,.inl rfl,ho,rfl,rfl,rv⟩
  ·obtain⟨_,its,rv,o,ho,hc,n,hd⟩:=J.hok l _ (keepH l _ nl hl)
   exact⟨"tuple",o,n,its,.inr rfl,ho,hc,hd,rv⟩
 obtain⟨T,o,n0,its,hT,ho,hc,hd,rv⟩:=src
 refine sorted_keyedN (kf:=kf) J hT ho hc hd rv h64 (fun pins' H2 s2 i u hu sm J2=>?_) fun D H3 hD e1 sm=>?_
 ·have hi:i < xs.length:=by rw[rv.length];exact(List.getElem?_eq_some_iff.mp hu).1
  obtain⟨u',hu',ru⟩:=rv.get (List.getElem?_eq_getElem hi)
  rw[hu] at hu'
  cases hu'
  exact lam_call S hr.in1.in1 rfl J2 (J2.hok f _ (sm _ _ at_f)).1 (J2.hok c' _ (sm _ _ at_c)).1 hfd hfs (hbind s2 pm c' ctv u) rfl (show Vals [xs[i]] [u] from .cons ru .nil) (hbody f c' _ s2 H2)
   (hk i _ (List.getElem?_eq_getElem hi) H2 fun b o nb e=>sm b o (keepH b o nb e))
 ·refine q D H3 ?_ e1 (fun b o nb e=>sm b o (keepH b o nb e)) (tab'.keep (fun ps e=>sm _ _ e) fun b ob u e=>sm _ _ e)
  cases e:H1 D with
  |none=>rfl
  |some o=>
   by_cases z:D=P
   ·obtain⟨ps,hP,_⟩:=tab'
    have hP:H' P=some (.tbl ps):=hP
    rw[z,hP] at hD
    cases hD
   ·rw[keepH D o z e] at hD
    cases hD
variable {φ:Fam}
def tIx1 (K:PySem.W.Frag):TE:=tOp (rIxT K) (tVar 0) (tC (.int 1))
theorem tIx1_ok {K:PySem.W.Frag} {a:Int} {N:List Str} {H:Hp} {p:Addr} {ys:List V} (h:H p=some (.tup ys)) (hi:atI ys 1=some (.int a)):tIx1 K (start N [.ref p]) H fun v H3=>v= .int a∧H3=H:=
 ⟨_,start_get rfl,p,ys,1,_,rfl,rfl,SqT.of h,hi,rfl,rfl⟩
def keyN:PV→Option Int
 | .tup l=>match (l[1]?:Option PV) with
  |some (PV.int n)=>some n
  |_=>none
 |_=>none
theorem keyN_inv (e:keyN y=some k): ∃ l,y= .tup l∧l[1]?=some (.int k):=by
 cases y with
 |tup l=>
  simp only[keyN] at e
  split at e
  ·rename_i n h
   cases e
   exact⟨l,rfl,h⟩
  ·cases e
 |_=>cases e
def kN (y:PV):Int:=(keyN y).getD 0
def ordI (l:List PV):List PV:=(ordN (fun i=>kN (l.getD i .non)) l.length).toList.map fun i=>l.getD i .non
def sortN (y:PV):M (List PV):=match seqPV y with
 |some l=>if l.length < 64∧∀ z∈l,(keyN z).isSome=true then .ret (ordI l) else .fail
 |none=>.fail
theorem sortN_inv (w:(sortN y).wp n R): ∃ l,seqPV y=some l∧l.length < 64∧(∀ z∈l,(keyN z).isSome=true)∧R (ordI l) n:=by
 unfold sortN at w
 cases e:seqPV y with
 |none=>rw[e] at w;exact w.elim
 |some l=>
  rw[e] at w
  dsimp only at w
  by_cases c:l.length < 64∧∀ z∈l,(keyN z).isSome=true
  ·rw[if_pos c] at w
   exact⟨l,rfl,c.1,c.2,w⟩
  ·rw[if_neg c] at w;exact w.elim
theorem ef_sortN (hin:tb∈φ.tabs) (hun: ∀ q∈φ.tabs,q.1=tb.1→q=tb) (h:BE X e (tSortN tb N (tIx1 X.K) (teB φ me))):EF φ X e (fun ρ=>(me ρ).bind sortN):=BE.mono h fun σ H Q hq0=>by
 obtain⟨G,O,ρ,n,R,s,w,q⟩:=hq0
 rw[M.wZ] at w
 refine⟨G,O,ρ,n,_,s,w,fun y x H1 n1 e1 ok1 r1 w1=>?_⟩
 obtain⟨l,hl,h64,hok,hR⟩:=sortN_inv w1
 obtain⟨p,xs,rfl,hp,rs⟩:=seq_rep r1 hl
 have s1:=s.ext e1 ok1
 have tab:=G.tab H1 n1 ok1 tb hin
 have hlen:l.length=xs.length:=rs.1
 have pO:O tb.1:=s.pr _ (G.tp tb hin)
 obtain⟨ps,hP,_⟩:=id tab
 refine⟨p,xs,fun i=>kN (l.getD i .non),rfl,hp,by lia,tab,fun i x hx H2 k2=>?_,fun D H' hD hD' kp tab'=>?_⟩
 ·obtain⟨y,hy,ry⟩:=rs.at' hx
  obtain⟨k,ek⟩:=Option.isSome_iff_exists.mp (hok y (List.mem_of_getElem? hy))
  obtain⟨l',rfl,g1⟩:=keyN_inv ek
  obtain⟨q',ys,rfl,hq',r'⟩:=(RepB.full ry:RepB G O H1 _ _).tup_i
  obtain⟨v1,hv1,rv1⟩:=r'.at g1
  cases rv1
  have ekk:kN (l.getD i .non)=k:=by
   rw[List.getD_eq_getElem?_getD,hy]
   show (keyN _).getD _=k
   rw[Option.getD_some,ek]
   rfl
  dsimp only
  rw[ekk]
  exact tIx1_ok (k2 _ _ (fun z=>by rw[z,hP] at hq';cases hq') hq') (atI_of hv1)
 ·have kp1: ∀ b o,¬ O b→H1 b=some o→H' b=some o:=fun b o nb eb=>kp b o (fun z=>nb (z▸pO)) eb
  have ext:Ext G.B H1 H':=fun b o nb eb=>by
   by_cases z:b=tb.1
   ·obtain⟨qs,hQ,_⟩:=tab'
    rw[z,hP] at eb
    cases eb
    exact⟨qs,z▸hQ⟩
   ·exact .of (kp b o z eb)
  have ok':G.ok H' n1:=G.tset H1 H' n1 ok1 (fun q' hq'=>by
   by_cases z:q'.1=tb.1
   ·rw[hun q' hq' z]
    exact tab'
   ·exact(G.tab H1 n1 ok1 q' hq').keep (fun qs eq=>kp _ _ z eq) fun b ob u eq=>kp b _ (fun y=>by rw[y,hP] at eq;cases eq) eq) fun b o nb eb=>kp b o (fun z=>nb (List.mem_map.mpr ⟨tb,hin,z.symm⟩)) eb
  obtain⟨p',ep⟩: ∃ p',p'=ordN (fun i=>kN (l.getD i .non)) l.length:=⟨_,rfl⟩
  have hpm:p'.Perm (List.toArray (List.range l.length)):=ep▸ordN_perm _ _
  rw[←hlen,←ep] at hD'
  have hlt: ∀ i∈p'.toList,i < l.length:=fun i hi=>by
   have:=(Array.perm_iff_toList_perm.mp hpm).mem_iff.mp hi
   simpa using this
  refine q (ordI l) D _ H' n1 (e1.trans ext) ok' (new_before e1 ok1 hD) hD' ?_ hR
  unfold ordI
  rw[←ep]
  have go:Reps G.B O H1 (p'.toList.map fun i=>l.getD i .non) (p'.toList.map fun i=>xs.getD i .non):=by
   refine⟨by simp,fun i y x a b=>?_⟩
   rw[List.getElem?_map] at a b
   cases c:p'.toList[i]? with
   |none=>rw[c] at a;cases a
   |some j=>
    rw[c] at a b
    cases a
    cases b
    have hj:=hlt j (List.mem_of_getElem? c)
    obtain⟨x,hx,rx⟩:=rs.at (List.getElem?_eq_getElem hj)
    show Rep G.B O H1 (l.getD j .non) (xs.getD j .non)
    rw[List.getD_eq_getElem?_getD,List.getD_eq_getElem?_getD,hx,List.getElem?_eq_getElem hj]
    exact rx
  exact go.keep (O':=fun q=>O q∨q=D) (H':=H') fun b o nb eb=>⟨kp1 b o nb eb,fun z=>by
   rcases z with z|z
   ·exact nb z
   ·rw[z,hD] at eb;cases eb⟩
theorem range_one: ∀ {p:List Nat} {m n:Nat},p.Pairwise (· < ·)→p.Perm (List.range' m n)→p=List.range' m n
 |p,m,n,h,q=>List.Perm.eq_of_pairwise (fun a b _ _ x y=>absurd x (Nat.lt_asymm y)) h (List.pairwise_lt_range' (s:=m) (n:=n)) q
theorem ordI_up (h: ∀ i j,i < j→j < l.length→kN (l.getD i .non) < kN (l.getD j .non)):ordI l=l:=by
 have key:(ordN (fun i=>kN (l.getD i .non)) l.length).toList=List.range l.length:=by
  by_cases c:l.length < 2
  ·unfold ordN
   rw[if_pos c]
  ·obtain⟨p,ep,hz,hp,hu⟩:=sort_is (r:=fun i=>kN (l.getD i .non)) (n:=l.length) (by lia) fun i j hi hj ne=>by
    rcases Nat.lt_or_gt_of_ne ne with z|z
    ·exact Int.ne_of_lt (h i j z hj)
    ·exact(Int.ne_of_lt (h j i z hi)).symm
   unfold ordN
   rw[if_neg c,ep]
   have lt: ∀ i∈p.toList,i < l.length:=fun i hi=>by
    have:=(Array.perm_iff_toList_perm.mp hp).mem_iff.mp hi
    simpa using this
   have pw:p.toList.Pairwise (· < ·):=by
    rw[List.pairwise_iff_getElem]
    intro i j hi hj hij
    have hj':j < l.length:=by simpa[hz] using hj
    have g:=hu i j hij hj'
    unfold kg at g
    have e1:p.getD i 0=p.toList[i]:=by simp at hi;simp[Array.getD,hi]
    have e2:p.getD j 0=p.toList[j]:=by simp at hj;simp[Array.getD,hj]
    rw[e1,e2] at g
    have l1:=lt _ (List.getElem_mem hi)
    have l2:=lt _ (List.getElem_mem hj)
    rcases Nat.lt_trichotomy p.toList[i] p.toList[j] with z|z|z
    ·exact z
    ·rw[z] at g;exact absurd g (Int.lt_irrefl _)
    ·exact absurd (h _ _ z l1) (Int.not_lt.mpr (Int.le_of_lt g))
   have hp':p.toList.Perm (List.range' 0 l.length):=by
    have:=Array.perm_iff_toList_perm.mp hp
    simpa[List.range_eq_range'] using this
   rw[range_one pw hp',List.range_eq_range']
 unfold ordI
 rw[key]
 refine List.ext_getElem (by simp) fun i h1 h2=>?_
 simp at h1
 simp[h1]
end
section
variable {prog:Program} {w:World} {A:Around} {E:Value→Shared→Prop} {s:Shared}
theorem no_keys:typeLookup (Value.type "list") (Str.ofString "keys")=pure none:=by
 first|rfl|decide|(unfold typeLookup;rfl)|simp[typeLookup]
theorem list_no_keys (hh:A.handled=none) (hl:s.heap.get? l=some (seqObj "list" items n)) (h: ∀ h' tk,(∀ b o,s.heap.get? b=some o→h'.get? b=some o)→Q none {s with heap:=h',toks:=tk}):
  wpAny (model prog w) A (getAttr? (.ref l) (Str.ofString "keys")) Q E s:=by
 unfold getAttr? getAttrBy? getAttrBy
 have hT:s.TypeIs (.ref l) "list":=⟨_,hl,rfl⟩
 have hg1:=F.slot_list_getattribute.lookup
 have hg:=F.plainAttrs_list.noGetattr
 have hb:=F.slot_list_getattribute.bind (.ref l)
 have hk:=no_keys
 obtain⟨hp,g',d,tk,os⟩:=s
 wp_walk
 refine codeAny_call_builtin F.slot_list_getattribute.plain F.entry_list_ga (F.slot_list_getattribute.check _ _ _ _ _ _ _ _ ⟨_,hl,rfl⟩ (F.args_list_getattribute_2 _ _) ?_)
 unfold Builtin.«object.__getattribute__»
 wp_walk
 refine wpAny_raiseAttrError (by simp[hh]) (fun h' tk' e ne=>?_) (by decide +kernel)
 dsimp only
 obtain⟨k1,k2,ob,vs,k3⟩:=ne
 have hi:Shared.TypeIs {heap:=h',gens:=g',drawn:=d,toks:=tk',os:=os} (.ref e) "AttributeError":=⟨_,k3,rfl⟩
 have hs:=sub_AttributeError
 unfold getattributeRaised
 wp_walk
 exact h _ _ k1
theorem new_dict (a:Value) (h:Q (.ref s.heap.objs.size) {s with heap:=s.heap.push {cls:=.type "dict",data:=.dict #[]}}):
  codeAny (model prog w) A (.call (.builtin "dict.__new__") ⟨[.type "dict",a],[]⟩) (wants Q E) s:=by
 refine codeAny_of_tree ?_
 show wpAny _ A.in1 (checkBuiltinCall "dict.__new__" ⟨[.type "dict",a],[]⟩ >>= fun _=>again (.builtin "dict.__new__" ⟨[.type "dict",a],[]⟩)) _ _ s
 refine wpAny_bind (wpAny_of_eq (PySem.F.kt_newCall_dict_1 a) (wpAny_pure ⟨plainId_quiet PySem.F.kt_plain_dict_new _,codeAny_builtin PySem.F.kt_entry_dict_new ?_⟩))
 rw[Around.under_plainId PySem.F.kt_plain_dict_new _]
 unfold Builtin.«dict.__new__»
 have hsub:=PySem.F.kt_sub_dict
 have hmro:=PySem.F.kt_mro_dict
 obtain⟨hp,g,d,tk,os⟩:=s
 dsimp only
 wp_walk
 exact h
end
theorem entry_dul:entryFor table "dict.update.loop"=some Builtin.«dict.update.loop»:=by rfl
theorem plain_dul:plainId "dict.update.loop"=true:=by decide +kernel
def stAll (l:List (Key×Value)):List (Key×Value):=l.foldl (fun t kv=>stored t kv.1 kv.2) []
theorem stAll_take {l:List (Key×Value)} {i:Nat} (h:l[i]?=some kv):stAll (l.take (i+1))=stored (stAll (l.take i)) kv.1 kv.2:=by
 have e:l.take (i+1)=l.take i++[kv]:=by
  rw[List.take_succ,h]
  rfl
 unfold stAll
 rw[e,List.foldl_append]
 rfl
section
variable {prog:Program} {w:World} {A:Around} {R:Result→Shared→Prop} {I:Addr} {fp wr:List Addr} {G:Array GenState→Array GenState→Prop} {n:Nat} {P:Nat→Value→Prop} {Sx:Nat→Shared→Prop} {h0:Heap}
theorem fill_pairs (W:WalksS prog w A.in1 I fp wr G n P Sx) (D:Addr) (hD:D∉fp) (kvs:List (Key×Value))
  (hval: ∀ i v,P i v→∃ kv T o m ku,kvs[i]?=some kv∧v= .ref T∧T∉D::wr∧h0.get? T=some o∧o.cls= .type "tuple"∧o.data= .seq #[ku,kv.2] m∧(mixKind prog w).is kv.1 ku=true) (hb: ∀ i,(stAll (kvs.take i)).length≤sizeLine):
  ∀ (k i:Nat) (s:Shared),n - i=k→i≤n→Sx i s→(∀ b u,b∉D::wr→h0.get? b=some u→s.heap.get? b=some u)→Heap.DictOf (mixKind prog w) s.heap D (stAll (kvs.take i))→
   (∀ s',Moved (D::wr) G s s'→Heap.DictOf (mixKind prog w) s'.heap D (stAll (kvs.take n))→R (.ok (.ret .none)) s')→
   codeAny (model prog w) A (.builtin "dict.update.loop" ⟨[.ref D,.ref I,rawInt i,.none],[]⟩) R s:=by
 have nw:D∉wr:=fun z=>hD (W.sub _ z)
 have up: ∀ c∈wr,c∈D::wr:=fun c hc=>List.mem_cons_of_mem _ hc
 have at_: ∀ {h h':Heap} {l:List (Key×Value)},Heap.DictOf (mixKind prog w) h D l→(∀ o,h.get? D=some o→h'.get? D=some o)→Heap.DictOf (mixKind prog w) h' D l:=fun ⟨o,es,ep,ho,r⟩ k=>⟨o,es,ep,k o ho,r⟩
 intro k
 induction k with
 |zero=>
  intro i s hk hi st kp0 hS hR
  obtain rfl:i=n:=by lia
  refine codeAny_builtin entry_dul ?_
  rw[Around.under_plainId plain_dul _]
  show wpAny _ A.in1 (pyNext (.ref I) >>= _) _ _ s
  refine wpAny_bind (W.done s _ _ st fun s' mv=>?_)
  have kp: ∀ o,s.heap.get? D=some o→s'.heap.get? D=some o:=fun o e=>mv.heap D o nw e
  exact wpAny_pure (hR s' (mv.mono up) (at_ hS kp))
 |succ k ih=>
  intro i s hk hi st kp0 hS hR
  have hlt:i < n:=by lia
  refine codeAny_builtin entry_dul ?_
  rw[Around.under_plainId plain_dul _]
  show wpAny _ A.in1 (pyNext (.ref I) >>= _) _ _ s
  refine wpAny_bind (W.item i s _ _ hlt st fun v s' hP st' mv=>?_)
  obtain⟨kv,T,o,m,ku,hkv,rfl,nT,g1,g2,g3,g4⟩:=hval i v hP
  have kp: ∀ o,s.heap.get? D=some o→s'.heap.get? D=some o:=fun o e=>mv.heap D o nw e
  have kp1: ∀ b u,b∉D::wr→h0.get? b=some u→s'.heap.get? b=some u:=fun b u nb e=>mv.heap b u (fun z=>nb (up b z)) (kp0 b u nb e)
  have hT:s'.heap.get? T=some o:=kp1 T o nT g1
  have hTy:s'.TypeIs (.ref T) "tuple":=⟨o,hT,g2⟩
  have hS':=at_ hS kp
  refine wpAny_bind (wpAny_holding ?_)
  refine wpAny_bind (wpAny_tryCatch (?_:wpAny _ _ (Builtin.Dict.pairItems (.ref T)) _ _ _))
  unfold Builtin.Dict.pairItems
  refine wpAny_bind (wpAny_typeOf hTy ?_)
  rw[if_pos (by decide)]
  refine wpAny_bind (wpAny_seqItems hT g3 (wpAny_pure ?_))
  refine wpAny_holding (wpAny_dictSet_pairs (knd:=mixKind prog w) (k:=kv.1) g4 hS' (fun h' hS2 sb=>?_) (hb i))
  have hS3:Heap.DictOf (mixKind prog w) h' D (stAll (kvs.take (i+1))):=by rw[stAll_take hkv];exact hS2
  refine wpAny_pure ⟨plainId_quiet plain_dul _,?_⟩
  refine ih (i+1) _ (by lia) hlt (W.frame _ s' _ _ st' (Nat.le_succ _) fun c hc o e=>?_) (fun b u nb e=>?_) hS3 fun s'' mv'' c1=>?_
  ·rw[sb.2 c fun z:c=D=>hD (z▸hc)]
   exact e
  ·rw[sb.2 b fun z:b=D=>nb (z▸List.mem_cons_self)]
   exact kp1 b u nb e
  ·refine hR s'' (Moved.trans W.gtrans ((mv.mono up).then_heap (Nat.le_succ _) fun c o hc e=>?_) mv'') c1
   rw[sb.2 c fun z:c=D=>hc (z▸List.mem_cons_self)]
   exact e
end
section
variable {prog:Program} {w:World} {A:Around} {E:Value→Shared→Prop} {s:Shared}
theorem dict_of_pairs {l:Addr} {items:Array Value} {kvs:List (Key×Value)} {Q:Value→Shared→Prop} (hh:A.handled=none) (hl:s.heap.get? l=some (seqObj "list" items m0))
  (hval: ∀ (i:Nat) (v:Value),items[i]?=some v→∃ kv T o m ku,kvs[i]?=some kv∧v= .ref T∧s.heap.get? T=some o∧o.cls= .type "tuple"∧o.data= .seq #[ku,kv.2] m∧(mixKind prog w).is kv.1 ku=true) (hb: ∀ i,(stAll (kvs.take i)).length≤sizeLine)
  (h: ∀ (h':Heap) (tk:Nat),Heap.DictOf (mixKind prog w) h' s.heap.objs.size (stAll (kvs.take items.size))→(∀ b o,s.heap.get? b=some o→h'.get? b=some o)→Q (.ref s.heap.objs.size) {s with heap:=h',toks:=tk}):
  wpAny (model prog w) A (call (.type "dict") [.ref l]) Q E s:=by
 refine callType_codes PySem.F.kt_called_dict (PySem.F.kt_typeCall_dict_1 _) PySem.F.entry_dict_init (new_dict (.ref l) (Q:=fun obj s₁=>obj= .ref s.heap.objs.size∧s₁={s with heap:=s.heap.push {cls:=.type "dict",data:=.dict #[]}}) ⟨rfl,rfl⟩) fun obj s₁ hs=>?_
 obtain⟨rfl,rfl⟩:=hs
 have g0:(s.heap.push {cls:=.type "dict",data:=.dict #[]}).get? s.heap.objs.size=some {cls:=.type "dict",data:=.dict #[]}:=Heap.get?_push_size _ rfl
 have hT:Shared.TypeIs {s with heap:=s.heap.push {cls:=.type "dict",data:=.dict #[]}} (.ref s.heap.objs.size) "dict":=⟨_,g0,rfl⟩
 have hl1:(s.heap.push {cls:=.type "dict",data:=.dict #[]}).get? l=some (seqObj "list" items m0):=Heap.get?_push_of_some _ hl
 have hTl:Shared.TypeIs {s with heap:=s.heap.push {cls:=.type "dict",data:=.dict #[]}} (.ref l) "list":=⟨_,hl1,rfl⟩
 refine⟨hT,PySem.F.args_dict_init_2 _ _,?_⟩
 unfold Builtin.«dict.__init__» Builtin.Dict.selfAndRest Builtin.Dict.notOrdered
 refine wpAny_bind (wpAny_bind ?_)
 rw[if_pos (by decide)]
 refine wpAny_bind (wpAny_typeOf hT ?_)
 rw[if_neg (by decide)]
 refine wpAny_pure (wpAny_bind (wpAny_pure (wpAny_pure ?_)))
 unfold Builtin.Dict.updateCommon Builtin.Dict.updateFrom
 refine wpAny_bind (wpAny_typeOf hTl ?_)
 rw[if_pos (by decide)]
 refine wpAny_bind (list_no_keys (by simp[hh]) hl1 fun h1 tk1 kp1=>?_)
 rw[if_pos (by decide)]
 refine wpAny_bind (wpAny_rule ?_)
 have hl2:h1.IsList l items:=⟨_,kp1 _ _ hl1,rfl,_,rfl⟩
 refine wpAny_bind (wpAny_pyIter_list hl2 (wpAny_pure ⟨plainId_quiet plain_dul _,?_⟩))
 have lt:l < s.heap.objs.size:=Heap.lt_size hl
 have sz:s.heap.objs.size < h1.objs.size:=Heap.lt_size (kp1 _ _ g0)
 have d1:Heap.DictOf (mixKind prog w) h1 s.heap.objs.size []:=by
  obtain⟨o,es,ep,ho,r⟩:=Heap.DictOf.new (knd:=mixKind prog w) s.heap
  exact⟨o,es,ep,kp1 _ _ ho,r⟩
 have d2:Heap.DictOf (mixKind prog w) (h1.push {cls:=.type "list_iterator",data:=.fields #[.ref l,.int 0 0]}) s.heap.objs.size []:=by
  obtain⟨o,es,ep,ho,r⟩:=d1
  exact⟨o,es,ep,Heap.get?_push_of_some _ ho,r⟩
 refine fill_pairs (h0:=s.heap) ((Walks.list (by simp[hh]) _ l (by exact Nat.ne_of_lt (Nat.lt_trans lt sz)) items).toS) s.heap.objs.size (by simp only[List.mem_cons,List.not_mem_nil,or_false,not_or];exact⟨Nat.ne_of_lt sz,Nat.ne_of_gt lt⟩) kvs (fun i v hv=>?_) hb (items.size - 0) 0 _ (by lia) (Nat.zero_le _) ⟨⟨_,Heap.get?_push_size _ rfl,rfl,rfl⟩,hl2.push _⟩ (fun b u nb e=>Heap.get?_push_of_some _ (kp1 _ _ (Heap.get?_push_of_some _ e))) d2 fun s' mv c1=>?_
 ·obtain⟨kv,T,o,m,ku,e1,e2,e3,e4,e5,e6⟩:=hval i v hv
  refine⟨kv,T,o,m,ku,e1,e2,?_,e3,e4,e5,e6⟩
  have ltT:=Heap.lt_size e3
  simp only[List.mem_cons,List.not_mem_nil,or_false,not_or]
  exact⟨Nat.ne_of_lt ltT,Nat.ne_of_lt (Nat.lt_trans ltT sz)⟩
 ·obtain⟨h',g',d',tk',os'⟩:=s'
  have eg:g'=s.gens:=mv.gens
  have ed:d'=s.drawn:=mv.drawn
  have eo:os'=s.os:=mv.os
  subst eg ed eo
  refine⟨rfl,h h' tk' c1 fun b o e=>?_⟩
  have ltb:=Heap.lt_size e
  exact mv.heap b o (by simp only[List.mem_cons,List.not_mem_nil,or_false,not_or];exact⟨Nat.ne_of_lt ltb,Nat.ne_of_lt (Nat.lt_trans ltb sz)⟩) (Heap.get?_push_of_some _ (kp1 _ _ (Heap.get?_push_of_some _ e)))
end
def putAll (l:List (Key×V)):List (Key×V):=l.foldl (fun t kv=>putK t kv.1 kv.2) []
noncomputable def rDictL:List V→Hp→VK→Prop:=fun vs H Q=> ∃ (l:Addr) (xs:List V) (kvs:List (Key×V)),vs=[.ref l]∧H l=some (.lst xs)∧xs.length=kvs.length∧kvs.length < 100000∧
 (∀ (i:Nat) (x:V),xs[i]?=some x→∃ (T:Addr) (kv:Key×V),x= .ref T∧kvs[i]?=some kv∧H T=some (.tup [kV kv.1,kv.2]))∧∀ D,H D=none→Q (.ref D) (upd H D (.dK (putAll kvs)))
theorem KV.fold: ∀ {a:List (Key×V)} {b:List (Key×Value)} {t:List (Key×V)} {u:List (Key×Value)},KV a b→KV t u→KV (a.foldl (fun t kv=>putK t kv.1 kv.2) t) (b.foldl (fun t kv=>stored t kv.1 kv.2) u)
 |[],b,t,u,r,h=>by cases r;exact h
 |x::a,b,t,u,r,h=>by
  cases r with
  | @cons p q _ qs e tl=>
   have hp:=h.put x.1 e.2
   have e1:q.1=x.1:=e.1.symm
   rw[List.foldl_cons,List.foldl_cons,e1]
   exact KV.fold tl hp
theorem putAll_len: ∀ (a t:List (Key×V)),(a.foldl (fun t kv=>putK t kv.1 kv.2) t).length≤t.length+a.length
 |[],t=>by simp
 |x::a,t=>by
  have h1:=putAll_len a (putK t x.1 x.2)
  have h2:=length_putK t x.1 x.2
  rw[List.foldl_cons,List.length_cons]
  lia
theorem KV.take: ∀ {a:List (Key×V)} {b:List (Key×Value)} (i:Nat),KV a b→KV (a.take i) (b.take i)
 |[],b,i,r=>by cases r;simp;exact .nil
 |x::a,b,i,r=>by
  cases r with
  |cons e tl=>
   cases i with
   |zero=>exact .nil
   |succ i=>exact .cons e (KV.take i tl)
theorem pair_of: ∀ {R:Nat→β→Prop} (l:List α),(∀ i a,l[i]?=some a→∃ b,S a b∧R i b)→∃ m,Paired S l m∧∀ i,i < l.length→∃ b,m[i]?=some b∧R i b
 |R,[],_=>⟨[],.nil,fun i hi=>absurd hi (Nat.not_lt_zero _)⟩
 |R,a::l,h=>by
  obtain⟨b,s,r⟩:=h 0 a rfl
  obtain⟨m,p,q⟩:=pair_of (R:=fun i=>R (i+1)) l fun i a e=>h (i+1) a (by simpa using e)
  refine⟨b::m,.cons s p,fun i hi=>?_⟩
  cases i with
  |zero=>exact⟨b,rfl,r⟩
  |succ i=>exact q i (by simpa using hi)
section
variable {X:Cx}
theorem call_dictL (hc:X.calm=true):CallR X (.type "dict") rDictL:=by
 intro pZ s σ H xs us Q I r h
 obtain⟨l,ys,kvs,rfl,hl,hlen,hsm,hT,q⟩:=h
 obtain⟨u,rfl,rx⟩:=vals1 r
 cases rx
 obtain⟨_,its,n,rv,ho⟩:=I.hok l _ hl
 have hil:its.length=kvs.length:=by rw[←rv.length];exact hlen
 obtain⟨kvs',rel,at_⟩:=pair_of (S:=fun (p:Key×V) (q:Key×Value)=>p.1=q.1∧RelV p.2 q.2) (R:=fun i kv'=> ∃ T o m ku,its[i]?=some (.ref T)∧s.heap.get? T=some o∧o.cls= .type "tuple"∧o.data= .seq #[ku,kv'.2] m∧(mixKind X.prog X.w).is kv'.1 ku=true) kvs fun i kv hkv=>by
  have hi:i < kvs.length:=(List.getElem?_eq_some_iff.mp hkv).1
  have hx:ys[i]?=some ys[i]:=List.getElem?_eq_getElem (by lia)
  obtain⟨T,kv2,e1,e2,e3⟩:=hT i _ hx
  rw[hkv] at e2
  cases e2
  obtain⟨v,hv,rv'⟩:=rv.get hx
  rw[e1] at rv'
  cases rv'
  obtain⟨_,us,rs,o,ho',hcl,m,hd⟩:=I.hok T _ e3
  cases rs with
  |cons r1 t=>
   cases t with
   |cons r2 t=>
    cases t
    rename_i u1 u2
    exact⟨(kv.1,u2),⟨rfl,r2⟩,T,o,m,u1,hv,ho',hcl,hd,kV_is r1⟩
 refine dict_of_pairs (kvs:=kvs') (I.ok.hd hc) ho (fun i v hv=>?_) (fun i=>?_) fun h' tk c1 kp=>?_
 ·have hv':its[i]?=some v:=by simpa using hv
  have hi:i < kvs.length:=by rw[←hil];exact(List.getElem?_eq_some_iff.mp hv').1
  obtain⟨kv',a1,T,o,m,ku,a2,a3,a4,a5,a6⟩:=at_ i hi
  rw[hv'] at a2
  exact⟨kv',T,o,m,ku,a1,Option.some.inj a2,a3,a4,a5,a6⟩
 ·have h1:=Paired.length (KV.fold (KV.take i rel) (t:=[]) (u:=[]) .nil)
  have h2:=putAll_len (kvs.take i) []
  unfold stAll
  rw[←h1,sizeLine_eq]
  simp only[List.length_take,List.length_nil] at h2
  lia
 ·have hz:List.take its.toArray.size kvs'=kvs':=by
   rw[List.size_toArray,hil,Paired.length rel,List.take_length]
  rw[hz] at c1
  have h2:=putAll_len kvs []
  have ok:ObjOk X.prog X.w (upd H s.heap.objs.size (.dK (putAll kvs))) h' s.heap.objs.size (.dK (putAll kvs)):=dk_new (by rw[sizeLine_eq];unfold putAll;simp at h2;lia) (beq_eq_false_iff_ne.mpr (Ne.symm (Nat.ne_of_lt I.big))) (KV.fold rel .nil) c1
  exact⟨.ref s.heap.objs.size,_,I.laid (t':=tk) (h':=h') (a:=s.heap.objs.size) (o:=.dK (putAll kvs)) kp (Nat.le_refl _) ok,rfl,q _ (I.hok.fresh (Nat.le_refl _))⟩
end
def prK:PV→Option (Key×PV)
 | .tup [k,v]=>(keyO k).map fun k'=>(k',v)
 |_=>none
def prsK:List PV→Option (List (Key×PV))
 |[]=>some []
 |y::l=>(prK y).bind fun p=>(prsK l).map (p:: ·)
def putAllP (l:List (Key×PV)):List (Key×PV):=l.foldl (fun t kv=>putP t kv.1 kv.2) []
def dictO:List PV→M PV
 |[.lst l]=>if l.length < 100000 then(M.ofO (prsK l)).bind fun ps=>.ret (.dct (putAllP ps)) else .fail
 |_=>.fail
theorem RepsK.fold: ∀ {a:List (Key×PV)} {b:List (Key×V)} {t:List (Key×PV)} {u:List (Key×V)},RepsK B O H a b→RepsK B O H t u→RepsK B O H (a.foldl (fun t kv=>putP t kv.1 kv.2) t) (b.foldl (fun t kv=>putK t kv.1 kv.2) u)
 |[],b,t,u,r,h=>by
  rcases r.inv with⟨_,rfl⟩|⟨_,_,_,_,e,_⟩
  ·exact h
  ·cases e
 |x::a,b,t,u,r,h=>by
  rcases r.inv with⟨e,_⟩|⟨y',l',x',ks',e,rfl,ek,ry,rt⟩
  ·cases e
  ·cases e
   rw[List.foldl_cons,List.foldl_cons,ek]
   exact RepsK.fold rt (h.put ry)
theorem prsK_rep: ∀ {l:List PV} {xs:List V} {ps:List (Key×PV)},Reps B O H l xs→prsK l=some ps→∃ kvs:List (Key×V),RepsK B O H ps kvs∧xs.length=kvs.length∧∀ (i:Nat) (x:V),xs[i]?=some x→∃ (T:Addr) (kv:Key×V),x= .ref T∧kvs[i]?=some kv∧H T=some (.tup [kV kv.1,kv.2])
 |[],xs,ps,r,e=>by
  cases e
  have h0:=r.1
  cases xs with
  |nil=>exact⟨[],RepsK.nil,rfl,fun i x h=>by simp at h⟩
  |cons x xs=>simp at h0
 |y::l,xs,ps,r,e=>by
  obtain⟨x,xs',rfl,r1,r2⟩:=r.cons_inv
  unfold prsK at e
  obtain⟨p,ep,e⟩:=Option.bind_eq_some_iff.mp e
  obtain⟨ps',e1,rfl⟩:=Option.map_eq_some_iff.mp e
  obtain⟨kvs,g1,g2,g3⟩:=prsK_rep r2 e1
  unfold prK at ep
  split at ep
  ·rename_i k v
   obtain⟨k',ek,rfl⟩:=Option.map_eq_some_iff.mp ep
   cases r1 with
   | @tup T zs _ nO hT hl hr=>
    have rz:Reps B O H [k,v] zs:=⟨hl,hr⟩
    obtain⟨z1,zs1,rfl,q1,q2⟩:=rz.cons_inv
    obtain⟨z2,zs2,rfl,q3,q4⟩:=q2.cons_inv
    rw[q4.nil_inv] at hT
    have ez:z1=kV k':=by
     cases k<;>first|cases ek|skip
     ·cases q1;rfl
     ·cases q1;rfl
    rw[ez] at hT
    refine⟨(k',z2)::kvs,RepsK.cons rfl q3 g1,by simp[g2],fun i x h=>?_⟩
    cases i with
    |zero=>simp at h;subst h;exact⟨T,(k',z2),rfl,rfl,hT⟩
    |succ i=>exact g3 i x (by simpa using h)
  ·cases ep
theorem cv_dict:CallV rDictL dictO:=fun φ G O H n R Q l xs pr dm ok r w q=>by
 match l,r,w with
 |[.lst z],r,w=>
  obtain⟨x,ex,r1⟩:=r.one;subst ex;clear r;have r:=r1;clear r1
  obtain⟨p,ys,rfl,h,e⟩:=r.lst_i
  simp only[dictO] at w
  by_cases c:z.length < 100000
  ·rw[if_pos c,M.wZ] at w
   obtain⟨ps,ep,w⟩:=ofO_wp w
   obtain⟨kvs,g1,g2,g3⟩:=prsK_rep e ep
   refine⟨p,ys,kvs,rfl,h,g2,by rw[←g2,←e.1];exact c,g3,fun D hD=>?_⟩
   have ex:=Ext.new (B:=G.B) hD (.dK (putAll kvs))
   have rr:RepsK G.B O H (putAllP ps) (putAll kvs):=RepsK.fold g1 RepsK.nil
   have rr':=rr.ext (pr _ G.pB) ex
   refine q _ _ _ n ex (Bg.new ok hD _) (.dct (fun z=>?_) (.inl upd_same) rr'.1 rr'.2) w
   obtain⟨o,g⟩:=dm D z
   rw[hD] at g;cases g
  ·rw[if_neg c] at w;exact w.elim
end L2
namespace K12
open L2
open L2.Ent (val un)
def top (i : Nat) : Stmt := PySem.Challenge.pw_homeslopes_k12_ways_with_others.main.body.getD i (.Pass ⟨0, 0, 0, 0⟩)
abbrev s_last_page : Stmt := top 1
theorem sc_last_page : FnScope ["book", "kind", "name", "t", "found", "page"] ["book", "kind", "name", "t"] (defScope s_last_page) := ⟨rfl, rfl, rfl, by decide +kernel, rfl, by decide +kernel, by decide +kernel⟩
abbrev s_reading : Stmt := top 2
theorem sc_reading : FnScope ["book", "post", "t", "page"] ["book", "post", "t"] (defScope s_reading) := ⟨rfl, rfl, rfl, by decide +kernel, rfl, by decide +kernel, by decide +kernel⟩
abbrev s_rules_at : Stmt := top 3
theorem sc_rules_at : FnScope ["book", "w", "t", "page"] ["book", "w", "t"] (defScope s_rules_at) := ⟨rfl, rfl, rfl, by decide +kernel, rfl, by decide +kernel, by decide +kernel⟩
abbrev s_looked_at : Stmt := top 4
theorem sc_looked_at : FnScope ["book", "w", "t", "page"] ["book", "w", "t"] (defScope s_looked_at) := ⟨rfl, rfl, rfl, by decide +kernel, rfl, by decide +kernel, by decide +kernel⟩
abbrev s_post_holds : Stmt := top 6
theorem sc_post_holds : FnScope ["book", "rule", "t", "word", "post", "n", "value"] ["book", "rule", "t"] (defScope s_post_holds) := ⟨rfl, rfl, rfl, by decide +kernel, rfl, by decide +kernel, by decide +kernel⟩
abbrev s_look_holds : Stmt := top 7
theorem sc_look_holds : FnScope ["book", "way", "n", "t", "m"] ["book", "way", "n", "t"] (defScope s_look_holds) := ⟨rfl, rfl, rfl, by decide +kernel, rfl, by decide +kernel, by decide +kernel⟩
abbrev s_holds_alone : Stmt := top 8
theorem sc_holds_alone : FnScope ["book", "way", "rule", "t", "word"] ["book", "way", "rule", "t"] (defScope s_holds_alone) := ⟨rfl, rfl, rfl, by decide +kernel, rfl, by decide +kernel, by decide +kernel⟩
abbrev s_others_asked : Stmt := top 9
theorem sc_others_asked : FnScope ["book", "way", "t", "rules"] ["book", "way", "t"] (defScope s_others_asked) := ⟨rfl, rfl, rfl, by decide +kernel, rfl, by decide +kernel, by decide +kernel⟩
abbrev s_found_open : Stmt := top 10
theorem sc_found_open : FnScope ["asked", "found", "before", "name"] ["asked"] (defScope s_found_open) := ⟨rfl, rfl, rfl, by decide +kernel, rfl, by decide +kernel, by decide +kernel⟩
abbrev s_open_ways : Stmt := top 11
theorem sc_open_ways : FnScope ["hill", "book", "t", "asked", "way", "others", "found"] ["hill", "book", "t"] (defScope s_open_ways) := ⟨rfl, rfl, rfl, by decide +kernel, rfl, by decide +kernel, by decide +kernel⟩
abbrev s_law_start : Stmt := top 13
theorem sc_law_start : FnScope ["_law_script", "_law_digits", "_law_cell", "_law_seed", "_law_k"] ["_law_script"] (defScope s_law_start) := ⟨rfl, rfl, rfl, by decide +kernel, rfl, by decide +kernel, by decide +kernel⟩
abbrev s_law_pick : Stmt := top 14
theorem sc_law_pick : FnScope ["_law_state", "_law_many", "_law_found", "_law_far"] ["_law_state", "_law_many"] (defScope s_law_pick) := ⟨rfl, rfl, rfl, by decide +kernel, rfl, by decide +kernel, by decide +kernel⟩
abbrev s_law_word : Stmt := top 15
theorem sc_law_word : FnScope ["_law_state", "_law_taken", "_law_letters", "_law_size", "_law_word_here"] ["_law_state", "_law_taken"] (defScope s_law_word) := ⟨rfl, rfl, rfl, by decide +kernel, rfl, by decide +kernel, by decide +kernel⟩
abbrev s_law_words : Stmt := top 16
theorem sc_law_words : FnScope ["_law_state", "_law_many", "_law_found", "_law_k"] ["_law_state", "_law_many"] (defScope s_law_words) := ⟨rfl, rfl, rfl, by decide +kernel, rfl, by decide +kernel, by decide +kernel⟩
abbrev s_law_hill : Stmt := top 17
theorem sc_law_hill : FnScope ["_law_state", "_law_most", "_law_scale", "_law_spots", "_law_names", "_law_ways", "_law_name", "_law_kind", "_law_ends"] ["_law_state", "_law_most", "_law_scale"] (defScope s_law_hill) := ⟨rfl, rfl, rfl, by decide +kernel, rfl, by decide +kernel, by decide +kernel⟩
abbrev s_law_free : Stmt := top 18
theorem sc_law_free : FnScope ["_law_names", "_law_withs", "_law_shut", "_law_before", "_law_found"] ["_law_names", "_law_withs", "_law_shut"] (defScope s_law_free) := ⟨rfl, rfl, rfl, by decide +kernel, rfl, by decide +kernel, by decide +kernel⟩
abbrev s_law_stuck : Stmt := top 19
theorem sc_law_stuck : FnScope ["_law_names", "_law_withs", "_law_shut", "_law_bad", "_law_turn", "_law_rest"] ["_law_names", "_law_withs", "_law_shut"] (defScope s_law_stuck) := ⟨rfl, rfl, rfl, by decide +kernel, rfl, by decide +kernel, by decide +kernel⟩
abbrev s_law_book : Stmt := top 20
theorem sc_law_book : FnScope ["_law_names", "_law_withs", "_law_shut", "_law_late", "_law_pages", "_law_k", "_law_w", "_law_rules"] ["_law_names", "_law_withs", "_law_shut", "_law_late"] (defScope s_law_book) := ⟨rfl, rfl, rfl, by decide +kernel, rfl, by decide +kernel, by decide +kernel⟩
abbrev s_law_right : Stmt := top 21
theorem sc_law_right : FnScope ["_law_state", "_law_hill_here", "_law_withs", "_law_shut", "_law_names", "_law_late", "_law_book_here", "_law_opened", "_law_now"] ["_law_state", "_law_hill_here", "_law_withs", "_law_shut"] (defScope s_law_right) := ⟨rfl, rfl, rfl, by decide +kernel, rfl, by decide +kernel, by decide +kernel⟩
abbrev s_law : Stmt := top 22
theorem sc_law : FnScope ["_law_script", "_law_state", "_law_turn", "_law_hill_here", "_law_names", "_law_most", "_law_withs", "_law_w", "_law_often", "_law_shut", "_law_order", "_law_chain"] ["_law_script"] (defScope s_law) := ⟨rfl, rfl, rfl, by decide +kernel, rfl, by decide +kernel, by decide +kernel⟩
structure Txt (K : PySem.W.Frag) (mg : Str → Option Value) (a_last_page a_reading a_rules_at a_looked_at a_post_holds a_look_holds a_holds_alone a_others_asked a_found_open a_open_ways awstart awpick awword awwords awhill awfree awstuck awbook awright a_law cb_law_book tb_law_book : Addr) (d_last_page d_reading d_rules_at d_looked_at d_post_holds d_look_holds d_holds_alone d_others_asked d_found_open d_open_ways dwstart dwpick dwword dwwords dwhill dwfree dwstuck dwbook dwright d_law : FuncData) : Prop where
  F_last_page : Fun K "last_page" "last_page" s_last_page a_last_page d_last_page
  m_last_page : mg "last_page" = some (.ref a_last_page)
  b_last_page : Binds K d_last_page ["book", "kind", "name", "t"] []
  F_reading : Fun K "reading" "reading" s_reading a_reading d_reading
  m_reading : mg "reading" = some (.ref a_reading)
  b_reading : Binds K d_reading ["book", "post", "t"] []
  F_rules_at : Fun K "rules_at" "rules_at" s_rules_at a_rules_at d_rules_at
  m_rules_at : mg "rules_at" = some (.ref a_rules_at)
  b_rules_at : Binds K d_rules_at ["book", "w", "t"] []
  F_looked_at : Fun K "looked_at" "looked_at" s_looked_at a_looked_at d_looked_at
  m_looked_at : mg "looked_at" = some (.ref a_looked_at)
  b_looked_at : Binds K d_looked_at ["book", "w", "t"] []
  F_post_holds : Fun K "post_holds" "post_holds" s_post_holds a_post_holds d_post_holds
  m_post_holds : mg "post_holds" = some (.ref a_post_holds)
  b_post_holds : Binds K d_post_holds ["book", "rule", "t"] []
  F_look_holds : Fun K "look_holds" "look_holds" s_look_holds a_look_holds d_look_holds
  m_look_holds : mg "look_holds" = some (.ref a_look_holds)
  b_look_holds : Binds K d_look_holds ["book", "way", "n", "t"] []
  F_holds_alone : Fun K "holds_alone" "holds_alone" s_holds_alone a_holds_alone d_holds_alone
  m_holds_alone : mg "holds_alone" = some (.ref a_holds_alone)
  b_holds_alone : Binds K d_holds_alone ["book", "way", "rule", "t"] []
  F_others_asked : Fun K "others_asked" "others_asked" s_others_asked a_others_asked d_others_asked
  m_others_asked : mg "others_asked" = some (.ref a_others_asked)
  b_others_asked : Binds K d_others_asked ["book", "way", "t"] []
  F_found_open : Fun K "found_open" "found_open" s_found_open a_found_open d_found_open
  m_found_open : mg "found_open" = some (.ref a_found_open)
  b_found_open : Binds K d_found_open ["asked"] []
  F_open_ways : Fun K "open_ways" "open_ways" s_open_ways a_open_ways d_open_ways
  m_open_ways : mg "open_ways" = some (.ref a_open_ways)
  b_open_ways : Binds K d_open_ways ["hill", "book", "t"] []
  F_law_start : Fun K "_law_start" "_law_start" s_law_start awstart dwstart
  m_law_start : mg "_law_start" = some (.ref awstart)
  b_law_start : Binds K dwstart ["_law_script"] []
  F_law_pick : Fun K "_law_pick" "_law_pick" s_law_pick awpick dwpick
  m_law_pick : mg "_law_pick" = some (.ref awpick)
  b_law_pick : Binds K dwpick ["_law_state", "_law_many"] []
  F_law_word : Fun K "_law_word" "_law_word" s_law_word awword dwword
  m_law_word : mg "_law_word" = some (.ref awword)
  b_law_word : Binds K dwword ["_law_state", "_law_taken"] []
  F_law_words : Fun K "_law_words" "_law_words" s_law_words awwords dwwords
  m_law_words : mg "_law_words" = some (.ref awwords)
  b_law_words : Binds K dwwords ["_law_state", "_law_many"] []
  F_law_hill : Fun K "_law_hill" "_law_hill" s_law_hill awhill dwhill
  m_law_hill : mg "_law_hill" = some (.ref awhill)
  b_law_hill : Binds K dwhill ["_law_state", "_law_most", "_law_scale"] []
  F_law_free : Fun K "_law_free" "_law_free" s_law_free awfree dwfree
  m_law_free : mg "_law_free" = some (.ref awfree)
  b_law_free : Binds K dwfree ["_law_names", "_law_withs", "_law_shut"] []
  F_law_stuck : Fun K "_law_stuck" "_law_stuck" s_law_stuck awstuck dwstuck
  m_law_stuck : mg "_law_stuck" = some (.ref awstuck)
  b_law_stuck : Binds K dwstuck ["_law_names", "_law_withs", "_law_shut"] []
  F_law_book : Fun K "_law_book" "_law_book" s_law_book awbook dwbook
  m_law_book : mg "_law_book" = some (.ref awbook)
  b_law_book : Binds K dwbook ["_law_names", "_law_withs", "_law_shut", "_law_late"] []
  F_law_right : Fun K "_law_right" "_law_right" s_law_right awright dwright
  m_law_right : mg "_law_right" = some (.ref awright)
  b_law_right : Binds K dwright ["_law_state", "_law_hill_here", "_law_withs", "_law_shut"] []
  F_law : Fun K "law" "law" s_law a_law d_law
  m_law : mg "law" = some (.ref a_law)
  b_law : Binds K d_law ["_law_script"] []
  m_len : mg "len" = none
  m_abs : mg "abs" = none
  m_all : mg "all" = none
  m_any : mg "any" = none
  m_list : mg "list" = none
  m_range : mg "range" = none
  m_tuple : mg "tuple" = none
  m_dict : mg "dict" = none
  m_sorted : mg "sorted" = none
  m_enumerate : mg "enumerate" = none
  m_zip : mg "zip" = none
  m_reversed : mg "reversed" = none
  L_law_book : FunC K "_law_book" "_law_book" s_law_book awbook dwbook cb_law_book tb_law_book
abbrev famP (tb_law_book : Addr) (K : PySem.W.Frag) : Fam := famPik K [(tb_law_book, (("_law_book" : Str) ++ ".<locals>." ++ "<lambda>"))]
theorem pow_ok {i : Int} (h0 : 0 ≤ i) (h1 : i < 2 ^ 80) : (0 : Int) ≤ 3 ∧ (Builtin.Int.intBits i : Int) * 3 ≤ 2 ^ 27 := by
  have h2 : i.natAbs < 2 ^ 80 := by
    have e : (2 : Int) ^ 80 = ((2 ^ 80 : Nat) : Int) := by decide
    rw [e] at h1
    omega
  have := intBits_le h2
  refine ⟨by decide, ?_⟩
  have e : (2 : Int) ^ 27 = 134217728 := by decide
  rw [e]
  omega
theorem pow_ok5 {i : Int} (h0 : 0 ≤ i) (h1 : i < 2 ^ 80) : (0 : Int) ≤ 5 ∧ (Builtin.Int.intBits i : Int) * 5 ≤ 2 ^ 27 := by
  have h2 : i.natAbs < 2 ^ 80 := by
    have e : (2 : Int) ^ 80 = ((2 ^ 80 : Nat) : Int) := by decide
    rw [e] at h1
    omega
  have := intBits_le h2
  refine ⟨by decide, ?_⟩
  have e : (2 : Int) ^ 27 = 134217728 := by decide
  rw [e]
  omega
theorem mul_small {i j : Int} (h0 : 0 ≤ j) (h1 : j < 2 ^ 63) : CMul i j := by
  have e : (2 : Int) ^ 63 = 9223372036854775808 := by decide
  have e2 : (2 : Int) ^ 64 = 18446744073709551616 := by decide
  rw [e] at h1
  exact .inr ⟨by rw [e2]; omega, by rw [e2]; omega⟩
theorem mul_smallL {i j : Int} (h0 : 0 ≤ i) (h1 : i < 2 ^ 63) : CMul i j := by
  have e : (2 : Int) ^ 63 = 9223372036854775808 := by decide
  have e2 : (2 : Int) ^ 64 = 18446744073709551616 := by decide
  rw [e] at h1
  exact .inl ⟨by rw [e2]; omega, by rw [e2]; omega⟩
theorem lt80 {i : Int} (h : i < 1208925819614629174706176) : i < 2 ^ 80 := by
  have e : (2 : Int) ^ 80 = 1208925819614629174706176 := by decide
  rw [e]; exact h
theorem ok_pick {P : Program} {w : World} {K : PySem.W.Frag} {mg : Str → Option Value} {base : Heap} {a_last_page a_reading a_rules_at a_looked_at a_post_holds a_look_holds a_holds_alone a_others_asked a_found_open a_open_ways awstart awpick awword awwords awhill awfree awstuck awbook awright a_law cb_law_book tb_law_book : Addr} {d_last_page d_reading d_rules_at d_looked_at d_post_holds d_look_holds d_holds_alone d_others_asked d_found_open d_open_ways dwstart dwpick dwword dwwords dwhill dwfree dwstuck dwbook dwright d_law : FuncData} (T : Txt K mg a_last_page a_reading a_rules_at a_looked_at a_post_holds a_look_holds a_holds_alone a_others_asked a_found_open a_open_ways awstart awpick awword awwords awhill awfree awstuck awbook awright a_law cb_law_book tb_law_book d_last_page d_reading d_rules_at d_looked_at d_post_holds d_look_holds d_holds_alone d_others_asked d_found_open d_open_ways dwstart dwpick dwword dwwords dwhill dwfree dwstuck dwbook dwright d_law) : FnOk P w K mg base CX0 1 awpick dwpick ["_law_state", "_law_many"] spPick := by
  refine T.F_law_pick.ok sc_law_pick (fun vs H Q E h => ?_) (fun cdv A outer s H vs Q E hr h => ?_)
  · obtain ⟨a, n, m, rfl, _⟩ := h
    rfl
  obtain ⟨a, n, m, rfl, pik, hn, hm0, hm1, q⟩ := h
  obtain ⟨d, sd, k, e1, d0, s0, s1, k0, k1⟩ := pik.ex
  have fin : ∀ d' k' : Int, 0 ≤ d' → 0 ≤ k' → k' ≤ n + 1 → Pik (upd H a (.lst [.int d', .int sd, .int k'])) a (n + 1) := fun d' k' h1 h2 h3 => ⟨d', sd, k', upd_same, h1, s0, s1, h2, by omega⟩
  refine ⟨_, (pss_cons (ps_if (pt_cmpR op_gt (pe_ix ix_list (pv 0) pe_int (fun _ _ => rfl)) pe_int (nomark _)) (pss_cons (ps_set (i := 2) sc_law_pick.nd rfl (Or.inl rfl) (pe_op op_mod (pe_ix ix_list (pv 0) pe_int (fun _ _ => rfl)) (pv 1)))
    (pss_cons (ps_asg (pe_op op_fdiv (pe_ix ix_list (pv 0) pe_int (fun _ _ => rfl)) (pv 1)) (pg_sub (pv 0) pe_int set_list))
    (pss_one (ps_ret (pv 2))))) pss_nil)
    (pss_cons (ps_asg (pe_op op_add (pe_ix ix_list (pv 0) pe_int (fun _ _ => rfl)) pe_int) (pg_sub (pv 0) pe_int set_list))
    (pss_cons (ps_set (i := 3) sc_law_pick.nd rfl (Or.inl rfl) (pe_op op_mod (pe_op op_powB (pe_op op_add (pe_ix ix_list (pv 0) pe_int (fun _ _ => rfl)) (pe_op op_mul pe_int (pe_ix ix_list (pv 0) pe_int (fun _ _ => rfl)))) pe_int) pe_int))
    (pss_cons (ps_set (i := 3) sc_law_pick.nd rfl (Or.inl rfl) (pe_op op_mod (pe_op op_mul (pe_op op_add (pv 3) (pe_op op_mul pe_int (pe_ix ix_list (pv 0) pe_int (fun _ _ => rfl)))) (pe_op op_add (pe_op op_mod (pv 3) pe_int) pe_int)) pe_int))
    (pss_one (ps_ret (pe_op op_mod (pe_op op_add (pe_op op_fdiv (pv 3) pe_int) (pe_op op_fdiv (pv 3) pe_int)) (pv 1)))))))), ?_⟩
  refine ⟨_, rfl, a, _, _, _, rfl, rfl, SqL.of e1, rfl, _, _, rfl, rfl, _, rfl, ?_⟩
  refine ite2 (fun c1 => ?_) (fun c1 => ?_)
  · refine ⟨_, rfl, a, _, _, _, rfl, rfl, SqL.of e1, rfl, _, rfl, _, _, rfl, rfl, hm0, ?_⟩
    refine ⟨_, rfl, a, _, _, _, rfl, rfl, SqL.of e1, rfl, _, rfl, _, _, rfl, rfl, ⟨hm0, hm1⟩, ?_⟩
    refine ⟨_, rfl, a, _, _, _, rfl, rfl, e1, rfl, ?_⟩
    refine ⟨_, rfl, ?_⟩
    exact q _ _ (Int.emod_nonneg _ (by omega)) (Int.emod_lt_of_pos _ hm0) (fin _ _ (Int.ediv_nonneg d0 (by omega)) k0 (by omega))
  · refine ⟨_, rfl, a, _, _, _, rfl, rfl, SqL.of e1, rfl, _, _, rfl, rfl, _, rfl, a, _, _, _, rfl, rfl, e1, rfl, ?_⟩
    refine ⟨_, rfl, a, _, _, _, rfl, rfl, SqL.of upd_same, rfl, _, rfl, a, _, _, _, rfl, rfl, SqL.of upd_same, rfl, _, _, rfl, rfl, mul_smallL (by decide) (by decide), _, _, rfl, rfl, _, _, rfl, rfl, pow_ok (by omega) (lt80 (by omega)), _, _, rfl, rfl, (by show (0 : Int) < _; decide), ?_⟩
    refine ⟨_, rfl, _, rfl, a, _, _, _, rfl, rfl, SqL.of upd_same, rfl, _, _, rfl, rfl, mul_smallL (by decide) (by decide), _, _, rfl, rfl, _, rfl, _, _, rfl, rfl, (by show (0 : Int) < _; decide), _, _, rfl, rfl, _, _, rfl, rfl, mul_small ?_ ?_, _, _, rfl, rfl, (by show (0 : Int) < _; decide), ?_⟩
    · have := Int.emod_nonneg (((sd + 982451653 * (k + 1)) ^ (3 : Int).toNat) % 2305843009213693921) (show (179424673 : Int) ≠ 0 by decide)
      omega
    · have := Int.emod_lt_of_pos (((sd + 982451653 * (k + 1)) ^ (3 : Int).toNat) % 2305843009213693921) (show (0 : Int) < 179424673 by decide)
      have e : (2 : Int) ^ 63 = 9223372036854775808 := by decide
      rw [e]
      omega
    · refine ⟨_, rfl, _, _, rfl, rfl, ⟨by decide, by decide⟩, _, rfl, _, _, rfl, rfl, ⟨by decide, by decide⟩, _, _, rfl, rfl, _, rfl, _, _, rfl, rfl, hm0, ?_⟩
      exact q _ _ (Int.emod_nonneg _ (by omega)) (Int.emod_lt_of_pos _ hm0) (fin d (k + 1) d0 (by omega) (by omega))
theorem cut63 (ns : List Int) : cutV (ns.map V.int) none (some 63) = (ns.take 63).map V.int := by
  unfold cutV
  rw [HT.sIx_none]
  have e : HT.sIx (ns.map V.int).length (ns.map V.int).length (some 63) = min 63 (ns.map V.int).length := HT.sIx_nat _ _ 63
  rw [e, List.drop_zero, Nat.sub_zero, List.length_map, ← List.map_take]
  congr 1
  rw [List.take_eq_take_iff]
  omega
theorem cut1 (ns : List Int) : cutV (ns.map V.int) none (some 1) = (ns.take 1).map V.int := by
  unfold cutV
  rw [HT.sIx_none]
  have e : HT.sIx (ns.map V.int).length (ns.map V.int).length (some 1) = min 1 (ns.map V.int).length := HT.sIx_nat _ _ 1
  rw [e, List.drop_zero, Nat.sub_zero, List.length_map, ← List.map_take]
  congr 1
  rw [List.take_eq_take_iff]
  omega
theorem bits_ok {d : Int} {i : Nat} (h0 : 0 ≤ d) (h1 : d < (10 ^ (60 : Int).toNat : Int) ^ i) (hi : i ≤ 63) : Builtin.Int.intBits d ≤ 2 ^ 20 := by
  have e1 : d.natAbs < (2 ^ 200) ^ i := by
    have e2 : (10 ^ (60 : Int).toNat : Int) = ((10 ^ 60 : Nat) : Int) := by decide +kernel
    rw [e2, ← Int.natCast_pow] at h1
    have h2 : d.natAbs < (10 ^ 60) ^ i := by
      have := Int.natAbs_of_nonneg h0
      rw [← this] at h1
      exact Int.ofNat_lt.mp h1
    exact Nat.lt_of_lt_of_le h2 (Nat.pow_le_pow_left (by decide +kernel) i)
  rw [← Nat.pow_mul] at e1
  have := intBits_le e1
  have e3 : (2 : Nat) ^ 20 = 1048576 := by decide
  omega
theorem ok_start {P : Program} {w : World} {K : PySem.W.Frag} {mg : Str → Option Value} {base : Heap} {a_last_page a_reading a_rules_at a_looked_at a_post_holds a_look_holds a_holds_alone a_others_asked a_found_open a_open_ways awstart awpick awword awwords awhill awfree awstuck awbook awright a_law cb_law_book tb_law_book : Addr} {d_last_page d_reading d_rules_at d_looked_at d_post_holds d_look_holds d_holds_alone d_others_asked d_found_open d_open_ways dwstart dwpick dwword dwwords dwhill dwfree dwstuck dwbook dwright d_law : FuncData} (T : Txt K mg a_last_page a_reading a_rules_at a_looked_at a_post_holds a_look_holds a_holds_alone a_others_asked a_found_open a_open_ways awstart awpick awword awwords awhill awfree awstuck awbook awright a_law cb_law_book tb_law_book d_last_page d_reading d_rules_at d_looked_at d_post_holds d_look_holds d_holds_alone d_others_asked d_found_open d_open_ways dwstart dwpick dwword dwwords dwhill dwfree dwstuck dwbook dwright d_law) : FnOk P w K mg base CX0 1 awstart dwstart ["_law_script"] (spStart K) := by
  refine T.F_law_start.ok sc_law_start (fun vs H Q E h => ?_) (fun cdv A outer s H vs Q E hr h => ?_)
  · obtain ⟨a, ns, rfl, _⟩ := h
    rfl
  obtain ⟨a, ns, rfl, hS, h63, q⟩ := h
  have hu0 := Nat.lt_of_succ_lt (hu_of hr)
  have hl63 : ((ns.take 63).map V.int).length ≤ 63 := by rw [List.length_map, List.length_take]; omega
  have isInt : ∀ (x : V), x ∈ (ns.take 63).map V.int → ∃ y : Int, x = .int y := fun x e => by
    obtain ⟨y, _, z⟩ := List.mem_map.mp e
    exact ⟨y, z.symm⟩
  have b60 : ((0 : Int) ≤ 60) ∧ (Builtin.Int.intBits 10 : Int) * 60 ≤ 2 ^ 27 := by decide
  have p60 : (0 : Int) < 10 ^ (60 : Int).toNat := by decide +kernel
  have hb60 : Builtin.Int.intBits (10 ^ (60 : Int).toNat) ≤ 2 ^ 20 := by decide +kernel
  have rest : ∃ t, PSs (cxOf CX0 P w K mg base ["_law_script", "_law_digits", "_law_cell", "_law_seed", "_law_k"] "_law_start" (defScope s_law_start) awstart cdv A outer s H E).nox ((defBody s_law_start).drop 2) t ∧ ∀ (dg : Int) (v2 : Option V) (H1 : Hp), 0 ≤ dg → Same H H1 → t { nx := fun _ H' => Q .non H', rt := Q } [some (.ref a), some (.int dg), v2, none, none] H1 := by
    refine ⟨_, (pss_cons (ps_set (i := 3) sc_law_start.nd rfl (Or.inl rfl) pe_int)
    (pss_cons (ps_for PassesOwn.never rfl (pi_enumT rfl T.m_enumerate PyProof.Rows.boot_enumerate (pa_cons (pe_slice sl_list (pv 0) po_none (po_some pe_int)) pa_nil)) (pg_tup rfl (pgs_cons (pg_name (i := 4) sc_law_start.nd rfl (Or.inl rfl)) (pgs_cons (pg_name (i := 2) sc_law_start.nd rfl (Or.inl rfl)) pgs_nil))) (pss_one (ps_set (i := 3) sc_law_start.nd rfl (Or.inl rfl) (pe_op op_mod (pe_op op_powB (pe_op op_add (pe_op op_add (pe_op op_mul (pv 3) pe_int) (pe_op op_mod (pv 2) pe_int)) (pe_op op_mul pe_int (pv 4))) pe_int) pe_int))))
    (pss_one (ps_ret (pe_lst (pa_cons (pv 1) (pa_cons (pv 3) (pa_cons pe_int pa_nil)))))))), fun dg v2 H1 dg0 sm1 => ?_⟩
    refine ⟨_, rfl, 63, rfl, a, _, rfl, sm1.seq hS, fun u hu => ?_⟩
    rw [cut63 ns]
    have g2 : Same H1 (upd H1 u (.lst ((ns.take 63).map V.int))) := same_new hu _
    have hu2 : upd H1 u (.lst ((ns.take 63).map V.int)) u = some (.lst ((ns.take 63).map V.int)) := upd_same
    generalize upd H1 u (.lst ((ns.take 63).map V.int)) = H2 at g2 hu2
    refine ⟨u, _, rfl, SqL.of hu2, ?_⟩
    refine for_enum (xs := (ns.take 63).map V.int) (fun i σ H' => ∃ (sd : Int) (v2 v4 : Option V), σ = [some (.ref a), some (.int dg), v2, some (.int sd), v4] ∧ Same H2 H' ∧ 0 ≤ sd ∧ sd < 2305843009213693951) ⟨271828182, _, none, rfl, fun _ _ h => h, by decide, by decide⟩ ?_ ?_ ?_
    · rintro i σ H' _ ⟨sd, v2, v4, _, sm, _⟩
      exact SqL.of (sm _ _ hu2)
    · rintro i x σ H' T hx hT ⟨sd, v2, v4, rfl, sm, s0, s1⟩
      obtain ⟨y, rfl⟩ := isInt x (List.mem_of_getElem? hx)
      have hi : i < 63 := Nat.lt_of_lt_of_le (List.getElem?_eq_some_iff.mp hx).1 hl63
      have r0 := Int.emod_nonneg y (show (2305843009213693951 : Int) ≠ 0 by decide)
      have r1 := Int.emod_lt_of_pos y (show (0 : Int) < 2305843009213693951 by decide)
      refine ⟨T, _, rfl, SqT.of upd_same, rfl, _, _, rfl, _, _, rfl, rfl, ?_⟩
      refine ⟨_, rfl, _, _, rfl, rfl, mul_small (by decide) (by decide), _, rfl, _, _, rfl, rfl, (by show (0 : Int) < _; decide), _, _, rfl, rfl, _, rfl, _, _, rfl, rfl, mul_smallL (by decide) (by decide), _, _, rfl, rfl, _, _, rfl, rfl, pow_ok5 (by omega) (lt80 (by omega)), _, _, rfl, rfl, (by show (0 : Int) < _; decide), ?_⟩
      exact ⟨_, _, _, rfl, sm.trans (same_new hT _), Int.emod_nonneg _ (by decide), Int.emod_lt_of_pos _ (by decide)⟩
    · rintro σ H' ⟨sd, v2, v4, rfl, sm, s0, s1⟩
      refine ⟨_, rfl, _, rfl, (by show 3 ≤ sizeLine; decide), fun b hb => ?_⟩
      exact q b _ (sm1.trans (g2.trans (sm.trans (same_new hb _)))) ⟨dg, sd, 0, upd_same, dg0, s0, s1, Int.le_refl 0, by omega⟩
  obtain ⟨tt, dt, ht⟩ := rest
  refine ⟨_, (pss_cons (ps_set (i := 1) sc_law_start.nd rfl (Or.inl rfl) pe_int)
    (pss_cons (ps_if (PW.pt (pw_and (pt_cmpR (op_ne_nil hu0) (pe_slice sl_list (pv 0) po_none (po_some pe_int)) (pe_lst pa_nil) (nomark _)) (pw_and1 (pt_cmpR op_ge (pe_ix ix_list (pv 0) pe_int (fun _ _ => rfl)) (pe_op op_powB pe_int pe_int) (nomark _))))) (pss_one (ps_for PassesOwn.never rfl (pi_rev rfl T.m_reversed PyProof.Rows.boot_reversed (pa_cons (pe_slice sl_list (pv 0) po_none (po_some pe_int)) pa_nil)) (pg_name (i := 2) sc_law_start.nd rfl (Or.inl rfl)) (pss_one (ps_set (i := 1) sc_law_start.nd rfl (Or.inl rfl) (pe_op op_add (pe_op op_mulB (pv 1) (pe_op op_powB pe_int pe_int)) (pe_op op_mod (pe_callB call_abs rfl T.m_abs PyProof.Rows.boot_abs (pa_cons (pv 2) pa_nil)) (pe_op op_powB pe_int pe_int))))))) pss_nil)
    dt)), ?_⟩
  have b18 : ((0 : Int) ≤ 18) ∧ (Builtin.Int.intBits 10 : Int) * 18 ≤ 2 ^ 27 := by decide
  refine ⟨_, rfl, 1, rfl, a, _, rfl, hS, fun u hu => ?_⟩
  rw [cut1 ns]
  have g1 : Same H (upd H u (.lst ((ns.take 1).map V.int))) := same_new hu _
  have gu : upd H u (.lst ((ns.take 1).map V.int)) u = some (.lst ((ns.take 1).map V.int)) := upd_same
  generalize upd H u (.lst ((ns.take 1).map V.int)) = H1 at g1 gu
  refine ⟨(by show 0 ≤ sizeLine; exact Nat.zero_le _), fun u2 hu2 => ?_⟩
  have g2 : Same H1 (upd H1 u2 (.lst [])) := same_new hu2 _
  refine ⟨u, u2, _, rfl, rfl, SqL.of (g2 _ _ gu), SqL.of upd_same, _, rfl, ?_⟩
  generalize upd H1 u2 (.lst []) = H2 at g2
  have sm2 : Same H H2 := g1.trans g2
  refine ite2 (fun c1 => ?_) (fun c1 => ?_)
  · cases ns with
    | nil => cases c1
    | cons y ns =>
    refine ⟨_, rfl, a, _, _, _, rfl, rfl, sm2.seq hS, at0 y ns, _, _, rfl, rfl, b18, _, _, rfl, rfl, _, rfl, ?_⟩
    refine ite2 (fun c2 => ?_) (fun c2 => ?_)
    · refine ⟨_, rfl, 63, rfl, a, _, rfl, sm2.seq hS, fun u3 hu3 => ?_⟩
      rw [cut63 (y :: ns)]
      have g3 : Same H2 (upd H2 u3 (.lst (((y :: ns).take 63).map V.int))) := same_new hu3 _
      have gu3 : upd H2 u3 (.lst (((y :: ns).take 63).map V.int)) u3 = some (.lst (((y :: ns).take 63).map V.int)) := upd_same
      generalize upd H2 u3 (.lst (((y :: ns).take 63).map V.int)) = H3 at g3 gu3
      refine ⟨u3, _, rfl, SqL.of gu3, ?_⟩
      obtain ⟨Bs, hBs, pB, bB, kB⟩ : ∃ Bs : Int, 10 ^ (60 : Int).toNat = Bs ∧ 0 < Bs ∧ Builtin.Int.intBits Bs ≤ 2 ^ 20 ∧ ∀ (d : Int) (i : Nat), 0 ≤ d → d < Bs ^ i → i ≤ 63 → Builtin.Int.intBits d ≤ 2 ^ 20 := ⟨_, rfl, p60, hb60, fun d i => bits_ok⟩
      refine for_rev (xs := ((y :: ns).take 63).map V.int) (fun i σ H' => ∃ (dg : Int) (v2 : Option V), σ = [some (.ref a), some (.int dg), v2, none, none] ∧ H' = H3 ∧ 0 ≤ dg ∧ dg < Bs ^ i) ⟨0, none, rfl, rfl, Int.le_refl 0, by rw [Int.pow_zero]; decide⟩ ?_ ?_ ?_
      · rintro i σ H' _ ⟨dg, v2, _, rfl, _⟩
        exact SqL.of gu3
      · rintro i x σ H' hx hi ⟨dg, v2, rfl, rfl, dg0, dg1⟩
        obtain ⟨z, rfl⟩ := isInt x hx
        have hi63 : i ≤ 63 := by omega
        refine ⟨_, rfl, _, _, rfl, rfl, b60, ?_⟩
        simp only [hBs]
        refine ⟨_, _, rfl, rfl, IntMulOk.of_bits (kB dg i dg0 dg1 hi63) bB, _, rfl, z, rfl, _, _, rfl, rfl, b60, ?_⟩
        simp only [hBs]
        refine ⟨_, _, rfl, rfl, pB, _, _, rfl, rfl, ?_⟩
        have r0 := Int.emod_nonneg (if z < 0 then -z else z) (Int.ne_of_gt pB)
        have r1 := Int.emod_lt_of_pos (if z < 0 then -z else z) pB
        refine ⟨_, _, rfl, rfl, ?_, ?_⟩
        · exact Int.add_nonneg (Int.mul_nonneg dg0 (Int.le_of_lt pB)) r0
        · have h1 : dg + 1 ≤ Bs ^ i := dg1
          have h2 : (dg + 1) * Bs ≤ Bs ^ i * Bs := Int.mul_le_mul_of_nonneg_right h1 (Int.le_of_lt pB)
          rw [← Int.pow_succ, Int.add_mul, Int.one_mul] at h2
          exact Int.lt_of_lt_of_le (Int.add_lt_add_left r1 _) h2
      · rintro σ H' ⟨dg, v2, rfl, rfl, dg0, _⟩
        exact ht dg v2 _ dg0 (sm2.trans g3)
    · exact ht 0 none _ (Int.le_refl 0) sm2
  · exact ht 0 none _ (Int.le_refl 0) sm2
def F_law_pick : List PV → M PV := drawF
noncomputable def m_last_page : PEnv → M Fl := (seqP (setP 4 (fun _ => M.ret .non))
    (seqP (mkFor (fun ρ => ((fun ρ => getV ρ 0) ρ).bind iterO) (bindN 5)
    (ifP (andP (asB (bin2 (eqO false) (bin2 ixO (fun ρ => getV ρ 5) (fun _ => M.ret (.int 0))) (fun ρ => getV ρ 1))) (andP (asB (bin2 (eqO false) (bin2 ixO (fun ρ => getV ρ 5) (fun _ => M.ret (.int 3))) (fun ρ => getV ρ 2))) (asB (bin2 leOD (bin2 ixO (fun ρ => getV ρ 5) (fun _ => M.ret (.int 2))) (fun ρ => getV ρ 3)))))
    (setP 4 (fun ρ => getV ρ 5))
    (fun ρ => M.ret (.nx ρ))))
    (retP (fun ρ => getV ρ 4))))
def F_last_page : List PV → M PV := fnP 4 6 m_last_page
noncomputable def m_reading : PEnv → M Fl := (seqP (setP 3 (fun ρ => ((consA (fun ρ => getV ρ 0) (consA (fun _ => M.ret (.str "read")) (consA (fun ρ => getV ρ 1) (consA (fun ρ => getV ρ 2) (fun _ => M.ret []))))) ρ).bind F_last_page))
    (retP (ifV (asB (bin2 (isO false) (fun ρ => getV ρ 3) (fun _ => M.ret .non))) (fun _ => M.ret .non) (bin2 ixO (fun ρ => getV ρ 3) (fun _ => M.ret (.int 4))))))
def F_reading : List PV → M PV := fnP 3 4 m_reading
noncomputable def m_rules_at : PEnv → M Fl := (seqP (setP 3 (fun ρ => ((consA (fun ρ => getV ρ 0) (consA (fun _ => M.ret (.str "rule")) (consA (fun ρ => getV ρ 1) (consA (fun ρ => getV ρ 2) (fun _ => M.ret []))))) ρ).bind F_last_page))
    (retP (ifV (asB (bin2 (isO false) (fun ρ => getV ρ 3) (fun _ => M.ret .non))) (fun ρ => ((fun _ => M.ret []) ρ).bind mkTup) (bin2 ixO (fun ρ => getV ρ 3) (fun _ => M.ret (.int 4))))))
def F_rules_at : List PV → M PV := fnP 3 4 m_rules_at
noncomputable def m_looked_at : PEnv → M Fl := (seqP (setP 3 (fun ρ => ((consA (fun ρ => getV ρ 0) (consA (fun _ => M.ret (.str "look")) (consA (fun ρ => getV ρ 1) (consA (fun ρ => getV ρ 2) (fun _ => M.ret []))))) ρ).bind F_last_page))
    (retP (ifV (asB (bin2 (isO false) (fun ρ => getV ρ 3) (fun _ => M.ret .non))) (fun _ => M.ret .non) (bin2 ixO (fun ρ => getV ρ 3) (fun _ => M.ret (.int 2))))))
def F_looked_at : List PV → M PV := fnP 3 4 m_looked_at
noncomputable def m_post_holds : PEnv → M Fl := (seqP (unpP [3, 4, 5] (fun ρ => getV ρ 1))
    (seqP (setP 6 (fun ρ => ((consA (fun ρ => getV ρ 0) (consA (fun ρ => getV ρ 4) (consA (fun ρ => getV ρ 2) (fun _ => M.ret [])))) ρ).bind F_reading))
    (seqP (ifP (asB (bin2 (isO false) (fun ρ => getV ρ 6) (fun _ => M.ret .non)))
    (retP (fun _ => M.ret (.bl false)))
    (fun ρ => M.ret (.nx ρ)))
    (retP (ifV (asB (bin2 (eqO false) (fun ρ => getV ρ 3) (fun _ => M.ret (.str "least")))) (bin2 geO (fun ρ => getV ρ 6) (fun ρ => getV ρ 5)) (bin2 leOD (fun ρ => getV ρ 6) (fun ρ => getV ρ 5)))))))
def F_post_holds : List PV → M PV := fnP 3 7 m_post_holds
noncomputable def m_look_holds : PEnv → M Fl := (seqP (setP 4 (fun ρ => ((consA (fun ρ => getV ρ 0) (consA (bin2 ixO (fun ρ => getV ρ 1) (fun _ => M.ret (.int 0))) (consA (fun ρ => getV ρ 3) (fun _ => M.ret [])))) ρ).bind F_looked_at))
    (retP (andV (bin2 (eqO false) (bin2 ixO (fun ρ => getV ρ 1) (fun _ => M.ret (.int 1))) (fun _ => M.ret (.str "slope"))) (andV (bin2 (isO true) (fun ρ => getV ρ 4) (fun _ => M.ret .non)) (bin2 ltO (fun ρ => getV ρ 3) (bin2 addO (fun ρ => getV ρ 4) (fun ρ => getV ρ 2)))))))
def F_look_holds : List PV → M PV := fnP 4 5 m_look_holds
noncomputable def m_holds_alone : PEnv → M Fl := (seqP (setP 4 (bin2 ixO (fun ρ => getV ρ 2) (fun _ => M.ret (.int 0))))
    (seqP (ifP (asB (bin2 (eqO false) (fun ρ => getV ρ 4) (fun _ => M.ret (.str "hours"))))
    (retP (chain leOD ltO (bin2 ixO (fun ρ => getV ρ 2) (fun _ => M.ret (.int 1))) (fun ρ => getV ρ 3) (bin2 ixO (fun ρ => getV ρ 2) (fun _ => M.ret (.int 2)))))
    (fun ρ => M.ret (.nx ρ)))
    (seqP (ifP (orP (asB (bin2 (eqO false) (fun ρ => getV ρ 4) (fun _ => M.ret (.str "least")))) (asB (bin2 (eqO false) (fun ρ => getV ρ 4) (fun _ => M.ret (.str "most")))))
    (retP (fun ρ => ((consA (fun ρ => getV ρ 0) (consA (fun ρ => getV ρ 2) (consA (fun ρ => getV ρ 3) (fun _ => M.ret [])))) ρ).bind F_post_holds))
    (fun ρ => M.ret (.nx ρ)))
    (seqP (ifP (asB (bin2 (eqO false) (fun ρ => getV ρ 4) (fun _ => M.ret (.str "looked"))))
    (retP (fun ρ => ((consA (fun ρ => getV ρ 0) (consA (fun ρ => getV ρ 1) (consA (bin2 ixO (fun ρ => getV ρ 2) (fun _ => M.ret (.int 1))) (consA (fun ρ => getV ρ 3) (fun _ => M.ret []))))) ρ).bind F_look_holds))
    (fun ρ => M.ret (.nx ρ)))
    (retP (fun _ => M.ret (.bl false)))))))
def F_holds_alone : List PV → M PV := fnP 4 5 m_holds_alone
noncomputable def m_others_asked : PEnv → M Fl := (seqP (setP 3 (fun ρ => ((consA (fun ρ => getV ρ 0) (consA (bin2 ixO (fun ρ => getV ρ 1) (fun _ => M.ret (.int 0))) (consA (fun ρ => getV ρ 2) (fun _ => M.ret [])))) ρ).bind F_rules_at))
    (seqP (ifP (notP (asB (fun ρ => ((consA (lstV (mkLC [none, some 0, some 1, some 2] (fun ρ => ((fun ρ => getV ρ 3) ρ).bind iterO) (bindN 0) (asB (bin2 (eqO true) (bin2 ixO (fun ρ => getV ρ 0) (fun _ => M.ret (.int 0))) (fun _ => M.ret (.str "with")))) (fun ρ => ((consA (fun ρ => getV ρ 1) (consA (fun ρ => getV ρ 2) (consA (fun ρ => getV ρ 0) (consA (fun ρ => getV ρ 3) (fun _ => M.ret []))))) ρ).bind F_holds_alone))) (fun _ => M.ret [])) ρ).bind allO)))
    (retP (fun _ => M.ret .non))
    (fun ρ => M.ret (.nx ρ)))
    (retP (lstV (mkLC [none] (fun ρ => ((fun ρ => getV ρ 3) ρ).bind iterO) (bindN 0) (asB (bin2 (eqO false) (bin2 ixO (fun ρ => getV ρ 0) (fun _ => M.ret (.int 0))) (fun _ => M.ret (.str "with")))) (bin2 ixO (fun ρ => getV ρ 0) (fun _ => M.ret (.int 1))))))))
def F_others_asked : List PV → M PV := fnP 3 4 m_others_asked
noncomputable def m_found_open : PEnv → M Fl := (seqP (ownDP 1)
    (seqP (setP 2 (fun ρ => ((fun _ => M.ret (.int 1)) ρ).bind negO))
    (seqP (whP (asB (bin2 ltO (fun ρ => getV ρ 2) (fun ρ => ((consA (fun ρ => getB ρ 1) (fun _ => M.ret [])) ρ).bind lenO))) (seqP (setP 2 (fun ρ => ((consA (fun ρ => getB ρ 1) (fun _ => M.ret [])) ρ).bind lenO))
    (mkFor (fun ρ => ((fun ρ => getV ρ 0) ρ).bind keysO) (bindN 3)
    (ifP (asB (fun ρ => ((consA (lstV (mkLC [none, some 1] (fun ρ => ((bin2 dgetO (fun ρ => getV ρ 0) (fun ρ => getV ρ 3)) ρ).bind iterO) (bindN 0) allTs (bin2 (dinO false) (fun ρ => getV ρ 0) (fun ρ => getB ρ 1)))) (fun _ => M.ret [])) ρ).bind allO))
    (dputP 1 (fun ρ => getV ρ 3) (fun _ => M.ret (.bl true)))
    (fun ρ => M.ret (.nx ρ))))) 1000)
    (retP (fun ρ => getV ρ 1)))))
def F_found_open : List PV → M PV := fnP 1 4 m_found_open
noncomputable def m_open_ways : PEnv → M Fl := (seqP (ownDP 3)
    (seqP (mkFor (fun ρ => ((bin2 ixO (fun ρ => getV ρ 0) (fun _ => M.ret (.int 0))) ρ).bind iterO) (bindN 4)
    (seqP (setP 5 (fun ρ => ((consA (fun ρ => getV ρ 1) (consA (fun ρ => getV ρ 4) (consA (fun ρ => getV ρ 2) (fun _ => M.ret [])))) ρ).bind F_others_asked))
    (ifP (asB (bin2 (isO true) (fun ρ => getV ρ 5) (fun _ => M.ret .non)))
    (dputP 3 (bin2 ixO (fun ρ => getV ρ 4) (fun _ => M.ret (.int 0))) (fun ρ => getV ρ 5))
    (fun ρ => M.ret (.nx ρ)))))
    (seqP (frzP (setP 6 (fun ρ => ((consA (fun ρ => getV ρ 3) (fun _ => M.ret [])) ρ).bind F_found_open)))
    (retP (fun ρ => ((consA (lstV (mkLC [none, some 6] (fun ρ => ((bin2 ixO (fun ρ => getV ρ 0) (fun _ => M.ret (.int 0))) ρ).bind iterO) (bindN 0) (asB (bin2 (dinO false) (bin2 ixO (fun ρ => getV ρ 0) (fun _ => M.ret (.int 0))) (fun ρ => getV ρ 1))) (bin2 ixO (fun ρ => getV ρ 0) (fun _ => M.ret (.int 0))))) (fun _ => M.ret [])) ρ).bind tupO)))))
def F_open_ways : List PV → M PV := fnP 3 7 m_open_ways
noncomputable def m_law_word : PEnv → M Fl := (seqP (setP 2 (fun _ => M.ret (.str "etaoinshrdlcumwfgypbvkjxqz")))
    (seqP (setP 3 (bin2 addO (fun _ => M.ret (.int 1)) (fun ρ => ((consA (fun ρ => getV ρ 0) (consA (fun _ => M.ret (.int 8)) (fun _ => M.ret []))) ρ).bind F_law_pick)))
    (seqP (setP 4 (bmP "str" joinO (fun _ => M.ret (.str "")) (consA (lstV (mkLC [none, some 2, some 0] (fun ρ => ((consA (fun ρ => getV ρ 3) (fun _ => M.ret [])) ρ).bind rng1O) (bindN 0) allTs (bin2 ixO (fun ρ => getV ρ 1) (fun ρ => ((consA (fun ρ => getV ρ 2) (consA (fun _ => M.ret (.int 26)) (fun _ => M.ret []))) ρ).bind F_law_pick)))) (fun _ => M.ret []))))
    (retP (bin2 ixO (lstV (mkLC [none, some 1] (fun ρ => ((lstV (catF (lstV (fun ρ => ((consA (fun ρ => getV ρ 4) (fun _ => M.ret [])) ρ).bind mkLst)) (lstV (mkLC [none, some 4] (fun ρ => ((fun ρ => getV ρ 2) ρ).bind iterO) (bindN 0) allTs (bin2 addO (sl3 slE (fun ρ => getV ρ 1) (fun _ => M.ret none) (fun ρ => ((fun _ => M.ret (.int 7)) ρ).bind fun y => (intM y).bind fun i => M.ret (some i))) (fun ρ => getV ρ 0)))))) ρ).bind iterO) (bindN 0) (asB (bin2 (inO true) (fun ρ => getV ρ 0) (fun ρ => getV ρ 1))) (fun ρ => getV ρ 0))) (fun _ => M.ret (.int 0)))))))
def F_law_word : List PV → M PV := fnP 2 5 m_law_word
noncomputable def m_law_words : PEnv → M Fl := (seqP (ownP 2 (fun ρ => ((fun _ => M.ret []) ρ).bind mkLst))
    (seqP (mkFor (fun ρ => ((consA (fun ρ => getV ρ 1) (fun _ => M.ret [])) ρ).bind rng1O) (bindN 3)
    (appP 2 (fun ρ => ((consA (fun ρ => getV ρ 0) (consA (fun ρ => getB ρ 2) (fun _ => M.ret []))) ρ).bind fun l => (F_law_word l).bind flatM)))
    (retP (fun ρ => getV ρ 2))))
def F_law_words : List PV → M PV := fnP 2 4 m_law_words
noncomputable def m_law_hill : PEnv → M Fl := (seqP (setP 3 (fun ρ => ((consA (fun ρ => getV ρ 0) (consA (bin2 addO (fun _ => M.ret (.int 2)) (fun ρ => ((consA (fun ρ => getV ρ 0) (consA (fun _ => M.ret (.int 4)) (fun _ => M.ret []))) ρ).bind F_law_pick)) (fun _ => M.ret []))) ρ).bind F_law_words))
    (seqP (setP 4 (fun ρ => ((consA (fun ρ => getV ρ 0) (consA (bin2 addO (fun _ => M.ret (.int 1)) (fun ρ => ((consA (fun ρ => getV ρ 0) (consA (fun ρ => getV ρ 1) (fun _ => M.ret []))) ρ).bind F_law_pick)) (fun _ => M.ret []))) ρ).bind F_law_words))
    (seqP (ownP 5 (fun ρ => ((fun _ => M.ret []) ρ).bind mkLst))
    (seqP (mkFor (fun ρ => ((fun ρ => getV ρ 4) ρ).bind iterO) (bindN 6)
    (seqP (setP 7 (bin2 ixO (lstV (fun ρ => ((consA (fun _ => M.ret (.str "slope")) (consA (fun _ => M.ret (.str "slope")) (consA (fun _ => M.ret (.str "lift")) (consA (fun _ => M.ret (.str "path")) (fun _ => M.ret []))))) ρ).bind mkLst)) (fun ρ => ((consA (fun ρ => getV ρ 0) (consA (fun _ => M.ret (.int 4)) (fun _ => M.ret []))) ρ).bind F_law_pick)))
    (seqP (setP 8 (lstV (mkLC [none, some 3, some 0] (fun ρ => ((consA (fun _ => M.ret (.int 2)) (fun _ => M.ret [])) ρ).bind rng1O) (bindN 0) allTs (bin2 ixO (fun ρ => getV ρ 1) (fun ρ => ((consA (fun ρ => getV ρ 2) (consA (fun ρ => ((consA (fun ρ => getV ρ 1) (fun _ => M.ret [])) ρ).bind lenO) (fun _ => M.ret []))) ρ).bind F_law_pick)))))
    (appP 5 (fun ρ => ((consA (fun ρ => getV ρ 6) (consA (fun ρ => getV ρ 7) (consA (bin2 ixO (fun ρ => getV ρ 8) (fun _ => M.ret (.int 0))) (consA (bin2 ixO (fun ρ => getV ρ 8) (fun _ => M.ret (.int 1))) (consA (bin2 mulE (fun ρ => getV ρ 2) (fun ρ => ((consA (fun ρ => getV ρ 0) (consA (fun _ => M.ret (.int 8)) (fun _ => M.ret []))) ρ).bind F_law_pick)) (consA (bin2 mulE (fun ρ => getV ρ 2) (fun ρ => ((consA (fun ρ => getV ρ 0) (consA (fun _ => M.ret (.int 5)) (fun _ => M.ret []))) ρ).bind F_law_pick)) (fun _ => M.ret []))))))) ρ).bind mkTup)))))
    (retP (fun ρ => ((consA (fun ρ => ((consA (fun ρ => getV ρ 5) (fun _ => M.ret [])) ρ).bind tupO) (consA (bin2 ixO (fun ρ => getV ρ 3) (fun ρ => ((consA (fun ρ => getV ρ 0) (consA (fun ρ => ((consA (fun ρ => getV ρ 3) (fun _ => M.ret [])) ρ).bind lenO) (fun _ => M.ret []))) ρ).bind F_law_pick)) (consA (bin2 mulE (fun ρ => getV ρ 2) (bin2 addO (fun _ => M.ret (.int 1)) (fun ρ => ((consA (fun ρ => getV ρ 0) (consA (fun _ => M.ret (.int 30)) (fun _ => M.ret []))) ρ).bind F_law_pick))) (fun _ => M.ret [])))) ρ).bind mkTup))))))
def F_law_hill : List PV → M PV := fnP 3 9 m_law_hill
noncomputable def m_law_free : PEnv → M Fl := (seqP (setP 3 (fun _ => M.ret .non))
    (seqP (setP 4 (lstV (fun ρ => ((fun _ => M.ret []) ρ).bind mkLst)))
    (seqP (whP (asB (bin2 (eqO true) (fun ρ => getV ρ 3) (fun ρ => getV ρ 4))) (seqP (setP 3 (fun ρ => getV ρ 4))
    (setP 4 (lstV (mkLC [none, some 2, some 1, some 3] (fun ρ => ((fun ρ => getV ρ 0) ρ).bind iterO) (bindN 0) (andP (asB (bin2 (inO true) (fun ρ => getV ρ 0) (fun ρ => getV ρ 1))) (asB (fun ρ => ((consA (lstV (mkLC [none, some 3] (fun ρ => ((bin2 dgetO (fun ρ => getV ρ 2) (fun ρ => getV ρ 0)) ρ).bind iterO) (bindN 0) allTs (bin2 (inO false) (fun ρ => getV ρ 0) (fun ρ => getV ρ 1)))) (fun _ => M.ret [])) ρ).bind allO))) (fun ρ => getV ρ 0))))) 1000)
    (retP (fun ρ => ((consA (fun ρ => getV ρ 4) (fun _ => M.ret [])) ρ).bind tupO)))))
def F_law_free : List PV → M PV := fnP 3 5 m_law_free
noncomputable def m_law_stuck : PEnv → M Fl := (seqP (setP 3 (lstV (fun ρ => ((consA (fun ρ => getV ρ 2) (fun _ => M.ret [])) ρ).bind lstO)))
    (seqP (mkFor (fun ρ => ((fun ρ => getV ρ 0) ρ).bind iterO) (bindN 4)
    (setP 3 (lstV (catF (fun ρ => getV ρ 3) (lstV (mkLC [none, some 3, some 1] (fun ρ => ((fun ρ => getV ρ 0) ρ).bind iterO) (bindN 0) (andP (asB (bin2 (inO true) (fun ρ => getV ρ 0) (fun ρ => getV ρ 1))) (asB (fun ρ => ((consA (lstV (mkLC [none, some 1] (fun ρ => ((bin2 dgetO (fun ρ => getV ρ 2) (fun ρ => getV ρ 0)) ρ).bind iterO) (bindN 0) allTs (bin2 (inO false) (fun ρ => getV ρ 0) (fun ρ => getV ρ 1)))) (fun _ => M.ret [])) ρ).bind anyO))) (fun ρ => getV ρ 0)))))))
    (seqP (setP 5 (lstV (mkLC [none, some 3] (fun ρ => ((fun ρ => getV ρ 0) ρ).bind iterO) (bindN 0) (asB (bin2 (inO true) (fun ρ => getV ρ 0) (fun ρ => getV ρ 1))) (fun ρ => getV ρ 0))))
    (seqP (mkFor (fun ρ => ((fun ρ => getV ρ 0) ρ).bind iterO) (bindN 4)
    (setP 5 (lstV (mkLC [none, some 1, some 5] (fun ρ => ((fun ρ => getV ρ 5) ρ).bind iterO) (bindN 0) (asB (fun ρ => ((consA (lstV (mkLC [none, some 2] (fun ρ => ((bin2 dgetO (fun ρ => getV ρ 1) (fun ρ => getV ρ 0)) ρ).bind iterO) (bindN 0) allTs (bin2 (inO false) (fun ρ => getV ρ 0) (fun ρ => getV ρ 1)))) (fun _ => M.ret [])) ρ).bind anyO)) (fun ρ => getV ρ 0)))))
    (retP (lstV (mkLC [none, some 3, some 5] (fun ρ => ((fun ρ => getV ρ 0) ρ).bind iterO) (bindN 0) (orP (asB (bin2 (inO false) (fun ρ => getV ρ 0) (fun ρ => getV ρ 1))) (asB (bin2 (inO false) (fun ρ => getV ρ 0) (fun ρ => getV ρ 2)))) (fun ρ => getV ρ 0))))))))
def F_law_stuck : List PV → M PV := fnP 3 6 m_law_stuck
noncomputable def m_law_book : PEnv → M Fl := (seqP (ownP 4 (fun ρ => ((fun _ => M.ret []) ρ).bind mkLst))
    (seqP (mkFor (fun ρ => ((consA (fun ρ => getV ρ 0) (fun _ => M.ret [])) ρ).bind enLO) (bindT [5, 6])
    (seqP (ownP 7 (mkLC [none] (fun ρ => ((bin2 dgetO (fun ρ => getV ρ 1) (fun ρ => getV ρ 6)) ρ).bind iterO) (bindN 0) allTs (fun ρ => ((consA (fun _ => M.ret (.str "with")) (consA (fun ρ => getV ρ 0) (fun _ => M.ret []))) ρ).bind mkTup)))
    (seqP (ifP (asB (bin2 (inO false) (fun ρ => getV ρ 6) (fun ρ => getV ρ 2)))
    (insP 7 (consA (bin2 modO (fun ρ => getV ρ 5) (bin2 addO (fun ρ => ((consA (fun ρ => getB ρ 7) (fun _ => M.ret [])) ρ).bind lenO) (fun _ => M.ret (.int 1)))) (consA (ifV (asB (bin2 (eqO false) (bin2 modO (fun ρ => getV ρ 5) (fun _ => M.ret (.int 2))) (fun _ => M.ret (.int 0)))) (fun ρ => ((consA (fun _ => M.ret (.str "never")) (fun _ => M.ret [])) ρ).bind mkTup) (fun ρ => ((consA (fun _ => M.ret (.str "hours")) (consA (fun ρ => getV ρ 3) (consA (bin2 addO (fun ρ => getV ρ 3) (fun _ => M.ret (.int 1))) (fun _ => M.ret [])))) ρ).bind mkTup)) (fun _ => M.ret []))))
    (fun ρ => M.ret (.nx ρ)))
    (appP 4 (fun ρ => ((consA (fun _ => M.ret (.str "rule")) (consA (bin2 modO (bin2 mulE (fun ρ => getV ρ 5) (fun _ => M.ret (.int 7))) (fun _ => M.ret (.int 997))) (consA (fun _ => M.ret (.int 0)) (consA (fun ρ => getV ρ 6) (consA (fun ρ => ((consA (fun ρ => getB ρ 7) (fun _ => M.ret [])) ρ).bind tupO) (fun _ => M.ret [])))))) ρ).bind mkTup)))))
    (retP (fun ρ => ((consA (lstV (fun ρ => ((fun ρ => getV ρ 4) ρ).bind sortN)) (fun _ => M.ret [])) ρ).bind tupO))))
def F_law_book : List PV → M PV := fnP 4 8 m_law_book
noncomputable def m_law_right : PEnv → M Fl := (seqP (setP 4 (lstV (mkLC [none] (fun ρ => ((bin2 ixO (fun ρ => getV ρ 1) (fun _ => M.ret (.int 0))) ρ).bind iterO) (bindN 0) allTs (bin2 ixO (fun ρ => getV ρ 0) (fun _ => M.ret (.int 0))))))
    (seqP (setP 5 (bin2 addO (fun _ => M.ret (.int 1)) (fun ρ => ((consA (fun ρ => getV ρ 0) (consA (bin2 ixO (fun ρ => getV ρ 1) (fun _ => M.ret (.int 2))) (fun _ => M.ret []))) ρ).bind F_law_pick)))
    (seqP (setP 6 (fun ρ => ((consA (fun ρ => getV ρ 4) (consA (fun ρ => getV ρ 2) (consA (fun ρ => getV ρ 3) (consA (fun ρ => getV ρ 5) (fun _ => M.ret []))))) ρ).bind F_law_book))
    (seqP (setP 7 (fun ρ => ((consA (fun ρ => getV ρ 4) (consA (fun ρ => getV ρ 2) (consA (fun ρ => getV ρ 3) (fun _ => M.ret [])))) ρ).bind F_law_free))
    (seqP (ifP (asB (bin2 (eqO true) (lstV (mkLC [none, some 7] (fun ρ => ((fun ρ => getV ρ 4) ρ).bind iterO) (bindN 0) (asB (bin2 (inO true) (fun ρ => getV ρ 0) (fun ρ => getV ρ 1))) (fun ρ => getV ρ 0))) (fun ρ => ((consA (fun ρ => getV ρ 4) (consA (fun ρ => getV ρ 2) (consA (fun ρ => getV ρ 3) (fun _ => M.ret [])))) ρ).bind F_law_stuck)))
    (retP (fun _ => M.ret (.bl false)))
    (fun ρ => M.ret (.nx ρ)))
    (seqP (setP 8 (lstV (mkLC [none, none, some 3] (fun ρ => ((consA (fun ρ => getV ρ 4) (fun _ => M.ret [])) ρ).bind enLO) (bindT [0, 1]) (andP (asB (bin2 (inO false) (fun ρ => getV ρ 1) (fun ρ => getV ρ 2))) (asB (bin2 (eqO false) (bin2 modO (fun ρ => getV ρ 0) (fun _ => M.ret (.int 2))) (fun _ => M.ret (.int 0))))) (fun ρ => getV ρ 1))))
    (retP (andV (bin2 (eqO false) (fun ρ => ((consA (fun ρ => getV ρ 1) (consA (fun ρ => getV ρ 6) (consA (fun _ => M.ret (.int 0)) (fun _ => M.ret [])))) ρ).bind F_open_ways) (fun ρ => getV ρ 7)) (bin2 (eqO false) (fun ρ => ((consA (fun ρ => getV ρ 1) (consA (fun ρ => getV ρ 6) (consA (fun ρ => getV ρ 5) (fun _ => M.ret [])))) ρ).bind F_open_ways) (fun ρ => ((consA (fun ρ => getV ρ 4) (consA (fun ρ => getV ρ 2) (consA (fun ρ => getV ρ 8) (fun _ => M.ret [])))) ρ).bind F_law_free))))))))))
def F_law_right : List PV → M PV := fnP 4 9 m_law_right
noncomputable def m_law : PEnv → M Fl := (seqP (mkFor (fun ρ => ((consA (fun _ => M.ret (.int 2)) (fun _ => M.ret [])) ρ).bind rng1O) (bindN 2)
    (seqP (setP 3 (fun ρ => ((consA (fun ρ => getV ρ 1) (consA (bin2 ixO (lstV (fun ρ => ((consA (fun _ => M.ret (.int 3)) (consA (fun _ => M.ret (.int 6)) (consA (fun _ => M.ret (.int 12)) (fun _ => M.ret [])))) ρ).bind mkLst)) (fun ρ => ((consA (fun ρ => getV ρ 1) (consA (fun _ => M.ret (.int 3)) (fun _ => M.ret []))) ρ).bind F_law_pick)) (consA (fun _ => M.ret (.int 1)) (fun _ => M.ret [])))) ρ).bind F_law_hill))
    (seqP (setP 4 (lstV (mkLC [none] (fun ρ => ((bin2 ixO (fun ρ => getV ρ 3) (fun _ => M.ret (.int 0))) ρ).bind iterO) (bindN 0) allTs (bin2 ixO (fun ρ => getV ρ 0) (fun _ => M.ret (.int 0))))))
    (seqP (setP 5 (bin2 ixO (lstV (fun ρ => ((consA (fun _ => M.ret (.int 2)) (consA (fun _ => M.ret (.int 2)) (consA (fun _ => M.ret (.int 4)) (fun _ => M.ret [])))) ρ).bind mkLst)) (fun ρ => ((consA (fun ρ => getV ρ 1) (consA (fun _ => M.ret (.int 3)) (fun _ => M.ret []))) ρ).bind F_law_pick)))
    (seqP (ownDP 6)
    (seqP (mkFor (fun ρ => ((fun ρ => getV ρ 4) ρ).bind iterO) (bindN 7)
    (dputP 6 (fun ρ => getV ρ 7) (lstV (mkLC [none, some 4, some 1] (fun ρ => ((consA (fun ρ => ((consA (fun ρ => getV ρ 1) (consA (fun ρ => getV ρ 5) (fun _ => M.ret []))) ρ).bind F_law_pick) (fun _ => M.ret [])) ρ).bind rng1O) (bindN 0) allTs (bin2 ixO (fun ρ => getV ρ 1) (fun ρ => ((consA (fun ρ => getV ρ 2) (consA (fun ρ => ((consA (fun ρ => getV ρ 1) (fun _ => M.ret [])) ρ).bind lenO) (fun _ => M.ret []))) ρ).bind F_law_pick))))))
    (seqP (setP 8 (bin2 addO (fun _ => M.ret (.int 2)) (fun ρ => ((consA (fun ρ => getV ρ 1) (consA (fun _ => M.ret (.int 5)) (fun _ => M.ret []))) ρ).bind F_law_pick)))
    (seqP (setP 9 (lstV (mkLC [none, some 1, some 8] (fun ρ => ((fun ρ => getV ρ 4) ρ).bind iterO) (bindN 0) (asB (bin2 (eqO false) (fun ρ => ((consA (fun ρ => getV ρ 1) (consA (fun ρ => getV ρ 2) (fun _ => M.ret []))) ρ).bind F_law_pick) (fun _ => M.ret (.int 0)))) (fun ρ => getV ρ 0))))
    (seqP (ifP (orP (notP (asB (fun ρ => ((consA (fun ρ => getV ρ 1) (consA (fun ρ => getV ρ 3) (consA (fun ρ => getB ρ 6) (consA (fun ρ => getV ρ 9) (fun _ => M.ret []))))) ρ).bind fun l => (F_law_right l).bind flatM))) (notP (asB (fun ρ => ((consA (fun ρ => getV ρ 1) (consA (fun ρ => getV ρ 3) (consA (fun ρ => getB ρ 6) (consA (lstV (fun ρ => ((fun _ => M.ret []) ρ).bind mkLst)) (fun _ => M.ret []))))) ρ).bind fun l => (F_law_right l).bind flatM))))
    (retP (fun _ => M.ret (.bl false)))
    (fun ρ => M.ret (.nx ρ)))
    (seqP (ownP 10 (fun ρ => ((fun _ => M.ret []) ρ).bind mkLst))
    (seqP (mkFor (fun ρ => ((fun ρ => getV ρ 4) ρ).bind iterO) (bindN 7)
    (insP 10 (consA (fun ρ => ((consA (fun ρ => getV ρ 1) (consA (bin2 addO (fun ρ => ((consA (fun ρ => getB ρ 10) (fun _ => M.ret [])) ρ).bind lenO) (fun _ => M.ret (.int 1))) (fun _ => M.ret []))) ρ).bind F_law_pick) (consA (fun ρ => getV ρ 7) (fun _ => M.ret [])))))
    (seqP (frzP (setP 11 (fun ρ => ((consA (lstV (catF (lstV (mkLC [none, none] (fun ρ => ((consA (fun ρ => getV ρ 10) (consA (sl3 slE (fun ρ => getV ρ 10) (fun ρ => ((fun _ => M.ret (.int 1)) ρ).bind fun y => (intM y).bind fun i => M.ret (some i)) (fun _ => M.ret none)) (fun _ => M.ret []))) ρ).bind zipLO) (bindT [0, 1]) allTs (fun ρ => ((consA (fun ρ => getV ρ 0) (consA (lstV (fun ρ => ((consA (fun ρ => getV ρ 1) (fun _ => M.ret [])) ρ).bind mkLst)) (fun _ => M.ret []))) ρ).bind mkTup))) (lstV (fun ρ => ((consA (fun ρ => ((consA (bin2 ixO (fun ρ => getV ρ 10) (fun ρ => ((fun _ => M.ret (.int 1)) ρ).bind negO)) (consA (lstV (fun ρ => ((fun _ => M.ret []) ρ).bind mkLst)) (fun _ => M.ret []))) ρ).bind mkTup) (fun _ => M.ret [])) ρ).bind mkLst)))) (fun _ => M.ret [])) ρ).bind dictO)))
    (ifP (orP (notP (asB (fun ρ => ((consA (fun ρ => getV ρ 1) (consA (fun ρ => getV ρ 3) (consA (fun ρ => getV ρ 11) (consA (lstV (fun ρ => ((fun _ => M.ret []) ρ).bind mkLst)) (fun _ => M.ret []))))) ρ).bind F_law_right))) (notP (asB (fun ρ => ((consA (fun ρ => getV ρ 1) (consA (fun ρ => getV ρ 3) (consA (fun ρ => getV ρ 11) (consA (sl3 slE (fun ρ => getV ρ 10) (fun ρ => ((fun ρ => ((fun _ => M.ret (.int 1)) ρ).bind negO) ρ).bind fun y => (intM y).bind fun i => M.ret (some i)) (fun _ => M.ret none)) (fun _ => M.ret []))))) ρ).bind F_law_right))))
    (retP (fun _ => M.ret (.bl false)))
    (fun ρ => M.ret (.nx ρ)))))))))))))))
    (retP (fun _ => M.ret (.bl true))))
section
variable {P : Program} {w : World} {K : PySem.W.Frag} {mg : Str → Option Value} {base : Heap} {a_last_page a_reading a_rules_at a_looked_at a_post_holds a_look_holds a_holds_alone a_others_asked a_found_open a_open_ways awstart awpick awword awwords awhill awfree awstuck awbook awright a_law cb_law_book tb_law_book : Addr} {d_last_page d_reading d_rules_at d_looked_at d_post_holds d_look_holds d_holds_alone d_others_asked d_found_open d_open_ways dwstart dwpick dwword dwwords dwhill dwfree dwstuck dwbook dwright d_law : FuncData} (T : Txt K mg a_last_page a_reading a_rules_at a_looked_at a_post_holds a_look_holds a_holds_alone a_others_asked a_found_open a_open_ways awstart awpick awword awwords awhill awfree awstuck awbook awright a_law cb_law_book tb_law_book d_last_page d_reading d_rules_at d_looked_at d_post_holds d_look_holds d_holds_alone d_others_asked d_found_open d_open_ways dwstart dwpick dwword dwwords dwhill dwfree dwstuck dwbook dwright d_law)
include T
theorem ok_last_page : FnOk P w K mg base CX0 1 a_last_page d_last_page ["book", "kind", "name", "t"] (spP (famP tb_law_book K) F_last_page) := by
  have eb : defBody s_last_page = defBody s_last_page := rfl
  conv at eb => rhs; whnf
  have es : defScope s_last_page = defScope s_last_page := rfl
  conv at es => rhs; whnf
  refine fn_ok3 (N := ["book", "kind", "name", "t", "found", "page"]) (ps := ["book", "kind", "name", "t"]) (k := 0) (m := m_last_page) rfl T.F_last_page sc_last_page (by decide) eb es fun cdv A outer s H E hr => ?_
  unfold m_last_page
  exact (ss_cons (sv_set (bs_set (i := 4) sc_last_page.nd rfl (Or.inl rfl) ev_non))
    (ss_cons (sv_for (bs_for PassesOwn.never rfl (iv_v (ev_name 0 (bv 0))) (gs_name (bg_name (i := 5) sc_last_page.nd rfl (Or.inl rfl))) (ss_one (sv_if (bs_if (WV.t (wv_and (tv_cmp (op_eqD hr.units) (ov_eq false) (EV.b (ev_ix ix_seq ov_ix (EV.b (ev_name 5 (bv 5))) (EV.b ev_int) (fun _ _ => rfl))) (EV.b (ev_name 1 (bv 1))) (nomark _)) (wv_and (tv_cmp (op_eqD hr.units) (ov_eq false) (EV.b (ev_ix ix_seq ov_ix (EV.b (ev_name 5 (bv 5))) (EV.b ev_int) (fun _ _ => rfl))) (EV.b (ev_name 2 (bv 2))) (nomark _)) (wv_and1 (tv_cmp op_leD ov_leD (EV.b (ev_ix ix_seq ov_ix (EV.b (ev_name 5 (bv 5))) (EV.b ev_int) (fun _ _ => rfl))) (EV.b (ev_name 3 (bv 3))) (nomark _)))))) (ss_one (sv_set (bs_set (i := 4) sc_last_page.nd rfl (Or.inl rfl) (ev_name 5 (bv 5))))) ss_nil)))))
    (ss_one (sv_ret (bs_ret (ev_name 4 (bv 4)))))))
theorem ok_reading (G_last_page : FnOk P w K mg base CX0 1 a_last_page d_last_page ["book", "kind", "name", "t"] (spP (famP tb_law_book K) F_last_page)) : FnOk P w K mg base CX0 2 a_reading d_reading ["book", "post", "t"] (spP (famP tb_law_book K) F_reading) := by
  have eb : defBody s_reading = defBody s_reading := rfl
  conv at eb => rhs; whnf
  have es : defScope s_reading = defScope s_reading := rfl
  conv at es => rhs; whnf
  refine fn_ok3 (N := ["book", "post", "t", "page"]) (ps := ["book", "post", "t"]) (k := 1) (m := m_reading) rfl T.F_reading sc_reading (by decide) eb es fun cdv A outer s H E hr => ?_
  unfold m_reading
  exact (ss_cons (sv_set (bs_set (i := 3) sc_reading.nd rfl (Or.inl rfl) (ev_call (be_call G_last_page (hr.mono (by decide)) rfl T.m_last_page T.F_last_page.kp T.b_last_page .nil pass0 (by refine av_cons (ev_name 0 (bv 0)) ?_; refine av_cons ev_str ?_; refine av_cons (ev_name 1 (bv 1)) ?_; refine av_cons (ev_name 2 (bv 2)) ?_; exact av_nil)))))
    (ss_one (sv_ret (bs_ret (ev_if (tv_cmp op_isN ov_isN (EV.b (ev_name 3 (bv 3))) (EV.b ev_non) (nomark _)) ev_non (ev_ix ix_seq ov_ix (EV.b (ev_name 3 (bv 3))) (EV.b ev_int) (fun _ _ => rfl)))))))
theorem ok_rules_at (G_last_page : FnOk P w K mg base CX0 1 a_last_page d_last_page ["book", "kind", "name", "t"] (spP (famP tb_law_book K) F_last_page)) : FnOk P w K mg base CX0 2 a_rules_at d_rules_at ["book", "w", "t"] (spP (famP tb_law_book K) F_rules_at) := by
  have eb : defBody s_rules_at = defBody s_rules_at := rfl
  conv at eb => rhs; whnf
  have es : defScope s_rules_at = defScope s_rules_at := rfl
  conv at es => rhs; whnf
  refine fn_ok3 (N := ["book", "w", "t", "page"]) (ps := ["book", "w", "t"]) (k := 1) (m := m_rules_at) rfl T.F_rules_at sc_rules_at (by decide) eb es fun cdv A outer s H E hr => ?_
  unfold m_rules_at
  exact (ss_cons (sv_set (bs_set (i := 3) sc_rules_at.nd rfl (Or.inl rfl) (ev_call (be_call G_last_page (hr.mono (by decide)) rfl T.m_last_page T.F_last_page.kp T.b_last_page .nil pass0 (by refine av_cons (ev_name 0 (bv 0)) ?_; refine av_cons ev_str ?_; refine av_cons (ev_name 1 (bv 1)) ?_; refine av_cons (ev_name 2 (bv 2)) ?_; exact av_nil)))))
    (ss_one (sv_ret (bs_ret (ev_if (tv_cmp op_isN ov_isN (EV.b (ev_name 3 (bv 3))) (EV.b ev_non) (nomark _)) (ev_tup av_nil) (ev_ix ix_seq ov_ix (EV.b (ev_name 3 (bv 3))) (EV.b ev_int) (fun _ _ => rfl)))))))
theorem ok_looked_at (G_last_page : FnOk P w K mg base CX0 1 a_last_page d_last_page ["book", "kind", "name", "t"] (spP (famP tb_law_book K) F_last_page)) : FnOk P w K mg base CX0 2 a_looked_at d_looked_at ["book", "w", "t"] (spP (famP tb_law_book K) F_looked_at) := by
  have eb : defBody s_looked_at = defBody s_looked_at := rfl
  conv at eb => rhs; whnf
  have es : defScope s_looked_at = defScope s_looked_at := rfl
  conv at es => rhs; whnf
  refine fn_ok3 (N := ["book", "w", "t", "page"]) (ps := ["book", "w", "t"]) (k := 1) (m := m_looked_at) rfl T.F_looked_at sc_looked_at (by decide) eb es fun cdv A outer s H E hr => ?_
  unfold m_looked_at
  exact (ss_cons (sv_set (bs_set (i := 3) sc_looked_at.nd rfl (Or.inl rfl) (ev_call (be_call G_last_page (hr.mono (by decide)) rfl T.m_last_page T.F_last_page.kp T.b_last_page .nil pass0 (by refine av_cons (ev_name 0 (bv 0)) ?_; refine av_cons ev_str ?_; refine av_cons (ev_name 1 (bv 1)) ?_; refine av_cons (ev_name 2 (bv 2)) ?_; exact av_nil)))))
    (ss_one (sv_ret (bs_ret (ev_if (tv_cmp op_isN ov_isN (EV.b (ev_name 3 (bv 3))) (EV.b ev_non) (nomark _)) ev_non (ev_ix ix_seq ov_ix (EV.b (ev_name 3 (bv 3))) (EV.b ev_int) (fun _ _ => rfl)))))))
theorem ok_post_holds (G_reading : FnOk P w K mg base CX0 2 a_reading d_reading ["book", "post", "t"] (spP (famP tb_law_book K) F_reading)) : FnOk P w K mg base CX0 3 a_post_holds d_post_holds ["book", "rule", "t"] (spP (famP tb_law_book K) F_post_holds) := by
  have eb : defBody s_post_holds = defBody s_post_holds := rfl
  conv at eb => rhs; whnf
  have es : defScope s_post_holds = defScope s_post_holds := rfl
  conv at es => rhs; whnf
  refine fn_ok3 (N := ["book", "rule", "t", "word", "post", "n", "value"]) (ps := ["book", "rule", "t"]) (k := 2) (m := m_post_holds) rfl T.F_post_holds sc_post_holds (by decide) eb es fun cdv A outer s H E hr => ?_
  unfold m_post_holds
  exact (ss_cons (sv_unp (ks := [3, 4, 5]) (bs_asg (ev_name 1 (bv 1)) (bg_tup rfl (bgs_cons (bg_name (i := 3) sc_post_holds.nd rfl (Or.inl rfl)) (bgs_cons (bg_name (i := 4) sc_post_holds.nd rfl (Or.inl rfl)) (bgs_cons (bg_name (i := 5) sc_post_holds.nd rfl (Or.inl rfl)) bgs_nil))))))
    (ss_cons (sv_set (bs_set (i := 6) sc_post_holds.nd rfl (Or.inl rfl) (ev_call (be_call G_reading (hr.mono (by decide)) rfl T.m_reading T.F_reading.kp T.b_reading .nil pass0 (by refine av_cons (ev_name 0 (bv 0)) ?_; refine av_cons (ev_name 4 (bv 4)) ?_; refine av_cons (ev_name 2 (bv 2)) ?_; exact av_nil)))))
    (ss_cons (sv_if (bs_if (tv_cmp op_isN ov_isN (EV.b (ev_name 6 (bv 6))) (EV.b ev_non) (nomark _)) (ss_one (sv_ret (bs_ret ev_bl))) ss_nil))
    (ss_one (sv_ret (bs_ret (ev_if (tv_cmp (op_eqD hr.units) (ov_eq false) (EV.b (ev_name 3 (bv 3))) (EV.b ev_str) (nomark _)) (ev_cmp op_ge ov_ge (EV.b (ev_name 6 (bv 6))) (EV.b (ev_name 5 (bv 5))) (nomark _)) (ev_cmp op_leD ov_leD (EV.b (ev_name 6 (bv 6))) (EV.b (ev_name 5 (bv 5))) (nomark _)))))))))
theorem ok_look_holds (G_looked_at : FnOk P w K mg base CX0 2 a_looked_at d_looked_at ["book", "w", "t"] (spP (famP tb_law_book K) F_looked_at)) : FnOk P w K mg base CX0 3 a_look_holds d_look_holds ["book", "way", "n", "t"] (spP (famP tb_law_book K) F_look_holds) := by
  have eb : defBody s_look_holds = defBody s_look_holds := rfl
  conv at eb => rhs; whnf
  have es : defScope s_look_holds = defScope s_look_holds := rfl
  conv at es => rhs; whnf
  refine fn_ok3 (N := ["book", "way", "n", "t", "m"]) (ps := ["book", "way", "n", "t"]) (k := 2) (m := m_look_holds) rfl T.F_look_holds sc_look_holds (by decide) eb es fun cdv A outer s H E hr => ?_
  unfold m_look_holds
  exact (ss_cons (sv_set (bs_set (i := 4) sc_look_holds.nd rfl (Or.inl rfl) (ev_call (be_call G_looked_at (hr.mono (by decide)) rfl T.m_looked_at T.F_looked_at.kp T.b_looked_at .nil pass0 (by refine av_cons (ev_name 0 (bv 0)) ?_; refine av_cons (ev_ix ix_seq ov_ix (EV.b (ev_name 1 (bv 1))) (EV.b ev_int) (fun _ _ => rfl)) ?_; refine av_cons (ev_name 3 (bv 3)) ?_; exact av_nil)))))
    (ss_one (sv_ret (bs_ret (ev_and (ev_cmp (op_eqD hr.units) (ov_eq false) (EV.b (ev_ix ix_seq ov_ix (EV.b (ev_name 1 (bv 1))) (EV.b ev_int) (fun _ _ => rfl))) (EV.b ev_str) (nomark _)) (ev_and (ev_cmp op_notN ov_notN (EV.b (ev_name 4 (bv 4))) (EV.b ev_non) (nomark _)) (ev_one (ev_cmp op_lt ov_lt (EV.b (ev_name 3 (bv 3))) (EV.b (ev_bin op_addD ov_add (EV.b (ev_name 4 (bv 4))) (EV.b (ev_name 2 (bv 2))))) (nomark _)))))))))
theorem ok_holds_alone (G_post_holds : FnOk P w K mg base CX0 3 a_post_holds d_post_holds ["book", "rule", "t"] (spP (famP tb_law_book K) F_post_holds)) (G_look_holds : FnOk P w K mg base CX0 3 a_look_holds d_look_holds ["book", "way", "n", "t"] (spP (famP tb_law_book K) F_look_holds)) : FnOk P w K mg base CX0 4 a_holds_alone d_holds_alone ["book", "way", "rule", "t"] (spP (famP tb_law_book K) F_holds_alone) := by
  have eb : defBody s_holds_alone = defBody s_holds_alone := rfl
  conv at eb => rhs; whnf
  have es : defScope s_holds_alone = defScope s_holds_alone := rfl
  conv at es => rhs; whnf
  refine fn_ok3 (N := ["book", "way", "rule", "t", "word"]) (ps := ["book", "way", "rule", "t"]) (k := 3) (m := m_holds_alone) rfl T.F_holds_alone sc_holds_alone (by decide) eb es fun cdv A outer s H E hr => ?_
  unfold m_holds_alone
  exact (ss_cons (sv_set (bs_set (i := 4) sc_holds_alone.nd rfl (Or.inl rfl) (ev_ix ix_seq ov_ix (EV.b (ev_name 2 (bv 2))) (EV.b ev_int) (fun _ _ => rfl))))
    (ss_cons (sv_if (bs_if (tv_cmp (op_eqD hr.units) (ov_eq false) (EV.b (ev_name 4 (bv 4))) (EV.b ev_str) (nomark _)) (ss_one (sv_ret (bs_ret (ev_chain op_leD ov_leD op_lt ov_lt (EV.b (ev_ix ix_seq ov_ix (EV.b (ev_name 2 (bv 2))) (EV.b ev_int) (fun _ _ => rfl))) (EV.b (ev_name 3 (bv 3))) (EV.b (ev_ix ix_seq ov_ix (EV.b (ev_name 2 (bv 2))) (EV.b ev_int) (fun _ _ => rfl))))))) ss_nil))
    (ss_cons (sv_if (bs_if (WV.t (wv_or (tv_cmp (op_eqD hr.units) (ov_eq false) (EV.b (ev_name 4 (bv 4))) (EV.b ev_str) (nomark _)) (wv_or1 (tv_cmp (op_eqD hr.units) (ov_eq false) (EV.b (ev_name 4 (bv 4))) (EV.b ev_str) (nomark _))))) (ss_one (sv_ret (bs_ret (ev_call (be_call G_post_holds (hr.mono (by decide)) rfl T.m_post_holds T.F_post_holds.kp T.b_post_holds .nil pass0 (by refine av_cons (ev_name 0 (bv 0)) ?_; refine av_cons (ev_name 2 (bv 2)) ?_; refine av_cons (ev_name 3 (bv 3)) ?_; exact av_nil)))))) ss_nil))
    (ss_cons (sv_if (bs_if (tv_cmp (op_eqD hr.units) (ov_eq false) (EV.b (ev_name 4 (bv 4))) (EV.b ev_str) (nomark _)) (ss_one (sv_ret (bs_ret (ev_call (be_call G_look_holds (hr.mono (by decide)) rfl T.m_look_holds T.F_look_holds.kp T.b_look_holds .nil pass0 (by refine av_cons (ev_name 0 (bv 0)) ?_; refine av_cons (ev_name 1 (bv 1)) ?_; refine av_cons (ev_ix ix_seq ov_ix (EV.b (ev_name 2 (bv 2))) (EV.b ev_int) (fun _ _ => rfl)) ?_; refine av_cons (ev_name 3 (bv 3)) ?_; exact av_nil)))))) ss_nil))
    (ss_one (sv_ret (bs_ret ev_bl)))))))
theorem ok_others_asked (G_rules_at : FnOk P w K mg base CX0 2 a_rules_at d_rules_at ["book", "w", "t"] (spP (famP tb_law_book K) F_rules_at)) (G_holds_alone : FnOk P w K mg base CX0 4 a_holds_alone d_holds_alone ["book", "way", "rule", "t"] (spP (famP tb_law_book K) F_holds_alone)) : FnOk P w K mg base CX0 5 a_others_asked d_others_asked ["book", "way", "t"] (spP (famP tb_law_book K) F_others_asked) := by
  have eb : defBody s_others_asked = defBody s_others_asked := rfl
  conv at eb => rhs; whnf
  have es : defScope s_others_asked = defScope s_others_asked := rfl
  conv at es => rhs; whnf
  refine fn_ok3 (N := ["book", "way", "t", "rules"]) (ps := ["book", "way", "t"]) (k := 4) (m := m_others_asked) rfl T.F_others_asked sc_others_asked (by decide) eb es fun cdv A outer s H E hr => ?_
  unfold m_others_asked
  exact (ss_cons (sv_set (bs_set (i := 3) sc_others_asked.nd rfl (Or.inl rfl) (ev_call (be_call G_rules_at (hr.mono (by decide)) rfl T.m_rules_at T.F_rules_at.kp T.b_rules_at .nil pass0 (by refine av_cons (ev_name 0 (bv 0)) ?_; refine av_cons (ev_ix ix_seq ov_ix (EV.b (ev_name 1 (bv 1))) (EV.b ev_int) (fun _ _ => rfl)) ?_; refine av_cons (ev_name 2 (bv 2)) ?_; exact av_nil)))))
    (ss_cons (sv_if (bs_if (tv_not (tv_val (ev_callB (be_callB (call_all rfl) rfl T.m_all PyProof.Rows.boot_all (ab_cons (EV.b (EF.v (ef_lc (be_lc (LcScope.mk2 (N := ["rule", "book", "way", "t"]) (js := [none, some 0, some 1, some 2]) (defScope s_others_asked) ["book", "way", "t", "rules"] rfl rfl (by decide +kernel)) rfl (iv_b (EV.b (ev_name 3 (bv 3)))) (fun _ _ _ _ => (gv_name (bg_name (i := 0) (by decide : (["rule", "book", "way", "t"] : List Str).Nodup) rfl (Or.inl rfl)))) (fun _ _ _ _ => (ts_one (tv_cmp (op_neD hr.units) (ov_eq true) (EV.b (ev_ix ix_seq ov_ix (EV.b (ev_name 0 (bv 0))) (EV.b ev_int) (fun _ _ => rfl))) (EV.b ev_str) (nomark _)))) (fun _ _ _ _ => (ev_call (be_call G_holds_alone (hr.mono (by decide)) rfl T.m_holds_alone T.F_holds_alone.kp T.b_holds_alone .nil pass0 (by refine av_cons (ev_name 1 (bv 1)) ?_; refine av_cons (ev_name 2 (bv 2)) ?_; refine av_cons (ev_name 0 (bv 0)) ?_; refine av_cons (ev_name 3 (bv 3)) ?_; exact av_nil)))))))) ab_nil)) cv_all))) (ss_one (sv_ret (bs_ret ev_non))) ss_nil))
    (ss_one (sv_ret (bs_ret (EF.v (ef_lc (be_lc (LcScope.mk2 (N := ["rule"]) (js := [none]) (defScope s_others_asked) ["book", "way", "t", "rules"] rfl rfl (by decide +kernel)) rfl (iv_b (EV.b (ev_name 3 (bv 3)))) (fun _ _ _ _ => (gv_name (bg_name (i := 0) (by decide : (["rule"] : List Str).Nodup) rfl (Or.inl rfl)))) (fun _ _ _ _ => (ts_one (tv_cmp (op_eqD hr.units) (ov_eq false) (EV.b (ev_ix ix_seq ov_ix (EV.b (ev_name 0 (bv 0))) (EV.b ev_int) (fun _ _ => rfl))) (EV.b ev_str) (nomark _)))) (fun _ _ _ _ => (ev_ix ix_seq ov_ix (EV.b (ev_name 0 (bv 0))) (EV.b ev_int) (fun _ _ => rfl)))))))))))
theorem ok_found_open : FnOk P w K mg base CX0 1 a_found_open d_found_open ["asked"] (spP (famP tb_law_book K) F_found_open) := by
  have eb : defBody s_found_open = defBody s_found_open := rfl
  conv at eb => rhs; whnf
  have es : defScope s_found_open = defScope s_found_open := rfl
  conv at es => rhs; whnf
  refine fn_ok3 (N := ["asked", "found", "before", "name"]) (ps := ["asked"]) (k := 0) (m := m_found_open) rfl T.F_found_open sc_found_open (by decide) eb es fun cdv A outer s H E hr => ?_
  unfold m_found_open
  exact (ss_cons (sv_dnew (bs_set (i := 1) sc_found_open.nd rfl (Or.inr rfl) ⟨pe_dnewK⟩))
    (ss_cons (sv_set (bs_set (i := 2) sc_found_open.nd rfl (Or.inl rfl) (ev_neg (be_un un_neg (EV.b ev_int)))))
    (ss_cons (sv_while 1000 (bs_while PassesOwn.never (tv_cmp op_lt ov_lt (EV.b (ev_name 2 (bv 2))) (EV.b (ev_callB (be_callB call_lenDD rfl T.m_len PySem.boot_len (ab_cons (eb_name 1 (bv 1)) ab_nil)) cv_len)) (nomark _)) (ss_cons (sv_set (bs_set (i := 2) sc_found_open.nd rfl (Or.inl rfl) (ev_callB (be_callB call_lenDD rfl T.m_len PySem.boot_len (ab_cons (eb_name 1 (bv 1)) ab_nil)) cv_len)))
    (ss_one (sv_forD (bs_forD PassesOwn.never rfl (ev_name 0 (bv 0)) (gs_name (bg_name (i := 3) sc_found_open.nd rfl (Or.inl rfl))) (ss_one (sv_if (bs_if (tv_val (ev_callB (be_callB (call_all rfl) rfl T.m_all PyProof.Rows.boot_all (ab_cons (EV.b (EF.v (ef_lc (be_lc (LcScope.mk2 (N := ["other", "found"]) (js := [none, some 1]) (defScope s_found_open) ["asked", "found", "before", "name"] rfl rfl (by decide +kernel)) rfl (iv_b (EV.b (be_dget (hu_of hr) (EV.b (ev_name 0 (bv 0))) (EV.b (ev_name 3 (bv 3))) (fun _ _ => rfl)))) (fun _ _ _ _ => (gv_name (bg_name (i := 0) (by decide : (["other", "found"] : List Str).Nodup) rfl (Or.inl rfl)))) (fun _ _ _ _ => ts_nil) (fun _ _ _ _ => (be_din (hu_of hr) (EV.b (ev_name 0 (bv 0))) (eb_name 1 (bv 1)) rfl)))))) ab_nil)) cv_all)) (ss_one (sv_dput (k := 1) (bs_dput (hu_of hr) (bv 1) (EV.b (ev_name 3 (bv 3))) ev_bl))) ss_nil)))))))))
    (ss_one (sv_ret (bs_ret (ev_name 1 (bv 1))))))))
theorem ok_open_ways (G_found_open : FnOk P w K mg base CX0 1 a_found_open d_found_open ["asked"] (spP (famP tb_law_book K) F_found_open)) (G_others_asked : FnOk P w K mg base CX0 5 a_others_asked d_others_asked ["book", "way", "t"] (spP (famP tb_law_book K) F_others_asked)) : FnOk P w K mg base CX0 6 a_open_ways d_open_ways ["hill", "book", "t"] (spP (famP tb_law_book K) F_open_ways) := by
  have eb : defBody s_open_ways = defBody s_open_ways := rfl
  conv at eb => rhs; whnf
  have es : defScope s_open_ways = defScope s_open_ways := rfl
  conv at es => rhs; whnf
  refine fn_ok3 (N := ["hill", "book", "t", "asked", "way", "others", "found"]) (ps := ["hill", "book", "t"]) (k := 5) (m := m_open_ways) rfl T.F_open_ways sc_open_ways (by decide) eb es fun cdv A outer s H E hr => ?_
  unfold m_open_ways
  exact (ss_cons (sv_dnew (bs_set (i := 3) sc_open_ways.nd rfl (Or.inl rfl) ⟨pe_dnewK⟩))
    (ss_cons (sv_for (bs_for PassesOwn.never rfl (iv_v (ev_ix ix_seq ov_ix (EV.b (ev_name 0 (bv 0))) (EV.b ev_int) (fun _ _ => rfl))) (gs_name (bg_name (i := 4) sc_open_ways.nd rfl (Or.inl rfl))) (ss_cons (sv_set (bs_set (i := 5) sc_open_ways.nd rfl (Or.inl rfl) (ev_call (be_call G_others_asked (hr.mono (by decide)) rfl T.m_others_asked T.F_others_asked.kp T.b_others_asked .nil pass0 (by refine av_cons (ev_name 1 (bv 1)) ?_; refine av_cons (ev_name 4 (bv 4)) ?_; refine av_cons (ev_name 2 (bv 2)) ?_; exact av_nil)))))
    (ss_one (sv_if (bs_if (tv_cmp op_notN ov_notN (EV.b (ev_name 5 (bv 5))) (EV.b ev_non) (nomark _)) (ss_one (sv_dput (k := 3) (bs_dput (hu_of hr) (bv 3) (EV.b (ev_ix ix_seq ov_ix (EV.b (ev_name 4 (bv 4))) (EV.b ev_int) (fun _ _ => rfl))) (ev_name 5 (bv 5))))) ss_nil))))))
    (ss_cons (sv_frz (sv_set (bs_set (i := 6) sc_open_ways.nd rfl (Or.inr rfl) (ev_call (be_call G_found_open (hr.mono (by decide)) rfl T.m_found_open T.F_found_open.kp T.b_found_open .nil pass0 (av_cons (ev_name 3 (bv 3)) av_nil))))))
    (ss_one (sv_ret (bs_ret (ev_callB (be_callTy call_tuple_of rfl T.m_tuple PyProof.Rows.boot_tuple (ab_cons (EV.b (EF.v (ef_lc (be_lc (LcScope.mk2 (N := ["way", "found"]) (js := [none, some 6]) (defScope s_open_ways) ["hill", "book", "t", "asked", "way", "others", "found"] rfl rfl (by decide +kernel)) rfl (iv_b (EV.b (ev_ix ix_seq ov_ix (EV.b (ev_name 0 (bv 0))) (EV.b ev_int) (fun _ _ => rfl)))) (fun _ _ _ _ => (gv_name (bg_name (i := 0) (by decide : (["way", "found"] : List Str).Nodup) rfl (Or.inl rfl)))) (fun _ _ _ _ => (ts_one (tv_din (hu_of hr) (EV.b (ev_ix ix_seq ov_ix (EV.b (ev_name 0 (bv 0))) (EV.b ev_int) (fun _ _ => rfl))) (EV.b (ev_name 1 (bv 1))) rfl))) (fun _ _ _ _ => (ev_ix ix_seq ov_ix (EV.b (ev_name 0 (bv 0))) (EV.b ev_int) (fun _ _ => rfl))))))) ab_nil)) cv_tup)))))))
theorem ok_law_word (G_law_pick : FnOk P w K mg base CX0 1 awpick dwpick ["_law_state", "_law_many"] (spP (famP tb_law_book K) F_law_pick)) : FnOk P w K mg base CX0 2 awword dwword ["_law_state", "_law_taken"] (spP (famP tb_law_book K) F_law_word) := by
  have eb : defBody s_law_word = defBody s_law_word := rfl
  conv at eb => rhs; whnf
  have es : defScope s_law_word = defScope s_law_word := rfl
  conv at es => rhs; whnf
  refine fn_ok3 (N := ["_law_state", "_law_taken", "_law_letters", "_law_size", "_law_word_here"]) (ps := ["_law_state", "_law_taken"]) (k := 1) (m := m_law_word) rfl T.F_law_word sc_law_word (by decide) eb es fun cdv A outer s H E hr => ?_
  unfold m_law_word
  exact (ss_cons (sv_set (bs_set (i := 2) sc_law_word.nd rfl (Or.inr rfl) ev_str))
    (ss_cons (sv_set (bs_set (i := 3) sc_law_word.nd rfl (Or.inl rfl) (ev_bin op_addD ov_add (EV.b ev_int) (EV.b (ev_call (be_call G_law_pick (hr.mono (by decide)) rfl T.m_law_pick T.F_law_pick.kp T.b_law_pick .nil pass0 (av_cons (ev_name 0 (bv 0)) (av_cons ev_int av_nil))))))))
    (ss_cons (sv_set (bs_set (i := 4) sc_law_word.nd rfl (Or.inr rfl) (ev_bm (be_bm PySem.F.plainAttrs_str PySem.F.slot_str_join PySem.F.type_str_join mt_join (EV.b ev_str) (ab_cons (EV.b (EF.v (ef_lc (be_lc (LcScope.mk2 (N := ["_law_k", "_law_letters", "_law_state"]) (js := [none, some 2, some 0]) (defScope s_law_word) ["_law_state", "_law_taken", "_law_letters", "_law_size", "_law_word_here"] rfl rfl (by decide +kernel)) rfl (iv_rng1 (bi_range1 rfl T.m_range (ab_cons (EV.b (ev_name 3 (bv 3))) ab_nil))) (fun _ _ _ _ => (gv_name (bg_name (i := 0) (by decide : (["_law_k", "_law_letters", "_law_state"] : List Str).Nodup) rfl (Or.inl rfl)))) (fun _ _ _ _ => ts_nil) (fun _ _ _ _ => (ev_ix ix_seq ov_ix (EV.b (ev_name 1 (bv 1))) (EV.b (ev_call (be_call G_law_pick (hr.mono (by decide)) rfl T.m_law_pick T.F_law_pick.kp T.b_law_pick .nil pass0 (av_cons (ev_name 2 (bv 2)) (av_cons ev_int av_nil))))) (fun _ _ => rfl))))))) ab_nil)) mv_join)))
    (ss_one (sv_ret (bs_ret (ev_ix ix_seq ov_ix (EV.b (EF.v (ef_lc (be_lc (LcScope.mk2 (N := ["_law_one", "_law_taken"]) (js := [none, some 1]) (defScope s_law_word) ["_law_state", "_law_taken", "_law_letters", "_law_size", "_law_word_here"] rfl rfl (by decide +kernel)) rfl (iv_b (EV.b (EF.v (ef_cat (be_op op_cat (EV.b (EF.v (ef_lst (av_cons (ev_name 4 (bv 4)) av_nil)))) (EV.b (EF.v (ef_lc (be_lc (LcScope.mk2 (N := ["_law_letter", "_law_word_here"]) (js := [none, some 4]) (defScope s_law_word) ["_law_state", "_law_taken", "_law_letters", "_law_size", "_law_word_here"] rfl rfl (by decide +kernel)) rfl (iv_b (EV.b (ev_name 2 (bv 2)))) (fun _ _ _ _ => (gv_name (bg_name (i := 0) (by decide : (["_law_letter", "_law_word_here"] : List Str).Nodup) rfl (Or.inl rfl)))) (fun _ _ _ _ => ts_nil) (fun _ _ _ _ => (ev_bin op_addD ov_add (EV.b (ev_slice (be_slice sl_E (EV.b (ev_name 1 (bv 1))) ov_none (ov_some (EV.b ev_int))) sv_E)) (EV.b (ev_name 0 (bv 0)))))))))))))) (fun _ _ _ _ => (gv_name (bg_name (i := 0) (by decide : (["_law_one", "_law_taken"] : List Str).Nodup) rfl (Or.inl rfl)))) (fun _ _ _ _ => (ts_one (tv_cmp op_notInD (ov_in true) (EV.b (ev_name 0 (bv 0))) (EV.b (ev_name 1 (bv 1))) rfl))) (fun _ _ _ _ => (ev_name 0 (bv 0))))))) (EV.b ev_int) (fun _ _ => rfl))))))))
theorem ok_law_words (G_law_word : FnOk P w K mg base CX0 2 awword dwword ["_law_state", "_law_taken"] (spP (famP tb_law_book K) F_law_word)) : FnOk P w K mg base CX0 3 awwords dwwords ["_law_state", "_law_many"] (spP (famP tb_law_book K) F_law_words) := by
  have eb : defBody s_law_words = defBody s_law_words := rfl
  conv at eb => rhs; whnf
  have es : defScope s_law_words = defScope s_law_words := rfl
  conv at es => rhs; whnf
  refine fn_ok3 (N := ["_law_state", "_law_many", "_law_found", "_law_k"]) (ps := ["_law_state", "_law_many"]) (k := 2) (m := m_law_words) rfl T.F_law_words sc_law_words (by decide) eb es fun cdv A outer s H E hr => ?_
  unfold m_law_words
  exact (ss_cons (sv_own (bs_set (i := 2) sc_law_words.nd rfl (Or.inl rfl) (ef_lst av_nil)))
    (ss_cons (sv_for (bs_for PassesOwn.never rfl (iv_rng1 (bi_range1 rfl T.m_range (ab_cons (EV.b (ev_name 1 (bv 1))) ab_nil))) (gs_name (bg_name (i := 3) sc_law_words.nd rfl (Or.inl rfl))) (ss_one (sv_app (k := 2) (bs_expr (be_bm PySem.F.plainAttrs_list PySem.F.slot_list_append PySem.F.type_list_append mt_append (bv 2) (ba_cons (ev_callO (be_call G_law_word (hr.mono (by decide)) rfl T.m_law_word T.F_law_word.kp T.b_law_word .nil pass0 (ab_cons (EV.b (ev_name 0 (bv 0))) (ab_cons (eb_name 2 (bv 2)) ab_nil)))) ba_nil)))))))
    (ss_one (sv_ret (bs_ret (ev_name 2 (bv 2)))))))
theorem ok_law_hill (G_law_words : FnOk P w K mg base CX0 3 awwords dwwords ["_law_state", "_law_many"] (spP (famP tb_law_book K) F_law_words)) (G_law_pick : FnOk P w K mg base CX0 1 awpick dwpick ["_law_state", "_law_many"] (spP (famP tb_law_book K) F_law_pick)) : FnOk P w K mg base CX0 4 awhill dwhill ["_law_state", "_law_most", "_law_scale"] (spP (famP tb_law_book K) F_law_hill) := by
  have eb : defBody s_law_hill = defBody s_law_hill := rfl
  conv at eb => rhs; whnf
  have es : defScope s_law_hill = defScope s_law_hill := rfl
  conv at es => rhs; whnf
  refine fn_ok3 (N := ["_law_state", "_law_most", "_law_scale", "_law_spots", "_law_names", "_law_ways", "_law_name", "_law_kind", "_law_ends"]) (ps := ["_law_state", "_law_most", "_law_scale"]) (k := 3) (m := m_law_hill) rfl T.F_law_hill sc_law_hill (by decide) eb es fun cdv A outer s H E hr => ?_
  unfold m_law_hill
  exact (ss_cons (sv_set (bs_set (i := 3) sc_law_hill.nd rfl (Or.inr rfl) (ev_call (be_call G_law_words (hr.mono (by decide)) rfl T.m_law_words T.F_law_words.kp T.b_law_words .nil pass0 (av_cons (ev_name 0 (bv 0)) (av_cons (ev_bin op_addD ov_add (EV.b ev_int) (EV.b (ev_call (be_call G_law_pick (hr.mono (by decide)) rfl T.m_law_pick T.F_law_pick.kp T.b_law_pick .nil pass0 (av_cons (ev_name 0 (bv 0)) (av_cons ev_int av_nil)))))) av_nil))))))
    (ss_cons (sv_set (bs_set (i := 4) sc_law_hill.nd rfl (Or.inl rfl) (ev_call (be_call G_law_words (hr.mono (by decide)) rfl T.m_law_words T.F_law_words.kp T.b_law_words .nil pass0 (av_cons (ev_name 0 (bv 0)) (av_cons (ev_bin op_addD ov_add (EV.b ev_int) (EV.b (ev_call (be_call G_law_pick (hr.mono (by decide)) rfl T.m_law_pick T.F_law_pick.kp T.b_law_pick .nil pass0 (av_cons (ev_name 0 (bv 0)) (av_cons (ev_name 1 (bv 1)) av_nil)))))) av_nil))))))
    (ss_cons (sv_own (bs_set (i := 5) sc_law_hill.nd rfl (Or.inl rfl) (ef_lst av_nil)))
    (ss_cons (sv_for (bs_for PassesOwn.never rfl (iv_v (ev_name 4 (bv 4))) (gs_name (bg_name (i := 6) sc_law_hill.nd rfl (Or.inl rfl))) (ss_cons (sv_set (bs_set (i := 7) sc_law_hill.nd rfl (Or.inl rfl) (ev_ix ix_seq ov_ix (EV.b (EF.v (ef_lst (by refine av_cons ev_str ?_; refine av_cons ev_str ?_; refine av_cons ev_str ?_; refine av_cons ev_str ?_; exact av_nil)))) (EV.b (ev_call (be_call G_law_pick (hr.mono (by decide)) rfl T.m_law_pick T.F_law_pick.kp T.b_law_pick .nil pass0 (av_cons (ev_name 0 (bv 0)) (av_cons ev_int av_nil))))) (fun _ _ => rfl))))
    (ss_cons (sv_set (asg_v (asg_lc (bs_lc (k := 8) sc_law_hill.nd rfl (Or.inl rfl) (LcScope.mk2 (N := ["_law_k", "_law_spots", "_law_state"]) (js := [none, some 3, some 0]) (defScope s_law_hill) ["_law_state", "_law_most", "_law_scale", "_law_spots", "_law_names", "_law_ways", "_law_name", "_law_kind", "_law_ends"] rfl rfl (by decide +kernel)) rfl (iv_rng1 (bi_range1 rfl T.m_range (ab_cons (EV.b ev_int) ab_nil))) (fun _ _ _ _ => (gv_name (bg_name (i := 0) (by decide : (["_law_k", "_law_spots", "_law_state"] : List Str).Nodup) rfl (Or.inl rfl)))) (fun _ _ _ _ => ts_nil) (fun _ _ _ _ => (ev_ix ix_seq ov_ix (EV.b (ev_name 1 (bv 1))) (EV.b (ev_call (be_call G_law_pick (hr.mono (by decide)) rfl T.m_law_pick T.F_law_pick.kp T.b_law_pick .nil pass0 (av_cons (ev_name 2 (bv 2)) (av_cons (ev_callB (be_callB call_lenDD rfl T.m_len PySem.boot_len (ab_cons (EV.b (ev_name 1 (bv 1))) ab_nil)) cv_len) av_nil))))) (fun _ _ => rfl)))))))
    (ss_one (sv_app (k := 5) (bs_expr (be_bm PySem.F.plainAttrs_list PySem.F.slot_list_append PySem.F.type_list_append mt_append (bv 5) (ba_cons (ev_tup (by refine av_cons (ev_name 6 (bv 6)) ?_; refine av_cons (ev_name 7 (bv 7)) ?_; refine av_cons (ev_ix ix_seq ov_ix (EV.b (ev_name 8 (bv 8))) (EV.b ev_int) (fun _ _ => rfl)) ?_; refine av_cons (ev_ix ix_seq ov_ix (EV.b (ev_name 8 (bv 8))) (EV.b ev_int) (fun _ _ => rfl)) ?_; refine av_cons (ev_bin op_mulE ov_mulE (EV.b (ev_name 2 (bv 2))) (EV.b (ev_call (be_call G_law_pick (hr.mono (by decide)) rfl T.m_law_pick T.F_law_pick.kp T.b_law_pick .nil pass0 (av_cons (ev_name 0 (bv 0)) (av_cons ev_int av_nil)))))) ?_; refine av_cons (ev_bin op_mulE ov_mulE (EV.b (ev_name 2 (bv 2))) (EV.b (ev_call (be_call G_law_pick (hr.mono (by decide)) rfl T.m_law_pick T.F_law_pick.kp T.b_law_pick .nil pass0 (av_cons (ev_name 0 (bv 0)) (av_cons ev_int av_nil)))))) ?_; exact av_nil)) ba_nil)))))))))
    (ss_one (sv_ret (bs_ret (ev_tup (by refine av_cons (ev_callB (be_callTy call_tuple_of rfl T.m_tuple PyProof.Rows.boot_tuple (ab_cons (EV.b (ev_name 5 (bv 5))) ab_nil)) cv_tup) ?_; refine av_cons (ev_ix ix_seq ov_ix (EV.b (ev_name 3 (bv 3))) (EV.b (ev_call (be_call G_law_pick (hr.mono (by decide)) rfl T.m_law_pick T.F_law_pick.kp T.b_law_pick .nil pass0 (av_cons (ev_name 0 (bv 0)) (av_cons (ev_callB (be_callB call_lenDD rfl T.m_len PySem.boot_len (ab_cons (EV.b (ev_name 3 (bv 3))) ab_nil)) cv_len) av_nil))))) (fun _ _ => rfl)) ?_; refine av_cons (ev_bin op_mulE ov_mulE (EV.b (ev_name 2 (bv 2))) (EV.b (ev_bin op_addD ov_add (EV.b ev_int) (EV.b (ev_call (be_call G_law_pick (hr.mono (by decide)) rfl T.m_law_pick T.F_law_pick.kp T.b_law_pick .nil pass0 (av_cons (ev_name 0 (bv 0)) (av_cons ev_int av_nil)))))))) ?_; exact av_nil)))))))))
theorem ok_law_free : FnOk P w K mg base CX0 1 awfree dwfree ["_law_names", "_law_withs", "_law_shut"] (spP (famP tb_law_book K) F_law_free) := by
  have eb : defBody s_law_free = defBody s_law_free := rfl
  conv at eb => rhs; whnf
  have es : defScope s_law_free = defScope s_law_free := rfl
  conv at es => rhs; whnf
  refine fn_ok3 (N := ["_law_names", "_law_withs", "_law_shut", "_law_before", "_law_found"]) (ps := ["_law_names", "_law_withs", "_law_shut"]) (k := 0) (m := m_law_free) rfl T.F_law_free sc_law_free (by decide) eb es fun cdv A outer s H E hr => ?_
  unfold m_law_free
  exact (ss_cons (sv_set (bs_set (i := 3) sc_law_free.nd rfl (Or.inr rfl) ev_non))
    (ss_cons (sv_set (bs_set (i := 4) sc_law_free.nd rfl (Or.inl rfl) (EF.v (ef_lst av_nil))))
    (ss_cons (sv_while 1000 (bs_while PassesOwn.never (tv_cmp (op_neD hr.units) (ov_eq true) (EV.b (ev_name 3 (bv 3))) (EV.b (ev_name 4 (bv 4))) (nomark _)) (ss_cons (sv_set (bs_set (i := 3) sc_law_free.nd rfl (Or.inr rfl) (ev_name 4 (bv 4))))
    (ss_one (sv_set (asg_v (asg_lc (bs_lc (k := 4) sc_law_free.nd rfl (Or.inl rfl) (LcScope.mk2 (N := ["_law_w", "_law_shut", "_law_withs", "_law_before"]) (js := [none, some 2, some 1, some 3]) (defScope s_law_free) ["_law_names", "_law_withs", "_law_shut", "_law_before", "_law_found"] rfl rfl (by decide +kernel)) rfl (iv_b (EV.b (ev_name 0 (bv 0)))) (fun _ _ _ _ => (gv_name (bg_name (i := 0) (by decide : (["_law_w", "_law_shut", "_law_withs", "_law_before"] : List Str).Nodup) rfl (Or.inl rfl)))) (fun _ _ _ _ => (ts_one (WV.t (wv_and (tv_cmp op_notInD (ov_in true) (EV.b (ev_name 0 (bv 0))) (EV.b (ev_name 1 (bv 1))) rfl) (wv_and1 (tv_val (ev_callB (be_callB (call_all rfl) rfl T.m_all PyProof.Rows.boot_all (ab_cons (EV.b (EF.v (ef_lc (be_lc (LcScope.mk2 (N := ["_law_other", "_law_before"]) (js := [none, some 3]) _ ["_law_w", "_law_shut", "_law_withs", "_law_before"] rfl rfl rfl) rfl (iv_b (EV.b (be_dget (hu_of hr) (EV.b (ev_name 2 (bv 2))) (EV.b (ev_name 0 (bv 0))) (fun _ _ => rfl)))) (fun _ _ _ _ => (gv_name (bg_name (i := 0) (by decide : (["_law_other", "_law_before"] : List Str).Nodup) rfl (Or.inl rfl)))) (fun _ _ _ _ => ts_nil) (fun _ _ _ _ => (ev_cmp op_inD (ov_in false) (EV.b (ev_name 0 (bv 0))) (EV.b (ev_name 1 (bv 1))) rfl)))))) ab_nil)) cv_all))))))) (fun _ _ _ _ => (ev_name 0 (bv 0)))))))))))
    (ss_one (sv_ret (bs_ret (ev_callB (be_callTy call_tuple_of rfl T.m_tuple PyProof.Rows.boot_tuple (ab_cons (EV.b (ev_name 4 (bv 4))) ab_nil)) cv_tup)))))))
theorem ok_law_stuck : FnOk P w K mg base CX0 1 awstuck dwstuck ["_law_names", "_law_withs", "_law_shut"] (spP (famP tb_law_book K) F_law_stuck) := by
  have eb : defBody s_law_stuck = defBody s_law_stuck := rfl
  conv at eb => rhs; whnf
  have es : defScope s_law_stuck = defScope s_law_stuck := rfl
  conv at es => rhs; whnf
  refine fn_ok3 (N := ["_law_names", "_law_withs", "_law_shut", "_law_bad", "_law_turn", "_law_rest"]) (ps := ["_law_names", "_law_withs", "_law_shut"]) (k := 0) (m := m_law_stuck) rfl T.F_law_stuck sc_law_stuck (by decide) eb es fun cdv A outer s H E hr => ?_
  unfold m_law_stuck
  exact (ss_cons (sv_set (bs_set (i := 3) sc_law_stuck.nd rfl (Or.inr rfl) (EF.v (ef_callB (be_callTy call_list_of rfl T.m_list PyProof.Rows.boot_list (ab_cons (EV.b (ev_name 2 (bv 2))) ab_nil)) cf_lst))))
    (ss_cons (sv_for (bs_for PassesOwn.never rfl (iv_v (ev_name 0 (bv 0))) (gs_name (bg_name (i := 4) sc_law_stuck.nd rfl (Or.inl rfl))) (ss_one (sv_set (bs_set (i := 3) sc_law_stuck.nd rfl (Or.inr rfl) (EF.v (ef_cat (be_op op_cat (EV.b (ev_name 3 (bv 3))) (EV.b (EF.v (ef_lc (be_lc (LcScope.mk2 (N := ["_law_w", "_law_bad", "_law_withs"]) (js := [none, some 3, some 1]) (defScope s_law_stuck) ["_law_names", "_law_withs", "_law_shut", "_law_bad", "_law_turn", "_law_rest"] rfl rfl (by decide +kernel)) rfl (iv_b (EV.b (ev_name 0 (bv 0)))) (fun _ _ _ _ => (gv_name (bg_name (i := 0) (by decide : (["_law_w", "_law_bad", "_law_withs"] : List Str).Nodup) rfl (Or.inl rfl)))) (fun _ _ _ _ => (ts_one (WV.t (wv_and (tv_cmp op_notInD (ov_in true) (EV.b (ev_name 0 (bv 0))) (EV.b (ev_name 1 (bv 1))) rfl) (wv_and1 (tv_val (ev_callB (be_callB (call_any rfl) rfl T.m_any PyProof.Rows.boot_any (ab_cons (EV.b (EF.v (ef_lc (be_lc (LcScope.mk2 (N := ["_law_other", "_law_bad"]) (js := [none, some 1]) _ ["_law_w", "_law_bad", "_law_withs"] rfl rfl rfl) rfl (iv_b (EV.b (be_dget (hu_of hr) (EV.b (ev_name 2 (bv 2))) (EV.b (ev_name 0 (bv 0))) (fun _ _ => rfl)))) (fun _ _ _ _ => (gv_name (bg_name (i := 0) (by decide : (["_law_other", "_law_bad"] : List Str).Nodup) rfl (Or.inl rfl)))) (fun _ _ _ _ => ts_nil) (fun _ _ _ _ => (ev_cmp op_inD (ov_in false) (EV.b (ev_name 0 (bv 0))) (EV.b (ev_name 1 (bv 1))) rfl)))))) ab_nil)) cv_any))))))) (fun _ _ _ _ => (ev_name 0 (bv 0)))))))))))))))
    (ss_cons (sv_set (bs_set (i := 5) sc_law_stuck.nd rfl (Or.inr rfl) (EF.v (ef_lc (be_lc (LcScope.mk2 (N := ["_law_w", "_law_bad"]) (js := [none, some 3]) (defScope s_law_stuck) ["_law_names", "_law_withs", "_law_shut", "_law_bad", "_law_turn", "_law_rest"] rfl rfl (by decide +kernel)) rfl (iv_b (EV.b (ev_name 0 (bv 0)))) (fun _ _ _ _ => (gv_name (bg_name (i := 0) (by decide : (["_law_w", "_law_bad"] : List Str).Nodup) rfl (Or.inl rfl)))) (fun _ _ _ _ => (ts_one (tv_cmp op_notInD (ov_in true) (EV.b (ev_name 0 (bv 0))) (EV.b (ev_name 1 (bv 1))) rfl))) (fun _ _ _ _ => (ev_name 0 (bv 0))))))))
    (ss_cons (sv_for (bs_for PassesOwn.never rfl (iv_v (ev_name 0 (bv 0))) (gs_name (bg_name (i := 4) sc_law_stuck.nd rfl (Or.inl rfl))) (ss_one (sv_set (bs_set (i := 5) sc_law_stuck.nd rfl (Or.inr rfl) (EF.v (ef_lc (be_lc (LcScope.mk2 (N := ["_law_w", "_law_withs", "_law_rest"]) (js := [none, some 1, some 5]) (defScope s_law_stuck) ["_law_names", "_law_withs", "_law_shut", "_law_bad", "_law_turn", "_law_rest"] rfl rfl (by decide +kernel)) rfl (iv_b (EV.b (ev_name 5 (bv 5)))) (fun _ _ _ _ => (gv_name (bg_name (i := 0) (by decide : (["_law_w", "_law_withs", "_law_rest"] : List Str).Nodup) rfl (Or.inl rfl)))) (fun _ _ _ _ => (ts_one (tv_val (ev_callB (be_callB (call_any rfl) rfl T.m_any PyProof.Rows.boot_any (ab_cons (EV.b (EF.v (ef_lc (be_lc (LcScope.mk2 (N := ["_law_other", "_law_rest"]) (js := [none, some 2]) _ ["_law_w", "_law_withs", "_law_rest"] rfl rfl rfl) rfl (iv_b (EV.b (be_dget (hu_of hr) (EV.b (ev_name 1 (bv 1))) (EV.b (ev_name 0 (bv 0))) (fun _ _ => rfl)))) (fun _ _ _ _ => (gv_name (bg_name (i := 0) (by decide : (["_law_other", "_law_rest"] : List Str).Nodup) rfl (Or.inl rfl)))) (fun _ _ _ _ => ts_nil) (fun _ _ _ _ => (ev_cmp op_inD (ov_in false) (EV.b (ev_name 0 (bv 0))) (EV.b (ev_name 1 (bv 1))) rfl)))))) ab_nil)) cv_any)))) (fun _ _ _ _ => (ev_name 0 (bv 0)))))))))))
    (ss_one (sv_ret (bs_ret (EF.v (ef_lc (be_lc (LcScope.mk2 (N := ["_law_w", "_law_bad", "_law_rest"]) (js := [none, some 3, some 5]) (defScope s_law_stuck) ["_law_names", "_law_withs", "_law_shut", "_law_bad", "_law_turn", "_law_rest"] rfl rfl (by decide +kernel)) rfl (iv_b (EV.b (ev_name 0 (bv 0)))) (fun _ _ _ _ => (gv_name (bg_name (i := 0) (by decide : (["_law_w", "_law_bad", "_law_rest"] : List Str).Nodup) rfl (Or.inl rfl)))) (fun _ _ _ _ => (ts_one (WV.t (wv_or (tv_cmp op_inD (ov_in false) (EV.b (ev_name 0 (bv 0))) (EV.b (ev_name 1 (bv 1))) rfl) (wv_or1 (tv_cmp op_inD (ov_in false) (EV.b (ev_name 0 (bv 0))) (EV.b (ev_name 2 (bv 2))) rfl)))))) (fun _ _ _ _ => (ev_name 0 (bv 0)))))))))))))
theorem ok_law_book (kb : K.In base) (hB : BIn base mg) : FnOk P w K mg base CX0 4 awbook dwbook ["_law_names", "_law_withs", "_law_shut", "_law_late"] (spP (famP tb_law_book K) F_law_book) := by
  have eb : defBody s_law_book = defBody s_law_book := rfl
  conv at eb => rhs; whnf
  have es : defScope s_law_book = defScope s_law_book := rfl
  conv at es => rhs; whnf
  refine fn_okC (N := ["_law_names", "_law_withs", "_law_shut", "_law_late", "_law_pages", "_law_k", "_law_w", "_law_rules"]) (ps := ["_law_names", "_law_withs", "_law_shut", "_law_late"]) (k := 3) (m := m_law_book) rfl T.L_law_book sc_law_book (by decide) eb es fun A outer s H E hr => ?_
  unfold m_law_book
  exact (ss_cons (sv_own (bs_set (i := 4) sc_law_book.nd rfl (Or.inl rfl) (ef_lst av_nil)))
    (ss_cons (sv_forE (bs_for PassesOwn.never rfl (ie_L (bi_enL rfl T.m_enumerate (av_cons (ev_name 0 (bv 0)) av_nil))) (gs_tup (ks := [5, 6]) (bg_tup rfl (bgs_cons (bg_name (i := 5) sc_law_book.nd rfl (Or.inl rfl)) (bgs_cons (bg_name (i := 6) sc_law_book.nd rfl (Or.inl rfl)) bgs_nil)))) (ss_cons (sv_own (asg_lc (bs_lc (k := 7) sc_law_book.nd rfl (Or.inl rfl) (LcScope.mk2 (N := ["_law_other"]) (js := [none]) (defScope s_law_book) ["_law_names", "_law_withs", "_law_shut", "_law_late", "_law_pages", "_law_k", "_law_w", "_law_rules"] rfl rfl (by decide +kernel)) rfl (iv_b (EV.b (be_dget (hu_of hr) (EV.b (ev_name 1 (bv 1))) (EV.b (ev_name 6 (bv 6))) (fun _ _ => rfl)))) (fun _ _ _ _ => (gv_name (bg_name (i := 0) (by decide : (["_law_other"] : List Str).Nodup) rfl (Or.inl rfl)))) (fun _ _ _ _ => ts_nil) (fun _ _ _ _ => (ev_tup (av_cons ev_str (av_cons (ev_name 0 (bv 0)) av_nil)))))))
    (ss_cons (sv_if (bs_if (tv_cmp op_inD (ov_in false) (EV.b (ev_name 6 (bv 6))) (EV.b (ev_name 2 (bv 2))) rfl) (ss_one (sv_ins (k := 7) (bs_expr (be_bm PySem.F.plainAttrs_list PySem.F.slot_list_insert PySem.F.type_list_insert mt_insert (bv 7) (av_cons (ev_bin op_mod ov_mod (EV.b (ev_name 5 (bv 5))) (EV.b (ev_bin op_addD ov_add (EV.b (ev_callB (be_callB call_lenDD rfl T.m_len PySem.boot_len (ab_cons (eb_name 7 (bv 7)) ab_nil)) cv_len)) (EV.b ev_int)))) (av_cons (ev_if (tv_cmp (op_eqD hr.units) (ov_eq false) (EV.b (ev_bin op_mod ov_mod (EV.b (ev_name 5 (bv 5))) (EV.b ev_int))) (EV.b ev_int) (nomark _)) (ev_tup (av_cons ev_str av_nil)) (ev_tup (by refine av_cons ev_str ?_; refine av_cons (ev_name 3 (bv 3)) ?_; refine av_cons (ev_bin op_addD ov_add (EV.b (ev_name 3 (bv 3))) (EV.b ev_int)) ?_; exact av_nil))) av_nil)))))) ss_nil))
    (ss_one (sv_app (k := 4) (bs_expr (be_bm PySem.F.plainAttrs_list PySem.F.slot_list_append PySem.F.type_list_append mt_append (bv 4) (ba_cons (ev_tup (by refine av_cons ev_str ?_; refine av_cons (ev_bin op_mod ov_mod (EV.b (ev_bin op_mulE ov_mulE (EV.b (ev_name 5 (bv 5))) (EV.b ev_int))) (EV.b ev_int)) ?_; refine av_cons ev_int ?_; refine av_cons (ev_name 6 (bv 6)) ?_; refine av_cons (ev_callB (be_callTy call_tuple_of rfl T.m_tuple PyProof.Rows.boot_tuple (ab_cons (eb_name 7 (bv 7)) ab_nil)) cv_tup) ?_; exact av_nil)) ba_nil)))))))))
    (ss_one (sv_ret (bs_ret (ev_callB (be_callTy call_tuple_of rfl T.m_tuple PyProof.Rows.boot_tuple (ab_cons (EV.b (EF.v (ef_sortN (tb := (tb_law_book, _)) List.mem_cons_self (fun q hq _ => List.mem_singleton.mp hq) ⟨pe_sortN (k := 0) (N := ["_law_page"]) (y := "_law_page") (hr.mono (by decide)) hB rfl (PySem.W.codeHd_of_K kb T.L_law_book.hd) rfl rfl ⟨rfl, rfl, rfl, by decide, rfl, by decide +kernel, by decide +kernel⟩ (fun _ _ _ _ _ => .of_eq rfl) (fun _ _ _ _ _ => (pe_ix ix_tup (pv 0) pe_int (fun _ _ => rfl))) rfl T.m_sorted (EV.b (ev_name 4 (bv 4))).out⟩))) ab_nil)) cv_tup))))))
theorem ok_law_right (G_law_book : FnOk P w K mg base CX0 4 awbook dwbook ["_law_names", "_law_withs", "_law_shut", "_law_late"] (spP (famP tb_law_book K) F_law_book)) (G_law_free : FnOk P w K mg base CX0 1 awfree dwfree ["_law_names", "_law_withs", "_law_shut"] (spP (famP tb_law_book K) F_law_free)) (G_law_pick : FnOk P w K mg base CX0 1 awpick dwpick ["_law_state", "_law_many"] (spP (famP tb_law_book K) F_law_pick)) (G_law_stuck : FnOk P w K mg base CX0 1 awstuck dwstuck ["_law_names", "_law_withs", "_law_shut"] (spP (famP tb_law_book K) F_law_stuck)) (G_open_ways : FnOk P w K mg base CX0 6 a_open_ways d_open_ways ["hill", "book", "t"] (spP (famP tb_law_book K) F_open_ways)) : FnOk P w K mg base CX0 7 awright dwright ["_law_state", "_law_hill_here", "_law_withs", "_law_shut"] (spP (famP tb_law_book K) F_law_right) := by
  have eb : defBody s_law_right = defBody s_law_right := rfl
  conv at eb => rhs; whnf
  have es : defScope s_law_right = defScope s_law_right := rfl
  conv at es => rhs; whnf
  refine fn_ok3 (N := ["_law_state", "_law_hill_here", "_law_withs", "_law_shut", "_law_names", "_law_late", "_law_book_here", "_law_opened", "_law_now"]) (ps := ["_law_state", "_law_hill_here", "_law_withs", "_law_shut"]) (k := 6) (m := m_law_right) rfl T.F_law_right sc_law_right (by decide) eb es fun cdv A outer s H E hr => ?_
  unfold m_law_right
  exact (ss_cons (sv_set (asg_v (asg_lc (bs_lc (k := 4) sc_law_right.nd rfl (Or.inl rfl) (LcScope.mk2 (N := ["_law_way"]) (js := [none]) (defScope s_law_right) ["_law_state", "_law_hill_here", "_law_withs", "_law_shut", "_law_names", "_law_late", "_law_book_here", "_law_opened", "_law_now"] rfl rfl (by decide +kernel)) rfl (iv_b (EV.b (ev_ix ix_seq ov_ix (EV.b (ev_name 1 (bv 1))) (EV.b ev_int) (fun _ _ => rfl)))) (fun _ _ _ _ => (gv_name (bg_name (i := 0) (by decide : (["_law_way"] : List Str).Nodup) rfl (Or.inl rfl)))) (fun _ _ _ _ => ts_nil) (fun _ _ _ _ => (ev_ix ix_seq ov_ix (EV.b (ev_name 0 (bv 0))) (EV.b ev_int) (fun _ _ => rfl)))))))
    (ss_cons (sv_set (bs_set (i := 5) sc_law_right.nd rfl (Or.inl rfl) (ev_bin op_addD ov_add (EV.b ev_int) (EV.b (ev_call (be_call G_law_pick (hr.mono (by decide)) rfl T.m_law_pick T.F_law_pick.kp T.b_law_pick .nil pass0 (av_cons (ev_name 0 (bv 0)) (av_cons (ev_ix ix_seq ov_ix (EV.b (ev_name 1 (bv 1))) (EV.b ev_int) (fun _ _ => rfl)) av_nil))))))))
    (ss_cons (sv_set (bs_set (i := 6) sc_law_right.nd rfl (Or.inl rfl) (ev_call (be_call G_law_book (hr.mono (by decide)) rfl T.m_law_book T.F_law_book.kp T.b_law_book .nil pass0 (by refine av_cons (ev_name 4 (bv 4)) ?_; refine av_cons (ev_name 2 (bv 2)) ?_; refine av_cons (ev_name 3 (bv 3)) ?_; refine av_cons (ev_name 5 (bv 5)) ?_; exact av_nil)))))
    (ss_cons (sv_set (bs_set (i := 7) sc_law_right.nd rfl (Or.inr rfl) (ev_call (be_call G_law_free (hr.mono (by decide)) rfl T.m_law_free T.F_law_free.kp T.b_law_free .nil pass0 (by refine av_cons (ev_name 4 (bv 4)) ?_; refine av_cons (ev_name 2 (bv 2)) ?_; refine av_cons (ev_name 3 (bv 3)) ?_; exact av_nil)))))
    (ss_cons (sv_if (bs_if (tv_cmp (op_neD hr.units) (ov_eq true) (EV.b (EF.v (ef_lc (be_lc (LcScope.mk2 (N := ["_law_w", "_law_opened"]) (js := [none, some 7]) (defScope s_law_right) ["_law_state", "_law_hill_here", "_law_withs", "_law_shut", "_law_names", "_law_late", "_law_book_here", "_law_opened", "_law_now"] rfl rfl (by decide +kernel)) rfl (iv_b (EV.b (ev_name 4 (bv 4)))) (fun _ _ _ _ => (gv_name (bg_name (i := 0) (by decide : (["_law_w", "_law_opened"] : List Str).Nodup) rfl (Or.inl rfl)))) (fun _ _ _ _ => (ts_one (tv_cmp op_notInD (ov_in true) (EV.b (ev_name 0 (bv 0))) (EV.b (ev_name 1 (bv 1))) rfl))) (fun _ _ _ _ => (ev_name 0 (bv 0))))))) (EV.b (ev_call (be_call G_law_stuck (hr.mono (by decide)) rfl T.m_law_stuck T.F_law_stuck.kp T.b_law_stuck .nil pass0 (by refine av_cons (ev_name 4 (bv 4)) ?_; refine av_cons (ev_name 2 (bv 2)) ?_; refine av_cons (ev_name 3 (bv 3)) ?_; exact av_nil)))) (nomark _)) (ss_one (sv_ret (bs_ret ev_bl))) ss_nil))
    (ss_cons (sv_set (asg_v (asg_lcE (bs_lc (k := 8) sc_law_right.nd rfl (Or.inl rfl) (LcScope.mk2 (N := ["_law_k", "_law_w", "_law_shut"]) (js := [none, none, some 3]) (defScope s_law_right) ["_law_state", "_law_hill_here", "_law_withs", "_law_shut", "_law_names", "_law_late", "_law_book_here", "_law_opened", "_law_now"] rfl rfl (by decide +kernel)) rfl (ie_L (bi_enL rfl T.m_enumerate (av_cons (ev_name 4 (bv 4)) av_nil))) (fun _ _ _ _ => (gv_tup (ks := [0, 1]) (bg_tup rfl (bgs_cons (bg_name (i := 0) (by decide : (["_law_k", "_law_w", "_law_shut"] : List Str).Nodup) rfl (Or.inl rfl)) (bgs_cons (bg_name (i := 1) (by decide : (["_law_k", "_law_w", "_law_shut"] : List Str).Nodup) rfl (Or.inl rfl)) bgs_nil))))) (fun _ _ _ _ => (ts_one (WV.t (wv_and (tv_cmp op_inD (ov_in false) (EV.b (ev_name 1 (bv 1))) (EV.b (ev_name 2 (bv 2))) rfl) (wv_and1 (tv_cmp (op_eqD hr.units) (ov_eq false) (EV.b (ev_bin op_mod ov_mod (EV.b (ev_name 0 (bv 0))) (EV.b ev_int))) (EV.b ev_int) (nomark _))))))) (fun _ _ _ _ => (ev_name 1 (bv 1)))))))
    (ss_one (sv_ret (bs_ret (ev_and (ev_cmp (op_eqD hr.units) (ov_eq false) (EV.b (ev_call (be_call G_open_ways (hr.mono (by decide)) rfl T.m_open_ways T.F_open_ways.kp T.b_open_ways .nil pass0 (by refine av_cons (ev_name 1 (bv 1)) ?_; refine av_cons (ev_name 6 (bv 6)) ?_; refine av_cons ev_int ?_; exact av_nil)))) (EV.b (ev_name 7 (bv 7))) (nomark _)) (ev_one (ev_cmp (op_eqD hr.units) (ov_eq false) (EV.b (ev_call (be_call G_open_ways (hr.mono (by decide)) rfl T.m_open_ways T.F_open_ways.kp T.b_open_ways .nil pass0 (by refine av_cons (ev_name 1 (bv 1)) ?_; refine av_cons (ev_name 6 (bv 6)) ?_; refine av_cons (ev_name 5 (bv 5)) ?_; exact av_nil)))) (EV.b (ev_call (be_call G_law_free (hr.mono (by decide)) rfl T.m_law_free T.F_law_free.kp T.b_law_free .nil pass0 (by refine av_cons (ev_name 4 (bv 4)) ?_; refine av_cons (ev_name 2 (bv 2)) ?_; refine av_cons (ev_name 8 (bv 8)) ?_; exact av_nil)))) (nomark _)))))))))))))
theorem ok_law (G_law_start : FnOk P w K mg base CX0 1 awstart dwstart ["_law_script"] (spStart K)) (G_law_hill : FnOk P w K mg base CX0 4 awhill dwhill ["_law_state", "_law_most", "_law_scale"] (spP (famP tb_law_book K) F_law_hill)) (G_law_pick : FnOk P w K mg base CX0 1 awpick dwpick ["_law_state", "_law_many"] (spP (famP tb_law_book K) F_law_pick)) (G_law_right : FnOk P w K mg base CX0 7 awright dwright ["_law_state", "_law_hill_here", "_law_withs", "_law_shut"] (spP (famP tb_law_book K) F_law_right)) (hm : (m_law ((List.replicate 12 un).set 1 (.val .bag))).wp 1000000 fun f _ => f = .rt (.bl true)) : FnOk P w K mg base CX0 8 a_law d_law ["_law_script"] (spLawT K [tb_law_book]) := by
  have eb : defBody s_law = defBody s_law := rfl
  conv at eb => rhs; whnf
  have es : defScope s_law = defScope s_law := rfl
  conv at es => rhs; whnf
  refine L2.law_okP (tabs := [(tb_law_book, (("_law_book" : Str) ++ ".<locals>." ++ "<lambda>"))]) (N := ["_law_script", "_law_state", "_law_turn", "_law_hill_here", "_law_names", "_law_most", "_law_withs", "_law_w", "_law_often", "_law_shut", "_law_order", "_law_chain"]) (k := 7) (b := 1) (m := m_law) T.F_law sc_law eb es (fun cdv A outer s H E hr => ?_) (fun cdv A outer s H E hr => ?_) hm (by decide) (by decide) (by decide)
  · exact (bs_set (i := 1) sc_law.nd rfl (Or.inr rfl) (be_call G_law_start (hr.mono (by decide)) rfl T.m_law_start T.F_law_start.kp T.b_law_start .nil pass0 (ba_cons (bv 0) ba_nil)))
  · unfold m_law
    exact (ss_cons (sv_for (bs_for PassesOwn.never rfl (iv_rng1 (bi_range1 rfl T.m_range (ab_cons (EV.b ev_int) ab_nil))) (gs_name (bg_name (i := 2) sc_law.nd rfl (Or.inl rfl))) (ss_cons (sv_set (bs_set (i := 3) sc_law.nd rfl (Or.inl rfl) (ev_call (be_call G_law_hill (hr.mono (by decide)) rfl T.m_law_hill T.F_law_hill.kp T.b_law_hill .nil pass0 (by refine av_cons (ev_name 1 (bv 1)) ?_; refine av_cons (ev_ix ix_seq ov_ix (EV.b (EF.v (ef_lst (by refine av_cons ev_int ?_; refine av_cons ev_int ?_; refine av_cons ev_int ?_; exact av_nil)))) (EV.b (ev_call (be_call G_law_pick (hr.mono (by decide)) rfl T.m_law_pick T.F_law_pick.kp T.b_law_pick .nil pass0 (av_cons (ev_name 1 (bv 1)) (av_cons ev_int av_nil))))) (fun _ _ => rfl)) ?_; refine av_cons ev_int ?_; exact av_nil)))))
    (ss_cons (sv_set (bs_set (i := 4) sc_law.nd rfl (Or.inr rfl) (EF.v (ef_lc (be_lc (LcScope.mk2 (N := ["_law_way"]) (js := [none]) (defScope s_law) ["_law_script", "_law_state", "_law_turn", "_law_hill_here", "_law_names", "_law_most", "_law_withs", "_law_w", "_law_often", "_law_shut", "_law_order", "_law_chain"] rfl rfl (by decide +kernel)) rfl (iv_b (EV.b (ev_ix ix_seq ov_ix (EV.b (ev_name 3 (bv 3))) (EV.b ev_int) (fun _ _ => rfl)))) (fun _ _ _ _ => (gv_name (bg_name (i := 0) (by decide : (["_law_way"] : List Str).Nodup) rfl (Or.inl rfl)))) (fun _ _ _ _ => ts_nil) (fun _ _ _ _ => (ev_ix ix_seq ov_ix (EV.b (ev_name 0 (bv 0))) (EV.b ev_int) (fun _ _ => rfl))))))))
    (ss_cons (sv_set (bs_set (i := 5) sc_law.nd rfl (Or.inl rfl) (ev_ix ix_seq ov_ix (EV.b (EF.v (ef_lst (by refine av_cons ev_int ?_; refine av_cons ev_int ?_; refine av_cons ev_int ?_; exact av_nil)))) (EV.b (ev_call (be_call G_law_pick (hr.mono (by decide)) rfl T.m_law_pick T.F_law_pick.kp T.b_law_pick .nil pass0 (av_cons (ev_name 1 (bv 1)) (av_cons ev_int av_nil))))) (fun _ _ => rfl))))
    (ss_cons (sv_dnew (bs_set (i := 6) sc_law.nd rfl (Or.inl rfl) ⟨pe_dnewK⟩))
    (ss_cons (sv_for (bs_for PassesOwn.never rfl (iv_v (ev_name 4 (bv 4))) (gs_name (bg_name (i := 7) sc_law.nd rfl (Or.inl rfl))) (ss_one (sv_dput (k := 6) (bs_dput (hu_of hr) (bv 6) (EV.b (ev_name 7 (bv 7))) (EF.v (ef_lc (be_lc (LcScope.mk2 (N := ["_law_k", "_law_names", "_law_state"]) (js := [none, some 4, some 1]) (defScope s_law) ["_law_script", "_law_state", "_law_turn", "_law_hill_here", "_law_names", "_law_most", "_law_withs", "_law_w", "_law_often", "_law_shut", "_law_order", "_law_chain"] rfl rfl (by decide +kernel)) rfl (iv_rng1 (bi_range1 rfl T.m_range (ab_cons (EV.b (ev_call (be_call G_law_pick (hr.mono (by decide)) rfl T.m_law_pick T.F_law_pick.kp T.b_law_pick .nil pass0 (av_cons (ev_name 1 (bv 1)) (av_cons (ev_name 5 (bv 5)) av_nil))))) ab_nil))) (fun _ _ _ _ => (gv_name (bg_name (i := 0) (by decide : (["_law_k", "_law_names", "_law_state"] : List Str).Nodup) rfl (Or.inl rfl)))) (fun _ _ _ _ => ts_nil) (fun _ _ _ _ => (ev_ix ix_seq ov_ix (EV.b (ev_name 1 (bv 1))) (EV.b (ev_call (be_call G_law_pick (hr.mono (by decide)) rfl T.m_law_pick T.F_law_pick.kp T.b_law_pick .nil pass0 (av_cons (ev_name 2 (bv 2)) (av_cons (ev_callB (be_callB call_lenDD rfl T.m_len PySem.boot_len (ab_cons (EV.b (ev_name 1 (bv 1))) ab_nil)) cv_len) av_nil))))) (fun _ _ => rfl)))))))))))
    (ss_cons (sv_set (bs_set (i := 8) sc_law.nd rfl (Or.inr rfl) (ev_bin op_addD ov_add (EV.b ev_int) (EV.b (ev_call (be_call G_law_pick (hr.mono (by decide)) rfl T.m_law_pick T.F_law_pick.kp T.b_law_pick .nil pass0 (av_cons (ev_name 1 (bv 1)) (av_cons ev_int av_nil))))))))
    (ss_cons (sv_set (asg_v (asg_lc (bs_lc (k := 9) sc_law.nd rfl (Or.inl rfl) (LcScope.mk2 (N := ["_law_w", "_law_state", "_law_often"]) (js := [none, some 1, some 8]) (defScope s_law) ["_law_script", "_law_state", "_law_turn", "_law_hill_here", "_law_names", "_law_most", "_law_withs", "_law_w", "_law_often", "_law_shut", "_law_order", "_law_chain"] rfl rfl (by decide +kernel)) rfl (iv_b (EV.b (ev_name 4 (bv 4)))) (fun _ _ _ _ => (gv_name (bg_name (i := 0) (by decide : (["_law_w", "_law_state", "_law_often"] : List Str).Nodup) rfl (Or.inl rfl)))) (fun _ _ _ _ => (ts_one (tv_cmp (op_eqD hr.units) (ov_eq false) (EV.b (ev_call (be_call G_law_pick (hr.mono (by decide)) rfl T.m_law_pick T.F_law_pick.kp T.b_law_pick .nil pass0 (av_cons (ev_name 1 (bv 1)) (av_cons (ev_name 2 (bv 2)) av_nil))))) (EV.b ev_int) (nomark _)))) (fun _ _ _ _ => (ev_name 0 (bv 0)))))))
    (ss_cons (sv_if (bs_if (WV.t (wv_or (tv_not (tv_val (ev_callO (be_call G_law_right (hr.mono (by decide)) rfl T.m_law_right T.F_law_right.kp T.b_law_right .nil pass0 (ab_cons (EV.b (ev_name 1 (bv 1))) (ab_cons (EV.b (ev_name 3 (bv 3))) (ab_cons (eb_name 6 (bv 6)) (ab_cons (EV.b (ev_name 9 (bv 9))) ab_nil)))))))) (wv_or1 (tv_not (tv_val (ev_callO (be_call G_law_right (hr.mono (by decide)) rfl T.m_law_right T.F_law_right.kp T.b_law_right .nil pass0 (ab_cons (EV.b (ev_name 1 (bv 1))) (ab_cons (EV.b (ev_name 3 (bv 3))) (ab_cons (eb_name 6 (bv 6)) (ab_cons (EV.b (EF.v (ef_lst av_nil))) ab_nil))))))))))) (ss_one (sv_ret (bs_ret ev_bl))) ss_nil))
    (ss_cons (sv_own (bs_set (i := 10) sc_law.nd rfl (Or.inl rfl) (ef_lst av_nil)))
    (ss_cons (sv_for (bs_for PassesOwn.never rfl (iv_v (ev_name 4 (bv 4))) (gs_name (bg_name (i := 7) sc_law.nd rfl (Or.inl rfl))) (ss_one (sv_ins (k := 10) (bs_expr (be_bm PySem.F.plainAttrs_list PySem.F.slot_list_insert PySem.F.type_list_insert mt_insert (bv 10) (av_cons (ev_call (be_call G_law_pick (hr.mono (by decide)) rfl T.m_law_pick T.F_law_pick.kp T.b_law_pick .nil pass0 (av_cons (ev_name 1 (bv 1)) (av_cons (ev_bin op_addD ov_add (EV.b (ev_callB (be_callB call_lenDD rfl T.m_len PySem.boot_len (ab_cons (eb_name 10 (bv 10)) ab_nil)) cv_len)) (EV.b ev_int)) av_nil)))) (av_cons (ev_name 7 (bv 7)) av_nil))))))))
    (ss_cons (sv_frz (sv_set (bs_set (i := 11) sc_law.nd rfl (Or.inl rfl) (ev_callB (be_callTy (call_dictL rfl) rfl T.m_dict PyProof.Rows.boot_dict (ab_cons (EV.b (EF.v (ef_cat (be_op op_cat (EV.b (EF.v (ef_lcE (be_lc (LcScope.mk2 (N := ["_law_w", "_law_other"]) (js := [none, none]) (defScope s_law) ["_law_script", "_law_state", "_law_turn", "_law_hill_here", "_law_names", "_law_most", "_law_withs", "_law_w", "_law_often", "_law_shut", "_law_order", "_law_chain"] rfl rfl (by decide +kernel)) rfl (ie_Z (bi_zipL rfl T.m_zip (av_cons (ev_name 10 (bv 10)) (av_cons (ev_slice (be_slice sl_E (EV.b (ev_name 10 (bv 10))) (ov_some (EV.b ev_int)) ov_none) sv_E) av_nil)))) (fun _ _ _ _ => (gv_tup (ks := [0, 1]) (bg_tup rfl (bgs_cons (bg_name (i := 0) (by decide : (["_law_w", "_law_other"] : List Str).Nodup) rfl (Or.inl rfl)) (bgs_cons (bg_name (i := 1) (by decide : (["_law_w", "_law_other"] : List Str).Nodup) rfl (Or.inl rfl)) bgs_nil))))) (fun _ _ _ _ => ts_nil) (fun _ _ _ _ => (ev_tup (av_cons (ev_name 0 (bv 0)) (av_cons (EF.v (ef_lst (av_cons (ev_name 1 (bv 1)) av_nil))) av_nil)))))))) (EV.b (EF.v (ef_lst (av_cons (ev_tup (av_cons (ev_ix ix_seq ov_ix (EV.b (ev_name 10 (bv 10))) (EV.b (ev_neg (be_un un_neg (EV.b ev_int)))) (fun _ _ => rfl)) (av_cons (EF.v (ef_lst av_nil)) av_nil))) av_nil)))))))) ab_nil)) cv_dict))))
    (ss_one (sv_if (bs_if (WV.t (wv_or (tv_not (tv_val (ev_call (be_call G_law_right (hr.mono (by decide)) rfl T.m_law_right T.F_law_right.kp T.b_law_right .nil pass0 (by refine av_cons (ev_name 1 (bv 1)) ?_; refine av_cons (ev_name 3 (bv 3)) ?_; refine av_cons (ev_name 11 (bv 11)) ?_; refine av_cons (EF.v (ef_lst av_nil)) ?_; exact av_nil))))) (wv_or1 (tv_not (tv_val (ev_call (be_call G_law_right (hr.mono (by decide)) rfl T.m_law_right T.F_law_right.kp T.b_law_right .nil pass0 (by refine av_cons (ev_name 1 (bv 1)) ?_; refine av_cons (ev_name 3 (bv 3)) ?_; refine av_cons (ev_name 11 (bv 11)) ?_; refine av_cons (ev_slice (be_slice sl_E (EV.b (ev_name 10 (bv 10))) (ov_some (EV.b (ev_neg (be_un un_neg (EV.b ev_int))))) ov_none) sv_E) ?_; exact av_nil)))))))) (ss_one (sv_ret (bs_ret ev_bl))) ss_nil))))))))))))))))
    (ss_one (sv_ret (bs_ret ev_bl))))
end
theorem eqI (i j : Int) : eqO false (.int i) (.int j) = .ret (.bl (i == j)) := by
  show M.ret (PV.bl (xor false (i == j))) = _
  simp
theorem eqS (i j : Str) : eqO false (.str i) (.str j) = .ret (.bl (i == j)) := by
  show M.ret (PV.bl (xor false (i == j))) = _
  simp
theorem seq_nx {m k : PEnv → M Fl} {ρ ρ' : PEnv} {Y : M PV} (h : m ρ = .ret (.nx ρ')) (h' : (k ρ').bind finP = Y) : (seqP m k ρ).bind finP = Y := by
  unfold seqP; rw [h]; exact h'
theorem if_f {c : PEnv → M Bool} {a b : PEnv → M Fl} {ρ : PEnv} (h : c ρ = .ret false) : ifP c a b ρ = b ρ := by unfold ifP; rw [h]; rfl
theorem if_t {c : PEnv → M Bool} {a b : PEnv → M Fl} {ρ : PEnv} (h : c ρ = .ret true) : ifP c a b ρ = a ρ := by unfold ifP; rw [h]; rfl
theorem ret_y {m : PEnv → M PV} {ρ : PEnv} {y : PV} (h : m (ρ.map Ent.freeze) = .ret y) : retP m ρ = .ret (.rt y) := by unfold retP; rw [h]; rfl
theorem fin_y {m : PEnv → M Fl} {ρ : PEnv} {y : PV} (h : m ρ = .ret (.rt y)) : (m ρ).bind finP = .ret y := by rw [h]; rfl
theorem gV0 (y : PV) (ρ : PEnv) : getV (.val y :: ρ) 0 = .ret y := rfl
theorem gVs (e : Ent) (ρ : PEnv) (i : Nat) : getV (e :: ρ) (i + 1) = getV ρ i := rfl
theorem gB0o (l : List PV) (ρ : PEnv) : getB (.own l :: ρ) 0 = .ret (.lst l) := rfl
theorem gBs (e : Ent) (ρ : PEnv) (i : Nat) : getB (e :: ρ) (i + 1) = getB ρ i := rfl
theorem atI_in {α : Type} {l : List α} {d : Int} (h0 : 0 ≤ d) (h1 : d < l.length) : ∃ y ∈ l, atI l d = some y := by
  have hd : d.toNat < l.length := by omega
  have e : d = ((d.toNat : Nat) : Int) := by omega
  refine ⟨l[d.toNat], List.getElem_mem hd, ?_⟩
  have q := atI_nat (List.getElem?_eq_getElem hd)
  rw [← e] at q
  exact q
theorem ones_len : ∀ (ys : List Str), (∀ z ∈ ys, z.length = 1) → (ys.map (·.length)).sum = ys.length
  | [], _ => rfl
  | y :: r, h => by
    have := ones_len r fun z hz => h z (List.mem_cons_of_mem _ hz)
    rw [List.map_cons, List.sum_cons, this, h y List.mem_cons_self, List.length_cons]
    omega
theorem join_ones (ys : List Str) (h : ∀ z ∈ ys, z.length = 1) : (Txt.join (Str.ofString "") ys).length = ys.length := by
  show (Builtin.Str.glued (Str.ofString "") ys).length = _
  rw [PySem.size_glued]
  have e : (Str.ofString "").length = 0 := by decide
  rw [e]
  have := ones_len ys h
  omega
def Lets (x : Str) : Prop := ∀ c ∈ x.cps.toList, 97 ≤ c ∧ c ≤ 122
def One (y : PV) : Prop := ∃ c : Nat, y = .str ⟨#[c]⟩ ∧ 97 ≤ c ∧ c ≤ 122
theorem strs_one : ∀ (l : List PV), (∀ y ∈ l, One y) → ∃ ys, strsOf l = some ys ∧ ys.length = l.length ∧ ∀ z ∈ ys, z.length = 1 ∧ Lets z
  | [], _ => ⟨[], rfl, rfl, fun z hz => by simp at hz⟩
  | y :: l, h => by
    obtain ⟨ys, e1, e2, e3⟩ := strs_one l fun y hy => h y (List.mem_cons_of_mem _ hy)
    obtain ⟨c, rfl, hc⟩ := h y List.mem_cons_self
    exact ⟨⟨#[c]⟩ :: ys, by simp [strsOf, e1], by simp [e2], fun u hu => by
      rcases List.mem_cons.mp hu with rfl | hu
      · exact ⟨rfl, fun d hd => by simp at hd; subst hd; exact hc⟩
      · exact e3 u hu⟩
theorem fold_lets (sep : Str) (hs : Lets sep) : ∀ (ys : List Str) (acc : Array Nat), (∀ z ∈ ys, Lets z) → (∀ c ∈ acc.toList, 97 ≤ c ∧ c ≤ 122) → ∀ c ∈ (ys.foldl (fun acc p => acc ++ sep.cps ++ p.cps) acc).toList, 97 ≤ c ∧ c ≤ 122
  | [], acc, _, ha => ha
  | y :: ys, acc, h, ha => by
    rw [List.foldl_cons]
    refine fold_lets sep hs ys _ (fun z hz => h z (List.mem_cons_of_mem _ hz)) fun c hc => ?_
    rw [Array.toList_append, Array.toList_append, List.mem_append, List.mem_append] at hc
    rcases hc with (hc | hc) | hc
    · exact ha c hc
    · exact hs c hc
    · exact h y List.mem_cons_self c hc
theorem join_lets (ys : List Str) (h : ∀ z ∈ ys, Lets z) : Lets (Txt.join (Str.ofString "") ys) := by
  have he : Lets (Str.ofString "") := fun c hc => by
    have : (Str.ofString "").cps.toList = [] := by decide
    rw [this] at hc; simp at hc
  show Lets (Builtin.Str.glued (Str.ofString "") ys)
  unfold Builtin.Str.glued
  cases ys with
  | nil => exact fun c hc => by simp [Str.empty] at hc
  | cons y ys => exact fold_lets _ he ys _ (fun z hz => h z (List.mem_cons_of_mem _ hz)) (h y List.mem_cons_self)
theorem cut_to (x : Str) (j : Int) (c : Nat) (hc : (c : Int) = if j < 0 then max 0 (j + x.length) else min j x.length) : Txt.slice x none (some j) = ⟨(x.cps.toList.take c).toArray⟩ := by
  have hle : c ≤ x.length := by split at hc <;> omega
  have e : Builtin.Str.strSliceIndices none (some j) 1 x.length = Builtin.Str.strSliceIndices (some ((0 : Nat) : Int)) (some (c : Int)) 1 x.length := by
    unfold Builtin.Str.strSliceIndices
    simp
    congr 1 <;> omega
  have e2 := StrLaws.sliceText_nat x (Nat.zero_le c) hle
  have e3 : Txt.slice x none (some j) = StrLaws.sliceText x (some ((0 : Nat) : Int)) (some (c : Int)) := by
    unfold Txt.slice StrLaws.sliceText
    rw [e]
  rw [e3, e2, List.drop_zero, Nat.sub_zero]
theorem cut_lets {x : Str} (h : Lets x) (c : Nat) : Lets ⟨(x.cps.toList.take c).toArray⟩ := fun d hd => h d (List.mem_of_mem_take (by simpa using hd))
theorem cut_len (x : Str) (c : Nat) : (⟨(x.cps.toList.take c).toArray⟩ : Str).length = min c x.length := by
  show (x.cps.toList.take c).toArray.size = _
  rw [List.size_toArray, List.length_take]
  simp [Str.length]
theorem app_lets {x y : Str} (hx : Lets x) (hy : Lets y) : Lets (x ++ y) := fun c hc => by
  have : c ∈ x.cps.toList ++ y.cps.toList := by
    rw [← Array.toList_append]; exact hc
  rcases List.mem_append.mp this with h | h
  · exact hx c h
  · exact hy c h
theorem app_len (x y : Str) : (x ++ y).length = x.length + y.length := Array.size_append
theorem gseqF {m k : PEnv → M Fl} {ρ : PEnv} {c d : Nat} {I : PEnv → Prop} {Pr : PV → Prop} (h : Gen (m ρ) c fun f => ∃ ρ', f = .nx ρ' ∧ I ρ') (h' : ∀ ρ', I ρ' → Gen ((k ρ').bind finP) d Pr) : Gen ((seqP m k ρ).bind finP) (c + d) Pr := by
  unfold seqP
  rw [M.bZ]
  refine Gen.bind h fun f hf => ?_
  obtain ⟨ρ', rfl, hi⟩ := hf
  exact h' ρ' hi
theorem gseq {m k : PEnv → M Fl} {ρ : PEnv} {c d : Nat} {I : PEnv → Prop} {Pr : Fl → Prop} (h : Gen (m ρ) c fun f => ∃ ρ', f = .nx ρ' ∧ I ρ') (h' : ∀ ρ', I ρ' → Gen (k ρ') d Pr) : Gen (seqP m k ρ) (c + d) Pr := by
  unfold seqP
  refine Gen.bind h fun f hf => ?_
  obtain ⟨ρ', rfl, hi⟩ := hf
  exact h' ρ' hi
theorem gnx {m : PEnv → M Fl} {ρ ρ' : PEnv} {I : PEnv → Prop} (h : m ρ = .ret (.nx ρ')) (hi : I ρ') : Gen (m ρ) 0 fun f => ∃ ρ', f = .nx ρ' ∧ I ρ' := Gen.eq h ⟨ρ', rfl, hi⟩
theorem forN {k : Nat} {mb : PEnv → M Fl} {c : Nat} {Iv : Nat → PEnv → Prop} : ∀ (l : List PV) (i : Nat) (ρ : PEnv), Iv i ρ → (∀ y ∈ l, ∀ j < i + l.length, ∀ ρ, Iv j ρ → Gen (mb (ρ.set k (.val y))) c fun f => ∃ ρ', f = .nx ρ' ∧ Iv (j + 1) ρ') → Gen (forP (bindN k) mb l ρ) (l.length * c) fun f => ∃ ρ', f = .nx ρ' ∧ Iv (i + l.length) ρ'
  | [], i, ρ, h, _ => Gen.le (Gen.ret ⟨ρ, rfl, h⟩) (by simp)
  | y :: l, i, ρ, h, hb => by
    unfold forP
    simp only [bindN, rZ]
    refine Gen.le (Gen.bind (hb y List.mem_cons_self i (by simp) ρ h) fun f hf => ?_) (d := (y :: l).length * c) (Nat.le_of_eq (?_ : c + l.length * c = _))
    · obtain ⟨ρ', rfl, h'⟩ := hf
      have q := forN l (i + 1) ρ' h' fun y' hy j hj => hb y' (List.mem_cons_of_mem _ hy) j (by simp only [List.length_cons]; omega)
      rw [show i + (y :: l).length = i + 1 + l.length by simp only [List.length_cons]; omega]
      exact q
    · simp only [List.length_cons, Nat.succ_mul]; omega
def inN (zs : List Str) (x : Str) : Bool := zs.any fun z => z == x
theorem inN_iff {zs : List Str} {x : Str} : inN zs x = true ↔ x ∈ zs := by
  unfold inN
  rw [List.any_eq_true]
  constructor
  · rintro ⟨z, hz, e⟩; rw [← eq_of_beq e]; exact hz
  · intro h; exact ⟨x, h, beq_self_eq_true x⟩
theorem flat_strs (zs : List Str) : (zs.map PV.str).all flatP = true := by
  rw [List.all_eq_true]
  intro y hy
  obtain ⟨z, _, rfl⟩ := List.mem_map.mp hy
  rfl
theorem in_names (x : Str) (zs : List Str) (b : Bool) : inO b (.str x) (.lst (zs.map PV.str)) = .ret (.bl (xor b (inN zs x))) := by
  have e : memF (.str x) (zs.map PV.str) = inN zs x := by
    unfold memF inN
    rw [List.any_map]
    rfl
  unfold inO
  dsimp only
  rw [flat_strs, e]
  simp [flatP, toV, flatV]
theorem mulI {a b : Int} (h0 : -1000000000000 < a) (h1 : a < 1000000000000) : mulE (.int a) (.int b) = .ret (.int (a * b)) := by
  have e : (2 : Int) ^ 64 = 18446744073709551616 := by decide
  unfold mulE mulO
  dsimp only
  rw [if_pos (show CMul a b from Or.inl ⟨by omega, by omega⟩)]
theorem mkL3 (a b c : PV) : mkLst [a, b, c] = .ret [a, b, c] := by simp [mkLst]
theorem mkL4 (a b c d : PV) : mkLst [a, b, c, d] = .ret [a, b, c, d] := by simp [mkLst]
theorem mkT1 (a : PV) : mkTup [a] = .ret (.tup [a]) := by simp [mkTup]
theorem mkT2 (a b : PV) : mkTup [a, b] = .ret (.tup [a, b]) := by simp [mkTup]
theorem mkT3 (a b c : PV) : mkTup [a, b, c] = .ret (.tup [a, b, c]) := by simp [mkTup]
theorem gen_ix {l : List PV} {n : Int} (hn : (l.length : Int) = n) (h0 : 0 < l.length) (h1 : l.length < 1000) : Gen ((drawF [.bag, .int n]).bind fun i => ixO (.lst l) i) 1 (fun y => y ∈ l) := by
  refine Gen.le (Gen.bind (Gen.draw (by omega) (by omega)) (d := 0) ?_) (Nat.le_refl _)
  rintro _ ⟨d, rfl, d0, d1⟩
  obtain ⟨y, hy, e⟩ := atI_in (l := l) d0 (by omega)
  exact Gen.eq (y := y) (by simp [ixO, e, M.ofO]) hy
theorem at0 (a : PV) (r : List PV) : atI (a :: r) 0 = some a := by unfold atI ixN; simp
theorem ifv_t {c : PEnv → M Bool} {a b : PEnv → M PV} {ρ : PEnv} (h : c ρ = .ret true) : ifV c a b ρ = a ρ := by unfold ifV; rw [h]; rfl
theorem ifv_f {c : PEnv → M Bool} {a b : PEnv → M PV} {ρ : PEnv} (h : c ρ = .ret false) : ifV c a b ρ = b ρ := by unfold ifV; rw [h]; rfl
def Sh (x : Str) : Prop := x.length ≤ 8 ∧ ∀ c ∈ x.cps.toList, c < 16 ^ 8
instance (x : Str) : Decidable (Sh x) := by unfold Sh; infer_instance
theorem ss {x : Str} (h : Sh x) : Sml 82 0 (.str x) := sml_str h.1 h.2
theorem mkT5 (a b c d e : PV) : mkTup [a, b, c, d, e] = .ret (.tup [a, b, c, d, e]) := by simp [mkTup]
theorem mkL0 : mkLst [] = .ret [] := by simp [mkLst]
theorem neL (l : List PV) : eqO true (.lst l) (.lst []) = .ret (.bl (!l.isEmpty)) := by cases l <;> rfl
theorem mkT6 (a b c d e f : PV) : mkTup [a, b, c, d, e, f] = .ret (.tup [a, b, c, d, e, f]) := by simp [mkTup]
theorem mkL1 (a : PV) : mkLst [a] = .ret [a] := by simp [mkLst]
def PageT (n : Int) (y : PV) : Prop := ∃ (w z : Str) (m : Int) (r : List PV), y = .tup (.str w :: .int n :: .int m :: .str z :: r) ∧ True ∧ 0 ≤ m ∧ m ≤ 1000000
def hit (w z : Str) (t : Int) (y : PV) : Bool := match y with
  | .tup (.str w' :: _ :: .int m :: .str z' :: _) => w' == w && (z' == z && decide (m ≤ t))
  | _ => false
theorem at_1 (a b : PV) (r : List PV) : atI (a :: b :: r) 1 = some b := atI_of (k := 1) rfl
theorem at_2 (a b c : PV) (r : List PV) : atI (a :: b :: c :: r) 2 = some c := atI_of (k := 2) rfl
theorem at_3 (a b c d : PV) (r : List PV) : atI (a :: b :: c :: d :: r) 3 = some d := atI_of (k := 3) rfl
noncomputable def lastT : PEnv → M Bool := (andP (asB (bin2 (eqO false) (bin2 ixO (fun ρ => getV ρ 5) (fun _ => M.ret (.int 0))) (fun ρ => getV ρ 1))) (andP (asB (bin2 (eqO false) (bin2 ixO (fun ρ => getV ρ 5) (fun _ => M.ret (.int 3))) (fun ρ => getV ρ 2))) (asB (bin2 leOD (bin2 ixO (fun ρ => getV ρ 5) (fun _ => M.ret (.int 2))) (fun ρ => getV ρ 3)))))
def lastB : PEnv → M Fl := (ifP lastT (setP 4 (fun ρ => getV ρ 5)) (fun ρ => M.ret (.nx ρ)))
theorem and_is {a b : PEnv → M Bool} {ρ : PEnv} {x y : Bool} (ha : a ρ = .ret x) (hb : b ρ = .ret y) : andP a b ρ = .ret (x && y) := by
  unfold andP; rw [ha]; cases x <;> simp [hb]
theorem lastT_is {Y : Ent} {w z : Str} {t : Int} {f : PV} {n : Int} {y : PV} (hy : PageT n y) : lastT [Y, val (.str w), val (.str z), val (.int t), val f, val y] = .ret (hit w z t y) := by
  obtain ⟨w', z', m, r, rfl, _⟩ := hy
  unfold lastT
  refine and_is ?_ (and_is ?_ ?_)
  · simp only [asB, bin2, gV0, gVs, rZ, ixO, at0, M.ofO, eqS]
  · simp only [asB, bin2, gV0, gVs, rZ, ixO, at_3, M.ofO, eqS]
  · simp only [asB, bin2, gV0, gVs, rZ, ixO, at_2, M.ofO, leOD]
theorem last_loop {Y : Ent} {w z : Str} {t : Int} : ∀ (rest : List PV) (f : PV) (e5 : Ent), (∀ y ∈ rest, ∃ n, PageT n y) →
    ∃ e5', forP (bindN 5) lastB rest [Y, val (.str w), val (.str z), val (.int t), val f, e5] = .ret (.nx [Y, val (.str w), val (.str z), val (.int t), val (((rest.filter (hit w z t)).getLast?).getD f), e5'])
  | [], f, e5, _ => ⟨e5, rfl⟩
  | y :: rest, f, e5, h => by
    obtain ⟨n, hy⟩ := h y List.mem_cons_self
    have ht := lastT_is (Y := Y) (w := w) (z := z) (t := t) (f := f) hy
    unfold forP
    simp only [bindN, rZ, List.set_cons_succ, List.set_cons_zero]
    cases c : hit w z t y with
    | true =>
      rw [c] at ht
      have st : lastB [Y, val (.str w), val (.str z), val (.int t), val f, val y] = .ret (.nx [Y, val (.str w), val (.str z), val (.int t), val y, val y]) := by
        unfold lastB
        rw [if_t ht]
        simp only [setP, gV0, gVs, rZ, List.set_cons_succ, List.set_cons_zero]
      obtain ⟨e5', ih⟩ := last_loop (Y := Y) (w := w) (z := z) (t := t) rest y (val y) fun y' hy' => h y' (List.mem_cons_of_mem _ hy')
      refine ⟨e5', ?_⟩
      rw [st, rZ]
      show forP _ _ _ _ = _
      rw [ih, List.filter_cons_of_pos c]
      congr 7
      cases hf : (rest.filter (hit w z t)).getLast? with
      | none =>
        rw [List.getLast?_eq_none_iff] at hf
        rw [hf]
        rfl
      | some v =>
        rw [List.getLast?_cons, hf]
        rfl
    | false =>
      rw [c] at ht
      have st : lastB [Y, val (.str w), val (.str z), val (.int t), val f, val y] = .ret (.nx [Y, val (.str w), val (.str z), val (.int t), val f, val y]) := by
        unfold lastB
        rw [if_f ht]
      obtain ⟨e5', ih⟩ := last_loop (Y := Y) (w := w) (z := z) (t := t) rest f (val y) fun y' hy' => h y' (List.mem_cons_of_mem _ hy')
      refine ⟨e5', ?_⟩
      rw [st, rZ]
      show forP _ _ _ _ = _
      rw [ih, List.filter_cons_of_neg (by rw [c]; decide)]
theorem last_is {B : List PV} {w z : Str} {t : Int} (h : ∀ y ∈ B, ∃ n, PageT n y) : F_last_page [.tup B, .str w, .str z, .int t] = .ret (((B.filter (hit w z t)).getLast?).getD .non) := by
  unfold F_last_page m_last_page
  show (seqP _ _ [val (.tup B), val (.str w), val (.str z), val (.int t), un, un]).bind finP = _
  refine seq_nx (ρ' := [val (.tup B), val (.str w), val (.str z), val (.int t), val .non, un]) rfl ?_
  obtain ⟨e5', ih⟩ := last_loop (Y := val (.tup B)) (w := w) (z := z) (t := t) B .non un h
  refine seq_nx (ρ' := [val (.tup B), val (.str w), val (.str z), val (.int t), val (((B.filter (hit w z t)).getLast?).getD .non), e5']) ?_ ?_
  · simp only [mkFor, gV0, gVs, rZ, iterO]
    exact ih
  · exact fin_y (ret_y rfl)
abbrev abc : Str := "etaoinshrdlcumwfgypbvkjxqz"
theorem abc_let : ∀ c ∈ abc.cps.toList, 97 ≤ c ∧ c ≤ 122 := by decide +kernel
theorem abc_nd : abc.cps.toList.Nodup := by decide +kernel
theorem abc_n : abc.cps.toList.length = 26 := by decide +kernel
theorem abc_ix (d : Int) (h0 : 0 ≤ d) (h1 : d < 26) : ∃ y, ixO (.str abc) (.int d) = .ret y ∧ One y := by
  have hz : abc.length ≤ 100000 := by decide +kernel
  obtain ⟨c, hc, e⟩ := atI_in (l := abc.cps.toList) h0 (by rw [abc_n]; exact h1)
  exact ⟨.str ⟨#[c]⟩, by simp [ixO, e, M.ofO, hz], c, rfl, abc_let c hc⟩
def Wd (x : Str) : Prop := 1 ≤ x.length ∧ x.length ≤ 8 ∧ Lets x
theorem subS_len : ∀ (l m : List Str), l.Nodup → (∀ x ∈ l, x ∈ m) → l.length ≤ m.length
  | [], m, _, _ => Nat.zero_le _
  | x :: l, m, nd, hs => by
    rw [List.nodup_cons] at nd
    have hx := hs x List.mem_cons_self
    have := subS_len l (m.erase x) nd.2 fun y hy => (List.mem_erase_of_ne (fun z : y = x => nd.1 (z ▸ hy))).mpr (hs y (List.mem_cons_of_mem _ hy))
    rw [List.length_erase_of_mem hx] at this
    have hp : 0 < m.length := List.length_pos_of_mem hx
    rw [List.length_cons]
    omega
def cand (w : Str) : List Str := abc.cps.toList.map fun c => (⟨(w.cps.toList.take (min 7 w.length)).toArray⟩ : Str) ++ ⟨#[c]⟩
theorem cand_nd (w : Str) : (cand w).Nodup := by
  unfold cand List.Nodup
  rw [List.pairwise_map]
  refine List.Pairwise.imp ?_ abc_nd
  intro a b ne e
  have e2 : ((⟨(w.cps.toList.take (min 7 w.length)).toArray⟩ : Str) ++ (⟨#[a]⟩ : Str)).cps.toList = ((⟨(w.cps.toList.take (min 7 w.length)).toArray⟩ : Str) ++ (⟨#[b]⟩ : Str)).cps.toList := by rw [e]
  have e3 : ∀ x y : Str, (x ++ y).cps.toList = x.cps.toList ++ y.cps.toList := fun x y => by rw [← Array.toList_append]; rfl
  rw [e3, e3] at e2
  have := List.append_cancel_left e2
  simp at this
  exact ne this
theorem cand_wd {w : Str} (hw : Wd w) : ∀ x ∈ cand w, Wd x := fun x hx => by
  obtain ⟨c, hc, rfl⟩ := List.mem_map.mp hx
  refine ⟨?_, ?_, app_lets (cut_lets hw.2.2 _) fun d hd => ?_⟩
  · rw [app_len, cut_len]; show 1 ≤ _ + 1; omega
  · rw [app_len, cut_len]; show _ + 1 ≤ 8; omega
  · simp at hd; subst hd; exact abc_let _ hc
noncomputable def wordE : PEnv → M PV := bin2 addO (sl3 slE (fun ρ => getV ρ 1) (fun _ => M.ret none) (fun ρ => ((fun _ => M.ret (.int 7)) ρ).bind fun y => (intM y).bind fun i => M.ret (some i))) (fun ρ => getV ρ 0)
def wordT : PEnv → M Bool := asB (bin2 (inO true) (fun ρ => getV ρ 0) (fun ρ => getV ρ 1))
theorem gen_word {zs : List Str} (hz : zs.length ≤ 20) : Gen (F_law_word [.bag, .lst (zs.map PV.str)]) 9 (fun y => ∃ x, y = .str x ∧ Wd x ∧ x ∉ zs) := by
  unfold F_law_word m_law_word
  show Gen ((seqP _ _ [val .bag, val (.lst (zs.map PV.str)), un, un, un]).bind finP) 9 _
  refine Gen.le (gseqF (c := 0) (d := 9) (I := fun ρ => ρ = [val .bag, val (.lst (zs.map PV.str)), val (.str abc), un, un]) (gnx rfl rfl) ?_) (by decide)
  rintro _ rfl
  refine Gen.le (gseqF (c := 1) (d := 8) (I := fun ρ => ∃ k : Int, 1 ≤ k ∧ k ≤ 8 ∧ ρ = [val .bag, val (.lst (zs.map PV.str)), val (.str abc), val (.int k), un]) ?_ ?_) (by decide)
  · simp only [setP, bin2, consA, gV0, gVs, rZ, F_law_pick, M.bZ]
    refine Gen.le (Gen.bind (Gen.draw (by omega) (by omega)) (d := 0) ?_) (by decide)
    rintro _ ⟨d, rfl, d0, d1⟩
    exact Gen.eq (y := .nx _) rfl ⟨_, rfl, 1 + d, by omega, by omega, rfl⟩
  rintro _ ⟨k, k0, k1, rfl⟩
  refine Gen.le (gseqF (c := 8) (d := 0) (I := fun ρ => ∃ w : Str, Wd w ∧ ρ = [val .bag, val (.lst (zs.map PV.str)), val (.str abc), val (.int k), val (.str w)]) ?_ ?_) (by decide)
  · have hlen : (intsP 0 k.toNat).length = k.toNat := by simp [intsP]
    have er : rng1O [.int k] = .ret (intsP 0 k.toNat) := by simp only [rng1O, if_pos (by omega : -1000000 ≤ k ∧ k ≤ 100000)]
    have ec : capP [none, some 2, some 0] [val .bag, val (.lst (zs.map PV.str)), val (.str abc), val (.int k), un] = [un, val (.str abc), val .bag] := rfl
    have et : tyP (.str "") = "str" := rfl
    unfold setP bmP
    simp only [rZ, et, if_true]
    unfold consA lstV mkLC
    simp only [consA, gV0, gVs, rZ, er, if_pos (by omega : (intsP 0 k.toNat).length ≤ 100000), ec, M.bZ]
    refine Gen.le (Gen.bind (Gen.lc (ρ := [un, val (.str abc), val .bag]) (c := 1) (Pr := One) _ _ (fun _ => rfl) (fun y hy => ?_)) (d := 0) ?_) (by rw [hlen]; omega)
    · simp only [List.set_cons_zero, bin2, gV0, gVs, rZ, F_law_pick]
      refine Gen.le (Gen.bind (Gen.draw (by omega) (by omega)) (d := 0) ?_) (by decide)
      rintro _ ⟨d, rfl, d0, d1⟩
      obtain ⟨y, e, o⟩ := abc_ix d d0 d1
      exact Gen.eq e o
    · rintro us ⟨z1, z2⟩
      obtain ⟨ys, e1, e2, e3⟩ := strs_one us z2
      have e4 := ones_len ys fun z hz => (e3 z hz).1
      have e5 : (Str.ofString "").length = 0 := by decide
      have e6 := join_ones ys fun z hz => (e3 z hz).1
      have hs : (ys.map (·.length)).sum + ys.length * (Str.ofString "").length ≤ 16777216 := by rw [e4, e5, e2, z1, hlen]; omega
      refine Gen.eq (y := .nx [val .bag, val (.lst (zs.map PV.str)), val (.str abc), val (.int k), val (.str (Txt.join (Str.ofString "") ys))]) ?_ ⟨_, rfl, _, ⟨by rw [e6, e2, z1, hlen]; omega, by rw [e6, e2, z1, hlen]; omega, join_lets ys fun z hz => (e3 z hz).2⟩, rfl⟩
      simp only [rZ, joinO, e1, M.ofO, if_pos hs]
      rfl
  rintro _ ⟨w, hw, rfl⟩
  have hsl : slE (.str w) none (some 7) = .ret (.str ⟨(w.cps.toList.take (min 7 w.length)).toArray⟩) := by
    have : w.length ≤ 100000 := by have := hw.2.1; omega
    unfold slE
    dsimp only
    rw [if_pos this, cut_to w 7 (min 7 w.length) (by rw [if_neg (by decide)]; omega)]
  have q1 := lcM_map (k := 0) (te := wordE) (f := fun y => match y with | .str c => .str ((⟨(w.cps.toList.take (min 7 w.length)).toArray⟩ : Str) ++ c) | _ => .non) (ρ := [un, val (.str w)]) (signsP abc) [un, val (.str w)] (fun _ => rfl) (fun y hy => by
      obtain ⟨c, hc, rfl⟩ := List.mem_map.mp hy
      have hz : (⟨(w.cps.toList.take (min 7 w.length)).toArray⟩ : Str).length + (⟨#[c]⟩ : Str).length ≤ 100000 := by rw [cut_len]; show _ + 1 ≤ _; omega
      unfold wordE
      simp only [List.set_cons_zero, bin2, sl3, gV0, gVs, rZ, intM, hsl, addO, if_pos hz])
  have em : ((signsP abc).map fun y => match y with | PV.str c => PV.str ((⟨(w.cps.toList.take (min 7 w.length)).toArray⟩ : Str) ++ c) | _ => .non) = (cand w).map PV.str := by
    unfold signsP cand
    rw [List.map_map, List.map_map]
    rfl
  rw [em] at q1
  have q2 := lcM_filter (k := 0) (tt := wordT) (te := fun ρ => getV ρ 0) (p := fun y => match y with | .str x => !(inN zs x) | _ => false) (f := id) (ρ := [un, val (.lst (zs.map PV.str))]) ((w :: cand w).map PV.str) [un, val (.lst (zs.map PV.str))] (fun _ => rfl) (fun y hy => by
      obtain ⟨x, hx, rfl⟩ := List.mem_map.mp hy
      unfold wordT
      simp only [asB, bin2, List.set_cons_zero, gV0, gVs, rZ, in_names]
      simp) (fun y hy _ => by simp only [gV0, List.set_cons_zero]; rfl)
  have hlen1 : (signsP abc).length ≤ 100000 := by unfold signsP; rw [List.length_map, abc_n]; omega
  have hlen2 : ((w :: cand w).map PV.str).length ≤ 100000 := by unfold cand; simp only [List.length_map, List.length_cons, abc_n]; omega
  have hcat : [PV.str w].length + ((cand w).map PV.str).length ≤ 100000 := by unfold cand; simp only [List.length_map, List.length_cons, List.length_nil, abc_n]; omega
  obtain ⟨x, hx, hnx⟩ : ∃ x ∈ cand w, x ∉ zs := by
    apply Classical.byContradiction
    intro hno
    have := subS_len (cand w) zs (cand_nd w) fun x hx => Classical.byContradiction fun hc => hno ⟨x, hx, hc⟩
    unfold cand at this
    rw [List.length_map, abc_n] at this
    omega
  generalize hF : ((w :: cand w).map PV.str).filter (fun y => match y with | .str x => !(inN zs x) | _ => false) = F at q2
  have hFx : PV.str x ∈ F := by
    rw [← hF]
    refine List.mem_filter.mpr ⟨List.mem_map_of_mem (List.mem_cons_of_mem _ hx), ?_⟩
    show (!(inN zs x)) = true
    cases c : inN zs x with
    | false => rfl
    | true => exact absurd (inN_iff.mp c) hnx
  match F, hF, hFx, q2 with
  | y :: F, hF, _, q2 =>
  have hy : y ∈ (w :: cand w).map PV.str := (List.mem_filter.mp (by rw [hF]; exact List.mem_cons_self)).1
  obtain ⟨v, hv, rfl⟩ := List.mem_map.mp hy
  refine Gen.eq (y := .str v) ?_ ⟨v, rfl, ?_, ?_⟩
  · refine fin_y (ret_y ?_)
    have ec1 : capP [none, some 4] [val .bag, val (.lst (zs.map PV.str)), val (.str abc), val (.int k), val (.str w)] = [un, val (.str w)] := rfl
    have ec2 : capP [none, some 1] [val .bag, val (.lst (zs.map PV.str)), val (.str abc), val (.int k), val (.str w)] = [un, val (.lst (zs.map PV.str))] := rfl
    show (bin2 ixO (lstV (mkLC [none, some 1] (fun ρ => ((lstV (catF (lstV (fun ρ => ((consA (fun ρ => getV ρ 4) (fun _ => M.ret [])) ρ).bind mkLst)) (lstV (mkLC [none, some 4] (fun ρ => ((fun ρ => getV ρ 2) ρ).bind iterO) (bindN 0) allTs wordE)))) ρ).bind iterO) (bindN 0) wordT (fun ρ => getV ρ 0))) (fun _ => M.ret (.int 0))) [val .bag, val (.lst (zs.map PV.str)), val (.str abc), val (.int k), val (.str w)] = _
    simp only [bin2, lstV, mkLC, catF]
    simp only [consA, gV0, gVs, rZ, mkL1, iterO, if_pos hlen1, ec1, ec2]
    rw [q1]
    simp only [rZ, if_pos hcat, List.cons_append, List.nil_append]
    have e9 : PV.str w :: (cand w).map PV.str = (w :: cand w).map PV.str := rfl
    rw [e9]
    simp only [iterO, rZ]
    rw [if_pos hlen2, q2]
    simp only [rZ, List.map_id, ixO, at0, M.ofO]
  · rcases List.mem_cons.mp hv with rfl | hv
    · exact hw
    · exact cand_wd hw v hv
  · have h2 := (List.mem_filter.mp (by rw [hF]; exact List.mem_cons_self : PV.str v ∈ ((w :: cand w).map PV.str).filter (fun y => match y with | .str x => !(inN zs x) | _ => false))).2
    have h3 : (!(inN zs v)) = true := h2
    intro hm
    rw [inN_iff.mpr hm] at h3
    cases h3
theorem gen_words {k : Int} (k0 : 1 ≤ k) (k1 : k ≤ 12) : Gen (F_law_words [.bag, .int k]) (k.toNat * 9) (fun y => ∃ zs : List Str, y = .lst (zs.map PV.str) ∧ zs.length = k.toNat ∧ (∀ z ∈ zs, Wd z) ∧ zs.Nodup) := by
  unfold F_law_words m_law_words
  show Gen ((seqP _ _ [val .bag, val (.int k), un, un]).bind finP) _ _
  refine Gen.le (gseqF (c := 0) (d := k.toNat * 9) (I := fun ρ => ρ = [val .bag, val (.int k), Ent.own [], un]) (gnx (by simp [ownP, mkLst]) rfl) ?_) (by omega)
  rintro _ rfl
  have hint : (intsP 0 k.toNat).length = k.toNat := by simp [intsP]
  have er : rng1O [.int k] = .ret (intsP 0 k.toNat) := by simp only [rng1O, if_pos (by omega : -1000000 ≤ k ∧ k ≤ 100000)]
  refine Gen.le (gseqF (c := k.toNat * 9) (d := 0) (I := fun ρ => ∃ (zs : List Str) (e3 : Ent), zs.length = k.toNat ∧ ((∀ z ∈ zs, Wd z) ∧ zs.Nodup) ∧ ρ = [val .bag, val (.int k), Ent.own (zs.map PV.str), e3]) ?_ ?_) (by omega)
  · simp only [mkFor, consA, gV0, gVs, rZ, er]
    refine Gen.mono (forN (k := 3) (c := 9) (Iv := fun i ρ => ∃ (zs : List Str) (e3 : Ent), zs.length = i ∧ ((∀ z ∈ zs, Wd z) ∧ zs.Nodup) ∧ ρ = [val .bag, val (.int k), Ent.own (zs.map PV.str), e3]) (intsP 0 k.toNat) 0 _ ⟨[], _, rfl, ⟨fun z hz => absurd hz List.not_mem_nil, List.nodup_nil⟩, rfl⟩ ?_) (by rw [hint]; exact Nat.le_refl _) ?_
    rotate_left
    · rintro f ⟨ρ', rfl, zs, e3, hn, hw, rfl⟩
      rw [hint, Nat.zero_add] at hn
      exact ⟨_, rfl, zs, e3, hn, hw, rfl⟩
    · rintro y hy j hj _ ⟨zs, e3, hn, hw, rfl⟩
      rw [hint] at hj
      show Gen (appP _ _ [val .bag, val (.int k), Ent.own (zs.map PV.str), val y]) 9 _
      simp only [appP, List.getElem?_cons_succ, List.getElem?_cons_zero, consA, gV0, gVs, gB0o, gBs, rZ, M.bZ]
      refine Gen.le (Gen.bind (gen_word (zs := zs) (by omega)) (d := 0) ?_) (by decide)
      rintro _ ⟨x, rfl, hx, hxn⟩
      have hl : (zs.map PV.str).length < 100000 := by rw [List.length_map]; omega
      refine Gen.eq (y := .nx [val .bag, val (.int k), Ent.own ((zs ++ [x]).map PV.str), val y]) ?_ ⟨_, rfl, zs ++ [x], _, by simp [hn], ⟨fun z hz => ?_, ?_⟩, rfl⟩
      · have hf : flatM (.str x) = .ret (.str x) := rfl
        simp only [hf, rZ, if_pos hl, List.map_append, List.map_cons, List.map_nil]
        rfl
      · rcases List.mem_append.mp hz with hz | hz
        · exact hw.1 z hz
        · rw [List.mem_singleton.mp hz]; exact hx
      · refine List.nodup_append.mpr ⟨hw.2, by simp, fun a ha b hb => ?_⟩
        rw [List.mem_singleton.mp hb]
        exact fun z => hxn (z ▸ ha)
  · rintro _ ⟨zs, e3, hn, hw, rfl⟩
    exact Gen.eq (fin_y (ret_y rfl)) ⟨zs, rfl, hn, hw⟩
abbrev kn (x : Str) : Key := Sum.inr x
theorem whP_s (mt : PEnv → M Bool) (mb : PEnv → M Fl) (k : Nat) (ρ : PEnv) : whP mt mb (k + 1) ρ = (mt ρ).bind fun b => if b = true then (mb ρ).bind fun f => (match f with
    | .nx ρ2 => whP mt mb k ρ2
    | .ct ρ2 => whP mt mb k ρ2
    | .bk ρ2 => .ret (.nx ρ2)
    | .rt v => .ret (.rt v)) else .ret (.nx ρ) := rfl
noncomputable def foT : PEnv → M Bool := (asB (fun ρ => ((consA (lstV (mkLC [none, some 1] (fun ρ => ((bin2 dgetO (fun ρ => getV ρ 0) (fun ρ => getV ρ 3)) ρ).bind iterO) (bindN 0) allTs (bin2 (dinO false) (fun ρ => getV ρ 0) (fun ρ => getB ρ 1)))) (fun _ => M.ret [])) ρ).bind allO))
def hasK (f : List (Key × PV)) (x : Str) : Bool := (valP f (kn x)).isSome
theorem foT_is {d f : List (Key × PV)} {x : Str} {os : List Str} {e2 : Ent} (h : valP d (kn x) = some (.lst (os.map PV.str))) (hl : os.length ≤ 1000) :
    foT [val (.dct d), Ent.ownD f, e2, val (.str x)] = .ret (os.all (hasK f)) := by
  have q := lcM_map (k := 0) (te := bin2 (dinO false) (fun ρ => getV ρ 0) (fun ρ => getB ρ 1)) (f := fun y => match y with | .str o => .bl (hasK f o) | _ => .non) (ρ := [un, Ent.ownD f]) (os.map PV.str) [un, Ent.ownD f] (fun _ => rfl) (fun y hy => by
    obtain ⟨o, _, rfl⟩ := List.mem_map.mp hy
    simp only [bin2, List.set_cons_zero, gV0, rZ, getB, List.getElem?_cons_succ, List.getElem?_cons_zero, dinO, keyO, M.ofO, Bool.bne_false, hasK])
  have ec : capP [none, some 1] [val (.dct d), Ent.ownD f, e2, val (.str x)] = [un, Ent.ownD f] := rfl
  have hlen : (os.map PV.str).length ≤ 100000 := by rw [List.length_map]; omega
  have eall : ∀ os : List Str, allO [.lst ((os.map PV.str).map fun y => match y with | .str o => PV.bl (hasK f o) | _ => .non)] = .ret (.bl (os.all (hasK f))) := fun os => by
    have : blsOf ((os.map PV.str).map fun y => match y with | .str o => PV.bl (hasK f o) | _ => .non) = some (os.map (hasK f)) := by
      induction os with
      | nil => rfl
      | cons o os ih => simp only [List.map_cons, blsOf, ih]; rfl
    simp only [allO, this, M.ofO, rZ, List.all_map]
    rfl
  unfold foT asB
  simp only [consA, lstV, mkLC, bin2, gV0, gVs, rZ, dgetO, keyO, M.ofO, h, iterO, if_pos hlen, ec, q, eall]
def dcA (A : List (Str × List Str)) : List (Key × PV) := A.map fun p => (kn p.1, PV.lst (p.2.map PV.str))
def osA (A : List (Str × List Str)) (x : Str) : List Str := ((A.find? fun p => decide (p.1 = x)).map (·.2)).getD []
theorem kn_eq (a b : Str) : decide (kn a = kn b) = decide (a = b) := key_rr a b
theorem val_dcA {A : List (Str × List Str)} {x : Str} : (∃ p ∈ A, p.1 = x) → valP (dcA A) (kn x) = some (.lst ((osA A x).map PV.str)) := by
  induction A with
  | nil => rintro ⟨_, h, _⟩; cases h
  | cons p A ih =>
    rintro ⟨q, hq, hx⟩
    unfold valP dcA osA
    simp only [List.map_cons, List.find?_cons, kn_eq]
    by_cases c : p.1 = x
    · simp [c]
    · rcases List.mem_cons.mp hq with rfl | hq
      · exact absurd hx c
      · have := ih ⟨q, hq, hx⟩
        unfold valP dcA osA at this
        simp only [decide_eq_false c]
        exact this
def stepF (A : List (Str × List Str)) (f : List (Key × PV)) (x : Str) : List (Key × PV) := if (osA A x).all (hasK f) = true then putP f (kn x) (.bl true) else f
theorem putP_len (f : List (Key × PV)) (k : Key) (y : PV) : (putP f k y).length ≤ f.length + 1 := by
  unfold putP; split <;> simp
theorem stepF_len (A : List (Str × List Str)) (f : List (Key × PV)) (x : Str) : (stepF A f x).length ≤ f.length + 1 := by
  unfold stepF; split
  · exact putP_len ..
  · omega
def foI : PEnv → M Fl := (ifP foT (dputP 1 (fun ρ => getV ρ 3) (fun _ => M.ret (.bl true))) (fun ρ => M.ret (.nx ρ)))
theorem foI_is {A : List (Str × List Str)} {f : List (Key × PV)} {x : Str} {e2 : Ent} (h : ∃ p ∈ A, p.1 = x) (ho : ∀ p ∈ A, p.2.length ≤ 1000) (hf : f.length < 100000) :
    foI [val (.dct (dcA A)), Ent.ownD f, e2, val (.str x)] = .ret (.nx [val (.dct (dcA A)), Ent.ownD (stepF A f x), e2, val (.str x)]) := by
  have hl : (osA A x).length ≤ 1000 := by
    unfold osA
    cases c : A.find? fun p => decide (p.1 = x) with
    | none => simp
    | some p => exact ho p (List.mem_of_find?_eq_some c)
  have t := foT_is (f := f) (e2 := e2) (val_dcA h) hl
  unfold foI stepF
  cases c : (osA A x).all (hasK f) with
  | true =>
    rw [c] at t
    rw [if_t t]
    simp only [dputP, rZ, List.getElem?_cons_succ, List.getElem?_cons_zero, gV0, gVs, keyO, M.ofO, if_pos hf]
    rfl
  | false =>
    rw [c] at t
    rw [if_f t]
    rfl
theorem fo_loop {A : List (Str × List Str)} {e2 : Ent} (ho : ∀ p ∈ A, p.2.length ≤ 1000) : ∀ (xs : List Str) (f : List (Key × PV)) (e3 : Ent), (∀ x ∈ xs, ∃ p ∈ A, p.1 = x) → f.length + xs.length < 100000 →
    ∃ e3', forP (bindN 3) foI (xs.map PV.str) [val (.dct (dcA A)), Ent.ownD f, e2, e3] = .ret (.nx [val (.dct (dcA A)), Ent.ownD (xs.foldl (stepF A) f), e2, e3'])
  | [], f, e3, _, _ => ⟨e3, rfl⟩
  | x :: xs, f, e3, h, hl => by
    have h1 := foI_is (e2 := e2) (h x List.mem_cons_self) ho (f := f) (by simp at hl; omega)
    obtain ⟨e3', ih⟩ := fo_loop (e2 := e2) ho xs (stepF A f x) (val (.str x)) (fun y hy => h y (List.mem_cons_of_mem _ hy)) (by have := stepF_len A f x; simp at hl; omega)
    refine ⟨e3', ?_⟩
    rw [List.map_cons]
    unfold forP
    simp only [bindN, rZ, List.set_cons_succ, List.set_cons_zero]
    rw [h1, rZ]
    exact ih
def passF (A : List (Str × List Str)) (f : List (Key × PV)) : List (Key × PV) := (A.map (·.1)).foldl (stepF A) f
noncomputable def whA (A : List (Str × List Str)) : Nat → Int → List (Key × PV) → Option (List (Key × PV))
  | 0, _, _ => none
  | k + 1, b, f => if b < f.length then whA A k f.length (passF A f) else some f
def foW : PEnv → M Bool := (asB (bin2 ltO (fun ρ => getV ρ 2) (fun ρ => ((consA (fun ρ => getB ρ 1) (fun _ => M.ret [])) ρ).bind lenO)))
noncomputable def foS : PEnv → M Fl := (seqP (setP 2 (fun ρ => ((consA (fun ρ => getB ρ 1) (fun _ => M.ret [])) ρ).bind lenO)) (mkFor (fun ρ => ((fun ρ => getV ρ 0) ρ).bind keysO) (bindN 3) foI))
theorem passF_len (A : List (Str × List Str)) (f : List (Key × PV)) : (passF A f).length ≤ f.length + A.length := by
  unfold passF
  have : ∀ (xs : List Str) (f : List (Key × PV)), (xs.foldl (stepF A) f).length ≤ f.length + xs.length := by
    intro xs
    induction xs with
    | nil => intro f; simp
    | cons x xs ih => intro f; have := ih (stepF A f x); have h2 := stepF_len A f x; simp only [List.foldl_cons, List.length_cons]; omega
  simpa using this (A.map (·.1)) f
theorem keys_dcA (A : List (Str × List Str)) : keysO (.dct (dcA A)) = .ret ((A.map (·.1)).map PV.str) := by
  unfold keysO dcA
  simp only [List.map_map]
  rfl
theorem wh_is {A : List (Str × List Str)} (ho : ∀ p ∈ A, p.2.length ≤ 1000) : ∀ (k : Nat) (b : Int) (f f' : List (Key × PV)) (e3 : Ent), f.length + (k + 1) * A.length < 100000 → whA A k b f = some f' →
    ∃ b' e3', whP foW foS k [val (.dct (dcA A)), Ent.ownD f, val (.int b), e3] = .ret (.nx [val (.dct (dcA A)), Ent.ownD f', val (.int b'), e3'])
  | 0, b, f, f', e3, _, h => by cases h
  | k + 1, b, f, f', e3, hl, h => by
    have hA : (k + 1 + 1) * A.length = (k + 1) * A.length + A.length := by rw [Nat.add_mul, Nat.one_mul]
    have t : foW [val (.dct (dcA A)), Ent.ownD f, val (.int b), e3] = .ret (decide (b < f.length)) := by
      simp only [foW, asB, bin2, consA, gV0, gVs, rZ, getB, List.getElem?_cons_succ, List.getElem?_cons_zero, lenO]
      rfl
    unfold whA at h
    rw [whP_s, t, rZ]
    by_cases c : b < f.length
    · rw [if_pos c] at h
      rw [if_pos (decide_eq_true c)]
      have hp := passF_len A f
      obtain ⟨e3', lp⟩ := fo_loop (e2 := val (.int f.length)) ho (A.map (·.1)) f e3 (fun x hx => by
        obtain ⟨p, hp, rfl⟩ := List.mem_map.mp hx
        exact ⟨p, hp, rfl⟩) (by rw [List.length_map]; have : 0 ≤ (k + 1) * A.length := Nat.zero_le _; omega)
      have st : foS [val (.dct (dcA A)), Ent.ownD f, val (.int b), e3] = .ret (.nx [val (.dct (dcA A)), Ent.ownD (passF A f), val (.int f.length), e3']) := by
        unfold foS seqP
        simp only [setP, consA, gV0, gVs, rZ, getB, List.getElem?_cons_succ, List.getElem?_cons_zero, lenO, List.set_cons_succ, List.set_cons_zero]
        simp only [mkFor, gV0, rZ, keys_dcA]
        exact lp
      rw [st, rZ]
      exact wh_is ho k _ _ f' e3' (by omega) h
    · rw [if_neg c] at h
      cases h
      rw [if_neg (by simp [c])]
      exact ⟨b, e3, rfl⟩
theorem found_is {A : List (Str × List Str)} {f' : List (Key × PV)} (ho : ∀ p ∈ A, p.2.length ≤ 1000) (hA : A.length ≤ 90) (h : whA A 1000 (-1) [] = some f') : F_found_open [.dct (dcA A)] = .ret (.dct f') := by
  unfold F_found_open m_found_open
  show (seqP _ _ [val (.dct (dcA A)), un, un, un]).bind finP = _
  refine seq_nx (ρ' := [val (.dct (dcA A)), Ent.ownD [], un, un]) rfl ?_
  refine seq_nx (ρ' := [val (.dct (dcA A)), Ent.ownD [], val (.int (-1)), un]) rfl ?_
  obtain ⟨b', e3', w⟩ := wh_is ho 1000 (-1) [] f' un (by simp; omega) h
  refine seq_nx (ρ' := [val (.dct (dcA A)), Ent.ownD f', val (.int b'), e3']) w ?_
  exact fin_y (ret_y rfl)
def foK (xs : List Str) : List (Key × PV) := xs.map fun x => (kn x, PV.bl true)
def addX (xs : List Str) (x : Str) : List Str := if x ∈ xs then xs else xs ++ [x]
theorem hasK_foK (xs : List Str) (o : Str) : hasK (foK xs) o = decide (o ∈ xs) := by
  unfold hasK valP foK
  induction xs with
  | nil => rfl
  | cons x xs ih =>
    simp only [List.map_cons, List.find?_cons, kn_eq]
    by_cases c : x = o
    · subst c; simp
    · simp only [decide_eq_false c]
      rw [ih]
      have c' : ¬ o = x := fun z => c z.symm
      simp [c']
theorem put_foK (xs : List Str) (x : Str) : putP (foK xs) (kn x) (.bl true) = foK (addX xs x) := by
  have e : ((foK xs).any fun kv => decide (kv.1 = kn x)) = decide (x ∈ xs) := by
    unfold foK
    rw [List.any_map]
    induction xs with
    | nil => rfl
    | cons y xs ih =>
      simp only [List.any_cons, Function.comp, kn_eq, List.mem_cons]
      rw [ih]
      by_cases c : y = x
      · subst c; simp
      · have c' : ¬ x = y := fun z => c z.symm
        simp [c, c']
  unfold putP addX
  rw [e]
  by_cases c : x ∈ xs
  · rw [if_pos (decide_eq_true c), if_pos c]
    unfold foK
    rw [List.map_map]
    apply List.map_congr_left
    intro y _
    show (if kn y = kn x then (kn y, PV.bl true) else (kn y, PV.bl true)) = _
    split <;> rfl
  · rw [if_neg (by simp [c]), if_neg c]
    unfold foK
    rw [List.map_append]
    rfl
def stepX (A : List (Str × List Str)) (xs : List Str) (x : Str) : List Str := if (osA A x).all (fun o => decide (o ∈ xs)) = true then addX xs x else xs
theorem step_foK (A : List (Str × List Str)) (xs : List Str) (x : Str) : stepF A (foK xs) x = foK (stepX A xs x) := by
  unfold stepF stepX
  have : (osA A x).all (hasK (foK xs)) = (osA A x).all (fun o => decide (o ∈ xs)) := by
    congr 1; funext o; exact hasK_foK xs o
  rw [this]
  split
  · exact put_foK xs x
  · rfl
def passX (A : List (Str × List Str)) (xs : List Str) : List Str := (A.map (·.1)).foldl (stepX A) xs
theorem pass_foK (A : List (Str × List Str)) (xs : List Str) : passF A (foK xs) = foK (passX A xs) := by
  unfold passF passX
  generalize A.map (·.1) = ys
  induction ys generalizing xs with
  | nil => rfl
  | cons y ys ih => rw [List.foldl_cons, List.foldl_cons, step_foK, ih]
noncomputable def whX (A : List (Str × List Str)) : Nat → Int → List Str → Option (List Str)
  | 0, _, _ => none
  | k + 1, b, xs => if b < xs.length then whX A k xs.length (passX A xs) else some xs
theorem wh_foK (A : List (Str × List Str)) : ∀ (k : Nat) (b : Int) (xs : List Str), whA A k b (foK xs) = (whX A k b xs).map foK
  | 0, b, xs => rfl
  | k + 1, b, xs => by
    have hl : (foK xs).length = xs.length := by unfold foK; simp
    unfold whA whX
    rw [hl]
    split
    · rw [pass_foK]; exact wh_foK A k _ _
    · rfl
def Clo (A : List (Str × List Str)) (S : Str → Prop) : Prop := ∀ x, (∃ p ∈ A, p.1 = x) → (∀ o ∈ osA A x, S o) → S x
theorem addX_mem {xs : List Str} {x y : Str} : y ∈ addX xs x ↔ y ∈ xs ∨ y = x := by
  unfold addX
  by_cases c : x ∈ xs
  · rw [if_pos c]
    refine ⟨.inl, fun h => ?_⟩
    rcases h with h | rfl
    · exact h
    · exact c
  · rw [if_neg c]; simp
theorem addX_nd {xs : List Str} {x : Str} (h : xs.Nodup) : (addX xs x).Nodup := by
  unfold addX
  by_cases c : x ∈ xs
  · rw [if_pos c]; exact h
  · rw [if_neg c]
    exact List.nodup_append.mpr ⟨h, by simp, fun a ha b hb => by rw [List.mem_singleton.mp hb]; exact fun z => c (z ▸ ha)⟩
theorem stepX_sub {A : List (Str × List Str)} {xs : List Str} {x y : Str} (h : y ∈ xs) : y ∈ stepX A xs x := by
  unfold stepX; split
  · exact addX_mem.mpr (.inl h)
  · exact h
theorem stepX_nd {A : List (Str × List Str)} {xs : List Str} {x : Str} (h : xs.Nodup) : (stepX A xs x).Nodup := by
  unfold stepX; split
  · exact addX_nd h
  · exact h
theorem stepX_in {A : List (Str × List Str)} {xs : List Str} {x y : Str} (h : y ∈ stepX A xs x) : y ∈ xs ∨ (y = x ∧ ∀ o ∈ osA A x, o ∈ xs) := by
  unfold stepX at h
  by_cases c : (osA A x).all (fun o => decide (o ∈ xs)) = true
  · rw [if_pos c] at h
    rcases addX_mem.mp h with h | h
    · exact .inl h
    · exact .inr ⟨h, fun o ho => by simpa using List.all_eq_true.mp c o ho⟩
  · rw [if_neg c] at h; exact .inl h
theorem fold_sub {A : List (Str × List Str)} {y : Str} : ∀ (ys xs : List Str), y ∈ xs → y ∈ ys.foldl (stepX A) xs
  | [], xs, h => h
  | z :: ys, xs, h => fold_sub ys _ (stepX_sub h)
theorem fold_nd {A : List (Str × List Str)} : ∀ (ys xs : List Str), xs.Nodup → (ys.foldl (stepX A) xs).Nodup
  | [], xs, h => h
  | z :: ys, xs, h => fold_nd ys _ (stepX_nd h)
theorem fold_in {A : List (Str × List Str)} {S : Str → Prop} (hS : Clo A S) : ∀ (ys xs : List Str), (∀ y ∈ ys, ∃ p ∈ A, p.1 = y) → (∀ x ∈ xs, S x) → ∀ x ∈ ys.foldl (stepX A) xs, S x
  | [], xs, _, h => h
  | z :: ys, xs, hy, h => fold_in hS ys _ (fun y h' => hy y (List.mem_cons_of_mem _ h')) fun x hx => by
    rcases stepX_in hx with hx | ⟨rfl, ho⟩
    · exact h x hx
    · exact hS x (hy x List.mem_cons_self) fun o h' => h o (ho o h')
theorem fold_names {A : List (Str × List Str)} : ∀ (ys xs : List Str), ∀ x ∈ ys.foldl (stepX A) xs, x ∈ xs ∨ x ∈ ys
  | [], xs, x, h => .inl h
  | z :: ys, xs, x, h => by
    rcases fold_names ys _ x h with h | h
    · rcases stepX_in h with h | ⟨rfl, _⟩
      · exact .inl h
      · exact .inr List.mem_cons_self
    · exact .inr (List.mem_cons_of_mem _ h)
theorem fold_clo {A : List (Str × List Str)} : ∀ (ys xs : List Str), (∀ z ∈ ys.foldl (stepX A) xs, z ∈ xs) → ∀ x ∈ ys, (∀ o ∈ osA A x, o ∈ xs) → x ∈ xs
  | [], xs, _, x, hx, _ => absurd hx List.not_mem_nil
  | z :: ys, xs, h, x, hx, ho => by
    have hz : ∀ y ∈ stepX A xs z, y ∈ xs := fun y hy => h y (fold_sub ys _ hy)
    rcases List.mem_cons.mp hx with rfl | hx
    · refine hz x ?_
      unfold stepX
      rw [if_pos (List.all_eq_true.mpr fun o h' => by simpa using ho o h')]
      exact addX_mem.mpr (.inr rfl)
    · have := fold_clo ys (stepX A xs z) (fun y hy => stepX_sub (h y hy)) x hx (fun o h' => stepX_sub (ho o h'))
      exact hz x this
theorem nd_len {xs ys : List Str} (h : xs.Nodup) (hs : ∀ x ∈ xs, x ∈ ys) : xs.length ≤ ys.length := subS_len xs ys h hs
theorem nd_eq {xs zs : List Str} (hx : xs.Nodup) (hz : zs.Nodup) (hs : ∀ x ∈ xs, x ∈ zs) (hl : zs.length ≤ xs.length) : ∀ z ∈ zs, z ∈ xs := by
  intro z hz'
  by_cases c : z ∈ xs
  · exact c
  · have h1 : (z :: xs).Nodup := List.nodup_cons.mpr ⟨c, hx⟩
    have := subS_len (z :: xs) zs h1 (fun y hy => by
      rcases List.mem_cons.mp hy with rfl | hy
      · exact hz'
      · exact hs y hy)
    simp at this
    omega
theorem wh_lfp {A : List (Str × List Str)} {S : Str → Prop} (hS : Clo A S) : ∀ (k : Nat) (b : Int) (xs xs' : List Str), xs.Nodup → (∀ x ∈ xs, S x) → ((b < xs.length) ∨ Clo A (· ∈ xs)) → whX A k b xs = some xs' → (∀ x ∈ xs', S x) ∧ Clo A (· ∈ xs') ∧ xs'.Nodup
  | 0, b, xs, xs', _, _, _, h => by cases h
  | k + 1, b, xs, xs', nd, hx, hb, h => by
    unfold whX at h
    by_cases c : b < xs.length
    · rw [if_pos c] at h
      have nm : ∀ y ∈ A.map (·.1), ∃ p ∈ A, p.1 = y := fun y hy => by
        obtain ⟨p, hp, rfl⟩ := List.mem_map.mp hy
        exact ⟨p, hp, rfl⟩
      refine wh_lfp hS k _ (passX A xs) xs' (fold_nd _ _ nd) (fold_in hS _ _ nm hx) ?_ h
      by_cases c2 : (xs.length : Int) < (passX A xs).length
      · exact .inl c2
      · refine .inr ?_
        have back := nd_eq nd (fold_nd (A := A) (A.map (·.1)) xs nd) (fun x hx => fold_sub _ _ hx) (by unfold passX at c2; omega)
        intro x hxA ho
        obtain ⟨p, hp, rfl⟩ := hxA
        exact fold_sub _ _ (fold_clo _ _ back p.1 (List.mem_map_of_mem hp) fun o h' => back o (ho o h'))
    · rw [if_neg c] at h
      cases h
      rcases hb with hb | hb
      · exact absurd hb c
      · exact ⟨hx, hb, nd⟩
theorem wh_some {A : List (Str × List Str)} : ∀ (k : Nat) (b : Int) (xs : List Str), xs.Nodup → (∀ x ∈ xs, x ∈ A.map (·.1)) → b ≤ A.length → (A.length : Int) < b + k → ∃ xs', whX A k b xs = some xs'
  | 0, b, xs, _, _, h1, h2 => by omega
  | k + 1, b, xs, nd, hs, h1, h2 => by
    unfold whX
    by_cases c : b < xs.length
    · rw [if_pos c]
      have hl := nd_len nd hs
      rw [List.length_map] at hl
      exact wh_some k _ _ (fold_nd _ _ nd) (fun x hx => by
        rcases fold_names _ _ x hx with h | h
        · exact hs x h
        · exact h) (by omega) (by omega)
    · rw [if_neg c]; exact ⟨_, rfl⟩
theorem found_lfp {A : List (Str × List Str)} (ho : ∀ p ∈ A, p.2.length ≤ 1000) (hA : A.length ≤ 90) : ∃ xs : List Str, F_found_open [.dct (dcA A)] = .ret (.dct (foK xs)) ∧ whA A 1000 (-1) [] = some (foK xs) ∧ Clo A (· ∈ xs) ∧ ∀ S, Clo A S → ∀ x ∈ xs, S x := by
  obtain ⟨xs, h⟩ := wh_some (A := A) 1000 (-1) [] List.nodup_nil (fun _ h => absurd h List.not_mem_nil) (by omega) (by omega)
  have e : whA A 1000 (-1) [] = some (foK xs) := by
    have := wh_foK A 1000 (-1) []
    rw [h] at this
    exact this
  refine ⟨xs, found_is ho hA e, e, ?_, fun S hS x hx => ?_⟩
  · exact (wh_lfp (S := fun _ => True) (fun _ _ _ => trivial) 1000 (-1) [] xs List.nodup_nil (fun _ h => absurd h List.not_mem_nil) (.inl (by simp)) h).2.1
  · exact (wh_lfp hS 1000 (-1) [] xs List.nodup_nil (fun _ h => absurd h List.not_mem_nil) (.inl (by simp)) h).1 x hx
theorem seq_rt {m k : PEnv → M Fl} {ρ : PEnv} {y : PV} (h : m ρ = .ret (.rt y)) : (seqP m k ρ).bind finP = .ret y := by
  unfold seqP; rw [h]; rfl
section
variable {B : List PV} {z : Str} {t : Int}
theorem rules_1 {a b c d v : PV} (hB : ∀ y ∈ B, ∃ n, PageT n y) (h : (B.filter (hit "rule" z t)).getLast? = some (.tup [a, b, c, d, v])) : F_rules_at [.tup B, .str z, .int t] = .ret v := by
  have l := last_is (w := "rule") (z := z) (t := t) hB
  rw [h] at l
  unfold F_rules_at m_rules_at
  show (seqP _ _ [val (.tup B), val (.str z), val (.int t), un]).bind finP = _
  refine seq_nx (ρ' := [val (.tup B), val (.str z), val (.int t), val (.tup [a, b, c, d, v])]) ?_ ?_
  · simp only [setP, consA, gV0, gVs, rZ]
    rw [l]
    rfl
  · exact fin_y (ret_y rfl)
end
section
variable {B y : PV} {w z p : Str} {t : Int}
theorem alone_hours {a b : Int} : F_holds_alone [B, y, .tup [.str "hours", .int a, .int b], .int t] = .ret (.bl (decide (a ≤ t) && decide (t < b))) := by
  unfold F_holds_alone m_holds_alone
  show (seqP _ _ [val B, val y, val (.tup [.str "hours", .int a, .int b]), val (.int t), un]).bind finP = _
  refine seq_nx (ρ' := [val B, val y, val (.tup [.str "hours", .int a, .int b]), val (.int t), val (.str "hours")]) rfl ?_
  refine seq_rt (y := .bl (decide (a ≤ t) && decide (t < b))) ?_
  rw [if_t rfl]
  refine ret_y ?_
  show chain _ _ _ _ _ [val B, val y, val (.tup [.str "hours", .int a, .int b]), val (.int t), val (.str "hours")] = _
  simp only [chain, bin2, gV0, gVs, rZ, ixO, at_1, at_2, M.ofO, leOD]
  by_cases c : a ≤ t
  · simp [c]; rfl
  · simp [c]
theorem alone_never : F_holds_alone [B, y, .tup [.str "never"], .int t] = .ret (.bl false) := by
  unfold F_holds_alone m_holds_alone
  show (seqP _ _ [val B, val y, val (.tup [.str "never"]), val (.int t), un]).bind finP = _
  refine seq_nx (ρ' := [val B, val y, val (.tup [.str "never"]), val (.int t), val (.str "never")]) rfl ?_
  refine seq_nx (ρ' := [val B, val y, val (.tup [.str "never"]), val (.int t), val (.str "never")]) rfl ?_
  refine seq_nx (ρ' := [val B, val y, val (.tup [.str "never"]), val (.int t), val (.str "never")]) rfl ?_
  refine seq_nx (ρ' := [val B, val y, val (.tup [.str "never"]), val (.int t), val (.str "never")]) rfl ?_
  exact fin_y (ret_y rfl)
end
abbrev wayP (p : Str × List PV) : PV := .tup (.str p.1 :: p.2)
def ansP : Option (List Str) → PV
  | none => .non
  | some os => .lst (os.map PV.str)
theorem put_dcA {A : List (Str × List Str)} {x : Str} {os : List Str} (h : ∀ p ∈ A, p.1 ≠ x) : putP (dcA A) (kn x) (.lst (os.map PV.str)) = dcA (A ++ [(x, os)]) := by
  have e : ((dcA A).any fun kv => decide (kv.1 = kn x)) = false := by
    unfold dcA
    rw [List.any_map, List.any_eq_false]
    intro p hp
    show ¬ decide (kn p.1 = kn x) = true
    rw [kn_eq]
    simp [h p hp]
  unfold putP
  rw [if_neg (by rw [e]; decide)]
  unfold dcA
  rw [List.map_append]
  rfl
noncomputable def owB : PEnv → M Fl := (seqP (setP 5 (fun ρ => ((consA (fun ρ => getV ρ 1) (consA (fun ρ => getV ρ 4) (consA (fun ρ => getV ρ 2) (fun _ => M.ret [])))) ρ).bind F_others_asked))
    (ifP (asB (bin2 (isO true) (fun ρ => getV ρ 5) (fun _ => M.ret .non)))
    (dputP 3 (bin2 ixO (fun ρ => getV ρ 4) (fun _ => M.ret (.int 0))) (fun ρ => getV ρ 5))
    (fun ρ => M.ret (.nx ρ))))
def askA (ot : Str × List PV → Option (List Str)) (ws : List (Str × List PV)) : List (Str × List Str) := ws.filterMap fun p => (ot p).map fun os => (p.1, os)
theorem ow_loop {hl B tv : PV} {ot : Str × List PV → Option (List Str)} {e6 : Ent} : ∀ (ws : List (Str × List PV)) (A : List (Str × List Str)) (e4 e5 : Ent), (∀ p ∈ ws, F_others_asked [B, wayP p, tv] = .ret (ansP (ot p))) → (ws.map (·.1)).Nodup → (∀ p ∈ ws, ∀ q ∈ A, q.1 ≠ p.1) → A.length + ws.length < 1000 →
    ∃ e4' e5', forP (bindN 4) owB (ws.map wayP) [val hl, val B, val tv, Ent.ownD (dcA A), e4, e5, e6] = .ret (.nx [val hl, val B, val tv, Ent.ownD (dcA (A ++ askA ot ws)), e4', e5', e6])
  | [], A, e4, e5, _, _, _, _ => ⟨e4, e5, by simp [forP, askA]⟩
  | p :: ws, A, e4, e5, h, nd, hA, hl' => by
    have h1 := h p List.mem_cons_self
    rw [List.map_cons, List.nodup_cons] at nd
    have step : ∃ A', A' = A ++ askA ot [p] ∧ owB [val hl, val B, val tv, Ent.ownD (dcA A), val (wayP p), e5, e6] = .ret (.nx [val hl, val B, val tv, Ent.ownD (dcA A'), val (wayP p), val (ansP (ot p)), e6]) := by
      refine ⟨_, rfl, ?_⟩
      unfold owB seqP
      simp only [setP, consA, gV0, gVs, rZ, h1, List.set_cons_succ, List.set_cons_zero]
      cases c : ot p with
      | none =>
        rw [if_f (by rfl)]
        simp [askA, c]
      | some os =>
        rw [if_t (by rfl)]
        have hlen : (dcA A).length < 100000 := by unfold dcA; rw [List.length_map]; simp at hl'; omega
        simp only [dputP, gV0, gVs, rZ, List.getElem?_cons_succ, List.getElem?_cons_zero, bin2, ixO, at0, M.ofO, keyO, if_pos hlen, ansP, List.set_cons_succ, List.set_cons_zero]
        rw [put_dcA (fun q hq => hA p List.mem_cons_self q hq)]
        simp [askA, c]
    obtain ⟨A', eA, st⟩ := step
    obtain ⟨e4', e5', ih⟩ := ow_loop (hl := hl) (B := B) (tv := tv) (ot := ot) (e6 := e6) ws A' (val (wayP p)) (val (ansP (ot p))) (fun q hq => h q (List.mem_cons_of_mem _ hq)) nd.2 (fun q hq a ha => by
      rw [eA] at ha
      rcases List.mem_append.mp ha with ha | ha
      · exact hA q (List.mem_cons_of_mem _ hq) a ha
      · have : a.1 = p.1 := by
          unfold askA at ha
          obtain ⟨b, hb, e⟩ := List.mem_filterMap.mp ha
          rw [List.mem_singleton.mp hb] at e
          obtain ⟨os, _, rfl⟩ := Option.map_eq_some_iff.mp e
          rfl
        rw [this]
        exact fun z => nd.1 (z ▸ List.mem_map_of_mem hq)) (by
      have : (askA ot [p]).length ≤ 1 := by unfold askA; exact List.length_filterMap_le _ _
      rw [eA, List.length_append]; simp at hl'; omega)
    refine ⟨e4', e5', ?_⟩
    rw [List.map_cons]
    unfold forP
    simp only [bindN, rZ, List.set_cons_succ, List.set_cons_zero]
    rw [st, rZ]
    show forP _ _ _ _ = _
    rw [ih, eA, List.append_assoc]
    have : askA ot [p] ++ askA ot ws = askA ot (p :: ws) := by unfold askA; rw [← List.filterMap_append]; rfl
    rw [this]
theorem open_is {hm dk B tv : PV} {ws : List (Str × List PV)} {ot : Str × List PV → Option (List Str)} {f' : List (Key × PV)} (h : ∀ p ∈ ws, F_others_asked [B, wayP p, tv] = .ret (ansP (ot p))) (nd : (ws.map (·.1)).Nodup) (hw : ws.length ≤ 90)
    (ho : ∀ p ∈ askA ot ws, p.2.length ≤ 1000) (hf : whA (askA ot ws) 1000 (-1) [] = some f') :
    F_open_ways [.tup [.tup (ws.map wayP), hm, dk], B, tv] = .ret (.tup (((ws.map (·.1)).filter (hasK f')).map PV.str)) := by
  unfold F_open_ways m_open_ways
  obtain ⟨hl, ehl⟩ : ∃ hl, hl = PV.tup [.tup (ws.map wayP), hm, dk] := ⟨_, rfl⟩
  rw [← ehl]
  have i0 : ixO hl (.int 0) = .ret (.tup (ws.map wayP)) := by rw [ehl]; simp only [ixO, at0, M.ofO]
  show (seqP _ _ [val hl, val B, val tv, un, un, un, un]).bind finP = _
  refine seq_nx (ρ' := [val hl, val B, val tv, Ent.ownD (dcA []), un, un, un]) rfl ?_
  obtain ⟨e4', e5', lp⟩ := ow_loop (hl := hl) (B := B) (tv := tv) (ot := ot) (e6 := un) ws [] un un h nd (fun _ _ q hq => absurd hq List.not_mem_nil) (by simp; omega)
  refine seq_nx (ρ' := [val hl, val B, val tv, Ent.ownD (dcA (askA ot ws)), e4', e5', un]) ?_ ?_
  · simp only [mkFor, bin2, gV0, rZ, i0, iterO]
    exact lp
  have hA : (askA ot ws).length ≤ 90 := Nat.le_trans (List.length_filterMap_le _ _) hw
  refine seq_nx (ρ' := [val hl, val B, val tv, val (.dct (dcA (askA ot ws))), e4'.freeze, e5'.freeze, val (.dct f')]) ?_ ?_
  · show setP 6 _ [val hl, val B, val tv, val (.dct (dcA (askA ot ws))), e4'.freeze, e5'.freeze, un] = _
    simp only [setP, consA, gV0, gVs, rZ, found_is ho hA hf]
    rfl
  refine fin_y (ret_y ?_)
  have q := lcM_filter (k := 0) (tt := asB (bin2 (dinO false) (bin2 ixO (fun ρ => getV ρ 0) (fun _ => M.ret (.int 0))) (fun ρ => getV ρ 1))) (te := bin2 ixO (fun ρ => getV ρ 0) (fun _ => M.ret (.int 0))) (p := fun y => match y with | .tup (.str x :: _) => hasK f' x | _ => false) (f := fun y => match y with | .tup (.str x :: _) => .str x | _ => .non) (ρ := [un, val (.dct f')]) (ws.map wayP) [un, val (.dct f')] (fun _ => rfl) (fun y hy => by
    obtain ⟨p, _, rfl⟩ := List.mem_map.mp hy
    simp only [asB, bin2, List.set_cons_zero, gV0, gVs, rZ, ixO, at0, dinO, keyO, M.ofO, Bool.bne_false, hasK]) (fun y hy _ => by
    obtain ⟨p, _, rfl⟩ := List.mem_map.mp hy
    simp only [bin2, List.set_cons_zero, gV0, rZ, ixO, at0, M.ofO])
  have hlen : (ws.map wayP).length ≤ 100000 := by rw [List.length_map]; omega
  have ec : capP [none, some 6] [val hl, val B, val tv, val (.dct (dcA (askA ot ws))), e4'.freeze.freeze, e5'.freeze.freeze, val (.dct f')] = [un, val (.dct f')] := rfl
  have ej : ((ws.map wayP).filter (fun y => match y with | .tup (.str x :: _) => hasK f' x | _ => false)).map (fun y => match y with | .tup (.str x :: _) => PV.str x | _ => .non) = ((ws.map (·.1)).filter (hasK f')).map PV.str := by
    clear q lp hf ho h nd hw hA hlen ec i0 ehl
    induction ws with
    | nil => rfl
    | cons p ws ih =>
      simp only [List.map_cons, List.filter_cons]
      by_cases c : hasK f' p.1 = true
      · rw [if_pos c, if_pos c, List.map_cons, List.map_cons, ih]
      · rw [if_neg c, if_neg c, ih]
  show (fun ρ => ((consA (lstV _) _) ρ).bind tupO) [val hl, val B, val tv, val (.dct (dcA (askA ot ws))), e4'.freeze.freeze, e5'.freeze.freeze, val (.dct f')] = _
  simp only [consA, lstV, mkLC, bin2, gV0, rZ, i0, iterO, if_pos hlen, ec]
  rw [q]
  simp only [rZ, tupO, ej]
theorem lcM_gen {α : Type} {m : α → PV} {k : Nat} {tt : PEnv → M Bool} {te : PEnv → M PV} {p : α → Bool} {g : α → PV} {ρ : PEnv} : ∀ (rs : List α) (ρ' : PEnv), (∀ e, ρ'.set k e = ρ.set k e) → (∀ r ∈ rs, tt (ρ.set k (.val (m r))) = .ret (p r)) → (∀ r ∈ rs, p r = true → te (ρ.set k (.val (m r))) = .ret (g r)) →
    lcM (bindN k) tt te (rs.map m) ρ' = .ret ((rs.filter p).map g)
  | [], ρ', _, _, _ => rfl
  | r :: rs, ρ', hρ, h1, h2 => by
    have ih := lcM_gen (m := m) (k := k) (tt := tt) (te := te) (p := p) (g := g) (ρ := ρ) rs (ρ.set k (.val (m r))) (fun e => by rw [List.set_set]) (fun r hr => h1 r (List.mem_cons_of_mem _ hr)) (fun r hr => h2 r (List.mem_cons_of_mem _ hr))
    rw [List.map_cons]
    unfold lcM
    simp only [bindN, rZ, hρ, h1 r List.mem_cons_self]
    cases c : p r with
    | true =>
      rw [if_pos rfl, h2 r List.mem_cons_self c, rZ, ih, rZ, List.filter_cons_of_pos c]
      rfl
    | false =>
      rw [if_neg (by decide), ih, List.filter_cons_of_neg (by rw [c]; decide)]
set_option genInjectivity true in
inductive Ru where
  | hours (a b : Int) | post (least : Bool) (p : Str) (n : Int) | looked (n : Int) | wth (o : Str) | never
noncomputable def Ru.pv : Ru → PV
  | .hours a b => .tup [.str "hours", .int a, .int b]
  | .post true p n => .tup [.str "least", .str p, .int n]
  | .post false p n => .tup [.str "most", .str p, .int n]
  | .looked n => .tup [.str "looked", .int n]
  | .wth o => .tup [.str "with", .str o]
  | .never => .tup [.str "never"]
def Ru.isW : Ru → Bool
  | .wth _ => true
  | _ => false
def Ru.oth : Ru → Str
  | .wth o => o
  | _ => ""
theorem Ru.head (r : Ru) : ∃ w q, r.pv = .tup (.str w :: q) ∧ (w == ("with" : Str)) = r.isW := by
  cases r with
  | hours a b => exact ⟨"hours", _, rfl, by show (("hours" : Str) == ("with" : Str)) = false; decide +kernel⟩
  | post L p n =>
    cases L
    · exact ⟨"most", _, rfl, by show (("most" : Str) == ("with" : Str)) = false; decide +kernel⟩
    · exact ⟨"least", _, rfl, by show (("least" : Str) == ("with" : Str)) = false; decide +kernel⟩
  | looked n => exact ⟨"looked", _, rfl, by show (("looked" : Str) == ("with" : Str)) = false; decide +kernel⟩
  | wth o => exact ⟨"with", _, rfl, by show (("with" : Str) == ("with" : Str)) = true; decide +kernel⟩
  | never => exact ⟨"never", _, rfl, by show (("never" : Str) == ("with" : Str)) = false; decide +kernel⟩
def oaT : PEnv → M Bool := (asB (bin2 (eqO true) (bin2 ixO (fun ρ => getV ρ 0) (fun _ => M.ret (.int 0))) (fun _ => M.ret (.str "with"))))
noncomputable def oaE : PEnv → M PV := (fun ρ => ((consA (fun ρ => getV ρ 1) (consA (fun ρ => getV ρ 2) (consA (fun ρ => getV ρ 0) (consA (fun ρ => getV ρ 3) (fun _ => M.ret []))))) ρ).bind F_holds_alone)
def askR (hd : Ru → Bool) (rs : List Ru) : Option (List Str) := if (rs.filter fun r => !r.isW).all hd = true then some ((rs.filter Ru.isW).map Ru.oth) else none
def obT : PEnv → M Bool := (asB (bin2 (eqO false) (bin2 ixO (fun ρ => getV ρ 0) (fun _ => M.ret (.int 0))) (fun _ => M.ret (.str "with"))))
def obE : PEnv → M PV := (bin2 ixO (fun ρ => getV ρ 0) (fun _ => M.ret (.int 1)))
theorem asked_many {B : PV} {z : Str} {t : Int} {r : List PV} {rs : List Ru} {hd : Ru → Bool} (hl : rs.length ≤ 1000) (h : F_rules_at [B, .str z, .int t] = .ret (.tup (rs.map Ru.pv))) (ha : ∀ u ∈ rs, u.isW = false → F_holds_alone [B, .tup (.str z :: r), u.pv, .int t] = .ret (.bl (hd u))) :
    F_others_asked [B, .tup (.str z :: r), .int t] = .ret (ansP (askR hd rs)) := by
  have hlen : (rs.map Ru.pv).length ≤ 100000 := by rw [List.length_map]; omega
  unfold F_others_asked m_others_asked
  show (seqP _ _ [val B, val (.tup (.str z :: r)), val (.int t), un]).bind finP = _
  refine seq_nx (ρ' := [val B, val (.tup (.str z :: r)), val (.int t), val (.tup (rs.map Ru.pv))]) ?_ ?_
  · simp only [setP, consA, bin2, gV0, gVs, rZ, ixO, at0, M.ofO]
    rw [h]
    rfl
  have ec : capP [none, some 0, some 1, some 2] [val B, val (.tup (.str z :: r)), val (.int t), val (.tup (rs.map Ru.pv))] = [un, val B, val (.tup (.str z :: r)), val (.int t)] := rfl
  have q1 := lcM_gen (m := Ru.pv) (k := 0) (tt := oaT) (te := oaE) (p := fun u => !u.isW) (g := fun u => .bl (hd u)) (ρ := [un, val B, val (.tup (.str z :: r)), val (.int t)]) rs [un, val B, val (.tup (.str z :: r)), val (.int t)] (fun _ => rfl) (fun u hu => by
    obtain ⟨w, q, e, hw⟩ := u.head
    have e1 : eqO true (.str w) (.str "with") = .ret (.bl (!u.isW)) := by
      show M.ret (PV.bl (xor true (w == "with"))) = _
      rw [hw]; simp
    rw [e]
    simp only [oaT, asB, bin2, List.set_cons_zero, gV0, rZ, ixO, at0, M.ofO, e1]) (fun u hu hp => by
    simp only [oaE, consA, List.set_cons_zero, gV0, gVs, rZ]
    exact ha u hu (by simpa using hp))
  have eall : ∀ us : List Ru, allO [.lst (us.map fun u => PV.bl (hd u))] = .ret (.bl (us.all hd)) := fun us => by
    have : blsOf (us.map fun u => PV.bl (hd u)) = some (us.map hd) := by
      induction us with
      | nil => rfl
      | cons u us ih => simp only [List.map_cons, blsOf, ih]; rfl
    simp only [allO, this, M.ofO, rZ, List.all_map]
    rfl
  have tst : (notP (asB (fun ρ => ((consA (lstV (mkLC [none, some 0, some 1, some 2] (fun ρ => ((fun ρ => getV ρ 3) ρ).bind iterO) (bindN 0) oaT oaE)) (fun _ => M.ret [])) ρ).bind allO))) [val B, val (.tup (.str z :: r)), val (.int t), val (.tup (rs.map Ru.pv))] = .ret (!((rs.filter fun u => !u.isW).all hd)) := by
    unfold notP
    unfold asB
    simp only [consA, lstV, mkLC, gV0, gVs, rZ, iterO, ec, if_pos hlen]
    rw [q1]
    simp only [rZ, eall]
  cases c : (rs.filter fun u => !u.isW).all hd with
  | true =>
    rw [c] at tst
    refine seq_nx (ρ' := [val B, val (.tup (.str z :: r)), val (.int t), val (.tup (rs.map Ru.pv))]) (if_f tst) ?_
    refine fin_y (ret_y ?_)
    have ec2 : capP [none] [val B, val (.tup (.str z :: r)), val (.int t), val (.tup (rs.map Ru.pv))] = [un] := rfl
    have q2 := lcM_gen (m := Ru.pv) (k := 0) (tt := obT) (te := obE) (p := Ru.isW) (g := fun u => .str u.oth) (ρ := [un]) rs [un] (fun _ => rfl) (fun u hu => by
      obtain ⟨w, q, e, hw⟩ := u.head
      rw [e]
      simp only [obT, asB, bin2, List.set_cons_zero, gV0, rZ, ixO, at0, M.ofO, eqS, hw]) (fun u hu hp => by
      cases u <;> first | rfl | cases hp)
    show lstV (mkLC [none] (fun ρ => ((fun ρ => getV ρ 3) ρ).bind iterO) (bindN 0) obT obE) [val B, val (.tup (.str z :: r)), val (.int t), val (.tup (rs.map Ru.pv))] = _
    simp only [lstV, mkLC, gV0, gVs, rZ, iterO, ec2, if_pos hlen]
    rw [q2]
    unfold askR
    rw [if_pos c]
    simp only [rZ, ansP, List.map_map]
    rfl
  | false =>
    rw [c] at tst
    refine seq_rt (Eq.trans (if_t tst) ?_)
    unfold askR
    rw [if_neg (by rw [c]; decide)]
    exact ret_y rfl
theorem eqs_strs (k : Nat) : ∀ a b : List Str, eqs (eqP (k + 1)) (a.map PV.str) (b.map PV.str) = some (decide (a = b))
  | [], [] => rfl
  | [], _ :: _ => rfl
  | _ :: _, [] => rfl
  | x :: a, y :: b => by
    have e : eqP (k + 1) (.str x) (.str y) = some (x == y) := rfl
    simp only [List.map_cons, eqs, e, eqs_strs k a b, Option.bind_some]
    by_cases c : x = y
    · subst c
      by_cases c2 : a = b
      · subst c2; simp
      · simp [c2]
    · simp [c]
theorem ne_strs (a b : List Str) : eqO true (.lst (a.map PV.str)) (.lst (b.map PV.str)) = .ret (.bl (!decide (a = b))) := by
  have e : eqP 20 (.lst (a.map PV.str)) (.lst (b.map PV.str)) = some (decide (a = b)) := eqs_strs 18 a b
  unfold eqO
  rw [e]
  simp [M.ofO]
def befP : Option (List Str) → PV
  | none => .non
  | some b => .lst (b.map PV.str)
def phi (f : List Str → Str → Bool) (names S : List Str) : List Str := names.filter (f S)
noncomputable def whO (f : List Str → Str → Bool) (names : List Str) : Nat → Option (List Str) → List Str → Option (List Str)
  | 0, _, _ => none
  | k + 1, b, cur => if b = some cur then some cur else whO f names k (some cur) (phi f names cur)
section
variable {f : List Str → Str → Bool} {names : List Str}
theorem filt_sub {p q : Str → Bool} (h : ∀ z ∈ names, p z = true → q z = true) : (names.filter p).Sublist (names.filter q) := by
  have : names.filter p = (names.filter q).filter p := by
    rw [List.filter_filter]
    apply List.filter_congr
    intro z hz
    cases c : p z with
    | false => simp
    | true => simp [h z hz c]
  rw [this]
  exact List.filter_sublist
theorem whO_some (mono : ∀ S S' : List Str, (∀ x ∈ S, x ∈ S') → ∀ z ∈ names, f S z = true → f S' z = true) : ∀ (k : Nat) (b : Option (List Str)) (cur : List Str), (∃ p : Str → Bool, cur = names.filter p ∧ ∀ z ∈ names, p z = true → f cur z = true) → (∀ B, b = some B → cur = phi f names B) → names.length + 2 ≤ cur.length + k →
    ∃ S, whO f names k b cur = some S ∧ S = phi f names S ∧ ∀ T : Str → Prop, (∀ z ∈ names, ∀ S' : List Str, (∀ x ∈ S', T x) → f S' z = true → T z) → (∀ x ∈ cur, T x) → ∀ x ∈ S, T x
  | 0, b, cur, ⟨p, hp, _⟩, _, hk => by
    have : cur.length ≤ names.length := by rw [hp]; exact List.length_filter_le ..
    omega
  | k + 1, b, cur, ⟨p, hp, hf⟩, hb, hk => by
    unfold whO
    by_cases c : b = some cur
    · rw [if_pos c]
      exact ⟨cur, rfl, hb cur c, fun T _ hc => hc⟩
    · rw [if_neg c]
      have sub : cur.Sublist (phi f names cur) := by
        unfold phi
        conv => lhs; rw [hp]
        exact filt_sub hf
      have up : ∀ z ∈ names, f cur z = true → f (phi f names cur) z = true := mono _ _ fun x hx => sub.subset hx
      have step : ∀ T : Str → Prop, (∀ z ∈ names, ∀ S' : List Str, (∀ x ∈ S', T x) → f S' z = true → T z) → (∀ x ∈ cur, T x) → ∀ x ∈ phi f names cur, T x := fun T hT hc x hx => by
        obtain ⟨h1, h2⟩ := List.mem_filter.mp hx
        exact hT x h1 cur hc h2
      by_cases ce : cur.length = (phi f names cur).length
      · have e : cur = phi f names cur := sub.eq_of_length ce
        cases k with
        | zero =>
          have : cur.length ≤ names.length := by rw [hp]; exact List.length_filter_le ..
          omega
        | succ k =>
          refine ⟨phi f names cur, ?_, ?_, step⟩
          · unfold whO
            rw [if_pos (by rw [← e])]
          · rw [← e]; exact e
      · have hlt : cur.length < (phi f names cur).length := by have := sub.length_le; omega
        obtain ⟨S, h1, h2, h3⟩ := whO_some mono k (some cur) (phi f names cur) ⟨f cur, rfl, up⟩ (fun B hB => by cases hB; rfl) (by omega)
        exact ⟨S, h1, h2, fun T hT hc => h3 T hT (step T hT hc)⟩
end
theorem inN_mono {S S' : List Str} (h : ∀ x ∈ S, x ∈ S') {o : Str} (ho : inN S o = true) : inN S' o = true := inN_iff.mpr (h o (inN_iff.mp ho))
theorem osA_ask {ot : Str × List PV → Option (List Str)} : ∀ {ws : List (Str × List PV)} {p : Str × List PV} {os : List Str}, (ws.map (·.1)).Nodup → p ∈ ws → ot p = some os → osA (askA ot ws) p.1 = os
  | w :: ws, p, os, nd, hp, ho => by
    rw [List.map_cons, List.nodup_cons] at nd
    rcases List.mem_cons.mp hp with rfl | hp
    · unfold osA askA
      simp [ho]
    · have hne : w.1 ≠ p.1 := fun z => nd.1 (z ▸ List.mem_map_of_mem hp)
      have ih := osA_ask (ot := ot) nd.2 hp ho
      unfold osA askA at ih ⊢
      cases c : ot w with
      | none => simp only [List.filterMap_cons, c, Option.map_none]; exact ih
      | some os' =>
        simp only [List.filterMap_cons, c, Option.map_some, List.find?_cons, decide_eq_false hne]
        exact ih
theorem ask_mem {ot : Str × List PV → Option (List Str)} {ws : List (Str × List PV)} {z : Str} : (∃ a ∈ askA ot ws, a.1 = z) → ∃ p ∈ ws, p.1 = z ∧ ∃ os, ot p = some os := by
  rintro ⟨a, ha, rfl⟩
  unfold askA at ha
  obtain ⟨p, hp, e⟩ := List.mem_filterMap.mp ha
  obtain ⟨os, ho, rfl⟩ := Option.map_eq_some_iff.mp e
  exact ⟨p, hp, rfl, os, ho⟩
theorem mem_ask {ot : Str × List PV → Option (List Str)} {ws : List (Str × List PV)} {p : Str × List PV} {os : List Str} (hp : p ∈ ws) (ho : ot p = some os) : ∃ a ∈ askA ot ws, a.1 = p.1 :=
  ⟨(p.1, os), List.mem_filterMap.mpr ⟨p, hp, by rw [ho]; rfl⟩, rfl⟩
theorem forNI {k : Nat} {mb : PEnv → M Fl} {c : Nat} {Iv : Nat → PEnv → Prop} : ∀ (l : List PV) (i : Nat) (ρ : PEnv), Iv i ρ → (∀ j y, l[j]? = some y → ∀ ρ, Iv (i + j) ρ → Gen (mb (ρ.set k (.val y))) c fun f => ∃ ρ', f = .nx ρ' ∧ Iv (i + j + 1) ρ') → Gen (forP (bindN k) mb l ρ) (l.length * c) fun f => ∃ ρ', f = .nx ρ' ∧ Iv (i + l.length) ρ'
  | [], i, ρ, h, _ => Gen.le (Gen.eq rfl ⟨ρ, rfl, h⟩) (Nat.zero_le _)
  | y :: l, i, ρ, h, hs => by
    unfold forP
    simp only [bindN, rZ]
    refine Gen.le (Gen.bind (hs 0 y rfl ρ h) (d := l.length * c) ?_) (by rw [List.length_cons, Nat.add_mul]; omega)
    rintro _ ⟨ρ', rfl, h'⟩
    have := forNI (k := k) (mb := mb) (c := c) (Iv := Iv) l (i + 1) ρ' h' fun j z hj ρ hi => by
      have e : i + 1 + j = i + (j + 1) := by omega
      rw [e] at hi ⊢
      exact hs (j + 1) z hj ρ hi
    have e : i + 1 + l.length = i + (y :: l).length := by simp only [List.length_cons]; omega
    rw [e] at this
    exact this
def HillP (h : PV) (ws : List (Str × List PV)) (dark : Int) : Prop := ∃ hm, h = .tup [.tup (ws.map fun p => .tup (.str p.1 :: p.2)), hm, .int dark] ∧ 0 < ws.length ∧ ws.length ≤ 12 ∧ (∀ p ∈ ws, Wd p.1 ∧ ∃ (k : Str) (r : List PV), p.2 = .str k :: r) ∧ 1 ≤ dark ∧ dark ≤ 1000000 ∧ (ws.map (·.1)).Nodup
theorem gen_at {l : List PV} {n : Int} (hn : (l.length : Int) = n) (h0 : 0 < l.length) (h1 : l.length < 1000) : Gen ((drawF [.bag, .int n]).bind fun i => ixO (.lst l) i) 1 (fun y => y ∈ l) := gen_ix hn h0 h1
theorem gen_hill {most sc : Int} (m0 : 1 ≤ most) (m1 : most ≤ 12) (s0 : 1 ≤ sc) (s1 : sc ≤ 33333) : Gen (F_law_hill [.bag, .int most, .int sc]) 300 (fun h => ∃ ws dark, HillP h ws dark) := by
  unfold F_law_hill m_law_hill
  show Gen ((seqP _ _ [val .bag, val (.int most), val (.int sc), un, un, un, un, un, un]).bind finP) 300 _
  refine Gen.le (gseqF (c := 1 + 5 * 9) (d := 200) (I := fun ρ => ∃ sp : List Str, 2 ≤ sp.length ∧ sp.length ≤ 5 ∧ ρ = [val .bag, val (.int most), val (.int sc), val (.lst (sp.map PV.str)), un, un, un, un, un]) ?_ ?_) (by decide)
  · simp only [setP, bin2, consA, gV0, gVs, rZ, F_law_pick, M.bZ]
    refine Gen.le (Gen.bind (Gen.draw (by omega) (by omega)) (d := 5 * 9) ?_) (by decide)
    rintro _ ⟨d, rfl, d0, d1⟩
    have ea : addO (.int 2) (.int d) = .ret (.int (2 + d)) := rfl
    simp only [ea, rZ]
    refine Gen.le (Gen.bind (gen_words (k := 2 + d) (by omega) (by omega)) (d := 0) ?_) (by omega)
    rintro _ ⟨sp, rfl, hl, _⟩
    exact Gen.eq (y := .nx _) rfl ⟨_, rfl, sp, by omega, by omega, rfl⟩
  rintro _ ⟨sp, p0, p1, rfl⟩
  refine Gen.le (gseqF (c := 1 + 12 * 9) (d := 90) (I := fun ρ => ∃ nm : List Str, 1 ≤ nm.length ∧ nm.length ≤ 12 ∧ ((∀ z ∈ nm, Wd z) ∧ nm.Nodup) ∧ ρ = [val .bag, val (.int most), val (.int sc), val (.lst (sp.map PV.str)), val (.lst (nm.map PV.str)), un, un, un, un]) ?_ ?_) (by decide)
  · simp only [setP, bin2, consA, gV0, gVs, rZ, F_law_pick, M.bZ]
    refine Gen.le (Gen.bind (Gen.draw (by omega) (by omega)) (d := 12 * 9) ?_) (by decide)
    rintro _ ⟨d, rfl, d0, d1⟩
    have ea : addO (.int 1) (.int d) = .ret (.int (1 + d)) := rfl
    simp only [ea, rZ]
    refine Gen.le (Gen.bind (gen_words (k := 1 + d) (by omega) (by omega)) (d := 0) ?_) (by omega)
    rintro _ ⟨nm, rfl, hl, hw⟩
    exact Gen.eq (y := .nx _) rfl ⟨_, rfl, nm, by omega, by omega, hw, rfl⟩
  rintro _ ⟨nm, n0, n1, nw, rfl⟩
  refine Gen.le (gseqF (c := 0) (d := 90) (I := fun ρ => ρ = [val .bag, val (.int most), val (.int sc), val (.lst (sp.map PV.str)), val (.lst (nm.map PV.str)), Ent.own [], un, un, un]) (gnx (by simp [ownP, mkLst]) rfl) ?_) (by decide)
  rintro _ rfl
  refine Gen.le (gseqF (c := 12 * 5) (d := 2) (I := fun ρ => ∃ (ws : List (Str × List PV)) (e6 e7 e8 : Ent), ws.length = nm.length ∧ ws.map (·.1) = nm ∧ (∀ p ∈ ws, Wd p.1 ∧ ∃ (k : Str) (r : List PV), p.2 = .str k :: r) ∧ ρ = [val .bag, val (.int most), val (.int sc), val (.lst (sp.map PV.str)), val (.lst (nm.map PV.str)), Ent.own (ws.map fun p => .tup (.str p.1 :: p.2)), e6, e7, e8]) ?_ ?_) (by decide)
  · simp only [mkFor, gV0, gVs, rZ, iterO]
    refine Gen.mono (forNI (k := 6) (c := 5) (Iv := fun i ρ => ∃ (ws : List (Str × List PV)) (e6 e7 e8 : Ent), ws.length = i ∧ ws.map (·.1) = nm.take i ∧ (∀ p ∈ ws, Wd p.1 ∧ ∃ (k : Str) (r : List PV), p.2 = .str k :: r) ∧ ρ = [val .bag, val (.int most), val (.int sc), val (.lst (sp.map PV.str)), val (.lst (nm.map PV.str)), Ent.own (ws.map fun p => .tup (.str p.1 :: p.2)), e6, e7, e8]) (nm.map PV.str) 0 _ ⟨[], _, _, _, rfl, rfl, fun p hp => absurd hp List.not_mem_nil, rfl⟩ ?_) (by rw [List.length_map]; omega) ?_
    rotate_left
    · rintro f ⟨ρ', rfl, ws, e6, e7, e8, hn, ht, hw, rfl⟩
      rw [List.length_map, Nat.zero_add] at hn ht
      rw [List.take_length] at ht
      exact ⟨_, rfl, ws, e6, e7, e8, hn, ht, hw, rfl⟩
    · rintro j y hy _ ⟨ws, e6, e7, e8, hn, ht, hw, rfl⟩
      rw [Nat.zero_add] at hn ht
      rw [List.getElem?_map] at hy
      obtain ⟨z, hzj, rfl⟩ := Option.map_eq_some_iff.mp hy
      have hz : z ∈ nm := List.mem_of_getElem? hzj
      have hj : j < nm.length := (List.getElem?_eq_some_iff.mp hzj).1
      show Gen (seqP _ _ [val .bag, val (.int most), val (.int sc), val (.lst (sp.map PV.str)), val (.lst (nm.map PV.str)), Ent.own (ws.map fun p => .tup (.str p.1 :: p.2)), val (.str z), e7, e8]) 5 _
      refine Gen.le (gseq (c := 1) (d := 4) (I := fun ρ => ∃ kd : Str, ρ = [val .bag, val (.int most), val (.int sc), val (.lst (sp.map PV.str)), val (.lst (nm.map PV.str)), Ent.own (ws.map fun p => .tup (.str p.1 :: p.2)), val (.str z), val (.str kd), e8]) ?_ ?_) (by decide)
      · simp only [setP, bin2, lstV, consA, gV0, gVs, rZ, mkL4, F_law_pick, M.bZ]
        refine Gen.le (Gen.bind (Gen.draw (by omega) (by omega)) (d := 0) ?_) (by decide)
        rintro _ ⟨d, rfl, d0, d1⟩
        obtain ⟨v, hv, e⟩ := atI_in (l := [PV.str "slope", PV.str "slope", PV.str "lift", PV.str "path"]) d0 d1
        obtain ⟨kd, rfl⟩ : ∃ kd : Str, v = .str kd := by
          simp only [List.mem_cons, List.not_mem_nil, or_false] at hv
          rcases hv with rfl | rfl | rfl | rfl <;> exact ⟨_, rfl⟩
        exact Gen.eq (y := .nx _) (by simp only [ixO, e, M.ofO, rZ]; rfl) ⟨_, rfl, kd, rfl⟩
      rintro _ ⟨kd, rfl⟩
      refine Gen.le (gseq (c := 2) (d := 2) (I := fun ρ => ∃ a b : PV, ρ = [val .bag, val (.int most), val (.int sc), val (.lst (sp.map PV.str)), val (.lst (nm.map PV.str)), Ent.own (ws.map fun p => .tup (.str p.1 :: p.2)), val (.str z), val (.str kd), val (.lst [a, b])]) ?_ ?_) (by decide)
      · have er : rng1O [.int 2] = .ret [.int 0, .int 1] := rfl
        have ec : capP [none, some 3, some 0] [val .bag, val (.int most), val (.int sc), val (.lst (sp.map PV.str)), val (.lst (nm.map PV.str)), Ent.own (ws.map fun p => .tup (.str p.1 :: p.2)), val (.str z), val (.str kd), e8] = [un, val (.lst (sp.map PV.str)), val .bag] := rfl
        unfold setP lstV mkLC
        simp only [consA, gV0, gVs, rZ, er, ec, M.bZ]
        rw [if_pos (by decide)]
        refine Gen.le (Gen.bind (Gen.lc (ρ := [un, val (.lst (sp.map PV.str)), val .bag]) (c := 1) (Pr := fun _ => True) _ _ (fun _ => rfl) (fun y hy => ?_)) (d := 0) ?_) (by decide)
        · simp only [List.set_cons_zero, bin2, gV0, gVs, rZ, lenO, F_law_pick, List.length_map]
          refine Gen.mono (gen_at (l := sp.map PV.str) (by rw [List.length_map]) (by rw [List.length_map]; omega) (by rw [List.length_map]; omega)) (Nat.le_refl _) fun _ _ => trivial
        · rintro us ⟨z1, _⟩
          match us, z1 with
          | [a, b], _ => exact Gen.eq (y := .nx _) rfl ⟨_, rfl, a, b, rfl⟩
      rintro _ ⟨a, b, rfl⟩
      have i0 : ixO (.lst [a, b]) (.int 0) = .ret a := rfl
      have i1 : ixO (.lst [a, b]) (.int 1) = .ret b := rfl
      have hl : (ws.map fun p => PV.tup (.str p.1 :: p.2)).length < 100000 := by rw [List.length_map]; omega
      simp only [appP, List.getElem?_cons_succ, List.getElem?_cons_zero, consA, bin2, gV0, gVs, rZ, i0, i1, F_law_pick, M.bZ]
      refine Gen.le (Gen.bind (Gen.draw (by omega) (by omega)) (d := 1) ?_) (by decide)
      rintro _ ⟨u, rfl, u0, u1⟩
      rw [mulI (by omega) (by omega)]
      simp only [rZ]
      refine Gen.le (Gen.bind (Gen.draw (by omega) (by omega)) (d := 0) ?_) (by decide)
      rintro _ ⟨v, rfl, v0, v1⟩
      rw [mulI (by omega) (by omega)]
      refine Gen.eq (y := .nx _) (by simp only [rZ, mkT6, if_pos hl]; rfl) ⟨_, rfl, ws ++ [(z, [.str kd, a, b, .int (sc * u), .int (sc * v)])], _, _, _, by simp [hn], by rw [List.map_append, ht, Nat.zero_add, List.take_succ, hzj]; rfl, fun p hp => ?_, by rw [List.map_append]; rfl⟩
      rcases List.mem_append.mp hp with hp | hp
      · exact hw p hp
      · rw [List.mem_singleton.mp hp]
        exact ⟨nw.1 z hz, kd, _, rfl⟩
  rintro _ ⟨ws, e6, e7, e8, hn, ht, hw, rfl⟩
  simp only [retP, List.map_cons, List.map_nil, Ent.freeze, consA, bin2, gV0, gVs, rZ, tupO, lenO, F_law_pick, List.length_map, M.bZ]
  refine Gen.le (Gen.bind (Gen.draw (by omega) (by omega)) (d := 1) ?_) (by decide)
  rintro _ ⟨d, rfl, d0, d1⟩
  obtain ⟨hm, _, e⟩ := atI_in (l := sp.map PV.str) d0 (by rw [List.length_map]; exact d1)
  simp only [ixO, e, M.ofO, rZ]
  refine Gen.le (Gen.bind (Gen.draw (by omega) (by omega)) (d := 0) ?_) (by decide)
  rintro _ ⟨g, rfl, g0, g1⟩
  have ea : addO (.int 1) (.int g) = .ret (.int (1 + g)) := rfl
  have hp : 0 < sc * (1 + g) := Int.mul_pos (by omega) (by omega)
  have hq : sc * (1 + g) ≤ 33333 * 30 := Int.mul_le_mul s1 (by omega) (by omega) (by omega)
  rw [ea]
  simp only [rZ]
  rw [mulI (by omega) (by omega)]
  exact Gen.eq (y := .tup [.tup (ws.map fun p => .tup (.str p.1 :: p.2)), hm, .int (sc * (1 + g))]) (by simp only [rZ, mkT3]; rfl) ⟨ws, _, hm, rfl, by omega, by omega, hw, by omega, by omega, by rw [ht]; exact nw.2⟩
theorem osA_len {A : List (Str × List Str)} {z : Str} (hl : ∀ p ∈ A, p.2.length ≤ 1000) : (osA A z).length ≤ 1000 := by
  unfold osA
  cases c : A.find? fun p => decide (p.1 = z) with
  | none => exact Nat.zero_le _
  | some p => exact hl p (List.mem_of_find?_eq_some c)
theorem bls_map (os : List Str) (f : Str → Bool) : blsOf (os.map fun o => PV.bl (f o)) = some (os.map f) := by
  induction os with
  | nil => rfl
  | cons o os ih => simp only [List.map_cons, blsOf, ih]; rfl
theorem all_map (os : List Str) (f : Str → Bool) : allO [.lst (os.map fun o => PV.bl (f o))] = .ret (.bl (os.all f)) := by
  simp only [allO, bls_map, M.ofO, rZ, List.all_map]
  rfl
theorem any_map (os : List Str) (f : Str → Bool) : anyO [.lst (os.map fun o => PV.bl (f o))] = .ret (.bl (os.any f)) := by
  simp only [anyO, bls_map, M.ofO, rZ, List.any_map]
  rfl
section
variable {ρ : PEnv} {i a b : Nat} {A : List (Str × List Str)} {S : List Str} {z : Str}
theorem w_lc (hc : capP [none, some i] ρ = [un, val (.lst (S.map PV.str))]) (ha : getV ρ a = .ret (.dct (dcA A))) (hb : getV ρ b = .ret (.str z)) (hz : ∃ p ∈ A, p.1 = z) (hl : ∀ p ∈ A, p.2.length ≤ 1000) :
    mkLC [none, some i] (fun ρ => ((bin2 dgetO (fun ρ => getV ρ a) (fun ρ => getV ρ b)) ρ).bind iterO) (bindN 0) allTs (bin2 (inO false) (fun ρ => getV ρ 0) (fun ρ => getV ρ 1)) ρ = .ret ((osA A z).map fun o => PV.bl (inN S o)) := by
  have q := lcM_gen (m := PV.str) (k := 0) (tt := allTs) (te := bin2 (inO false) (fun ρ => getV ρ 0) (fun ρ => getV ρ 1)) (p := fun _ => true) (g := fun o => PV.bl (inN S o)) (ρ := [un, val (.lst (S.map PV.str))]) (osA A z) [un, val (.lst (S.map PV.str))] (fun _ => rfl) (fun _ _ => rfl) (fun o _ _ => by
    simp only [bin2, List.set_cons_zero, gV0, gVs, rZ, in_names, Bool.false_xor])
  rw [show (osA A z).filter (fun _ => true) = osA A z by simp] at q
  have hlen : ((osA A z).map PV.str).length ≤ 100000 := by rw [List.length_map]; have := osA_len (z := z) hl; omega
  unfold mkLC
  simp only [bin2, ha, hb, rZ, dgetO, keyO, M.ofO, val_dcA hz, iterO, if_pos hlen, hc]
  exact q
theorem w_all (hc : capP [none, some i] ρ = [un, val (.lst (S.map PV.str))]) (ha : getV ρ a = .ret (.dct (dcA A))) (hb : getV ρ b = .ret (.str z)) (hz : ∃ p ∈ A, p.1 = z) (hl : ∀ p ∈ A, p.2.length ≤ 1000) :
    asB (fun ρ => ((consA (lstV (mkLC [none, some i] (fun ρ => ((bin2 dgetO (fun ρ => getV ρ a) (fun ρ => getV ρ b)) ρ).bind iterO) (bindN 0) allTs (bin2 (inO false) (fun ρ => getV ρ 0) (fun ρ => getV ρ 1)))) (fun _ => M.ret [])) ρ).bind allO) ρ = .ret ((osA A z).all (inN S)) := by
  unfold asB
  simp only [consA, lstV, w_lc hc ha hb hz hl, rZ, all_map]
theorem w_any (hc : capP [none, some i] ρ = [un, val (.lst (S.map PV.str))]) (ha : getV ρ a = .ret (.dct (dcA A))) (hb : getV ρ b = .ret (.str z)) (hz : ∃ p ∈ A, p.1 = z) (hl : ∀ p ∈ A, p.2.length ≤ 1000) :
    asB (fun ρ => ((consA (lstV (mkLC [none, some i] (fun ρ => ((bin2 dgetO (fun ρ => getV ρ a) (fun ρ => getV ρ b)) ρ).bind iterO) (bindN 0) allTs (bin2 (inO false) (fun ρ => getV ρ 0) (fun ρ => getV ρ 1)))) (fun _ => M.ret [])) ρ).bind anyO) ρ = .ret ((osA A z).any (inN S)) := by
  unfold asB
  simp only [consA, lstV, w_lc hc ha hb hz hl, rZ, any_map]
end
def okF (A : List (Str × List Str)) (sh S : List Str) (z : Str) : Bool := !inN sh z && (osA A z).all (inN S)
noncomputable def frT : PEnv → M Bool := (andP (asB (bin2 (inO true) (fun ρ => getV ρ 0) (fun ρ => getV ρ 1))) (asB (fun ρ => ((consA (lstV (mkLC [none, some 3] (fun ρ => ((bin2 dgetO (fun ρ => getV ρ 2) (fun ρ => getV ρ 0)) ρ).bind iterO) (bindN 0) allTs (bin2 (inO false) (fun ρ => getV ρ 0) (fun ρ => getV ρ 1)))) (fun _ => M.ret [])) ρ).bind allO)))
noncomputable def frS : PEnv → M Fl := (seqP (setP 3 (fun ρ => getV ρ 4)) (setP 4 (lstV (mkLC [none, some 2, some 1, some 3] (fun ρ => ((fun ρ => getV ρ 0) ρ).bind iterO) (bindN 0) frT (fun ρ => getV ρ 0)))))
def frW : PEnv → M Bool := (asB (bin2 (eqO true) (fun ρ => getV ρ 3) (fun ρ => getV ρ 4)))
section
variable {A : List (Str × List Str)} {sh ns : List Str}
abbrev nL (l : List Str) : Ent := val (.lst (l.map PV.str))
theorem frT_is {S : List Str} {z : Str} (hz : ∃ p ∈ A, p.1 = z) (hl : ∀ p ∈ A, p.2.length ≤ 1000) : frT [val (.str z), nL sh, val (.dct (dcA A)), nL S] = .ret (okF A sh S z) := by
  refine and_is ?_ (w_all rfl rfl rfl hz hl)
  simp only [asB, bin2, gV0, gVs, rZ, in_names, Bool.true_xor]
theorem frS_is {b : PV} {cur : List Str} (hA : ∀ w ∈ ns, ∃ p ∈ A, p.1 = w) (hl : ∀ p ∈ A, p.2.length ≤ 1000) (hn : ns.length < 900) :
    frS [nL ns, val (.dct (dcA A)), nL sh, val b, nL cur] = .ret (.nx [nL ns, val (.dct (dcA A)), nL sh, nL cur, nL (phi (okF A sh) ns cur)]) := by
  have q := lcM_gen (m := PV.str) (k := 0) (tt := frT) (te := fun ρ => getV ρ 0) (p := okF A sh cur) (g := PV.str) (ρ := [un, nL sh, val (.dct (dcA A)), nL cur]) ns [un, nL sh, val (.dct (dcA A)), nL cur] (fun _ => rfl) (fun o ho => frT_is (hA o ho) hl) (fun o _ _ => rfl)
  have hlen : (ns.map PV.str).length ≤ 100000 := by rw [List.length_map]; omega
  have ec : capP [none, some 2, some 1, some 3] [nL ns, val (.dct (dcA A)), nL sh, nL cur, nL cur] = [un, nL sh, val (.dct (dcA A)), nL cur] := rfl
  unfold frS seqP
  have e1 : setP 3 (fun ρ => getV ρ 4) [nL ns, val (.dct (dcA A)), nL sh, val b, nL cur] = .ret (.nx [nL ns, val (.dct (dcA A)), nL sh, nL cur, nL cur]) := rfl
  rw [e1, rZ]
  show setP 4 _ _ = _
  unfold setP lstV mkLC
  simp only [gV0, rZ, iterO, if_pos hlen, ec, q]
  rfl
theorem frW_is {b : Option (List Str)} {cur : List Str} {a c d : Ent} : frW [a, c, d, val (befP b), nL cur] = .ret (!decide (b = some cur)) := by
  unfold frW asB
  cases b with
  | none => simp only [bin2, gV0, gVs, rZ, befP]; rfl
  | some b => simp only [bin2, gV0, gVs, rZ, befP, ne_strs, Option.some.injEq]
theorem fr_while (hA : ∀ w ∈ ns, ∃ p ∈ A, p.1 = w) (hl : ∀ p ∈ A, p.2.length ≤ 1000) (hn : ns.length < 900) : ∀ (k : Nat) (b : Option (List Str)) (cur cur' : List Str), whO (okF A sh) ns k b cur = some cur' →
    ∃ b', whP frW frS k [nL ns, val (.dct (dcA A)), nL sh, val (befP b), nL cur] = .ret (.nx [nL ns, val (.dct (dcA A)), nL sh, val b', nL cur'])
  | 0, b, cur, cur', h0 => by cases h0
  | k + 1, b, cur, cur', h0 => by
    unfold whO at h0
    rw [whP_s, frW_is, rZ]
    by_cases c : b = some cur
    · rw [if_pos c] at h0
      cases h0
      rw [if_neg (by simp [c])]
      exact ⟨_, rfl⟩
    · rw [if_neg c] at h0
      rw [if_pos (by simp [c]), frS_is hA hl hn, rZ]
      exact fr_while hA hl hn k (some cur) _ cur' h0
def Lst (A : List (Str × List Str)) (sh ns S : List Str) : Prop := S = ns.filter (okF A sh S) ∧ ∀ T : Str → Prop, (∀ z ∈ ns, ∀ S' : List Str, (∀ x ∈ S', T x) → okF A sh S' z = true → T z) → ∀ x ∈ S, T x
theorem free_is (hA : ∀ w ∈ ns, ∃ p ∈ A, p.1 = w) (hl : ∀ p ∈ A, p.2.length ≤ 1000) (hn : ns.length < 900) :
    ∃ S, F_law_free [.lst (ns.map PV.str), .dct (dcA A), .lst (sh.map PV.str)] = .ret (.tup (S.map PV.str)) ∧ Lst A sh ns S := by
  obtain ⟨S, h1, h2, h3⟩ := whO_some (f := okF A sh) (names := ns) (fun S S' hs z _ hz => by
    unfold okF at hz ⊢
    rw [Bool.and_eq_true] at hz ⊢
    exact ⟨hz.1, List.all_eq_true.mpr fun o ho => inN_mono hs (List.all_eq_true.mp hz.2 o ho)⟩) 1000 none [] ⟨fun _ => false, by simp, fun z _ hz => by cases hz⟩ (fun B hB => by cases hB) (by simp; omega)
  refine ⟨S, ?_, h2, fun T hT => h3 T hT fun x hx => absurd hx List.not_mem_nil⟩
  unfold F_law_free m_law_free
  show (seqP _ _ [nL ns, val (.dct (dcA A)), nL sh, un, un]).bind finP = _
  refine seq_nx (ρ' := [nL ns, val (.dct (dcA A)), nL sh, val (befP none), un]) rfl ?_
  refine seq_nx (ρ' := [nL ns, val (.dct (dcA A)), nL sh, val (befP none), nL []]) (by simp only [setP, lstV, rZ, mkL0]; rfl) ?_
  obtain ⟨b', w⟩ := fr_while (sh := sh) hA hl hn 1000 none [] S h1
  refine seq_nx (ρ' := [nL ns, val (.dct (dcA A)), nL sh, val b', nL S]) w ?_
  exact fin_y (ret_y rfl)
end
def bdF (A : List (Str × List Str)) (ns b : List Str) : List Str := b ++ ns.filter fun w => !inN b w && (osA A w).any (inN b)
def rsF (A : List (Str × List Str)) (r : List Str) : List Str := r.filter fun w => (osA A w).any (inN r)
def itr (f : List Str → List Str) : Nat → List Str → List Str
  | 0, l => l
  | k + 1, l => itr f k (f l)
theorem itr_s (f : List Str → List Str) : ∀ (k : Nat) (l : List Str), itr f (k + 1) l = f (itr f k l)
  | 0, l => rfl
  | k + 1, l => itr_s f k (f l)
noncomputable def sbT : PEnv → M Bool := (andP (asB (bin2 (inO true) (fun ρ => getV ρ 0) (fun ρ => getV ρ 1))) (asB (fun ρ => ((consA (lstV (mkLC [none, some 1] (fun ρ => ((bin2 dgetO (fun ρ => getV ρ 2) (fun ρ => getV ρ 0)) ρ).bind iterO) (bindN 0) allTs (bin2 (inO false) (fun ρ => getV ρ 0) (fun ρ => getV ρ 1)))) (fun _ => M.ret [])) ρ).bind anyO)))
noncomputable def sbE : PEnv → M Fl := (setP 3 (lstV (catF (fun ρ => getV ρ 3) (lstV (mkLC [none, some 3, some 1] (fun ρ => ((fun ρ => getV ρ 0) ρ).bind iterO) (bindN 0) sbT (fun ρ => getV ρ 0))))))
noncomputable def srT : PEnv → M Bool := (asB (fun ρ => ((consA (lstV (mkLC [none, some 2] (fun ρ => ((bin2 dgetO (fun ρ => getV ρ 1) (fun ρ => getV ρ 0)) ρ).bind iterO) (bindN 0) allTs (bin2 (inO false) (fun ρ => getV ρ 0) (fun ρ => getV ρ 1)))) (fun _ => M.ret [])) ρ).bind anyO))
def srE : PEnv → M Fl := (setP 5 (lstV (mkLC [none, some 1, some 5] (fun ρ => ((fun ρ => getV ρ 5) ρ).bind iterO) (bindN 0) srT (fun ρ => getV ρ 0))))
def niT : PEnv → M Bool := (asB (bin2 (inO true) (fun ρ => getV ρ 0) (fun ρ => getV ρ 1)))
def siT : PEnv → M Bool := (orP (asB (bin2 (inO false) (fun ρ => getV ρ 0) (fun ρ => getV ρ 1))) (asB (bin2 (inO false) (fun ρ => getV ρ 0) (fun ρ => getV ρ 2))))
section
variable {A : List (Str × List Str)} {sh ns : List Str}
theorem bd_loop {e5 : Ent} (hA : ∀ w ∈ ns, ∃ p ∈ A, p.1 = w) (hl : ∀ p ∈ A, p.2.length ≤ 1000) (hn : ns.length < 900) : ∀ (l : List PV) (b : List Str) (e4 : Ent), b.length + l.length * ns.length ≤ 90000 →
    ∃ e4', forP (bindN 4) sbE l [nL ns, val (.dct (dcA A)), nL sh, nL b, e4, e5] = .ret (.nx [nL ns, val (.dct (dcA A)), nL sh, nL (itr (bdF A ns) l.length b), e4', e5])
  | [], b, e4, _ => ⟨e4, rfl⟩
  | y :: l, b, e4, hb => by
    have q := lcM_gen (m := PV.str) (k := 0) (tt := sbT) (te := fun ρ => getV ρ 0) (p := fun w => !inN b w && (osA A w).any (inN b)) (g := PV.str) (ρ := [un, nL b, val (.dct (dcA A))]) ns [un, nL b, val (.dct (dcA A))] (fun _ => rfl) (fun o ho => by
      refine and_is ?_ (w_any rfl rfl rfl (hA o ho) hl)
      simp only [asB, bin2, List.set_cons_zero, gV0, gVs, rZ, in_names, Bool.true_xor]) (fun o _ _ => rfl)
    have hlen : (ns.map PV.str).length ≤ 100000 := by rw [List.length_map]; omega
    have ec : capP [none, some 3, some 1] [nL ns, val (.dct (dcA A)), nL sh, nL b, val y, e5] = [un, nL b, val (.dct (dcA A))] := rfl
    have fl : (ns.filter fun w => !inN b w && (osA A w).any (inN b)).length ≤ ns.length := List.length_filter_le ..
    rw [List.length_cons, Nat.succ_mul] at hb
    have hc : (b.map PV.str).length + ((ns.filter fun w => !inN b w && (osA A w).any (inN b)).map PV.str).length ≤ 100000 := by rw [List.length_map, List.length_map]; omega
    have st : sbE [nL ns, val (.dct (dcA A)), nL sh, nL b, val y, e5] = .ret (.nx [nL ns, val (.dct (dcA A)), nL sh, nL (bdF A ns b), val y, e5]) := by
      unfold sbE setP lstV catF mkLC
      simp only [gV0, gVs, rZ, iterO, if_pos hlen, ec, q, if_pos hc]
      rw [← List.map_append]
      rfl
    obtain ⟨e4', ih⟩ := bd_loop hA hl hn l (bdF A ns b) (val y) (by unfold bdF; rw [List.length_append]; omega)
    refine ⟨e4', ?_⟩
    unfold forP
    simp only [bindN, rZ, List.set_cons_succ, List.set_cons_zero]
    rw [st, rZ]
    exact ih
theorem rs_loop {e3 : Ent} (hA : ∀ w ∈ ns, ∃ p ∈ A, p.1 = w) (hl : ∀ p ∈ A, p.2.length ≤ 1000) (hn : ns.length < 900) : ∀ (l : List PV) (r : List Str) (e4 : Ent), (∀ x ∈ r, x ∈ ns) → r.length ≤ 900 →
    ∃ e4', forP (bindN 4) srE l [nL ns, val (.dct (dcA A)), nL sh, e3, e4, nL r] = .ret (.nx [nL ns, val (.dct (dcA A)), nL sh, e3, e4', nL (itr (rsF A) l.length r)])
  | [], r, e4, _, _ => ⟨e4, rfl⟩
  | y :: l, r, e4, hr, hb => by
    have q := lcM_gen (m := PV.str) (k := 0) (tt := srT) (te := fun ρ => getV ρ 0) (p := fun w => (osA A w).any (inN r)) (g := PV.str) (ρ := [un, val (.dct (dcA A)), nL r]) r [un, val (.dct (dcA A)), nL r] (fun _ => rfl) (fun o ho => w_any rfl rfl rfl (hA o (hr o ho)) hl) (fun o _ _ => rfl)
    have hlen : (r.map PV.str).length ≤ 100000 := by rw [List.length_map]; omega
    have ec : capP [none, some 1, some 5] [nL ns, val (.dct (dcA A)), nL sh, e3, val y, nL r] = [un, val (.dct (dcA A)), nL r] := rfl
    have st : srE [nL ns, val (.dct (dcA A)), nL sh, e3, val y, nL r] = .ret (.nx [nL ns, val (.dct (dcA A)), nL sh, e3, val y, nL (rsF A r)]) := by
      unfold srE setP lstV mkLC
      simp only [gV0, gVs, rZ, iterO, if_pos hlen, ec, q]
      rfl
    obtain ⟨e4', ih⟩ := rs_loop hA hl hn l (rsF A r) (val y) (fun x hx => hr x (List.mem_filter.mp hx).1) (Nat.le_trans (List.length_filter_le ..) hb)
    refine ⟨e4', ?_⟩
    unfold forP
    simp only [bindN, rZ, List.set_cons_succ, List.set_cons_zero]
    rw [st, rZ]
    exact ih
def bdN (A : List (Str × List Str)) (ns sh : List Str) : List Str := itr (bdF A ns) ns.length sh
def rsN (A : List (Str × List Str)) (ns sh : List Str) : List Str := itr (rsF A) ns.length (ns.filter fun w => !inN (bdN A ns sh) w)
theorem stuck_is (hA : ∀ w ∈ ns, ∃ p ∈ A, p.1 = w) (hl : ∀ p ∈ A, p.2.length ≤ 1000) (hn : ns.length < 200) (hs : sh.length < 900) :
    F_law_stuck [.lst (ns.map PV.str), .dct (dcA A), .lst (sh.map PV.str)] = .ret (.lst ((ns.filter fun w => inN (bdN A ns sh) w || inN (rsN A ns sh) w).map PV.str)) := by
  have hlen : (ns.map PV.str).length ≤ 100000 := by rw [List.length_map]; omega
  unfold F_law_stuck m_law_stuck
  show (seqP _ _ [nL ns, val (.dct (dcA A)), nL sh, un, un, un]).bind finP = _
  refine seq_nx (ρ' := [nL ns, val (.dct (dcA A)), nL sh, nL sh, un, un]) (by simp only [setP, lstV, consA, gV0, gVs, rZ, lstO]; rfl) ?_
  have hq : (ns.map PV.str).length * ns.length ≤ 200 * 200 := Nat.mul_le_mul (by rw [List.length_map]; omega) (by omega)
  obtain ⟨e4, lp⟩ := bd_loop (sh := sh) (e5 := un) hA hl (by omega) (ns.map PV.str) sh un (by omega)
  refine seq_nx (ρ' := [nL ns, val (.dct (dcA A)), nL sh, nL (bdN A ns sh), e4, un]) ?_ ?_
  · show mkFor _ (bindN 4) sbE _ = _
    unfold mkFor
    simp only [gV0, rZ, iterO]
    rw [lp, List.length_map]
    rfl
  have q1 := lcM_gen (m := PV.str) (k := 0) (tt := niT) (te := fun ρ => getV ρ 0) (p := fun w => !inN (bdN A ns sh) w) (g := PV.str) (ρ := [un, nL (bdN A ns sh)]) ns [un, nL (bdN A ns sh)] (fun _ => rfl) (fun o ho => by
    simp only [niT, asB, bin2, List.set_cons_zero, gV0, gVs, rZ, in_names, Bool.true_xor]) (fun o _ _ => rfl)
  refine seq_nx (ρ' := [nL ns, val (.dct (dcA A)), nL sh, nL (bdN A ns sh), e4, nL (ns.filter fun w => !inN (bdN A ns sh) w)]) ?_ ?_
  · show setP 5 (lstV (mkLC [none, some 3] _ (bindN 0) niT _)) _ = _
    unfold setP lstV mkLC
    simp only [gV0, rZ, iterO, if_pos hlen]
    rw [show capP [none, some 3] [nL ns, val (.dct (dcA A)), nL sh, nL (bdN A ns sh), e4, un] = [un, nL (bdN A ns sh)] from rfl, q1]
    rfl
  obtain ⟨e4', lp2⟩ := rs_loop (sh := sh) (e3 := nL (bdN A ns sh)) hA hl (by omega) (ns.map PV.str) (ns.filter fun w => !inN (bdN A ns sh) w) e4 (fun x hx => (List.mem_filter.mp hx).1) (Nat.le_trans (List.length_filter_le ..) (by omega))
  refine seq_nx (ρ' := [nL ns, val (.dct (dcA A)), nL sh, nL (bdN A ns sh), e4', nL (rsN A ns sh)]) ?_ ?_
  · show mkFor _ (bindN 4) srE _ = _
    unfold mkFor
    simp only [gV0, rZ, iterO]
    rw [lp2, List.length_map]
    rfl
  have q2 := lcM_gen (m := PV.str) (k := 0) (tt := siT) (te := fun ρ => getV ρ 0) (p := fun w => inN (bdN A ns sh) w || inN (rsN A ns sh) w) (g := PV.str) (ρ := [un, nL (bdN A ns sh), nL (rsN A ns sh)]) ns [un, nL (bdN A ns sh), nL (rsN A ns sh)] (fun _ => rfl) (fun o ho => by
    unfold siT orP
    simp only [asB, bin2, List.set_cons_zero, gV0, gVs, rZ, in_names, Bool.false_xor]
    cases inN (bdN A ns sh) o <;> simp) (fun o _ _ => rfl)
  refine fin_y (ret_y ?_)
  show lstV (mkLC [none, some 3, some 5] _ (bindN 0) siT _) [nL ns, val (.dct (dcA A)), nL sh, nL (bdN A ns sh), e4'.freeze, nL (rsN A ns sh)] = _
  unfold lstV mkLC
  simp only [gV0, rZ, iterO, if_pos hlen]
  rw [show capP [none, some 3, some 5] [nL ns, val (.dct (dcA A)), nL sh, nL (bdN A ns sh), e4'.freeze, nL (rsN A ns sh)] = [un, nL (bdN A ns sh), nL (rsN A ns sh)] from rfl, q2]
  rfl
theorem any_iff {S : List Str} {l : List Str} : l.any (inN S) = true ↔ ∃ o ∈ l, o ∈ S := by
  rw [List.any_eq_true]
  exact ⟨fun ⟨o, h1, h2⟩ => ⟨o, h1, inN_iff.mp h2⟩, fun ⟨o, h1, h2⟩ => ⟨o, h1, inN_iff.mpr h2⟩⟩
theorem bd_mem {b : List Str} {x : Str} : x ∈ bdF A ns b ↔ x ∈ b ∨ (x ∈ ns ∧ ∃ o ∈ osA A x, o ∈ b) := by
  unfold bdF
  rw [List.mem_append, List.mem_filter, Bool.and_eq_true, any_iff]
  constructor
  · rintro (h | ⟨h1, h2, h3⟩)
    · exact .inl h
    · exact .inr ⟨h1, h3⟩
  · rintro (h | ⟨h1, h3⟩)
    · exact .inl h
    · by_cases c : x ∈ b
      · exact .inl c
      · refine .inr ⟨h1, ?_, h3⟩
        cases e : inN b x with
        | true => exact absurd (inN_iff.mp e) c
        | false => rfl
def ClB (A : List (Str × List Str)) (ns b : List Str) : Prop := ∀ w ∈ ns, (∃ o ∈ osA A w, o ∈ b) → w ∈ b
theorem ClB.keep {b : List Str} (h : ClB A ns b) : ClB A ns (bdF A ns b) := fun w hw ⟨o, h1, h2⟩ => by
  rcases bd_mem.mp h2 with h2 | ⟨h3, h4⟩
  · exact bd_mem.mpr (.inl (h w hw ⟨o, h1, h2⟩))
  · exact bd_mem.mpr (.inl (h w hw ⟨o, h1, h o h3 h4⟩))
theorem cnt_lt {p q : Str → Bool} (h : ∀ z ∈ ns, p z = true → q z = true) {w : Str} (hw : w ∈ ns) (h1 : q w = true) (h2 : p w = false) : (ns.filter p).length < (ns.filter q).length := by
  have sub := filt_sub (names := ns) h
  rcases Nat.lt_or_ge (ns.filter p).length (ns.filter q).length with c | c
  · exact c
  · have e := sub.eq_of_length (Nat.le_antisymm sub.length_le c)
    have : w ∈ ns.filter p := by rw [e]; exact List.mem_filter.mpr ⟨hw, h1⟩
    rw [(List.mem_filter.mp this).2] at h2
    cases h2
theorem bd_or : ∀ (k : Nat), ClB A ns (itr (bdF A ns) k sh) ∨ k ≤ (ns.filter (inN (itr (bdF A ns) k sh))).length
  | 0 => .inr (Nat.zero_le _)
  | k + 1 => by
    rw [itr_s]
    rcases bd_or k with h | h
    · exact .inl h.keep
    · by_cases c : ClB A ns (itr (bdF A ns) k sh)
      · exact .inl c.keep
      · refine .inr ?_
        unfold ClB at c
        obtain ⟨w, c⟩ := Classical.not_forall.mp c
        obtain ⟨hw, c⟩ := Classical.not_imp.mp c
        obtain ⟨ho, nw⟩ := Classical.not_imp.mp c
        have := cnt_lt (ns := ns) (p := inN (itr (bdF A ns) k sh)) (q := inN (bdF A ns (itr (bdF A ns) k sh))) (fun z _ hz => inN_iff.mpr (bd_mem.mpr (.inl (inN_iff.mp hz)))) hw (inN_iff.mpr (bd_mem.mpr (.inr ⟨hw, ho⟩))) (by
          cases e : inN (itr (bdF A ns) k sh) w with
          | true => exact absurd (inN_iff.mp e) nw
          | false => rfl)
        omega
theorem bdN_clo : ClB A ns (bdN A ns sh) := by
  rcases bd_or (A := A) (ns := ns) (sh := sh) ns.length with h | h
  · exact h
  · intro w hw _
    have e : ns.filter (inN (bdN A ns sh)) = ns := List.filter_sublist.eq_of_length (Nat.le_antisymm (List.length_filter_le ..) h)
    have : w ∈ ns.filter (inN (bdN A ns sh)) := by rw [e]; exact hw
    exact inN_iff.mp (List.mem_filter.mp this).2
theorem bd_sub : ∀ (k : Nat) {x : Str}, x ∈ sh → x ∈ itr (bdF A ns) k sh
  | 0, x, h => h
  | k + 1, x, h => by rw [itr_s]; exact bd_mem.mpr (.inl (bd_sub k h))
theorem bd_why : ∀ (k : Nat) {x : Str}, x ∈ itr (bdF A ns) k sh → x ∈ sh ∨ ∃ o ∈ osA A x, o ∈ itr (bdF A ns) k sh
  | 0, x, h => .inl h
  | k + 1, x, h => by
    rw [itr_s] at h ⊢
    rcases bd_mem.mp h with h | ⟨_, o, h1, h2⟩
    · rcases bd_why k h with h | ⟨o, h1, h2⟩
      · exact .inl h
      · exact .inr ⟨o, h1, bd_mem.mpr (.inl h2)⟩
    · exact .inr ⟨o, h1, bd_mem.mpr (.inl h2)⟩
theorem rs_or {r : List Str} : ∀ (k : Nat), rsF A (itr (rsF A) k r) = itr (rsF A) k r ∨ (itr (rsF A) k r).length + k ≤ r.length
  | 0 => .inr (Nat.le_refl _)
  | k + 1 => by
    rw [itr_s]
    rcases rs_or k with h | h
    · rw [h]; exact .inl h
    · have sub : (rsF A (itr (rsF A) k r)).Sublist (itr (rsF A) k r) := List.filter_sublist
      by_cases c : (rsF A (itr (rsF A) k r)).length = (itr (rsF A) k r).length
      · have e := sub.eq_of_length c
        rw [e]; exact .inl e
      · have := sub.length_le
        exact .inr (by omega)
theorem rs_keep {G : Str → Prop} (hG : ∀ w, G w → ∃ o ∈ osA A w, G o) {r : List Str} (h : ∀ w, G w → w ∈ r) : ∀ (k : Nat) (w : Str), G w → w ∈ itr (rsF A) k r
  | 0, w, g => h w g
  | k + 1, w, g => by
    rw [itr_s]
    obtain ⟨o, h1, h2⟩ := hG w g
    exact List.mem_filter.mpr ⟨rs_keep hG h k w g, any_iff.mpr ⟨o, h1, rs_keep hG h k o h2⟩⟩
theorem stuck_free {S : List Str} (hin : ∀ w ∈ ns, ∀ o ∈ osA A w, o ∈ ns) (L : Lst A sh ns S) : ns.filter (fun w => !inN S w) = ns.filter fun w => inN (bdN A ns sh) w || inN (rsN A ns sh) w := by
  have st : ∀ w ∈ rsN A ns sh, ∃ o ∈ osA A w, o ∈ rsN A ns sh := fun w hw => by
    rcases rs_or (A := A) (r := ns.filter fun w => !inN (bdN A ns sh) w) ns.length with h | h
    · have hw' : w ∈ rsF A (rsN A ns sh) := by unfold rsN; rw [h]; exact hw
      exact any_iff.mp (List.mem_filter.mp hw').2
    · have hl : (ns.filter fun w => !inN (bdN A ns sh) w).length ≤ ns.length := List.length_filter_le ..
      have : (rsN A ns sh).length = 0 := by unfold rsN; omega
      rw [List.eq_nil_of_length_eq_zero this] at hw
      exact absurd hw List.not_mem_nil
  have no : ∀ x ∈ S, x ∉ bdN A ns sh ∧ x ∉ rsN A ns sh := L.2 (fun x => x ∉ bdN A ns sh ∧ x ∉ rsN A ns sh) fun z hz S' hS' ok => by
    unfold okF at ok
    rw [Bool.and_eq_true] at ok
    have all : ∀ o ∈ osA A z, o ∈ S' := fun o ho => inN_iff.mp (List.all_eq_true.mp ok.2 o ho)
    refine ⟨fun h => ?_, fun h => ?_⟩
    · rcases bd_why ns.length h with h | ⟨o, h1, h2⟩
      · have := ok.1
        rw [inN_iff.mpr h] at this
        cases this
      · exact (hS' o (all o h1)).1 h2
    · obtain ⟨o, h1, h2⟩ := st z h
      exact (hS' o (all o h1)).2 h2
  have yes : ∀ w, (w ∈ ns ∧ w ∉ S ∧ w ∉ bdN A ns sh) → w ∈ rsN A ns sh := rs_keep (G := fun w => w ∈ ns ∧ w ∉ S ∧ w ∉ bdN A ns sh) (fun w ⟨h1, h2, h3⟩ => by
    have nok : okF A sh S w = false := by
      cases c : okF A sh S w with
      | false => rfl
      | true => exact absurd (by rw [L.1]; exact List.mem_filter.mpr ⟨h1, c⟩) h2
    unfold okF at nok
    have ns' : inN sh w = false := by
      cases c : inN sh w with
      | false => rfl
      | true => exact absurd (bd_sub ns.length (inN_iff.mp c)) h3
    rw [ns', Bool.not_false, Bool.true_and] at nok
    obtain ⟨o, ho, no'⟩ := List.all_eq_false.mp nok
    have no2 : o ∉ S := fun h => no' (inN_iff.mpr h)
    exact ⟨o, ho, hin w h1 o ho, no2, fun h => h3 (bdN_clo w h1 ⟨o, ho, h⟩)⟩) (fun w ⟨h1, _, h3⟩ => List.mem_filter.mpr ⟨h1, by
      cases c : inN (bdN A ns sh) w with
      | false => rfl
      | true => exact absurd (inN_iff.mp c) h3⟩) ns.length
  apply List.filter_congr
  intro w hw
  cases c : inN S w with
  | true =>
    have := no w (inN_iff.mp c)
    have e1 : inN (bdN A ns sh) w = false := by
      cases d : inN (bdN A ns sh) w with
      | false => rfl
      | true => exact absurd (inN_iff.mp d) this.1
    have e2 : inN (rsN A ns sh) w = false := by
      cases d : inN (rsN A ns sh) w with
      | false => rfl
      | true => exact absurd (inN_iff.mp d) this.2
    rw [e1, e2]; rfl
  | false =>
    cases d : inN (bdN A ns sh) w with
    | true => rfl
    | false =>
      have := yes w ⟨hw, (fun h => by rw [inN_iff.mpr h] at c; cases c), (fun h => by rw [inN_iff.mpr h] at d; cases d)⟩
      rw [inN_iff.mpr this]; rfl
end
theorem in_namesT (x : Str) (zs : List Str) (b : Bool) : inO b (.str x) (.tup (zs.map PV.str)) = .ret (.bl (xor b (inN zs x))) := by
  have e : memF (.str x) (zs.map PV.str) = inN zs x := by
    unfold memF inN
    rw [List.any_map]
    rfl
  unfold inO
  dsimp only
  rw [flat_strs, e]
  simp [flatP, toV, flatV]
theorem eq_tups (a : List Str) : eqO false (.tup (a.map PV.str)) (.tup (a.map PV.str)) = .ret (.bl true) := by
  have e : eqP 20 (.tup (a.map PV.str)) (.tup (a.map PV.str)) = some (decide (a = a)) := eqs_strs 18 a a
  unfold eqO
  rw [e]
  simp [M.ofO]
theorem modI {a b : Int} (h : 0 < b) : modO (.int a) (.int b) = .ret (.int (a % b)) := by
  unfold modO numO
  dsimp only
  rw [if_pos h]
theorem app_is {k : Nat} {m : PEnv → M PV} {ρ : PEnv} {l : List PV} {y : PV} (h : ρ[k]? = some (.own l)) (hm : m ρ = .ret y) (hl : l.length < 100000) : appP k m ρ = .ret (.nx (ρ.set k (.own (l ++ [y])))) := by
  unfold appP
  rw [h]
  dsimp only
  rw [hm, rZ, if_pos hl]
theorem bin2_is {f : PV → PV → M PV} {a b : PEnv → M PV} {ρ : PEnv} {y z v : PV} (ha : a ρ = .ret y) (hb : b ρ = .ret z) (h : f y z = .ret v) : bin2 f a b ρ = .ret v := by
  unfold bin2
  rw [ha, rZ, hb, rZ, h]
theorem cons_is {a : PEnv → M PV} {b : PEnv → M (List PV)} {ρ : PEnv} {y : PV} {l : List PV} (h : a ρ = .ret y) (h' : b ρ = .ret l) : consA a b ρ = .ret (y :: l) := by
  unfold consA
  rw [h, rZ, h']
  rfl
def enF : Nat → List PV → List PV
  | _, [] => []
  | j, x :: l => .tup [.int j, x] :: enF (j + 1) l
theorem enF_is : ∀ (l : List PV) (j : Nat), (l.mapIdx fun i x => PV.tup [.int ((i + j : Nat) : Int), x]) = enF j l
  | [], j => rfl
  | x :: l, j => by
    rw [List.mapIdx_cons]
    unfold enF
    have ih := enF_is l (j + 1)
    rw [Nat.zero_add, ← ih]
    congr 2
    funext i x
    rw [show i + 1 + j = i + (j + 1) by omega]
theorem enum_is (l : List PV) : enumL l = enF 0 l := enF_is l 0
def oddR (late : Int) (j : Nat) : Ru := if j % 2 = 0 then .never else .hours late (late + 1)
noncomputable def rlK (A : List (Str × List Str)) (sh : List Str) (late : Int) (j : Nat) (w : Str) : List Ru :=
  if inN sh w = true then ((osA A w).map Ru.wth).take (j % ((osA A w).length + 1)) ++ oddR late j :: ((osA A w).map Ru.wth).drop (j % ((osA A w).length + 1)) else (osA A w).map Ru.wth
noncomputable def pgK (A : List (Str × List Str)) (sh : List Str) (late : Int) (j : Nat) (w : Str) : PV := .tup [.str "rule", .int ((j : Int) * 7 % 997), .int 0, .str w, .tup ((rlK A sh late j w).map Ru.pv)]
def pgF (A : List (Str × List Str)) (sh : List Str) (late : Int) : Nat → List Str → List PV
  | _, [] => []
  | j, w :: zs => pgK A sh late j w :: pgF A sh late (j + 1) zs
noncomputable def bkB : PEnv → M Fl := (seqP (ownP 7 (mkLC [none] (fun ρ => ((bin2 dgetO (fun ρ => getV ρ 1) (fun ρ => getV ρ 6)) ρ).bind iterO) (bindN 0) allTs (fun ρ => ((consA (fun _ => M.ret (.str "with")) (consA (fun ρ => getV ρ 0) (fun _ => M.ret []))) ρ).bind mkTup)))
    (seqP (ifP (asB (bin2 (inO false) (fun ρ => getV ρ 6) (fun ρ => getV ρ 2)))
    (insP 7 (consA (bin2 modO (fun ρ => getV ρ 5) (bin2 addO (fun ρ => ((consA (fun ρ => getB ρ 7) (fun _ => M.ret [])) ρ).bind lenO) (fun _ => M.ret (.int 1)))) (consA (ifV (asB (bin2 (eqO false) (bin2 modO (fun ρ => getV ρ 5) (fun _ => M.ret (.int 2))) (fun _ => M.ret (.int 0)))) (fun ρ => ((consA (fun _ => M.ret (.str "never")) (fun _ => M.ret [])) ρ).bind mkTup) (fun ρ => ((consA (fun _ => M.ret (.str "hours")) (consA (fun ρ => getV ρ 3) (consA (bin2 addO (fun ρ => getV ρ 3) (fun _ => M.ret (.int 1))) (fun _ => M.ret [])))) ρ).bind mkTup)) (fun _ => M.ret []))))
    (fun ρ => M.ret (.nx ρ)))
    (appP 4 (fun ρ => ((consA (fun _ => M.ret (.str "rule")) (consA (bin2 modO (bin2 mulE (fun ρ => getV ρ 5) (fun _ => M.ret (.int 7))) (fun _ => M.ret (.int 997))) (consA (fun _ => M.ret (.int 0)) (consA (fun ρ => getV ρ 6) (consA (fun ρ => ((consA (fun ρ => getB ρ 7) (fun _ => M.ret [])) ρ).bind tupO) (fun _ => M.ret [])))))) ρ).bind mkTup))))
section
variable {A : List (Str × List Str)} {sh ns : List Str} {late : Int}
theorem bk_one {acc : List PV} {j : Nat} {w : Str} {e7 : Ent} (hw : ∃ p ∈ A, p.1 = w) (hl : ∀ p ∈ A, p.2.length ≤ 1000) (ha : acc.length < 900) (hj : j < 900) :
    ∃ e7', bkB [nL ns, val (.dct (dcA A)), nL sh, val (.int late), Ent.own acc, val (.int j), val (.str w), e7] = .ret (.nx [nL ns, val (.dct (dcA A)), nL sh, val (.int late), Ent.own (acc ++ [pgK A sh late j w]), val (.int j), val (.str w), e7']) := by
  have q := lcM_gen (m := PV.str) (k := 0) (tt := allTs) (te := fun ρ => ((consA (fun _ => M.ret (.str "with")) (consA (fun ρ => getV ρ 0) (fun _ => M.ret []))) ρ).bind mkTup) (p := fun _ => true) (g := fun o => (Ru.wth o).pv) (ρ := [un]) (osA A w) [un] (fun _ => rfl) (fun _ _ => rfl) (fun o _ _ => by
    simp only [consA, List.set_cons_zero, gV0, rZ, mkT2, Ru.pv])
  rw [show (osA A w).filter (fun _ => true) = osA A w by simp] at q
  have ol := osA_len (z := w) hl
  have hlen : ((osA A w).map PV.str).length ≤ 100000 := by rw [List.length_map]; omega
  obtain ⟨ws, ews⟩ : ∃ ws, ws = (osA A w).map Ru.wth := ⟨_, rfl⟩
  have ewl : ws.length = (osA A w).length := by rw [ews, List.length_map]
  have e1 : ownP 7 (mkLC [none] (fun ρ => ((bin2 dgetO (fun ρ => getV ρ 1) (fun ρ => getV ρ 6)) ρ).bind iterO) (bindN 0) allTs (fun ρ => ((consA (fun _ => M.ret (.str "with")) (consA (fun ρ => getV ρ 0) (fun _ => M.ret []))) ρ).bind mkTup)) [nL ns, val (.dct (dcA A)), nL sh, val (.int late), Ent.own acc, val (.int j), val (.str w), e7] = .ret (.nx [nL ns, val (.dct (dcA A)), nL sh, val (.int late), Ent.own acc, val (.int j), val (.str w), Ent.own (ws.map Ru.pv)]) := by
    unfold ownP mkLC
    simp only [bin2, gV0, gVs, rZ, dgetO, keyO, M.ofO, val_dcA hw, iterO, if_pos hlen]
    rw [show capP [none] [nL ns, val (.dct (dcA A)), nL sh, val (.int late), Ent.own acc, val (.int j), val (.str w), e7] = [un] from rfl, q, rZ, ews, List.map_map]
    rfl
  have fin : ∀ rs : List Ru, appP 4 (fun ρ => ((consA (fun _ => M.ret (.str "rule")) (consA (bin2 modO (bin2 mulE (fun ρ => getV ρ 5) (fun _ => M.ret (.int 7))) (fun _ => M.ret (.int 997))) (consA (fun _ => M.ret (.int 0)) (consA (fun ρ => getV ρ 6) (consA (fun ρ => ((consA (fun ρ => getB ρ 7) (fun _ => M.ret [])) ρ).bind tupO) (fun _ => M.ret [])))))) ρ).bind mkTup) [nL ns, val (.dct (dcA A)), nL sh, val (.int late), Ent.own acc, val (.int j), val (.str w), Ent.own (rs.map Ru.pv)] = .ret (.nx [nL ns, val (.dct (dcA A)), nL sh, val (.int late), Ent.own (acc ++ [.tup [.str "rule", .int ((j : Int) * 7 % 997), .int 0, .str w, .tup (rs.map Ru.pv)]]), val (.int j), val (.str w), Ent.own (rs.map Ru.pv)]) := fun rs => by
    have em : modO (.int ((j : Int) * 7)) (.int 997) = .ret (.int ((j : Int) * 7 % 997)) := modI (by decide)
    have ha' : acc.length < 100000 := by omega
    have em7 := mulI (a := (j : Int)) (b := 7) (by omega) (by omega)
    have ee : (fun ρ => ((consA (fun _ => M.ret (.str "rule")) (consA (bin2 modO (bin2 mulE (fun ρ => getV ρ 5) (fun _ => M.ret (.int 7))) (fun _ => M.ret (.int 997))) (consA (fun _ => M.ret (.int 0)) (consA (fun ρ => getV ρ 6) (consA (fun ρ => ((consA (fun ρ => getB ρ 7) (fun _ => M.ret [])) ρ).bind tupO) (fun _ => M.ret [])))))) ρ).bind mkTup) [nL ns, val (.dct (dcA A)), nL sh, val (.int late), Ent.own acc, val (.int j), val (.str w), Ent.own (rs.map Ru.pv)] = .ret (.tup [.str "rule", .int ((j : Int) * 7 % 997), .int 0, .str w, .tup (rs.map Ru.pv)]) := by
      dsimp only
      rw [cons_is (y := .str "rule") rfl (cons_is (bin2_is (bin2_is rfl rfl em7) rfl em) (cons_is (y := .int 0) rfl (cons_is (y := .str w) rfl (cons_is (y := .tup (rs.map Ru.pv)) rfl rfl)))), rZ, mkT5]
    exact app_is rfl ee ha'
  unfold bkB seqP
  rw [e1, rZ]
  by_cases c : inN sh w = true
  · have tst : (asB (bin2 (inO false) (fun ρ => getV ρ 6) (fun ρ => getV ρ 2))) [nL ns, val (.dct (dcA A)), nL sh, val (.int late), Ent.own acc, val (.int j), val (.str w), Ent.own (ws.map Ru.pv)] = .ret true := by
      simp only [asB, bin2, gV0, gVs, rZ, in_names, Bool.false_xor, c]
    obtain ⟨i, ei⟩ : ∃ i, i = j % (ws.length + 1) := ⟨_, rfl⟩
    have hi : i ≤ ws.length := by rw [ei]; exact Nat.le_of_lt_succ (Nat.mod_lt _ (Nat.succ_pos _))
    have emod : modO (.int (j : Int)) (.int (((ws.map Ru.pv).length : Int) + 1)) = .ret (.int (i : Int)) := by
      rw [modI (by omega), List.length_map, ei, Int.natCast_emod, Int.natCast_add, Int.natCast_one]
    have eodd : (ifV (asB (bin2 (eqO false) (bin2 modO (fun ρ => getV ρ 5) (fun _ => M.ret (.int 2))) (fun _ => M.ret (.int 0)))) (fun ρ => ((consA (fun _ => M.ret (.str "never")) (fun _ => M.ret [])) ρ).bind mkTup) (fun ρ => ((consA (fun _ => M.ret (.str "hours")) (consA (fun ρ => getV ρ 3) (consA (bin2 addO (fun ρ => getV ρ 3) (fun _ => M.ret (.int 1))) (fun _ => M.ret [])))) ρ).bind mkTup)) [nL ns, val (.dct (dcA A)), nL sh, val (.int late), Ent.own acc, val (.int j), val (.str w), Ent.own (ws.map Ru.pv)] = .ret (oddR late j).pv := by
      have em2 : modO (.int (j : Int)) (.int 2) = .ret (.int ((j : Int) % 2)) := modI (by decide)
      have t2 : (asB (bin2 (eqO false) (bin2 modO (fun ρ => getV ρ 5) (fun _ => M.ret (.int 2))) (fun _ => M.ret (.int 0)))) [nL ns, val (.dct (dcA A)), nL sh, val (.int late), Ent.own acc, val (.int j), val (.str w), Ent.own (ws.map Ru.pv)] = .ret ((j : Int) % 2 == 0) := by
        simp only [asB, bin2, gV0, gVs, rZ, em2, eqI]
      unfold oddR
      by_cases d : j % 2 = 0
      · rw [ifv_t (t2.trans (by rw [show ((j : Int) % 2 == 0) = true by simp; omega])), if_pos d]
        simp only [consA, rZ, mkT1, Ru.pv]
      · rw [ifv_f (t2.trans (by rw [show ((j : Int) % 2 == 0) = false by simp; omega])), if_neg d]
        have ea : addO (.int late) (.int 1) = .ret (.int (late + 1)) := rfl
        simp only [consA, bin2, gV0, gVs, rZ, ea, mkT3, Ru.pv]
    have hcnd : 0 ≤ (i : Int) ∧ (i : Int) ≤ (ws.map Ru.pv).length ∧ (ws.map Ru.pv).length < 100000 := by rw [List.length_map]; omega
    have eadd : addO (.int ((ws.map Ru.pv).length : Int)) (.int 1) = .ret (.int (((ws.map Ru.pv).length : Int) + 1)) := rfl
    have ins : insP 7 (consA (bin2 modO (fun ρ => getV ρ 5) (bin2 addO (fun ρ => ((consA (fun ρ => getB ρ 7) (fun _ => M.ret [])) ρ).bind lenO) (fun _ => M.ret (.int 1)))) (consA (ifV (asB (bin2 (eqO false) (bin2 modO (fun ρ => getV ρ 5) (fun _ => M.ret (.int 2))) (fun _ => M.ret (.int 0)))) (fun ρ => ((consA (fun _ => M.ret (.str "never")) (fun _ => M.ret [])) ρ).bind mkTup) (fun ρ => ((consA (fun _ => M.ret (.str "hours")) (consA (fun ρ => getV ρ 3) (consA (bin2 addO (fun ρ => getV ρ 3) (fun _ => M.ret (.int 1))) (fun _ => M.ret [])))) ρ).bind mkTup)) (fun _ => M.ret []))) [nL ns, val (.dct (dcA A)), nL sh, val (.int late), Ent.own acc, val (.int j), val (.str w), Ent.own (ws.map Ru.pv)] = .ret (.nx [nL ns, val (.dct (dcA A)), nL sh, val (.int late), Ent.own acc, val (.int j), val (.str w), Ent.own ((ws.take i ++ oddR late j :: ws.drop i).map Ru.pv)]) := by
      have ml : (consA (bin2 modO (fun ρ => getV ρ 5) (bin2 addO (fun ρ => ((consA (fun ρ => getB ρ 7) (fun _ => M.ret [])) ρ).bind lenO) (fun _ => M.ret (.int 1)))) (consA (ifV (asB (bin2 (eqO false) (bin2 modO (fun ρ => getV ρ 5) (fun _ => M.ret (.int 2))) (fun _ => M.ret (.int 0)))) (fun ρ => ((consA (fun _ => M.ret (.str "never")) (fun _ => M.ret [])) ρ).bind mkTup) (fun ρ => ((consA (fun _ => M.ret (.str "hours")) (consA (fun ρ => getV ρ 3) (consA (bin2 addO (fun ρ => getV ρ 3) (fun _ => M.ret (.int 1))) (fun _ => M.ret [])))) ρ).bind mkTup)) (fun _ => M.ret []))) [nL ns, val (.dct (dcA A)), nL sh, val (.int late), Ent.own acc, val (.int j), val (.str w), Ent.own (ws.map Ru.pv)] = .ret [.int (i : Int), (oddR late j).pv] := by
        refine cons_is ?_ (cons_is eodd rfl)
        simp only [consA, bin2, gV0, gVs, gB0o, gBs, rZ, lenO, eadd, emod]
      unfold insP
      simp only [List.getElem?_cons_succ, List.getElem?_cons_zero]
      rw [ml]
      simp only [rZ, if_pos hcnd, Int.toNat_natCast, List.map_append, List.map_cons, List.map_take, List.map_drop]
      rfl
    refine ⟨Ent.own ((ws.take i ++ oddR late j :: ws.drop i).map Ru.pv), ?_⟩
    show (ifP _ _ _ [nL ns, val (.dct (dcA A)), nL sh, val (.int late), Ent.own acc, val (.int j), val (.str w), Ent.own (ws.map Ru.pv)]).bind _ = _
    rw [if_t tst, ins, rZ]
    show appP _ _ _ = _
    rw [fin]
    unfold pgK rlK
    rw [if_pos c, ← ews, ← ewl, ← ei]
  · have c' : inN sh w = false := by cases d : inN sh w with
      | true => exact absurd d c
      | false => rfl
    have tst : (asB (bin2 (inO false) (fun ρ => getV ρ 6) (fun ρ => getV ρ 2))) [nL ns, val (.dct (dcA A)), nL sh, val (.int late), Ent.own acc, val (.int j), val (.str w), Ent.own (ws.map Ru.pv)] = .ret false := by
      simp only [asB, bin2, gV0, gVs, rZ, in_names, Bool.false_xor, c']
    refine ⟨Ent.own (ws.map Ru.pv), ?_⟩
    show (ifP _ _ _ [nL ns, val (.dct (dcA A)), nL sh, val (.int late), Ent.own acc, val (.int j), val (.str w), Ent.own (ws.map Ru.pv)]).bind _ = _
    rw [if_f tst, rZ]
    show appP _ _ _ = _
    rw [fin]
    unfold pgK rlK
    rw [if_neg c, ← ews]
theorem bk_loop (hl : ∀ p ∈ A, p.2.length ≤ 1000) : ∀ (zs : List Str) (j : Nat) (acc : List PV) (e5 e6 e7 : Ent), (∀ w ∈ zs, ∃ p ∈ A, p.1 = w) → acc.length + zs.length < 900 → j + zs.length < 900 →
    ∃ e5' e6' e7', forP (bindT [5, 6]) bkB (enF j (zs.map PV.str)) [nL ns, val (.dct (dcA A)), nL sh, val (.int late), Ent.own acc, e5, e6, e7] = .ret (.nx [nL ns, val (.dct (dcA A)), nL sh, val (.int late), Ent.own (acc ++ pgF A sh late j zs), e5', e6', e7'])
  | [], j, acc, e5, e6, e7, _, _, _ => ⟨e5, e6, e7, by rw [show pgF A sh late j [] = [] from rfl, List.append_nil]; rfl⟩
  | w :: zs, j, acc, e5, e6, e7, hz, h1, h2 => by
    rw [List.length_cons] at h1 h2
    obtain ⟨x7, st⟩ := bk_one (ns := ns) (sh := sh) (late := late) (acc := acc) (j := j) (e7 := e7) (hz w List.mem_cons_self) hl (by omega) (by omega)
    obtain ⟨a, b, c, ih⟩ := bk_loop hl zs (j + 1) (acc ++ [pgK A sh late j w]) (val (.int j)) (val (.str w)) x7 (fun x hx => hz x (List.mem_cons_of_mem _ hx)) (by rw [List.length_append]; simp; omega) (by omega)
    refine ⟨a, b, c, ?_⟩
    rw [List.map_cons]
    unfold enF forP
    have eb : bindT [5, 6] (.tup [.int (j : Int), .str w]) [nL ns, val (.dct (dcA A)), nL sh, val (.int late), Ent.own acc, e5, e6, e7] = .ret [nL ns, val (.dct (dcA A)), nL sh, val (.int late), Ent.own acc, val (.int j), val (.str w), e7] := rfl
    rw [eb, rZ, st, rZ]
    refine Eq.trans ih ?_
    rw [List.append_assoc]
    rfl
theorem pgF_key : ∀ (zs : List Str) (j i : Nat), i < zs.length → j + zs.length ≤ 100 → keyN ((pgF A sh late j zs).getD i .non) = some (((j + i : Nat) : Int) * 7)
  | [], j, i, h, _ => absurd h (Nat.not_lt_zero _)
  | w :: zs, j, 0, h, hj => by
    rw [List.length_cons] at hj
    show some ((j : Int) * 7 % 997) = _
    rw [Nat.add_zero, Int.emod_eq_of_lt (by omega) (by omega)]
  | w :: zs, j, i + 1, h, hj => by
    rw [List.length_cons] at h hj
    have ih := pgF_key zs (j + 1) i (by omega) (by omega)
    show keyN ((pgF A sh late (j + 1) zs).getD i .non) = _
    rw [ih, show j + 1 + i = j + (i + 1) by omega]
theorem pgF_len : ∀ (zs : List Str) (j : Nat), (pgF A sh late j zs).length = zs.length
  | [], j => rfl
  | w :: zs, j => by unfold pgF; rw [List.length_cons, List.length_cons, pgF_len zs (j + 1)]
theorem pgF_page : ∀ (zs : List Str) (j : Nat), ∀ y ∈ pgF A sh late j zs, ∃ n, PageT n y
  | [], j, y, h => absurd h List.not_mem_nil
  | w :: zs, j, y, h => by
    rcases List.mem_cons.mp h with rfl | h
    · exact ⟨_, _, _, _, _, rfl, trivial, by decide, by decide⟩
    · exact pgF_page zs (j + 1) y h
theorem book_is (hA : ∀ w ∈ ns, ∃ p ∈ A, p.1 = w) (hl : ∀ p ∈ A, p.2.length ≤ 1000) (hn : ns.length ≤ 12) :
    F_law_book [.lst (ns.map PV.str), .dct (dcA A), .lst (sh.map PV.str), .int late] = .ret (.tup (pgF A sh late 0 ns)) := by
  unfold F_law_book m_law_book
  show (seqP _ _ [nL ns, val (.dct (dcA A)), nL sh, val (.int late), un, un, un, un]).bind finP = _
  refine seq_nx (ρ' := [nL ns, val (.dct (dcA A)), nL sh, val (.int late), Ent.own [], un, un, un]) (by simp only [ownP, rZ, mkL0]; rfl) ?_
  obtain ⟨a, b, c, lp⟩ := bk_loop (ns := ns) (sh := sh) (late := late) hl ns 0 [] un un un hA (by simp; omega) (by omega)
  refine seq_nx (ρ' := [nL ns, val (.dct (dcA A)), nL sh, val (.int late), Ent.own (pgF A sh late 0 ns), a, b, c]) ?_ ?_
  · show mkFor _ (bindT [5, 6]) bkB _ = _
    unfold mkFor
    simp only [consA, gV0, rZ, enLO, enum_is]
    exact lp
  refine fin_y (ret_y ?_)
  have pl := pgF_len (A := A) (sh := sh) (late := late) ns 0
  have ky : ∀ i, i < (pgF A sh late 0 ns).length → keyN ((pgF A sh late 0 ns).getD i .non) = some (((0 + i : Nat) : Int) * 7) := fun i hi => pgF_key ns 0 i (by omega) (by omega)
  have up : ordI (pgF A sh late 0 ns) = pgF A sh late 0 ns := ordI_up fun i j hij hj => by
    unfold kN
    rw [ky i (by omega), ky j hj]
    simp only [Option.getD_some]
    omega
  have cnd : (pgF A sh late 0 ns).length < 64 ∧ ∀ z ∈ pgF A sh late 0 ns, (keyN z).isSome = true := ⟨by omega, fun z hz => by
    obtain ⟨i, hi, e⟩ := List.getElem_of_mem hz
    have := ky i hi
    rw [List.getD_eq_getElem?_getD, List.getElem?_eq_getElem hi, Option.getD_some, e] at this
    rw [this]; rfl⟩
  have es : sortN (.lst (pgF A sh late 0 ns)) = .ret (pgF A sh late 0 ns) := by
    unfold sortN
    simp only [seqPV]
    rw [if_pos cnd, up]
  show (fun ρ => ((consA (lstV _) _) ρ).bind tupO) [nL ns, val (.dct (dcA A)), nL sh, val (.int late), val (.lst (pgF A sh late 0 ns)), a.freeze, b.freeze, c.freeze] = _
  simp only [consA, lstV, gV0, gVs, rZ, es, tupO]
end
section
variable {A : List (Str × List Str)} {sh ns : List Str} {late t : Int} {z : Str}
theorem pg_none : ∀ (zs : List Str) (j : Nat), z ∉ zs → (pgF A sh late j zs).filter (hit "rule" z t) = []
  | [], j, _ => rfl
  | w :: zs, j, h => by
    rw [List.mem_cons, not_or] at h
    have e : hit "rule" z t (pgK A sh late j w) = false := by
      unfold hit pgK
      have : (w == z) = false := by rw [beq_eq_false_iff_ne]; exact fun e => h.1 e.symm
      simp [this]
    unfold pgF
    rw [List.filter_cons_of_neg (by rw [e]; decide), pg_none zs (j + 1) h.2]
theorem pg_one (ht : 0 ≤ t) : ∀ (zs : List Str) (j k : Nat), zs.Nodup → zs[k]? = some z → (pgF A sh late j zs).filter (hit "rule" z t) = [pgK A sh late (j + k) z]
  | [], j, k, _, h => by simp at h
  | w :: zs, j, 0, nd, h => by
    have e0 : w = z := by simpa using h
    subst e0
    rw [List.nodup_cons] at nd
    have e : hit "rule" w t (pgK A sh late j w) = true := by
      unfold hit pgK
      simp [ht]
    unfold pgF
    rw [List.filter_cons_of_pos e, pg_none zs (j + 1) nd.1, Nat.add_zero]
  | w :: zs, j, k + 1, nd, h => by
    rw [List.nodup_cons] at nd
    have hz : zs[k]? = some z := by simpa using h
    have ne : (w == z) = false := by rw [beq_eq_false_iff_ne]; exact fun e => nd.1 (e ▸ List.mem_of_getElem? hz)
    have e : hit "rule" z t (pgK A sh late j w) = false := by
      unfold hit pgK
      simp [ne]
    unfold pgF
    rw [List.filter_cons_of_neg (by rw [e]; decide), pg_one ht zs (j + 1) k nd.2 hz, show j + 1 + k = j + (k + 1) by omega]
def hdA (t : Int) : Ru → Bool
  | .hours a b => decide (a ≤ t) && decide (t < b)
  | _ => false
theorem wth_f (l : List Str) : (l.map Ru.wth).filter (fun r => !r.isW) = [] := by
  rw [List.filter_eq_nil_iff]
  intro r hr
  obtain ⟨o, _, rfl⟩ := List.mem_map.mp hr
  exact Bool.false_ne_true
theorem wth_t (l : List Ru) (h : ∀ r ∈ l, r.isW = true) : l.filter Ru.isW = l := List.filter_eq_self.mpr h
theorem wth_o (l : List Str) : (l.map Ru.wth).map Ru.oth = l := by
  rw [List.map_map]
  exact List.map_id' l
theorem odd_W (j : Nat) : (oddR late j).isW = false := by
  unfold oddR
  split <;> rfl
theorem ask_rl {j : Nat} {w : Str} : askR (hdA t) (rlK A sh late j w) = if inN sh w = true then (if hdA t (oddR late j) = true then some (osA A w) else none) else some (osA A w) := by
  unfold rlK askR
  by_cases c : inN sh w = true
  · rw [if_pos c, if_pos c]
    obtain ⟨ws, ews⟩ : ∃ ws, ws = (osA A w).map Ru.wth := ⟨_, rfl⟩
    have hW : ∀ r ∈ ws, r.isW = true := fun r hr => by
      rw [ews] at hr
      obtain ⟨o, _, rfl⟩ := List.mem_map.mp hr
      rfl
    rw [← ews]
    obtain ⟨i, ei⟩ : ∃ i, i = j % ((osA A w).length + 1) := ⟨_, rfl⟩
    rw [← ei]
    have e1 : (ws.take i ++ oddR late j :: ws.drop i).filter (fun r => !r.isW) = [oddR late j] := by
      rw [List.filter_append, List.filter_cons_of_pos (by rw [odd_W]; decide)]
      rw [List.filter_eq_nil_iff.mpr (fun r hr => by rw [hW r (List.mem_of_mem_take hr)]; decide), List.filter_eq_nil_iff.mpr (fun r hr => by rw [hW r (List.mem_of_mem_drop hr)]; decide)]
      rfl
    have e2 : (ws.take i ++ oddR late j :: ws.drop i).filter Ru.isW = ws := by
      rw [List.filter_append, List.filter_cons_of_neg (by rw [odd_W]; decide), wth_t _ fun r hr => hW r (List.mem_of_mem_take hr), wth_t _ fun r hr => hW r (List.mem_of_mem_drop hr), List.take_append_drop]
    rw [e1, e2]
    simp only [List.all_cons, List.all_nil, Bool.and_true]
    rw [ews, wth_o]
  · rw [if_neg c, if_neg c, wth_f, wth_t _ fun r hr => by obtain ⟨o, _, rfl⟩ := List.mem_map.mp hr; rfl, wth_o]
    rfl
theorem rl_len (hl : ∀ p ∈ A, p.2.length ≤ 900) {j : Nat} {w : Str} : (rlK A sh late j w).length ≤ 1000 := by
  have ol : (osA A w).length ≤ 900 := by
    unfold osA
    cases c : A.find? fun p => decide (p.1 = w) with
    | none => exact Nat.zero_le _
    | some p => exact hl p (List.mem_of_find?_eq_some c)
  unfold rlK
  split
  · rw [List.length_append, List.length_cons, List.length_take, List.length_drop, List.length_map]
    omega
  · rw [List.length_map]; omega
theorem rl_alone {B : PV} {q : List PV} {j : Nat} {w : Str} : ∀ u ∈ rlK A sh late j w, u.isW = false → F_holds_alone [B, .tup (.str w :: q), u.pv, .int t] = .ret (.bl (hdA t u)) := fun u hu hW => by
  have key : u = oddR late j := by
    unfold rlK at hu
    split at hu
    · rcases List.mem_append.mp hu with h | h
      · obtain ⟨o, _, rfl⟩ := List.mem_map.mp (List.mem_of_mem_take h)
        cases hW
      · rcases List.mem_cons.mp h with h | h
        · exact h
        · obtain ⟨o, _, rfl⟩ := List.mem_map.mp (List.mem_of_mem_drop h)
          cases hW
    · obtain ⟨o, _, rfl⟩ := List.mem_map.mp hu
      cases hW
  rw [key]
  unfold oddR
  split
  · exact alone_never
  · exact alone_hours
theorem asked_at (ht : 0 ≤ t) (nd : ns.Nodup) (hl : ∀ p ∈ A, p.2.length ≤ 900) {k : Nat} {q : List PV} (hk : ns[k]? = some z) :
    F_others_asked [.tup (pgF A sh late 0 ns), .tup (.str z :: q), .int t] = .ret (ansP (if inN sh z = true then (if hdA t (oddR late k) = true then some (osA A z) else none) else some (osA A z))) := by
  have hp := pg_one (A := A) (sh := sh) (late := late) ht ns 0 k nd hk
  rw [Nat.zero_add] at hp
  have hr : F_rules_at [.tup (pgF A sh late 0 ns), .str z, .int t] = .ret (.tup ((rlK A sh late k z).map Ru.pv)) := rules_1 (pgF_page ns 0) (by rw [hp]; rfl)
  rw [asked_many (hd := hdA t) (rl_len hl) hr rl_alone, ask_rl]
theorem open_for {B tv hm dk : PV} {ws : List (Str × List PV)} {S : List Str} (h : ∀ p ∈ ws, F_others_asked [B, wayP p, tv] = .ret (ansP (if inN sh p.1 = true then none else some (osA A p.1)))) (nd : (ws.map (·.1)).Nodup) (hw : ws.length ≤ 90) (hl : ∀ p ∈ A, p.2.length ≤ 1000) (L : Lst A sh (ws.map (·.1)) S) :
    F_open_ways [.tup [.tup (ws.map wayP), hm, dk], B, tv] = .ret (.tup (S.map PV.str)) := by
  obtain ⟨ot, hot⟩ : ∃ ot : Str × List PV → Option (List Str), ot = fun p => if inN sh p.1 = true then none else some (osA A p.1) := ⟨_, rfl⟩
  have asked : ∀ p ∈ ws, F_others_asked [B, wayP p, tv] = .ret (ansP (ot p)) := fun p hp => by rw [hot]; exact h p hp
  have otI : ∀ p os, ot p = some os → inN sh p.1 = false ∧ os = osA A p.1 := fun p os e => by
    rw [hot] at e
    dsimp only at e
    cases c : inN sh p.1 with
    | true => rw [c, if_pos rfl] at e; cases e
    | false => rw [c, if_neg (by decide)] at e; cases e; exact ⟨rfl, rfl⟩
  have hlen : ∀ a ∈ askA ot ws, a.2.length ≤ 1000 := fun a ha => by
    unfold askA at ha
    obtain ⟨p, hp, e⟩ := List.mem_filterMap.mp ha
    obtain ⟨os, ho, rfl⟩ := Option.map_eq_some_iff.mp e
    rw [(otI p os ho).2]
    exact osA_len hl
  have hA : (askA ot ws).length ≤ 90 := Nat.le_trans (List.length_filterMap_le _ _) hw
  obtain ⟨xs, _, hwh, hclo, hleast⟩ := found_lfp hlen hA
  rw [open_is asked nd hw hlen hwh]
  have okI : ∀ (p : Str × List PV) (S' : List Str), okF A sh S' p.1 = true ↔ ∃ os, ot p = some os ∧ ∀ o ∈ os, o ∈ S' := fun p S' => by
    unfold okF
    rw [Bool.and_eq_true, List.all_eq_true]
    constructor
    · rintro ⟨h1, h2⟩
      have c : inN sh p.1 = false := by simpa using h1
      exact ⟨osA A p.1, by rw [hot]; dsimp only; rw [c, if_neg (by decide)], fun o ho => inN_iff.mp (h2 o ho)⟩
    · rintro ⟨os, e, ho⟩
      obtain ⟨c, rfl⟩ := otI p os e
      exact ⟨by rw [c]; rfl, fun o h' => inN_iff.mpr (ho o h')⟩
  have s1 : ∀ x ∈ xs, x ∈ S := hleast (· ∈ S) fun x hx ho => by
    obtain ⟨p, hp, rfl, os, e⟩ := ask_mem hx
    rw [osA_ask nd hp e] at ho
    rw [L.1]
    exact List.mem_filter.mpr ⟨List.mem_map_of_mem hp, (okI p S).mpr ⟨os, e, ho⟩⟩
  have s2 : ∀ x ∈ S, x ∈ xs := L.2 (· ∈ xs) fun z hz S' hS' hok => by
    obtain ⟨p, hp, rfl⟩ := List.mem_map.mp hz
    obtain ⟨os, e, ho⟩ := (okI p S').mp hok
    exact hclo p.1 (mem_ask hp e) (by rw [osA_ask nd hp e]; exact fun o h' => hS' o (ho o h'))
  have e : (ws.map (·.1)).filter (hasK (foK xs)) = S := by
    conv => rhs; rw [L.1]
    apply List.filter_congr
    intro z hz
    rw [hasK_foK]
    have : z ∈ S ↔ okF A sh S z = true := by
      conv => lhs; rw [L.1]
      rw [List.mem_filter]
      exact ⟨fun h => h.2, fun h => ⟨hz, h⟩⟩
    cases c : okF A sh S z with
    | true => simp [s2 z (this.mpr c)]
    | false =>
      have : z ∉ xs := fun h => by have := this.mp (s1 z h); rw [c] at this; cases this
      simp [this]
  rw [e]
noncomputable def nowF (sh : List Str) : Nat → List Str → List Str
  | _, [] => []
  | j, z :: zs => if (inN sh z && decide (j % 2 = 0)) = true then z :: nowF sh (j + 1) zs else nowF sh (j + 1) zs
theorem now_sub {x : Str} : ∀ (zs : List Str) (j : Nat), x ∈ nowF sh j zs → x ∈ zs
  | [], j, h => absurd h List.not_mem_nil
  | z :: zs, j, h => by
    unfold nowF at h
    split at h
    · rcases List.mem_cons.mp h with h | h
      · exact h ▸ List.mem_cons_self
      · exact List.mem_cons_of_mem _ (now_sub zs (j + 1) h)
    · exact List.mem_cons_of_mem _ (now_sub zs (j + 1) h)
theorem now_at : ∀ (zs : List Str) (j k : Nat), zs.Nodup → zs[k]? = some z → inN (nowF sh j zs) z = (inN sh z && decide ((j + k) % 2 = 0))
  | [], j, k, _, h => by simp at h
  | w :: zs, j, 0, nd, h => by
    have e0 : w = z := by simpa using h
    subst e0
    rw [List.nodup_cons] at nd
    show inN (nowF sh j (w :: zs)) w = (inN sh w && decide (j % 2 = 0))
    unfold nowF
    split
    · rename_i c
      rw [c, inN_iff.mpr List.mem_cons_self]
    · rename_i c
      have c' : (inN sh w && decide (j % 2 = 0)) = false := by
        cases d : (inN sh w && decide (j % 2 = 0)) with
        | true => exact absurd d c
        | false => rfl
      rw [c']
      cases d : inN (nowF sh (j + 1) zs) w with
      | true => exact absurd (now_sub zs (j + 1) (inN_iff.mp d)) nd.1
      | false => rfl
  | w :: zs, j, k + 1, nd, h => by
    rw [List.nodup_cons] at nd
    have hz : zs[k]? = some z := by simpa using h
    have ne : z ≠ w := fun e => nd.1 (e ▸ List.mem_of_getElem? hz)
    have ih := now_at zs (j + 1) k nd.2 hz
    rw [show j + 1 + k = j + (k + 1) by omega] at ih
    unfold nowF
    split
    · rw [← ih]
      show ((w == z) || _) = _
      rw [beq_eq_false_iff_ne.mpr (Ne.symm ne), Bool.false_or]
      rfl
    · exact ih
noncomputable def nwT : PEnv → M Bool := (andP (asB (bin2 (inO false) (fun ρ => getV ρ 1) (fun ρ => getV ρ 2))) (asB (bin2 (eqO false) (bin2 modO (fun ρ => getV ρ 0) (fun _ => M.ret (.int 2))) (fun _ => M.ret (.int 0)))))
theorem now_lc : ∀ (zs : List Str) (j : Nat) (e0 e1 : Ent), lcM (bindT [0, 1]) nwT (fun ρ => getV ρ 1) (enF j (zs.map PV.str)) [e0, e1, nL sh] = .ret ((nowF sh j zs).map PV.str)
  | [], j, e0, e1 => rfl
  | z :: zs, j, e0, e1 => by
    have ih := now_lc zs (j + 1) (val (.int j)) (val (.str z))
    have tt : nwT [val (.int j), val (.str z), nL sh] = .ret (inN sh z && decide (j % 2 = 0)) := by
      refine and_is ?_ ?_
      · simp only [asB, bin2, gV0, gVs, rZ, in_names, Bool.false_xor]
      · unfold asB
        rw [bin2_is (bin2_is rfl rfl (modI (by decide))) rfl (eqI _ _), rZ]
        have : ((j : Int) % 2 == 0) = decide (j % 2 = 0) := by
          by_cases c : j % 2 = 0
          · rw [decide_eq_true c]; simp; omega
          · rw [decide_eq_false c]; simp; omega
        rw [this]
    rw [List.map_cons]
    unfold enF lcM
    have eb : bindT [0, 1] (.tup [.int (j : Int), .str z]) [e0, e1, nL sh] = .ret [val (.int j), val (.str z), nL sh] := rfl
    rw [eb, rZ, tt, rZ]
    unfold nowF
    cases c : (inN sh z && decide (j % 2 = 0)) with
    | true =>
      rw [if_pos rfl, if_pos rfl, ih]
      rfl
    | false =>
      rw [if_neg (by decide), if_neg (by decide), ih]
end
theorem right_is {h : PV} {ws : List (Str × List PV)} {dark : Int} {A : List (Str × List Str)} {sh : List Str} (H : HillP h ws dark) (hA : ∀ w ∈ ws.map (·.1), ∃ p ∈ A, p.1 = w) (hl : ∀ p ∈ A, p.2.length ≤ 900) (hin : ∀ w ∈ ws.map (·.1), ∀ o ∈ osA A w, o ∈ ws.map (·.1)) (hs : sh.length < 900) :
    Gen (F_law_right [.bag, h, .dct (dcA A), .lst (sh.map PV.str)]) 1 (fun y => y = .bl true) := by
  obtain ⟨hm, eh, w0, w1, hww, d0, d1, nd⟩ := H
  obtain ⟨ns, ens⟩ : ∃ ns, ns = ws.map (fun p : Str × List PV => p.1) := ⟨_, rfl⟩
  have hn : ns.length ≤ 12 := by rw [ens, List.length_map]; exact w1
  have hA' : ∀ w ∈ ns, ∃ p ∈ A, p.1 = w := by rw [ens]; exact hA
  have hl' : ∀ p ∈ A, p.2.length ≤ 1000 := fun p hp => Nat.le_trans (hl p hp) (by decide)
  have nd' : ns.Nodup := by rw [ens]; exact nd
  have i0 : ixO h (.int 0) = .ret (.tup (ws.map wayP)) := by rw [eh]; simp only [ixO, at0, M.ofO]
  have i2 : ixO h (.int 2) = .ret (.int dark) := by rw [eh]; simp only [ixO, at_2, M.ofO]
  unfold F_law_right m_law_right
  show Gen ((seqP _ _ [val .bag, val h, val (.dct (dcA A)), nL sh, un, un, un, un, un]).bind finP) 1 _
  refine Gen.le (gseqF (c := 0) (d := 1) (I := fun ρ => ρ = [val .bag, val h, val (.dct (dcA A)), nL sh, nL ns, un, un, un, un]) (gnx ?_ rfl) ?_) (by decide)
  · have q := lcM_gen (m := wayP) (k := 0) (tt := allTs) (te := bin2 ixO (fun ρ => getV ρ 0) (fun _ => M.ret (.int 0))) (p := fun _ => true) (g := fun p => PV.str p.1) (ρ := [un]) ws [un] (fun _ => rfl) (fun _ _ => rfl) (fun p _ _ => bin2_is (y := wayP p) rfl (z := .int 0) rfl (by simp only [ixO, at0, M.ofO]))
    rw [show ws.filter (fun _ => true) = ws by simp] at q
    have hlen : (ws.map wayP).length ≤ 100000 := by rw [List.length_map]; omega
    unfold setP lstV mkLC
    dsimp only
    rw [show ((bin2 ixO (fun ρ => getV ρ 1) (fun _ => M.ret (.int 0))) [val .bag, val h, val (.dct (dcA A)), nL sh, un, un, un, un, un]) = .ret (.tup (ws.map wayP)) from bin2_is rfl rfl i0]
    simp only [rZ, iterO, if_pos hlen]
    rw [show capP [none] [val .bag, val h, val (.dct (dcA A)), nL sh, un, un, un, un, un] = [un] from rfl, q, rZ, rZ, show (ws.map fun p => PV.str p.1) = ns.map PV.str by rw [ens, List.map_map]; rfl]
    rfl
  rintro _ rfl
  refine Gen.le (gseqF (c := 1) (d := 0) (I := fun ρ => ∃ late : Int, 1 ≤ late ∧ ρ = [val .bag, val h, val (.dct (dcA A)), nL sh, nL ns, val (.int late), un, un, un]) ?_ ?_) (by decide)
  · simp only [setP, bin2, consA, gV0, gVs, rZ, F_law_pick, M.bZ, i2]
    refine Gen.le (Gen.bind (Gen.draw (by omega) (by omega)) (d := 0) ?_) (by decide)
    rintro _ ⟨d, rfl, e0, e1⟩
    exact Gen.eq (y := .nx _) rfl ⟨_, rfl, 1 + d, by omega, rfl⟩
  rintro _ ⟨late, l1, rfl⟩
  obtain ⟨S, fS, LS⟩ := free_is (sh := sh) hA' hl' (by omega)
  obtain ⟨S2, fS2, LS2⟩ := free_is (sh := nowF sh 0 ns) hA' hl' (by omega)
  have bk := book_is (sh := sh) (late := late) hA' hl' hn
  have sk := stuck_is (sh := sh) hA' hl' (by omega) hs
  rw [← stuck_free (by rw [ens]; exact hin) LS] at sk
  refine Gen.eq (y := .bl true) ?_ rfl
  refine seq_nx (ρ' := [val .bag, val h, val (.dct (dcA A)), nL sh, nL ns, val (.int late), val (.tup (pgF A sh late 0 ns)), un, un]) (by simp only [setP, consA, gV0, gVs, rZ, bk]; rfl) ?_
  refine seq_nx (ρ' := [val .bag, val h, val (.dct (dcA A)), nL sh, nL ns, val (.int late), val (.tup (pgF A sh late 0 ns)), val (.tup (S.map PV.str)), un]) (by simp only [setP, consA, gV0, gVs, rZ, fS]; rfl) ?_
  have hlen : (ns.map PV.str).length ≤ 100000 := by rw [List.length_map]; omega
  have q1 := lcM_gen (m := PV.str) (k := 0) (tt := niT) (te := fun ρ => getV ρ 0) (p := fun w => !inN S w) (g := PV.str) (ρ := [un, val (.tup (S.map PV.str))]) ns [un, val (.tup (S.map PV.str))] (fun _ => rfl) (fun o ho => by
    simp only [niT, asB, bin2, List.set_cons_zero, gV0, gVs, rZ, in_namesT, Bool.true_xor]) (fun o _ _ => rfl)
  refine seq_nx (ρ' := [val .bag, val h, val (.dct (dcA A)), nL sh, nL ns, val (.int late), val (.tup (pgF A sh late 0 ns)), val (.tup (S.map PV.str)), un]) (if_f ?_) ?_
  · unfold asB
    rw [bin2_is (y := .lst ((ns.filter fun w => !inN S w).map PV.str)) (z := .lst ((ns.filter fun w => !inN S w).map PV.str)) (v := .bl false) ?_ ?_ ?_, rZ]
    · show lstV (mkLC [none, some 7] _ (bindN 0) niT _) _ = _
      unfold lstV mkLC
      simp only [gV0, gVs, rZ, iterO, if_pos hlen]
      rw [show capP [none, some 7] [val .bag, val h, val (.dct (dcA A)), nL sh, nL ns, val (.int late), val (.tup (pgF A sh late 0 ns)), val (.tup (S.map PV.str)), un] = [un, val (.tup (S.map PV.str))] from rfl, q1]
      rfl
    · simp only [consA, gV0, gVs, rZ, sk]
    · rw [ne_strs]; simp
  refine seq_nx (ρ' := [val .bag, val h, val (.dct (dcA A)), nL sh, nL ns, val (.int late), val (.tup (pgF A sh late 0 ns)), val (.tup (S.map PV.str)), nL (nowF sh 0 ns)]) ?_ ?_
  · show setP 8 (lstV (mkLC [none, none, some 3] _ (bindT [0, 1]) nwT _)) _ = _
    have hle : (enF 0 (ns.map PV.str)).length ≤ 100000 := by
      rw [← enum_is, enumL_len, List.length_map]
      omega
    unfold setP lstV mkLC
    simp only [consA, gV0, gVs, rZ, enLO, enum_is, if_pos hle]
    rw [show capP [none, none, some 3] [val .bag, val h, val (.dct (dcA A)), nL sh, nL ns, val (.int late), val (.tup (pgF A sh late 0 ns)), val (.tup (S.map PV.str)), un] = [un, un, nL sh] from rfl, now_lc]
    rfl
  have at_ : ∀ p ∈ ws, ∃ k, ns[k]? = some p.1 := fun p hp => by
    obtain ⟨k, hk, e⟩ := List.getElem_of_mem (show p.1 ∈ ns by rw [ens]; exact List.mem_map_of_mem hp)
    exact ⟨k, by rw [List.getElem?_eq_getElem hk, e]⟩
  have o1 : F_open_ways [h, .tup (pgF A sh late 0 ns), .int 0] = .ret (.tup (S.map PV.str)) := by
    rw [eh]
    refine open_for (sh := sh) (A := A) (fun p hp => ?_) nd (by omega) hl' (by rw [ens] at LS; exact LS)
    obtain ⟨k, hk⟩ := at_ p hp
    show F_others_asked [_, .tup (.str p.1 :: p.2), .int 0] = _
    rw [asked_at (by decide) nd' hl hk]
    have e : hdA 0 (oddR late k) = false := by
      unfold oddR
      split
      · rfl
      · show (decide (late ≤ 0) && _) = false
        rw [decide_eq_false (by omega)]; rfl
    rw [e]; rfl
  have o2 : F_open_ways [h, .tup (pgF A sh late 0 ns), .int late] = .ret (.tup (S2.map PV.str)) := by
    rw [eh]
    refine open_for (sh := nowF sh 0 ns) (A := A) (fun p hp => ?_) nd (by omega) hl' (by rw [ens] at LS2 ⊢; exact LS2)
    obtain ⟨k, hk⟩ := at_ p hp
    show F_others_asked [_, .tup (.str p.1 :: p.2), .int late] = _
    rw [asked_at (by omega) nd' hl hk, now_at ns 0 k nd' hk, Nat.zero_add]
    have e : hdA late (oddR late k) = !decide (k % 2 = 0) := by
      unfold oddR
      by_cases c : k % 2 = 0
      · rw [if_pos c, decide_eq_true c]; rfl
      · rw [if_neg c, decide_eq_false c]
        show (decide (late ≤ late) && decide (late < late + 1)) = true
        rw [decide_eq_true (Int.le_refl _), decide_eq_true (by omega)]; rfl
    rw [e]
    cases inN sh p.1 <;> cases decide (k % 2 = 0) <;> rfl
  refine fin_y (ret_y ?_)
  have tb : ∀ {m k : PEnv → M PV} {ρ : PEnv}, m ρ = .ret (.bl true) → andV m k ρ = k ρ := fun {m k ρ} e => by unfold andV asB; rw [e]; rfl
  show andV _ _ [val .bag, val h, val (.dct (dcA A)), nL sh, nL ns, val (.int late), val (.tup (pgF A sh late 0 ns)), val (.tup (S.map PV.str)), nL (nowF sh 0 ns)] = _
  rw [tb (bin2_is (y := .tup (S.map PV.str)) (z := .tup (S.map PV.str)) (by simp only [consA, gV0, gVs, rZ, o1]) rfl (eq_tups S))]
  exact bin2_is (y := .tup (S2.map PV.str)) (z := .tup (S2.map PV.str)) (by simp only [consA, gV0, gVs, rZ, o2]) (by simp only [consA, gV0, gVs, rZ, fS2]) (eq_tups S2)
def chA : List Str → List (Str × List Str)
  | [] => []
  | [x] => [(x, [])]
  | x :: y :: r => (x, [y]) :: chA (y :: r)
def rowA (p : Str × List Str) : PV := .tup [.str p.1, .lst (p.2.map PV.str)]
theorem chA_names : ∀ l : List Str, (chA l).map (·.1) = l
  | [] => rfl
  | [x] => rfl
  | x :: y :: r => by
    unfold chA
    rw [List.map_cons, chA_names (y :: r)]
theorem chA_zip : ∀ (l : List Str) (z : Str), l.getLast? = some z → (zipL (l.map PV.str) ((l.drop 1).map PV.str)).map (fun q => match q with | .tup [a, b] => PV.tup [a, .lst [b]] | _ => .non) ++ [PV.tup [.str z, .lst []]] = (chA l).map rowA
  | [], z, h => by cases h
  | [x], z, h => by
    have e : x = z := by simpa using h
    subst e
    rfl
  | x :: y :: r, z, h => by
    have h' : (y :: r).getLast? = some z := by simpa using h
    have ih := chA_zip (y :: r) z h'
    show _ = rowA (x, [y]) :: (chA (y :: r)).map rowA
    rw [← ih]
    rfl
theorem chA_all : ∀ (l : List Str), ∀ p ∈ chA l, p.2.length ≤ 1 ∧ ∀ o ∈ p.2, o ∈ l
  | [], p, h => absurd h List.not_mem_nil
  | [x], p, h => by
    rw [List.mem_singleton.mp h]
    exact ⟨Nat.zero_le _, fun o ho => absurd ho List.not_mem_nil⟩
  | x :: y :: r, p, h => by
    unfold chA at h
    rcases List.mem_cons.mp h with rfl | h
    · exact ⟨Nat.le_refl _, fun o ho => by rw [List.mem_singleton.mp ho]; exact List.mem_cons_of_mem _ List.mem_cons_self⟩
    · obtain ⟨h1, h2⟩ := chA_all (y :: r) p h
      exact ⟨h1, fun o ho => List.mem_cons_of_mem _ (h2 o ho)⟩
theorem prs_rows : ∀ (B : List (Str × List Str)), prsK (B.map rowA) = some (dcA B)
  | [] => rfl
  | p :: B => by
    rw [List.map_cons]
    unfold prsK
    rw [prs_rows B]
    rfl
theorem put_rows : ∀ (B C : List (Str × List Str)), ((C ++ B).map (·.1)).Nodup → (dcA B).foldl (fun t kv => putP t kv.1 kv.2) (dcA C) = dcA (C ++ B)
  | [], C, _ => by rw [List.append_nil]; rfl
  | p :: B, C, nd => by
    have nd' : (((C ++ [p]) ++ B).map (·.1)).Nodup := by simpa using nd
    have hp : ∀ q ∈ C, q.1 ≠ p.1 := fun q hq e => by
      rw [List.map_append, List.map_append] at nd'
      have := (List.nodup_append.mp (List.nodup_append.mp nd').1).2.2 q.1 (List.mem_map_of_mem hq) p.1 (by simp)
      exact this e
    show (dcA B).foldl _ (putP (dcA C) (kn p.1) (.lst (p.2.map PV.str))) = _
    rw [put_dcA hp, put_rows B (C ++ [(p.1, p.2)]) nd', List.append_assoc]
    rfl
theorem dict_rows {B : List (Str × List Str)} (nd : (B.map (·.1)).Nodup) (hl : B.length < 100000) : dictO [.lst (B.map rowA)] = .ret (.dct (dcA B)) := by
  have e := put_rows B [] (by simpa using nd)
  unfold dictO
  dsimp only
  rw [if_pos (by rw [List.length_map]; exact hl), prs_rows]
  show M.ret (PV.dct ((dcA B).foldl _ (dcA []))) = _
  rw [e]
  rfl
theorem osA_in {B : List (Str × List Str)} {ns : List Str} (h : ∀ p ∈ B, ∀ o ∈ p.2, o ∈ ns) (w : Str) : ∀ o ∈ osA B w, o ∈ ns := fun o ho => by
  unfold osA at ho
  cases c : B.find? fun p => decide (p.1 = w) with
  | none => rw [c] at ho; exact absurd ho List.not_mem_nil
  | some p => rw [c] at ho; exact h p (List.mem_of_find?_eq_some c) o ho
theorem gen_lcf {tt : PEnv → M Bool} {ρ : PEnv} (h : ∀ z : Str, Gen (tt (ρ.set 0 (.val (.str z)))) 1 fun _ => True) (h0 : 0 < ρ.length) : ∀ (zs : List Str) (ρ' : PEnv), (∀ e, ρ'.set 0 e = ρ.set 0 e) → Gen (lcM (bindN 0) tt (fun ρ => getV ρ 0) (zs.map PV.str) ρ') zs.length (fun us => ∃ sh : List Str, us = sh.map PV.str ∧ sh.length ≤ zs.length ∧ ∀ x ∈ sh, x ∈ zs)
  | [], ρ', _ => Gen.ret ⟨[], rfl, Nat.le_refl _, fun x hx => absurd hx List.not_mem_nil⟩
  | z :: zs, ρ', hρ => by
    have ih := gen_lcf h h0 zs (ρ.set 0 (.val (.str z))) (fun e => by rw [List.set_set])
    have gv : getV (ρ.set 0 (.val (.str z))) 0 = .ret (.str z) := by
      cases ρ with
      | nil => exact absurd h0 (Nat.lt_irrefl _)
      | cons e r => rfl
    rw [List.map_cons]
    unfold lcM
    simp only [bindN, rZ, hρ]
    refine Gen.le (Gen.bind (h z) (d := zs.length) fun b _ => ?_) (by rw [List.length_cons]; omega)
    cases b with
    | true =>
      rw [if_pos rfl, gv, rZ]
      refine Gen.le (Gen.bind ih (d := 0) ?_) (by omega)
      rintro _ ⟨sh, rfl, s1, s2⟩
      refine Gen.ret ⟨z :: sh, rfl, by simp; omega, fun x hx => ?_⟩
      rcases List.mem_cons.mp hx with rfl | hx
      · exact List.mem_cons_self
      · exact List.mem_cons_of_mem _ (s2 x hx)
    | false =>
      rw [if_neg (by decide)]
      refine ih.mono (Nat.le_refl _) ?_
      rintro _ ⟨sh, rfl, s1, s2⟩
      exact ⟨sh, rfl, by simp; omega, fun x hx => List.mem_cons_of_mem _ (s2 x hx)⟩
abbrev LE (e2 e3 e4 e5 e6 e7 e8 e9 e10 e11 : Ent) : PEnv := [un, val .bag, e2, e3, e4, e5, e6, e7, e8, e9, e10, e11]
noncomputable def lwB : PEnv → M Fl := (seqP (setP 3 (fun ρ => ((consA (fun ρ => getV ρ 1) (consA (bin2 ixO (lstV (fun ρ => ((consA (fun _ => M.ret (.int 3)) (consA (fun _ => M.ret (.int 6)) (consA (fun _ => M.ret (.int 12)) (fun _ => M.ret [])))) ρ).bind mkLst)) (fun ρ => ((consA (fun ρ => getV ρ 1) (consA (fun _ => M.ret (.int 3)) (fun _ => M.ret []))) ρ).bind F_law_pick)) (consA (fun _ => M.ret (.int 1)) (fun _ => M.ret [])))) ρ).bind F_law_hill))
    (seqP (setP 4 (lstV (mkLC [none] (fun ρ => ((bin2 ixO (fun ρ => getV ρ 3) (fun _ => M.ret (.int 0))) ρ).bind iterO) (bindN 0) allTs (bin2 ixO (fun ρ => getV ρ 0) (fun _ => M.ret (.int 0))))))
    (seqP (setP 5 (bin2 ixO (lstV (fun ρ => ((consA (fun _ => M.ret (.int 2)) (consA (fun _ => M.ret (.int 2)) (consA (fun _ => M.ret (.int 4)) (fun _ => M.ret [])))) ρ).bind mkLst)) (fun ρ => ((consA (fun ρ => getV ρ 1) (consA (fun _ => M.ret (.int 3)) (fun _ => M.ret []))) ρ).bind F_law_pick)))
    (seqP (ownDP 6)
    (seqP (mkFor (fun ρ => ((fun ρ => getV ρ 4) ρ).bind iterO) (bindN 7)
    (dputP 6 (fun ρ => getV ρ 7) (lstV (mkLC [none, some 4, some 1] (fun ρ => ((consA (fun ρ => ((consA (fun ρ => getV ρ 1) (consA (fun ρ => getV ρ 5) (fun _ => M.ret []))) ρ).bind F_law_pick) (fun _ => M.ret [])) ρ).bind rng1O) (bindN 0) allTs (bin2 ixO (fun ρ => getV ρ 1) (fun ρ => ((consA (fun ρ => getV ρ 2) (consA (fun ρ => ((consA (fun ρ => getV ρ 1) (fun _ => M.ret [])) ρ).bind lenO) (fun _ => M.ret []))) ρ).bind F_law_pick))))))
    (seqP (setP 8 (bin2 addO (fun _ => M.ret (.int 2)) (fun ρ => ((consA (fun ρ => getV ρ 1) (consA (fun _ => M.ret (.int 5)) (fun _ => M.ret []))) ρ).bind F_law_pick)))
    (seqP (setP 9 (lstV (mkLC [none, some 1, some 8] (fun ρ => ((fun ρ => getV ρ 4) ρ).bind iterO) (bindN 0) (asB (bin2 (eqO false) (fun ρ => ((consA (fun ρ => getV ρ 1) (consA (fun ρ => getV ρ 2) (fun _ => M.ret []))) ρ).bind F_law_pick) (fun _ => M.ret (.int 0)))) (fun ρ => getV ρ 0))))
    (seqP (ifP (orP (notP (asB (fun ρ => ((consA (fun ρ => getV ρ 1) (consA (fun ρ => getV ρ 3) (consA (fun ρ => getB ρ 6) (consA (fun ρ => getV ρ 9) (fun _ => M.ret []))))) ρ).bind fun l => (F_law_right l).bind flatM))) (notP (asB (fun ρ => ((consA (fun ρ => getV ρ 1) (consA (fun ρ => getV ρ 3) (consA (fun ρ => getB ρ 6) (consA (lstV (fun ρ => ((fun _ => M.ret []) ρ).bind mkLst)) (fun _ => M.ret []))))) ρ).bind fun l => (F_law_right l).bind flatM))))
    (retP (fun _ => M.ret (.bl false)))
    (fun ρ => M.ret (.nx ρ)))
    (seqP (ownP 10 (fun ρ => ((fun _ => M.ret []) ρ).bind mkLst))
    (seqP (mkFor (fun ρ => ((fun ρ => getV ρ 4) ρ).bind iterO) (bindN 7)
    (insP 10 (consA (fun ρ => ((consA (fun ρ => getV ρ 1) (consA (bin2 addO (fun ρ => ((consA (fun ρ => getB ρ 10) (fun _ => M.ret [])) ρ).bind lenO) (fun _ => M.ret (.int 1))) (fun _ => M.ret []))) ρ).bind F_law_pick) (consA (fun ρ => getV ρ 7) (fun _ => M.ret [])))))
    (seqP (frzP (setP 11 (fun ρ => ((consA (lstV (catF (lstV (mkLC [none, none] (fun ρ => ((consA (fun ρ => getV ρ 10) (consA (sl3 slE (fun ρ => getV ρ 10) (fun ρ => ((fun _ => M.ret (.int 1)) ρ).bind fun y => (intM y).bind fun i => M.ret (some i)) (fun _ => M.ret none)) (fun _ => M.ret []))) ρ).bind zipLO) (bindT [0, 1]) allTs (fun ρ => ((consA (fun ρ => getV ρ 0) (consA (lstV (fun ρ => ((consA (fun ρ => getV ρ 1) (fun _ => M.ret [])) ρ).bind mkLst)) (fun _ => M.ret []))) ρ).bind mkTup))) (lstV (fun ρ => ((consA (fun ρ => ((consA (bin2 ixO (fun ρ => getV ρ 10) (fun ρ => ((fun _ => M.ret (.int 1)) ρ).bind negO)) (consA (lstV (fun ρ => ((fun _ => M.ret []) ρ).bind mkLst)) (fun _ => M.ret []))) ρ).bind mkTup) (fun _ => M.ret [])) ρ).bind mkLst)))) (fun _ => M.ret [])) ρ).bind dictO)))
    (ifP (orP (notP (asB (fun ρ => ((consA (fun ρ => getV ρ 1) (consA (fun ρ => getV ρ 3) (consA (fun ρ => getV ρ 11) (consA (lstV (fun ρ => ((fun _ => M.ret []) ρ).bind mkLst)) (fun _ => M.ret []))))) ρ).bind F_law_right))) (notP (asB (fun ρ => ((consA (fun ρ => getV ρ 1) (consA (fun ρ => getV ρ 3) (consA (fun ρ => getV ρ 11) (consA (sl3 slE (fun ρ => getV ρ 10) (fun ρ => ((fun ρ => ((fun _ => M.ret (.int 1)) ρ).bind negO) ρ).bind fun y => (intM y).bind fun i => M.ret (some i)) (fun _ => M.ret none)) (fun _ => M.ret []))))) ρ).bind F_law_right))))
    (retP (fun _ => M.ret (.bl false)))
    (fun ρ => M.ret (.nx ρ))))))))))))))
theorem strs_inv {ns : List Str} : ∀ {l : List PV}, (∀ y ∈ l, y ∈ ns.map PV.str) → ∃ os : List Str, l = os.map PV.str ∧ ∀ o ∈ os, o ∈ ns
  | [], _ => ⟨[], rfl, fun o ho => absurd ho List.not_mem_nil⟩
  | y :: l, h => by
    obtain ⟨o, ho, rfl⟩ := List.mem_map.mp (h y List.mem_cons_self)
    obtain ⟨os, rfl, h2⟩ := strs_inv fun y hy => h y (List.mem_cons_of_mem _ hy)
    exact ⟨o :: os, rfl, fun x hx => by
      rcases List.mem_cons.mp hx with rfl | hx
      · exact ho
      · exact h2 x hx⟩
noncomputable def lpE : PEnv → M PV := (lstV (mkLC [none, some 4, some 1] (fun ρ => ((consA (fun ρ => ((consA (fun ρ => getV ρ 1) (consA (fun ρ => getV ρ 5) (fun _ => M.ret []))) ρ).bind F_law_pick) (fun _ => M.ret [])) ρ).bind rng1O) (bindN 0) allTs (bin2 ixO (fun ρ => getV ρ 1) (fun ρ => ((consA (fun ρ => getV ρ 2) (consA (fun ρ => ((consA (fun ρ => getV ρ 1) (fun _ => M.ret [])) ρ).bind lenO) (fun _ => M.ret []))) ρ).bind F_law_pick))))
theorem gen_others {ns : List Str} {most : Int} {e2 e3 e6 e7 e8 e9 e10 e11 : Ent} (hn : 1 ≤ ns.length) (hn2 : ns.length ≤ 12) (m0 : 1 ≤ most) (m1 : most ≤ 4) :
    Gen (lpE (LE e2 e3 (nL ns) (val (.int most)) e6 e7 e8 e9 e10 e11)) 5 (fun y => ∃ os : List Str, y = .lst (os.map PV.str) ∧ os.length ≤ 4 ∧ ∀ o ∈ os, o ∈ ns) := by
  unfold lpE lstV mkLC
  simp only [consA, gV0, gVs, rZ, F_law_pick, M.bZ]
  refine Gen.le (Gen.bind (Gen.draw (by omega) (by omega)) (d := 4) ?_) (by decide)
  rintro _ ⟨d, rfl, d0, d1⟩
  have er : rng1O [.int d] = .ret (intsP 0 d.toNat) := by
    unfold rng1O
    dsimp only
    rw [if_pos ⟨by omega, by omega⟩]
  have il : (intsP 0 d.toNat).length = d.toNat := by simp [intsP]
  simp only [rZ, er]
  rw [if_pos (by omega), show capP [none, some 4, some 1] (LE e2 e3 (nL ns) (val (.int most)) e6 e7 e8 e9 e10 e11) = [un, nL ns, val .bag] from rfl]
  refine Gen.le (Gen.bind (Gen.lc (ρ := [un, nL ns, val .bag]) (c := 1) (Pr := fun y => y ∈ ns.map PV.str) _ _ (fun _ => rfl) (fun y hy => ?_)) (d := 0) ?_) (by omega)
  · simp only [List.set_cons_zero, bin2, gV0, gVs, rZ, lenO, List.length_map]
    exact gen_at (l := ns.map PV.str) (by rw [List.length_map]) (by rw [List.length_map]; omega) (by rw [List.length_map]; omega)
  · rintro us ⟨z1, z2⟩
    obtain ⟨os, rfl, h2⟩ := strs_inv z2
    exact Gen.eq rfl ⟨os, rfl, by rw [List.length_map] at z1; omega, h2⟩
theorem not_is {a : PEnv → M PV} {ρ : PEnv} {c : Nat} (h : Gen (a ρ) c fun y => y = .bl true) : Gen (notP (asB a) ρ) c fun b => b = false := by
  unfold notP asB
  rw [M.bZ]
  refine Gen.le (Gen.bind h (d := 0) ?_) (by omega)
  rintro _ rfl
  exact Gen.eq rfl rfl
theorem or_gen {a b : PEnv → M Bool} {ρ : PEnv} {c d : Nat} (ha : Gen (a ρ) c fun x => x = false) (hb : Gen (b ρ) d fun x => x = false) : Gen (orP a b ρ) (c + d) fun x => x = false := by
  unfold orP
  refine Gen.bind ha ?_
  rintro _ rfl
  rw [if_neg (by decide)]
  exact hb
theorem if_gen {c : PEnv → M Bool} {a b : PEnv → M Fl} {ρ : PEnv} {n : Nat} {Pr : Fl → Prop} (h : Gen (c ρ) n fun x => x = false) (hb : Gen (b ρ) 0 Pr) : Gen (ifP c a b ρ) n Pr := by
  unfold ifP
  refine Gen.le (Gen.bind h (d := 0) ?_) (by omega)
  rintro _ rfl
  rw [if_neg (by decide)]
  exact hb
theorem perm_ins {α : Type} (l : List α) (i : Nat) (y : α) : (l.take i ++ y :: l.drop i).Perm (l ++ [y]) := by
  refine List.perm_middle.trans ?_
  rw [List.take_append_drop]
  exact (List.perm_append_comm (l₁ := [y]) (l₂ := l))
theorem last_of {l : List Str} (h : 0 < l.length) : ∃ z, l.getLast? = some z ∧ l.drop (l.length - 1) = [z] := by
  have hne : l ≠ [] := fun e => by rw [e] at h; exact absurd h (Nat.lt_irrefl _)
  refine ⟨l.getLast hne, List.getLast?_eq_some_getLast hne, ?_⟩
  have e := List.dropLast_concat_getLast hne
  have e2 : (l.dropLast ++ [l.getLast hne]).drop l.dropLast.length = [l.getLast hne] := List.drop_left
  rw [e, List.length_dropLast] at e2
  exact e2
noncomputable def zpE : PEnv → M PV := (fun ρ => ((consA (fun ρ => getV ρ 0) (consA (lstV (fun ρ => ((consA (fun ρ => getV ρ 1) (fun _ => M.ret [])) ρ).bind mkLst)) (fun _ => M.ret []))) ρ).bind mkTup)
noncomputable def zpI : PEnv → M (List PV) := (fun ρ => ((consA (fun ρ => getV ρ 10) (consA (sl3 slE (fun ρ => getV ρ 10) (fun ρ => ((fun _ => M.ret (.int 1)) ρ).bind fun y => (intM y).bind fun i => M.ret (some i)) (fun _ => M.ret none)) (fun _ => M.ret []))) ρ).bind zipLO)
noncomputable def zpL : PEnv → M (List PV) := (fun ρ => ((consA (fun ρ => ((consA (bin2 ixO (fun ρ => getV ρ 10) (fun ρ => ((fun _ => M.ret (.int 1)) ρ).bind negO)) (consA (lstV (fun ρ => ((fun _ => M.ret []) ρ).bind mkLst)) (fun _ => M.ret []))) ρ).bind mkTup) (fun _ => M.ret [])) ρ).bind mkLst)
theorem zip_lc : ∀ (l m : List Str) (e0 e1 : Ent), lcM (bindT [0, 1]) allTs zpE (zipL (l.map PV.str) (m.map PV.str)) [e0, e1] = .ret ((zipL (l.map PV.str) (m.map PV.str)).map fun q => match q with | .tup [a, b] => PV.tup [a, .lst [b]] | _ => .non)
  | [], m, e0, e1 => rfl
  | x :: l, [], e0, e1 => rfl
  | x :: l, y :: m, e0, e1 => by
    have ih := zip_lc l m (val (.str x)) (val (.str y))
    show lcM (bindT [0, 1]) allTs zpE (.tup [.str x, .str y] :: zipL (l.map PV.str) (m.map PV.str)) [e0, e1] = .ret (.tup [.str x, .lst [.str y]] :: _)
    unfold lcM
    have eb : bindT [0, 1] (.tup [.str x, .str y]) [e0, e1] = .ret [val (.str x), val (.str y)] := rfl
    have et : zpE [val (.str x), val (.str y)] = .ret (.tup [.str x, .lst [.str y]]) := by
      unfold zpE
      simp only [consA, lstV, gV0, gVs, rZ, mkL1, mkT2]
    rw [eb, rZ]
    show (M.ret true).bind _ = _
    rw [rZ, if_pos rfl, et, rZ, ih]
    rfl
theorem turn_is {e2 e3 e4 e5 e6 e7 e8 e9 e10 e11 : Ent} : Gen (lwB (LE e2 e3 e4 e5 e6 e7 e8 e9 e10 e11)) 1000 (fun f => ∃ ρ', f = .nx ρ' ∧ ∃ e2 e3 e4 e5 e6 e7 e8 e9 e10 e11 : Ent, ρ' = LE e2 e3 e4 e5 e6 e7 e8 e9 e10 e11) := by
  unfold lwB
  refine Gen.le (gseq (c := 301) (d := 600) (I := fun ρ => ∃ h ws dark, HillP h ws dark ∧ ρ = LE e2 (val h) e4 e5 e6 e7 e8 e9 e10 e11) ?_ ?_) (by decide)
  · simp only [setP, consA, bin2, lstV, gV0, gVs, rZ, mkL3, F_law_pick, M.bZ]
    refine Gen.le (Gen.bind (Gen.draw (by omega) (by omega)) (d := 300) ?_) (by decide)
    rintro _ ⟨d, rfl, d0, d1⟩
    obtain ⟨y, hy, e⟩ := atI_in (l := [PV.int 3, PV.int 6, PV.int 12]) d0 d1
    obtain ⟨m, rfl, m0, m1⟩ : ∃ m : Int, y = .int m ∧ 1 ≤ m ∧ m ≤ 12 := by
      simp only [List.mem_cons, List.not_mem_nil, or_false] at hy
      rcases hy with rfl | rfl | rfl <;> exact ⟨_, rfl, by decide, by decide⟩
    simp only [ixO, e, M.ofO, rZ]
    refine Gen.le (Gen.bind (gen_hill (most := m) m0 m1 (by decide) (by decide)) (d := 0) ?_) (by decide)
    rintro h ⟨ws, dark, H⟩
    exact Gen.eq (y := .nx _) rfl ⟨_, rfl, h, ws, dark, H, rfl⟩
  rintro _ ⟨h, ws, dark, H, rfl⟩
  obtain ⟨hm, eh, w0, w1, hww, d0, d1, nd⟩ := id H
  obtain ⟨ns, ens⟩ : ∃ ns, ns = ws.map (fun p : Str × List PV => p.1) := ⟨_, rfl⟩
  have n0 : 1 ≤ ns.length := by rw [ens, List.length_map]; exact w0
  have n1 : ns.length ≤ 12 := by rw [ens, List.length_map]; exact w1
  have nd' : ns.Nodup := by rw [ens]; exact nd
  have i0 : ixO h (.int 0) = .ret (.tup (ws.map wayP)) := by rw [eh]; simp only [ixO, at0, M.ofO]
  have hlen : (ns.map PV.str).length ≤ 100000 := by rw [List.length_map]; omega
  refine Gen.le (gseq (c := 0) (d := 590) (I := fun ρ => ρ = LE e2 (val h) (nL ns) e5 e6 e7 e8 e9 e10 e11) (gnx ?_ rfl) ?_) (by decide)
  · have q := lcM_gen (m := wayP) (k := 0) (tt := allTs) (te := bin2 ixO (fun ρ => getV ρ 0) (fun _ => M.ret (.int 0))) (p := fun _ => true) (g := fun p => PV.str p.1) (ρ := [un]) ws [un] (fun _ => rfl) (fun _ _ => rfl) (fun p _ _ => bin2_is (y := wayP p) rfl (z := .int 0) rfl (by simp only [ixO, at0, M.ofO]))
    rw [show ws.filter (fun _ => true) = ws by simp] at q
    have hlw : (ws.map wayP).length ≤ 100000 := by rw [List.length_map]; omega
    unfold setP lstV mkLC
    dsimp only
    rw [show ((bin2 ixO (fun ρ => getV ρ 3) (fun _ => M.ret (.int 0))) (LE e2 (val h) e4 e5 e6 e7 e8 e9 e10 e11)) = .ret (.tup (ws.map wayP)) from bin2_is rfl rfl i0]
    simp only [rZ, iterO, if_pos hlw]
    rw [show capP [none] (LE e2 (val h) e4 e5 e6 e7 e8 e9 e10 e11) = [un] from rfl, q, rZ, rZ, show (ws.map fun p => PV.str p.1) = ns.map PV.str by rw [ens, List.map_map]; rfl]
    rfl
  rintro _ rfl
  refine Gen.le (gseq (c := 1) (d := 580) (I := fun ρ => ∃ most : Int, 1 ≤ most ∧ most ≤ 4 ∧ ρ = LE e2 (val h) (nL ns) (val (.int most)) e6 e7 e8 e9 e10 e11) ?_ ?_) (by decide)
  · simp only [setP, consA, bin2, lstV, gV0, gVs, rZ, mkL3, F_law_pick, M.bZ]
    refine Gen.le (Gen.bind (Gen.draw (by omega) (by omega)) (d := 0) ?_) (by decide)
    rintro _ ⟨d, rfl, d0, d1⟩
    obtain ⟨y, hy, e⟩ := atI_in (l := [PV.int 2, PV.int 2, PV.int 4]) d0 d1
    obtain ⟨m, rfl, m0, m1⟩ : ∃ m : Int, y = .int m ∧ 1 ≤ m ∧ m ≤ 4 := by
      simp only [List.mem_cons, List.not_mem_nil, or_false] at hy
      rcases hy with rfl | rfl | rfl <;> exact ⟨_, rfl, by decide, by decide⟩
    exact Gen.eq (y := .nx _) (by simp only [ixO, e, M.ofO, rZ]; rfl) ⟨_, rfl, m, m0, m1, rfl⟩
  rintro _ ⟨most, m0, m1, rfl⟩
  refine Gen.le (gseq (c := 0) (d := 570) (I := fun ρ => ρ = LE e2 (val h) (nL ns) (val (.int most)) (Ent.ownD (dcA [])) e7 e8 e9 e10 e11) (gnx rfl rfl) ?_) (by decide)
  rintro _ rfl
  refine Gen.le (gseq (c := 60) (d := 500) (I := fun ρ => ∃ (A : List (Str × List Str)) (e7 : Ent), A.map (·.1) = ns ∧ (∀ p ∈ A, p.2.length ≤ 4 ∧ ∀ o ∈ p.2, o ∈ ns) ∧ ρ = LE e2 (val h) (nL ns) (val (.int most)) (Ent.ownD (dcA A)) e7 e8 e9 e10 e11) ?_ ?_) (by decide)
  · simp only [mkFor, gV0, gVs, rZ, iterO]
    refine Gen.mono (forNI (k := 7) (c := 5) (Iv := fun i ρ => ∃ (A : List (Str × List Str)) (e7 : Ent), A.map (·.1) = ns.take i ∧ (∀ p ∈ A, p.2.length ≤ 4 ∧ ∀ o ∈ p.2, o ∈ ns) ∧ ρ = LE e2 (val h) (nL ns) (val (.int most)) (Ent.ownD (dcA A)) e7 e8 e9 e10 e11) (ns.map PV.str) 0 _ ⟨[], _, rfl, fun p hp => absurd hp List.not_mem_nil, rfl⟩ ?_) (by rw [List.length_map]; omega) ?_
    · rintro j y hy _ ⟨A, x7, hA, hB, rfl⟩
      rw [Nat.zero_add] at hA
      rw [List.getElem?_map] at hy
      obtain ⟨z, hz, rfl⟩ := Option.map_eq_some_iff.mp hy
      have hj : j < ns.length := (List.getElem?_eq_some_iff.mp hz).1
      show Gen (dputP 6 (fun ρ => getV ρ 7) lpE (LE e2 (val h) (nL ns) (val (.int most)) (Ent.ownD (dcA A)) (val (.str z)) e8 e9 e10 e11)) 5 _
      unfold dputP
      refine Gen.le (Gen.bind (gen_others n0 n1 m0 m1) (d := 0) ?_) (by decide)
      rintro _ ⟨os, rfl, ol, oi⟩
      have al : A.length = j := by
        have := congrArg List.length hA
        rw [List.length_map, List.length_take] at this
        omega
      have ne : ∀ p ∈ A, p.1 ≠ z := fun p hp e => by
        have h1 : p.1 ∈ ns.take j := by rw [← hA]; exact List.mem_map_of_mem hp
        obtain ⟨i, hi, ei⟩ := List.getElem_of_mem h1
        rw [List.length_take] at hi
        have ei' : ns[i]'(by omega) = z := by rw [List.getElem_take] at ei; rw [ei, e]
        have hz' : ns[j]'hj = z := by rw [List.getElem?_eq_getElem hj] at hz; exact Option.some.inj hz
        exact (List.pairwise_iff_getElem.mp nd' i j (by omega) hj (by omega)) (ei'.trans hz'.symm)
      have dl : (dcA A).length < 100000 := by unfold dcA; rw [List.length_map]; omega
      refine Gen.eq (y := .nx (LE e2 (val h) (nL ns) (val (.int most)) (Ent.ownD (dcA (A ++ [(z, os)]))) (val (.str z)) e8 e9 e10 e11)) ?_ ⟨_, rfl, A ++ [(z, os)], _, ?_, fun p hp => ?_, rfl⟩
      · simp only [List.getElem?_cons_succ, List.getElem?_cons_zero, gV0, gVs, rZ, keyO, M.ofO]
        rw [if_pos dl, put_dcA ne]
        rfl
      · rw [List.map_append, hA, Nat.zero_add, List.take_succ, hz]; rfl
      · rcases List.mem_append.mp hp with hp | hp
        · exact hB p hp
        · rw [List.mem_singleton.mp hp]; exact ⟨ol, oi⟩
    · rintro f ⟨ρ', rfl, A, x7, hA, hB, rfl⟩
      rw [List.length_map, Nat.zero_add, List.take_length] at hA
      exact ⟨_, rfl, A, x7, hA, hB, rfl⟩
  rintro _ ⟨A, x7, hA, hB, rfl⟩
  have cA : ∀ w ∈ ws.map (·.1), ∃ p ∈ A, p.1 = w := fun w hw => by
    have : w ∈ A.map (·.1) := by rw [hA, ens]; exact hw
    obtain ⟨p, hp, e⟩ := List.mem_map.mp this
    exact ⟨p, hp, e⟩
  have lA : ∀ p ∈ A, p.2.length ≤ 900 := fun p hp => Nat.le_trans (hB p hp).1 (by decide)
  have iA : ∀ w ∈ ws.map (·.1), ∀ o ∈ osA A w, o ∈ ws.map (·.1) := fun w _ => by
    have := osA_in (B := A) (ns := ns) (fun p hp => (hB p hp).2) w
    rw [ens] at this
    exact this
  refine Gen.le (gseq (c := 1) (d := 400) (I := fun ρ => ∃ of : Int, 2 ≤ of ∧ of ≤ 6 ∧ ρ = LE e2 (val h) (nL ns) (val (.int most)) (Ent.ownD (dcA A)) x7 (val (.int of)) e9 e10 e11) ?_ ?_) (by decide)
  · simp only [setP, consA, bin2, gV0, gVs, rZ, F_law_pick, M.bZ]
    refine Gen.le (Gen.bind (Gen.draw (by omega) (by omega)) (d := 0) ?_) (by decide)
    rintro _ ⟨d, rfl, d0, d1⟩
    exact Gen.eq (y := .nx _) rfl ⟨_, rfl, 2 + d, by omega, by omega, rfl⟩
  rintro _ ⟨of, o0, o1, rfl⟩
  refine Gen.le (gseq (c := 12) (d := 300) (I := fun ρ => ∃ sh : List Str, sh.length ≤ 12 ∧ ρ = LE e2 (val h) (nL ns) (val (.int most)) (Ent.ownD (dcA A)) x7 (val (.int of)) (nL sh) e10 e11) ?_ ?_) (by decide)
  · unfold setP lstV mkLC
    simp only [gV0, gVs, rZ, iterO, if_pos hlen, M.bZ]
    rw [show capP [none, some 1, some 8] (LE e2 (val h) (nL ns) (val (.int most)) (Ent.ownD (dcA A)) x7 (val (.int of)) e9 e10 e11) = [un, val .bag, val (.int of)] from rfl]
    refine Gen.le (Gen.bind (gen_lcf (ρ := [un, val .bag, val (.int of)]) (fun z => ?_) (Nat.succ_pos _) ns _ fun _ => rfl) (d := 0) ?_) (by omega)
    · simp only [asB, bin2, consA, List.set_cons_zero, gV0, gVs, rZ, F_law_pick, M.bZ]
      refine Gen.le (Gen.bind (Gen.draw (by omega) (by omega)) (d := 0) ?_) (by decide)
      rintro _ ⟨d, rfl, d0, d1⟩
      exact Gen.eq (by simp only [eqI, rZ]; rfl) trivial
    · rintro _ ⟨sh, rfl, s1, s2⟩
      exact Gen.eq (y := .nx _) rfl ⟨_, rfl, sh, by omega, rfl⟩
  rintro _ ⟨sh, s1, rfl⟩
  have fl : ∀ {m : M PV} {c : Nat}, Gen m c (fun y => y = .bl true) → Gen (m.bind flatM) c fun y => y = .bl true := fun {m c} g => by
    refine Gen.le (Gen.bind g (d := 0) ?_) (by omega)
    rintro _ rfl
    exact Gen.eq rfl rfl
  refine Gen.le (gseq (c := 2) (d := 200) (I := fun ρ => ρ = LE e2 (val h) (nL ns) (val (.int most)) (Ent.ownD (dcA A)) x7 (val (.int of)) (nL sh) e10 e11) ?_ ?_) (by decide)
  · refine if_gen (or_gen (c := 1) (d := 1) (not_is ?_) (not_is ?_)) (Gen.ret ⟨_, rfl, rfl⟩)
    · show Gen ((M.ret [PV.bag, h, .dct (dcA A), .lst (sh.map PV.str)]).bind fun l => (F_law_right l).bind flatM) 1 _
      rw [rZ]
      exact fl (right_is H cA lA iA (by omega))
    · show Gen ((M.ret [PV.bag, h, .dct (dcA A), .lst (([] : List Str).map PV.str)]).bind fun l => (F_law_right l).bind flatM) 1 _
      rw [rZ]
      exact fl (right_is H cA lA iA (by decide))
  rintro _ rfl
  refine Gen.le (gseq (c := 0) (d := 190) (I := fun ρ => ρ = LE e2 (val h) (nL ns) (val (.int most)) (Ent.ownD (dcA A)) x7 (val (.int of)) (nL sh) (Ent.own (([] : List Str).map PV.str)) e11) (gnx (by simp only [ownP, rZ, mkL0]; rfl) rfl) ?_) (by decide)
  rintro _ rfl
  refine Gen.le (gseq (c := 12) (d := 100) (I := fun ρ => ∃ (os : List Str) (x7 : Ent), os.Perm ns ∧ ρ = LE e2 (val h) (nL ns) (val (.int most)) (Ent.ownD (dcA A)) x7 (val (.int of)) (nL sh) (Ent.own (os.map PV.str)) e11) ?_ ?_) (by decide)
  · simp only [mkFor, gV0, gVs, rZ, iterO]
    refine Gen.mono (forNI (k := 7) (c := 1) (Iv := fun i ρ => ∃ (os : List Str) (x7 : Ent), os.Perm (ns.take i) ∧ ρ = LE e2 (val h) (nL ns) (val (.int most)) (Ent.ownD (dcA A)) x7 (val (.int of)) (nL sh) (Ent.own (os.map PV.str)) e11) (ns.map PV.str) 0 _ ⟨[], _, List.Perm.refl _, rfl⟩ ?_) (by rw [List.length_map]; omega) ?_
    · rintro j y hy _ ⟨os, y7, hp, rfl⟩
      rw [Nat.zero_add] at hp
      rw [List.getElem?_map] at hy
      obtain ⟨z, hz, rfl⟩ := Option.map_eq_some_iff.mp hy
      have hj : j < ns.length := (List.getElem?_eq_some_iff.mp hz).1
      have ol : os.length = j := by have := hp.length_eq; rw [List.length_take] at this; omega
      have ea : addO (.int ((os.map PV.str).length : Int)) (.int 1) = .ret (.int (((os.map PV.str).length : Int) + 1)) := rfl
      show Gen (insP 10 _ (LE e2 (val h) (nL ns) (val (.int most)) (Ent.ownD (dcA A)) (val (.str z)) (val (.int of)) (nL sh) (Ent.own (os.map PV.str)) e11)) 1 _
      unfold insP
      simp only [List.getElem?_cons_succ, List.getElem?_cons_zero, consA, bin2, gV0, gVs, gB0o, gBs, rZ, lenO, ea, F_law_pick, M.bZ]
      refine Gen.le (Gen.bind (Gen.draw (by rw [List.length_map]; omega) (by rw [List.length_map]; omega)) (d := 0) ?_) (by decide)
      rintro _ ⟨d, rfl, d0, d1⟩
      rw [List.length_map] at d1
      have cnd : 0 ≤ d ∧ d ≤ ((os.map PV.str).length : Int) ∧ (os.map PV.str).length < 100000 := by rw [List.length_map]; omega
      refine Gen.eq (y := .nx (LE e2 (val h) (nL ns) (val (.int most)) (Ent.ownD (dcA A)) (val (.str z)) (val (.int of)) (nL sh) (Ent.own ((os.take d.toNat ++ z :: os.drop d.toNat).map PV.str)) e11)) ?_ ⟨_, rfl, os.take d.toNat ++ z :: os.drop d.toNat, _, ?_, rfl⟩
      · simp only [rZ]
        rw [if_pos cnd, List.map_append, List.map_cons, List.map_take, List.map_drop]
        rfl
      · refine (perm_ins os d.toNat z).trans ?_
        rw [Nat.zero_add, List.take_succ, hz]
        exact hp.append_right _
    · rintro f ⟨ρ', rfl, os, y7, hp, rfl⟩
      rw [List.length_map, Nat.zero_add, List.take_length] at hp
      exact ⟨_, rfl, os, y7, hp, rfl⟩
  rintro _ ⟨os, y7, hp, rfl⟩
  have ol : os.length = ns.length := hp.length_eq
  have ond : os.Nodup := hp.nodup_iff.mpr nd'
  obtain ⟨z, hz, hz2⟩ := last_of (l := os) (by omega)
  have cd : cutP (os.map PV.str) (some 1) none = (os.drop 1).map PV.str := by
    have s1 : HT.sIx os.length 0 (some 1) = 1 := by
      show (if (1 : Int) < 0 then ((1 : Int) + (os.length : Int)).toNat else min (1 : Int).toNat os.length) = 1
      rw [if_neg (by decide)]
      show min 1 os.length = 1
      omega
    unfold cutP
    rw [List.length_map, s1, HT.sIx_none, List.map_drop]
    exact List.take_of_length_le (by rw [List.length_drop, List.length_map]; omega)
  have cl : cutP (os.map PV.str) (some (-1)) none = [z].map PV.str := by
    have s1 : HT.sIx os.length 0 (some (-1)) = os.length - 1 := by
      show (if (-1 : Int) < 0 then ((-1 : Int) + (os.length : Int)).toNat else min (-1 : Int).toNat os.length) = os.length - 1
      rw [if_pos (by decide)]
      omega
    unfold cutP
    rw [List.length_map, s1, HT.sIx_none, ← hz2, List.map_drop]
    exact List.take_of_length_le (by rw [List.length_drop, List.length_map]; omega)
  have il : ixO (.lst (os.map PV.str)) (.int (-1)) = .ret (.str z) := by
    have e1 : ixN (os.map PV.str).length (-1) = some (os.length - 1) := by
      unfold ixN
      rw [if_neg (by decide), List.length_map, if_pos (by omega)]
      congr 1
      omega
    have e2 : (os.map PV.str)[os.length - 1]? = some (.str z) := by
      rw [List.getElem?_map]
      rw [List.getLast?_eq_getElem?] at hz
      rw [hz]
      rfl
    show M.ofO (atI (os.map PV.str) (-1)) = _
    unfold atI
    rw [e1]
    show M.ofO ((os.map PV.str)[os.length - 1]?) = _
    rw [e2]
    rfl
  have chn : ((chA os).map (·.1)).Nodup := by rw [chA_names]; exact ond
  have chl : (chA os).length = os.length := by have := congrArg List.length (chA_names os); rw [List.length_map] at this; exact this
  refine Gen.le (gseq (c := 0) (d := 2) (I := fun ρ => ∃ x2 x6 x7 : Ent, ρ = LE x2 (val h) (nL ns) (val (.int most)) x6 x7 (val (.int of)) (nL sh) (nL os) (val (.dct (dcA (chA os))))) (gnx (ρ' := LE e2.freeze (val h) (nL ns) (val (.int most)) (val (.dct (dcA A))) y7.freeze (val (.int of)) (nL sh) (nL os) (val (.dct (dcA (chA os))))) ?_ ⟨_, _, _, rfl⟩) ?_) (by decide)
  · show setP 11 (fun ρ => ((consA (lstV (catF (lstV (mkLC [none, none] zpI (bindT [0, 1]) allTs zpE)) (lstV zpL))) (fun _ => M.ret [])) ρ).bind dictO) (LE e2.freeze (val h) (nL ns) (val (.int most)) (val (.dct (dcA A))) y7.freeze (val (.int of)) (nL sh) (nL os) e11.freeze) = _
    have zl : (zipL (os.map PV.str) ((os.drop 1).map PV.str)).length ≤ os.length := by
      unfold zipL
      rw [List.length_zipWith, List.length_map]
      omega
    have a0 : zpI (LE e2.freeze (val h) (nL ns) (val (.int most)) (val (.dct (dcA A))) y7.freeze (val (.int of)) (nL sh) (nL os) e11.freeze) = .ret (zipL (os.map PV.str) ((os.drop 1).map PV.str)) := by
      unfold zpI
      simp only [consA, sl3, gV0, gVs, rZ, intM, slE, cd, zipLO]
    have a1 : mkLC [none, none] zpI (bindT [0, 1]) allTs zpE (LE e2.freeze (val h) (nL ns) (val (.int most)) (val (.dct (dcA A))) y7.freeze (val (.int of)) (nL sh) (nL os) e11.freeze) = .ret ((zipL (os.map PV.str) ((os.drop 1).map PV.str)).map fun q => match q with | .tup [a, b] => PV.tup [a, .lst [b]] | _ => .non) := by
      unfold mkLC
      rw [a0, rZ, if_pos (by omega)]
      exact zip_lc os (os.drop 1) un un
    have en : negO (.int 1) = .ret (.int (-1)) := rfl
    have a2 : zpL (LE e2.freeze (val h) (nL ns) (val (.int most)) (val (.dct (dcA A))) y7.freeze (val (.int of)) (nL sh) (nL os) e11.freeze) = .ret [.tup [.str z, .lst []]] := by
      unfold zpL
      simp only [consA, bin2, lstV, gV0, gVs, rZ, en, il, mkL0, mkT2, mkL1]
    have a3 : catF (lstV (mkLC [none, none] zpI (bindT [0, 1]) allTs zpE)) (lstV zpL) (LE e2.freeze (val h) (nL ns) (val (.int most)) (val (.dct (dcA A))) y7.freeze (val (.int of)) (nL sh) (nL os) e11.freeze) = .ret ((chA os).map rowA) := by
      unfold catF lstV
      rw [a1, a2]
      simp only [rZ]
      rw [if_pos (by rw [List.length_map, List.length_singleton]; omega), chA_zip os z hz]
    unfold setP
    dsimp only
    rw [cons_is (y := .lst ((chA os).map rowA)) (l := []) ?_ rfl, rZ, dict_rows chn (by omega)]
    · rfl
    · show (catF (lstV (mkLC [none, none] zpI (bindT [0, 1]) allTs zpE)) (lstV zpL) _).bind (fun l => M.ret (PV.lst l)) = _
      rw [a3]
      rfl
  rintro _ ⟨x2, x6, x7', rfl⟩
  have cC : ∀ w ∈ ws.map (·.1), ∃ p ∈ chA os, p.1 = w := fun w hw => by
    have : w ∈ (chA os).map (·.1) := by rw [chA_names]; exact hp.mem_iff.mpr (by rw [ens]; exact hw)
    obtain ⟨p, hp', e⟩ := List.mem_map.mp this
    exact ⟨p, hp', e⟩
  have lC : ∀ p ∈ chA os, p.2.length ≤ 900 := fun p hp' => Nat.le_trans (chA_all os p hp').1 (by decide)
  have iC : ∀ w ∈ ws.map (·.1), ∀ o ∈ osA (chA os) w, o ∈ ws.map (·.1) := fun w _ => by
    have := osA_in (B := chA os) (ns := ns) (fun p hp' o ho => hp.mem_iff.mp ((chA_all os p hp').2 o ho)) w
    rw [ens] at this
    exact this
  have en : negO (.int 1) = .ret (.int (-1)) := rfl
  refine if_gen (or_gen (c := 1) (d := 1) (not_is ?_) (not_is ?_)) (Gen.ret ⟨_, rfl, _, _, _, _, _, _, _, _, _, _, rfl⟩)
  · show Gen ((M.ret [PV.bag, h, .dct (dcA (chA os)), .lst (([] : List Str).map PV.str)]).bind F_law_right) 1 _
    rw [rZ]
    exact right_is H cC lC iC (by decide)
  · simp only [consA, sl3, gV0, gVs, rZ, en, intM, slE, cl]
    exact right_is H cC lC iC (by rw [List.length_singleton]; decide)
theorem law_true : (m_law ((List.replicate 12 un).set 1 (.val .bag))).wp 1000000 fun f _ => f = .rt (.bl true) := by
  have g : Gen (m_law ((List.replicate 12 un).set 1 (.val .bag))) 2000 (fun f => f = .rt (.bl true)) := by
    show Gen (m_law (LE un un un un un un un un un un)) 2000 _
    unfold m_law
    refine Gen.le (gseq (c := 2000) (d := 0) (I := fun ρ => ∃ e2 e3 e4 e5 e6 e7 e8 e9 e10 e11 : Ent, ρ = LE e2 e3 e4 e5 e6 e7 e8 e9 e10 e11) ?_ ?_) (by decide)
    · show Gen (mkFor _ (bindN 2) lwB _) _ _
      have er : rng1O [.int 2] = .ret [.int 0, .int 1] := rfl
      unfold mkFor
      simp only [consA, rZ, er]
      refine Gen.mono (forN (k := 2) (c := 1000) (Iv := fun i ρ => ∃ e2 e3 e4 e5 e6 e7 e8 e9 e10 e11 : Ent, ρ = LE e2 e3 e4 e5 e6 e7 e8 e9 e10 e11) _ 0 _ ⟨_, _, _, _, _, _, _, _, _, _, rfl⟩ ?_) (by decide) fun f hf => hf
      rintro y hy j hj _ ⟨e2, e3, e4, e5, e6, e7, e8, e9, e10, e11, rfl⟩
      exact turn_is
    · rintro _ ⟨e2, e3, e4, e5, e6, e7, e8, e9, e10, e11, rfl⟩
      exact Gen.eq rfl rfl
  exact M.wp_mono (g.h 1000000 (by decide)) fun f n h => h.2
theorem all_mk {l : PySem.W.OpenLaw} {w : World} {K : PySem.W.Frag} {h : Heap} {mg : Str → Option Value} {q : Program} {fa a_last_page a_reading a_rules_at a_looked_at a_post_holds a_look_holds a_holds_alone a_others_asked a_found_open a_open_ways awstart awpick awword awwords awhill awfree awstuck awbook awright a_law cb_law_book tb_law_book : Addr} (X : K.In h) (G : h.Ns mainGlobals mg) (hfa : mg "law" = some (.ref fa))
    {od0 an0 od1 an1 od2 an2 od3 an3 od4 an4 od5 an5 od6 an6 od7 an7 od8 an8 od9 an9 od10 an10 od11 an11 od12 an12 od13 an13 od14 an14 od15 an15 od16 an16 od17 an17 od18 an18 od19 an19 : Option Addr} {sl0 sl1 sl2 sl3 sl4 sl5 sl6 sl7 sl8 sl9 sl10 sl11 sl12 sl13 sl14 sl15 sl16 sl17 sl18 sl19 : Array (Option Value)} {oc0 kV0 dc0 pm0 cd0 ct0 oc1 kV1 dc1 pm1 cd1 ct1 oc2 kV2 dc2 pm2 cd2 ct2 oc3 kV3 dc3 pm3 cd3 ct3 oc4 kV4 dc4 pm4 cd4 ct4 oc5 kV5 dc5 pm5 cd5 ct5 oc6 kV6 dc6 pm6 cd6 ct6 oc7 kV7 dc7 pm7 cd7 ct7 oc8 kV8 dc8 pm8 cd8 ct8 oc9 kV9 dc9 pm9 cd9 ct9 oc10 kV10 dc10 pm10 cd10 ct10 oc11 kV11 dc11 pm11 cd11 ct11 oc12 kV12 dc12 pm12 cd12 ct12 oc13 kV13 dc13 pm13 cd13 ct13 oc14 kV14 dc14 pm14 cd14 ct14 oc15 kV15 dc15 pm15 cd15 ct15 oc16 kV16 dc16 pm16 cd16 ct16 oc17 kV17 dc17 pm17 cd17 ct17 oc18 kV18 dc18 pm18 cd18 ct18 oc19 kV19 dc19 pm19 cd19 ct19 : Value}
    (x0 : PySem.W.nsIn K mainGlobals "last_page" = some (some (.ref a_last_page))) (l0 : K.lookup a_last_page = some ⟨oc0, od0, .func (PySem.W.fnOf "last_page" "last_page" (defArgs s_last_page) (defBody s_last_page) (defScope s_last_page) .none kV0 dc0 pm0 an0 cd0 ct0), sl0⟩) (c0 : PySem.W.codeIn K cd0 "last_page" = true) (k0 : PySem.W.keepIn K (.ref a_last_page) = true)
    (x1 : PySem.W.nsIn K mainGlobals "reading" = some (some (.ref a_reading))) (l1 : K.lookup a_reading = some ⟨oc1, od1, .func (PySem.W.fnOf "reading" "reading" (defArgs s_reading) (defBody s_reading) (defScope s_reading) .none kV1 dc1 pm1 an1 cd1 ct1), sl1⟩) (c1 : PySem.W.codeIn K cd1 "reading" = true) (k1 : PySem.W.keepIn K (.ref a_reading) = true)
    (x2 : PySem.W.nsIn K mainGlobals "rules_at" = some (some (.ref a_rules_at))) (l2 : K.lookup a_rules_at = some ⟨oc2, od2, .func (PySem.W.fnOf "rules_at" "rules_at" (defArgs s_rules_at) (defBody s_rules_at) (defScope s_rules_at) .none kV2 dc2 pm2 an2 cd2 ct2), sl2⟩) (c2 : PySem.W.codeIn K cd2 "rules_at" = true) (k2 : PySem.W.keepIn K (.ref a_rules_at) = true)
    (x3 : PySem.W.nsIn K mainGlobals "looked_at" = some (some (.ref a_looked_at))) (l3 : K.lookup a_looked_at = some ⟨oc3, od3, .func (PySem.W.fnOf "looked_at" "looked_at" (defArgs s_looked_at) (defBody s_looked_at) (defScope s_looked_at) .none kV3 dc3 pm3 an3 cd3 ct3), sl3⟩) (c3 : PySem.W.codeIn K cd3 "looked_at" = true) (k3 : PySem.W.keepIn K (.ref a_looked_at) = true)
    (x4 : PySem.W.nsIn K mainGlobals "post_holds" = some (some (.ref a_post_holds))) (l4 : K.lookup a_post_holds = some ⟨oc4, od4, .func (PySem.W.fnOf "post_holds" "post_holds" (defArgs s_post_holds) (defBody s_post_holds) (defScope s_post_holds) .none kV4 dc4 pm4 an4 cd4 ct4), sl4⟩) (c4 : PySem.W.codeIn K cd4 "post_holds" = true) (k4 : PySem.W.keepIn K (.ref a_post_holds) = true)
    (x5 : PySem.W.nsIn K mainGlobals "look_holds" = some (some (.ref a_look_holds))) (l5 : K.lookup a_look_holds = some ⟨oc5, od5, .func (PySem.W.fnOf "look_holds" "look_holds" (defArgs s_look_holds) (defBody s_look_holds) (defScope s_look_holds) .none kV5 dc5 pm5 an5 cd5 ct5), sl5⟩) (c5 : PySem.W.codeIn K cd5 "look_holds" = true) (k5 : PySem.W.keepIn K (.ref a_look_holds) = true)
    (x6 : PySem.W.nsIn K mainGlobals "holds_alone" = some (some (.ref a_holds_alone))) (l6 : K.lookup a_holds_alone = some ⟨oc6, od6, .func (PySem.W.fnOf "holds_alone" "holds_alone" (defArgs s_holds_alone) (defBody s_holds_alone) (defScope s_holds_alone) .none kV6 dc6 pm6 an6 cd6 ct6), sl6⟩) (c6 : PySem.W.codeIn K cd6 "holds_alone" = true) (k6 : PySem.W.keepIn K (.ref a_holds_alone) = true)
    (x7 : PySem.W.nsIn K mainGlobals "others_asked" = some (some (.ref a_others_asked))) (l7 : K.lookup a_others_asked = some ⟨oc7, od7, .func (PySem.W.fnOf "others_asked" "others_asked" (defArgs s_others_asked) (defBody s_others_asked) (defScope s_others_asked) .none kV7 dc7 pm7 an7 cd7 ct7), sl7⟩) (c7 : PySem.W.codeIn K cd7 "others_asked" = true) (k7 : PySem.W.keepIn K (.ref a_others_asked) = true)
    (x8 : PySem.W.nsIn K mainGlobals "found_open" = some (some (.ref a_found_open))) (l8 : K.lookup a_found_open = some ⟨oc8, od8, .func (PySem.W.fnOf "found_open" "found_open" (defArgs s_found_open) (defBody s_found_open) (defScope s_found_open) .none kV8 dc8 pm8 an8 cd8 ct8), sl8⟩) (c8 : PySem.W.codeIn K cd8 "found_open" = true) (k8 : PySem.W.keepIn K (.ref a_found_open) = true)
    (x9 : PySem.W.nsIn K mainGlobals "open_ways" = some (some (.ref a_open_ways))) (l9 : K.lookup a_open_ways = some ⟨oc9, od9, .func (PySem.W.fnOf "open_ways" "open_ways" (defArgs s_open_ways) (defBody s_open_ways) (defScope s_open_ways) .none kV9 dc9 pm9 an9 cd9 ct9), sl9⟩) (c9 : PySem.W.codeIn K cd9 "open_ways" = true) (k9 : PySem.W.keepIn K (.ref a_open_ways) = true)
    (x10 : PySem.W.nsIn K mainGlobals "_law_start" = some (some (.ref awstart))) (l10 : K.lookup awstart = some ⟨oc10, od10, .func (PySem.W.fnOf "_law_start" "_law_start" (defArgs s_law_start) (defBody s_law_start) (defScope s_law_start) .none kV10 dc10 pm10 an10 cd10 ct10), sl10⟩) (c10 : PySem.W.codeIn K cd10 "_law_start" = true) (k10 : PySem.W.keepIn K (.ref awstart) = true)
    (x11 : PySem.W.nsIn K mainGlobals "_law_pick" = some (some (.ref awpick))) (l11 : K.lookup awpick = some ⟨oc11, od11, .func (PySem.W.fnOf "_law_pick" "_law_pick" (defArgs s_law_pick) (defBody s_law_pick) (defScope s_law_pick) .none kV11 dc11 pm11 an11 cd11 ct11), sl11⟩) (c11 : PySem.W.codeIn K cd11 "_law_pick" = true) (k11 : PySem.W.keepIn K (.ref awpick) = true)
    (x12 : PySem.W.nsIn K mainGlobals "_law_word" = some (some (.ref awword))) (l12 : K.lookup awword = some ⟨oc12, od12, .func (PySem.W.fnOf "_law_word" "_law_word" (defArgs s_law_word) (defBody s_law_word) (defScope s_law_word) .none kV12 dc12 pm12 an12 cd12 ct12), sl12⟩) (c12 : PySem.W.codeIn K cd12 "_law_word" = true) (k12 : PySem.W.keepIn K (.ref awword) = true)
    (x13 : PySem.W.nsIn K mainGlobals "_law_words" = some (some (.ref awwords))) (l13 : K.lookup awwords = some ⟨oc13, od13, .func (PySem.W.fnOf "_law_words" "_law_words" (defArgs s_law_words) (defBody s_law_words) (defScope s_law_words) .none kV13 dc13 pm13 an13 cd13 ct13), sl13⟩) (c13 : PySem.W.codeIn K cd13 "_law_words" = true) (k13 : PySem.W.keepIn K (.ref awwords) = true)
    (x14 : PySem.W.nsIn K mainGlobals "_law_hill" = some (some (.ref awhill))) (l14 : K.lookup awhill = some ⟨oc14, od14, .func (PySem.W.fnOf "_law_hill" "_law_hill" (defArgs s_law_hill) (defBody s_law_hill) (defScope s_law_hill) .none kV14 dc14 pm14 an14 cd14 ct14), sl14⟩) (c14 : PySem.W.codeIn K cd14 "_law_hill" = true) (k14 : PySem.W.keepIn K (.ref awhill) = true)
    (x15 : PySem.W.nsIn K mainGlobals "_law_free" = some (some (.ref awfree))) (l15 : K.lookup awfree = some ⟨oc15, od15, .func (PySem.W.fnOf "_law_free" "_law_free" (defArgs s_law_free) (defBody s_law_free) (defScope s_law_free) .none kV15 dc15 pm15 an15 cd15 ct15), sl15⟩) (c15 : PySem.W.codeIn K cd15 "_law_free" = true) (k15 : PySem.W.keepIn K (.ref awfree) = true)
    (x16 : PySem.W.nsIn K mainGlobals "_law_stuck" = some (some (.ref awstuck))) (l16 : K.lookup awstuck = some ⟨oc16, od16, .func (PySem.W.fnOf "_law_stuck" "_law_stuck" (defArgs s_law_stuck) (defBody s_law_stuck) (defScope s_law_stuck) .none kV16 dc16 pm16 an16 cd16 ct16), sl16⟩) (c16 : PySem.W.codeIn K cd16 "_law_stuck" = true) (k16 : PySem.W.keepIn K (.ref awstuck) = true)
    (x17 : PySem.W.nsIn K mainGlobals "_law_book" = some (some (.ref awbook))) (l17 : K.lookup awbook = some ⟨oc17, od17, .func (PySem.W.fnOf "_law_book" "_law_book" (defArgs s_law_book) (defBody s_law_book) (defScope s_law_book) .none kV17 dc17 pm17 an17 cd17 ct17), sl17⟩) (c17 : PySem.W.codeIn K cd17 "_law_book" = true) (k17 : PySem.W.keepIn K (.ref awbook) = true)
    (x18 : PySem.W.nsIn K mainGlobals "_law_right" = some (some (.ref awright))) (l18 : K.lookup awright = some ⟨oc18, od18, .func (PySem.W.fnOf "_law_right" "_law_right" (defArgs s_law_right) (defBody s_law_right) (defScope s_law_right) .none kV18 dc18 pm18 an18 cd18 ct18), sl18⟩) (c18 : PySem.W.codeIn K cd18 "_law_right" = true) (k18 : PySem.W.keepIn K (.ref awright) = true)
    (x19 : PySem.W.nsIn K mainGlobals "law" = some (some (.ref a_law))) (l19 : K.lookup a_law = some ⟨oc19, od19, .func (PySem.W.fnOf "law" "law" (defArgs s_law) (defBody s_law) (defScope s_law) .none kV19 dc19 pm19 an19 cd19 ct19), sl19⟩) (c19 : PySem.W.codeIn K cd19 "law" = true) (k19 : PySem.W.keepIn K (.ref a_law) = true)
    (z0 : PySem.W.nsIn K mainGlobals "len" = some none)
    (z1 : PySem.W.nsIn K mainGlobals "abs" = some none)
    (z2 : PySem.W.nsIn K mainGlobals "all" = some none)
    (z3 : PySem.W.nsIn K mainGlobals "any" = some none)
    (z4 : PySem.W.nsIn K mainGlobals "list" = some none)
    (z5 : PySem.W.nsIn K mainGlobals "range" = some none)
    (z6 : PySem.W.nsIn K mainGlobals "tuple" = some none)
    (z7 : PySem.W.nsIn K mainGlobals "dict" = some none)
    (z8 : PySem.W.nsIn K mainGlobals "sorted" = some none)
    (z9 : PySem.W.nsIn K mainGlobals "enumerate" = some none)
    (z10 : PySem.W.nsIn K mainGlobals "zip" = some none)
    (z11 : PySem.W.nsIn K mainGlobals "reversed" = some none)
    {ov17 : Value} {oo17 : Option Addr} {fv17 : Array Value} {os17 : Array (Option Value)} (tc17 : cd17 = .ref cb_law_book) (tv17 : K.lookup cb_law_book = some ⟨ov17, oo17, .fields fv17, os17⟩) (tw17 : fv17[11]? = some (Value.ref tb_law_book)) (tt17 : PySem.W.tabIn K "_law_book" = some (cb_law_book, tb_law_book)) (th17 : PySem.W.codeHdIn K cb_law_book tb_law_book = true) (tn17 : K.lookup tb_law_book = none) (tr17 : ((recsOf q).find? fun r => r.name == ("_law_book" : Str)).isSome = true) :
    ∃ (fd : FuncData) (ts : List (Str × Addr × Addr)), (∀ e ∈ ts, PySem.W.tabIn K e.1 = some e.2 ∧ K.lookup e.2.2 = none ∧ ((recsOf q).find? fun r => r.name == e.1).isSome = true) ∧ (∀ (s : Shared) (v : Value), BindsTo s fd ⟨[v], []⟩ [("_law_script", v)]) ∧ ∀ base : Heap, K.In base → base.Ns mainGlobals mg → BIn base mg → FnOk l.prog w K mg base CX0 8 fa fd ["_law_script"] (spLawT K (ts.map (·.2.2))) := by
  subst tc17
  have e := hfa.symm.trans (PySem.W.mg_of X G x19)
  cases e
  have F0 := fun_mk (st := s_last_page) l0 c0 k0
  have b0 := F0.binds (ps := ["book", "kind", "name", "t"]) fun _ _ _ _ _ _ us hl => match us, hl with | [_, _, _, _], _ => rfl
  have F1 := fun_mk (st := s_reading) l1 c1 k1
  have b1 := F1.binds (ps := ["book", "post", "t"]) fun _ _ _ _ _ _ us hl => match us, hl with | [_, _, _], _ => rfl
  have F2 := fun_mk (st := s_rules_at) l2 c2 k2
  have b2 := F2.binds (ps := ["book", "w", "t"]) fun _ _ _ _ _ _ us hl => match us, hl with | [_, _, _], _ => rfl
  have F3 := fun_mk (st := s_looked_at) l3 c3 k3
  have b3 := F3.binds (ps := ["book", "w", "t"]) fun _ _ _ _ _ _ us hl => match us, hl with | [_, _, _], _ => rfl
  have F4 := fun_mk (st := s_post_holds) l4 c4 k4
  have b4 := F4.binds (ps := ["book", "rule", "t"]) fun _ _ _ _ _ _ us hl => match us, hl with | [_, _, _], _ => rfl
  have F5 := fun_mk (st := s_look_holds) l5 c5 k5
  have b5 := F5.binds (ps := ["book", "way", "n", "t"]) fun _ _ _ _ _ _ us hl => match us, hl with | [_, _, _, _], _ => rfl
  have F6 := fun_mk (st := s_holds_alone) l6 c6 k6
  have b6 := F6.binds (ps := ["book", "way", "rule", "t"]) fun _ _ _ _ _ _ us hl => match us, hl with | [_, _, _, _], _ => rfl
  have F7 := fun_mk (st := s_others_asked) l7 c7 k7
  have b7 := F7.binds (ps := ["book", "way", "t"]) fun _ _ _ _ _ _ us hl => match us, hl with | [_, _, _], _ => rfl
  have F8 := fun_mk (st := s_found_open) l8 c8 k8
  have b8 := F8.binds (ps := ["asked"]) fun _ _ _ _ _ _ us hl => match us, hl with | [_], _ => rfl
  have F9 := fun_mk (st := s_open_ways) l9 c9 k9
  have b9 := F9.binds (ps := ["hill", "book", "t"]) fun _ _ _ _ _ _ us hl => match us, hl with | [_, _, _], _ => rfl
  have F10 := fun_mk (st := s_law_start) l10 c10 k10
  have b10 := F10.binds (ps := ["_law_script"]) fun _ _ _ _ _ _ us hl => match us, hl with | [_], _ => rfl
  have F11 := fun_mk (st := s_law_pick) l11 c11 k11
  have b11 := F11.binds (ps := ["_law_state", "_law_many"]) fun _ _ _ _ _ _ us hl => match us, hl with | [_, _], _ => rfl
  have F12 := fun_mk (st := s_law_word) l12 c12 k12
  have b12 := F12.binds (ps := ["_law_state", "_law_taken"]) fun _ _ _ _ _ _ us hl => match us, hl with | [_, _], _ => rfl
  have F13 := fun_mk (st := s_law_words) l13 c13 k13
  have b13 := F13.binds (ps := ["_law_state", "_law_many"]) fun _ _ _ _ _ _ us hl => match us, hl with | [_, _], _ => rfl
  have F14 := fun_mk (st := s_law_hill) l14 c14 k14
  have b14 := F14.binds (ps := ["_law_state", "_law_most", "_law_scale"]) fun _ _ _ _ _ _ us hl => match us, hl with | [_, _, _], _ => rfl
  have F15 := fun_mk (st := s_law_free) l15 c15 k15
  have b15 := F15.binds (ps := ["_law_names", "_law_withs", "_law_shut"]) fun _ _ _ _ _ _ us hl => match us, hl with | [_, _, _], _ => rfl
  have F16 := fun_mk (st := s_law_stuck) l16 c16 k16
  have b16 := F16.binds (ps := ["_law_names", "_law_withs", "_law_shut"]) fun _ _ _ _ _ _ us hl => match us, hl with | [_, _, _], _ => rfl
  have F17 := fun_mk (st := s_law_book) l17 c17 k17
  have b17 := F17.binds (ps := ["_law_names", "_law_withs", "_law_shut", "_law_late"]) fun _ _ _ _ _ _ us hl => match us, hl with | [_, _, _, _], _ => rfl
  have F18 := fun_mk (st := s_law_right) l18 c18 k18
  have b18 := F18.binds (ps := ["_law_state", "_law_hill_here", "_law_withs", "_law_shut"]) fun _ _ _ _ _ _ us hl => match us, hl with | [_, _, _, _], _ => rfl
  have F19 := fun_mk (st := s_law) l19 c19 k19
  have b19 := F19.binds (ps := ["_law_script"]) fun _ _ _ _ _ _ us hl => match us, hl with | [_], _ => rfl
  have T : Txt K mg _ _ _ _ _ _ _ _ _ _ _ _ _ _ _ _ _ _ _ _ cb_law_book tb_law_book _ _ _ _ _ _ _ _ _ _ _ _ _ _ _ _ _ _ _ _ := ⟨F0, PySem.W.mg_of X G x0, b0, F1, PySem.W.mg_of X G x1, b1, F2, PySem.W.mg_of X G x2, b2, F3, PySem.W.mg_of X G x3, b3, F4, PySem.W.mg_of X G x4, b4, F5, PySem.W.mg_of X G x5, b5, F6, PySem.W.mg_of X G x6, b6, F7, PySem.W.mg_of X G x7, b7, F8, PySem.W.mg_of X G x8, b8, F9, PySem.W.mg_of X G x9, b9, F10, PySem.W.mg_of X G x10, b10, F11, PySem.W.mg_of X G x11, b11, F12, PySem.W.mg_of X G x12, b12, F13, PySem.W.mg_of X G x13, b13, F14, PySem.W.mg_of X G x14, b14, F15, PySem.W.mg_of X G x15, b15, F16, PySem.W.mg_of X G x16, b16, F17, PySem.W.mg_of X G x17, b17, F18, PySem.W.mg_of X G x18, b18, F19, PySem.W.mg_of X G x19, b19, PySem.W.mg_none_of X G z0, PySem.W.mg_none_of X G z1, PySem.W.mg_none_of X G z2, PySem.W.mg_none_of X G z3, PySem.W.mg_none_of X G z4, PySem.W.mg_none_of X G z5, PySem.W.mg_none_of X G z6, PySem.W.mg_none_of X G z7, PySem.W.mg_none_of X G z8, PySem.W.mg_none_of X G z9, PySem.W.mg_none_of X G z10, PySem.W.mg_none_of X G z11, ⟨⟨_, _, _, _, _, _, _, _, rfl, l17, c17⟩, th17⟩⟩
  refine ⟨PySem.W.fnOf "law" "law" (defArgs s_law) (defBody s_law) (defScope s_law) .none kV19 dc19 pm19 an19 cd19 ct19, [("_law_book", cb_law_book, tb_law_book)], ?_, fun s v => .of_eq rfl, fun base kb _ hB => ?_⟩
  · intro e he
    simp only [List.mem_cons, List.not_mem_nil, or_false] at he
    rcases he with rfl
    · exact ⟨tt17, tn17, tr17⟩
  show FnOk _ _ _ _ _ _ _ _ _ _ (spLawT K [tb_law_book])
  have G_law_pick := draw_pure (φ := famP tb_law_book K) (ok_pick (P := l.prog) (w := w) (base := base) T)
  have G_law_start := ok_start (P := l.prog) (w := w) (base := base) T
  have G_last_page := ok_last_page (P := l.prog) (w := w) (base := base) T 
  have G_reading := ok_reading (P := l.prog) (w := w) (base := base) T G_last_page
  have G_rules_at := ok_rules_at (P := l.prog) (w := w) (base := base) T G_last_page
  have G_looked_at := ok_looked_at (P := l.prog) (w := w) (base := base) T G_last_page
  have G_post_holds := ok_post_holds (P := l.prog) (w := w) (base := base) T G_reading
  have G_look_holds := ok_look_holds (P := l.prog) (w := w) (base := base) T G_looked_at
  have G_holds_alone := ok_holds_alone (P := l.prog) (w := w) (base := base) T G_post_holds G_look_holds
  have G_others_asked := ok_others_asked (P := l.prog) (w := w) (base := base) T G_rules_at G_holds_alone
  have G_found_open := ok_found_open (P := l.prog) (w := w) (base := base) T 
  have G_open_ways := ok_open_ways (P := l.prog) (w := w) (base := base) T G_found_open G_others_asked
  have G_law_word := ok_law_word (P := l.prog) (w := w) (base := base) T G_law_pick
  have G_law_words := ok_law_words (P := l.prog) (w := w) (base := base) T G_law_word
  have G_law_hill := ok_law_hill (P := l.prog) (w := w) (base := base) T G_law_words G_law_pick
  have G_law_free := ok_law_free (P := l.prog) (w := w) (base := base) T 
  have G_law_stuck := ok_law_stuck (P := l.prog) (w := w) (base := base) T 
  have G_law_book := ok_law_book (P := l.prog) (w := w) (base := base) T kb hB 
  have G_law_right := ok_law_right (P := l.prog) (w := w) (base := base) T G_law_book G_law_free G_law_pick G_law_stuck G_open_ways
  exact ok_law T G_law_start G_law_hill G_law_pick G_law_right law_true
theorem walk {l : PySem.W.OpenLaw} {q : Program} {loose : List Str} {XP : (Str → Option Value) → Heap → Prop} {YP : World → Heap → Prop} {d : DefRec} {K : Params → PySem.W.Frag} (hn : l.most = some 63) (hdf : d.params.defaults = [])
    (hY : ∀ (w : World) (h : Heap), YP w h → (K w.params).In h)
    (F : ∀ (w : World) (mg : Str → Option Value) (fa : Addr) (h : Heap), (K w.params).In h → h.Ns mainGlobals mg → mg d.name = some (.ref fa) →
      ∃ (fd : FuncData) (ts : List (Str × Addr × Addr)), (∀ e ∈ ts, PySem.W.tabIn (K w.params) e.1 = some e.2 ∧ (K w.params).lookup e.2.2 = none ∧ ((recsOf q).find? fun r => r.name == e.1).isSome = true) ∧ (∀ (s : Shared) (u : Value), BindsTo s fd ⟨[u], []⟩ [("_law_script", u)]) ∧
        ∀ base : Heap, (K w.params).In base → base.Ns mainGlobals mg → BIn base mg → FnOk l.prog w (K w.params) mg base CX0 8 fa fd ["_law_script"] (spLawT (K w.params) (ts.map (·.2.2)))) :
    PySem.W.WalkO q loose XP YP l.row.toRowW d [] (fun f vs => PySem.call f vs) :=
  L2.walk_tabs (n := 63) (k := 8) (x := "_law_script") (CX := fun _ => CX0) (sp := fun w tbs => spLawT (K w.params) tbs) hn (by decide) hdf ⟨rfl, by decide, by decide, rfl⟩ hY F (fun _ _ a ns tbs hl ht hS => ⟨a, ns, rfl, hS, hl, ht, fun _ => rfl⟩) fun _ _ _ _ _ z => z
end K12
end
open PySem PySem.W PyProof.Rows
set_option maxRecDepth 100000 in
set_option maxHeartbeats 0 in
theorem PySem.Challenge.cw_homeslopes_k12_ways_with_others_holds : PySem.Challenge.rw_homeslopes_k12_ways_with_others.Holds := by
  w_on; o_law; k_head; (case hw => w_witness2)
  k_fill
  refine K12.walk (l := PySem.Challenge.rw_homeslopes_k12_ways_with_others) rfl rfl (fun w h Y => PySem.W.km_in_of Y) ?F
  case F =>
    intro w mg fa h KX G hmg
    refine' K12.all_mk KX G hmg ?x0 ?l0 ?c0 ?k0 ?x1 ?l1 ?c1 ?k1 ?x2 ?l2 ?c2 ?k2 ?x3 ?l3 ?c3 ?k3 ?x4 ?l4 ?c4 ?k4 ?x5 ?l5 ?c5 ?k5 ?x6 ?l6 ?c6 ?k6 ?x7 ?l7 ?c7 ?k7 ?x8 ?l8 ?c8 ?k8 ?x9 ?l9 ?c9 ?k9 ?x10 ?l10 ?c10 ?k10 ?x11 ?l11 ?c11 ?k11 ?x12 ?l12 ?c12 ?k12 ?x13 ?l13 ?c13 ?k13 ?x14 ?l14 ?c14 ?k14 ?x15 ?l15 ?c15 ?k15 ?x16 ?l16 ?c16 ?k16 ?x17 ?l17 ?c17 ?k17 ?x18 ?l18 ?c18 ?k18 ?x19 ?l19 ?c19 ?k19 ?z0 ?z1 ?z2 ?z3 ?z4 ?z5 ?z6 ?z7 ?z8 ?z9 ?z10 ?z11   ?tc17 ?tv17 ?tw17 ?tt17 ?th17 ?tn17 ?tr17
    (case x0 => k_is); (case l0 => k_is); (case c0 => k_is); (case k0 => k_is)
    (case x1 => k_is); (case l1 => k_is); (case c1 => k_is); (case k1 => k_is)
    (case x2 => k_is); (case l2 => k_is); (case c2 => k_is); (case k2 => k_is)
    (case x3 => k_is); (case l3 => k_is); (case c3 => k_is); (case k3 => k_is)
    (case x4 => k_is); (case l4 => k_is); (case c4 => k_is); (case k4 => k_is)
    (case x5 => k_is); (case l5 => k_is); (case c5 => k_is); (case k5 => k_is)
    (case x6 => k_is); (case l6 => k_is); (case c6 => k_is); (case k6 => k_is)
    (case x7 => k_is); (case l7 => k_is); (case c7 => k_is); (case k7 => k_is)
    (case x8 => k_is); (case l8 => k_is); (case c8 => k_is); (case k8 => k_is)
    (case x9 => k_is); (case l9 => k_is); (case c9 => k_is); (case k9 => k_is)
    (case x10 => k_is); (case l10 => k_is); (case c10 => k_is); (case k10 => k_is)
    (case x11 => k_is); (case l11 => k_is); (case c11 => k_is); (case k11 => k_is)
    (case x12 => k_is); (case l12 => k_is); (case c12 => k_is); (case k12 => k_is)
    (case x13 => k_is); (case l13 => k_is); (case c13 => k_is); (case k13 => k_is)
    (case x14 => k_is); (case l14 => k_is); (case c14 => k_is); (case k14 => k_is)
    (case x15 => k_is); (case l15 => k_is); (case c15 => k_is); (case k15 => k_is)
    (case x16 => k_is); (case l16 => k_is); (case c16 => k_is); (case k16 => k_is)
    (case x17 => k_is); (case l17 => k_is); (case c17 => k_is); (case k17 => k_is)
    (case x18 => k_is); (case l18 => k_is); (case c18 => k_is); (case k18 => k_is)
    (case x19 => k_is); (case l19 => k_is); (case c19 => k_is); (case k19 => k_is)
    (case z0 => k_is)
    (case z1 => k_is)
    (case z2 => k_is)
    (case z3 => k_is)
    (case z4 => k_is)
    (case z5 => k_is)
    (case z6 => k_is)
    (case z7 => k_is)
    (case z8 => k_is)
    (case z9 => k_is)
    (case z10 => k_is)
    (case z11 => k_is)
    (case tc17 => rfl); (case tv17 => k_is); (case tw17 => rfl); (case tt17 => kernel_rfl); (case th17 => kernel_rfl); (case tn17 => kernel_rfl); (case tr17 => rfl)
