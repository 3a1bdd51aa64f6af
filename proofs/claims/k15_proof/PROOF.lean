import PyProof.Rows.All
import PyProof.StrLawsIdx
import Wide.All
import OpenK.AllK
import Wide.FinOn
import Lean
import PyProof.EqAt
import PyProof.EqKinds
import PyProof.TupleCall
import PyProof.NeKinds
import PySem.Challenge.RW_homeslopes_k15_outlooks
set_option Elab.async false
set_option linter.all false
set_option maxRecDepth 100000
set_option maxHeartbeats 4000000
set_option genSizeOf false
noncomputable section
open PySem PySem.Spec PyProof.Rows
open PySem.W (Frag nsIn keepIn codeIn fnOf)
abbrev NQ:=@List.getElem?_eq_getElem
abbrev NR:=@wpAny_bind
abbrev NS:=@List.mem_cons_self
abbrev NT:=@List.length_map
abbrev NU:=@Heap.get?_push_of_some
abbrev NV:=@List.mem_cons_of_mem
abbrev NW:=@wpAny_pure
abbrev NX:=@List.size_toArray
abbrev NY:=@List.getElem?_eq_some_iff
abbrev NZ:=@Nat.le_refl
abbrev N0:=@List.set_cons_zero
abbrev N1:=@List.map_cons
abbrev N2:=@List.mem_cons
abbrev N3:=@List.not_mem_nil
abbrev N4:=@List.mem_map
abbrev N5:=@List.length_cons
abbrev N6:=@Heap.get?_push_size
abbrev N7:=@List.getElem?_cons_succ
abbrev N8:=@List.getElem?_cons_zero
abbrev N9:=@Heap.lt_size
abbrev Oa:=@List.getD_eq_getElem?_getD
abbrev Ob:=@List.mem_append_right
abbrev Oc:=@List.getElem?_map
abbrev Od:=@Nat.le_trans
abbrev Oe:=@Array.getD_eq_getD_getElem?
abbrev Of:=@Nat.lt_of_lt_of_le
abbrev Og:=@Option.map_eq_some_iff
abbrev Oh:=@decide_eq_false
abbrev Oi:=@List.length_append
abbrev Oj:=@Array.getElem?_eq_getElem
abbrev Ol:=@Nat.zero_le
abbrev Om:=@List.mem_singleton
abbrev Oo:=@Nat.ne_of_lt
abbrev Oq:=@List.mem_map_of_mem
abbrev Ot:=@List.getElem?_set_ne
abbrev Ou:=@Array.length_toList
abbrev Ov:=@Bool.and_eq_true
abbrev Ow:=@List.eq_nil_of_length_eq_zero
abbrev Ox:=@sizeLine_eq
abbrev Oy:=@List.getElem?_append_left
abbrev Oz:=@List.set_cons_succ
abbrev OA:=@Bool.false_eq_true
abbrev OB:=@List.getElem_mem
abbrev OC:=@PySem.W.mg_none_of
abbrev OD:=@PySem.W.mg_of
abbrev OE:=@List.mem_filter
abbrev OF:=@List.mem_append
abbrev OG:=@if_pos
abbrev OH:=@if_neg
abbrev OI:=@List.getElem?_set_self
abbrev OJ:=@List.pairwise_cons
abbrev OK:=@Option.some.inj
section
namespace L2
open PySem PySem.Spec PyProof.Rows
abbrev Key:=Sum Int Str
def kC:Key→Value→Bool
 | .inl k,v=>Value.isInt k v
 | .inr x,v=>Value.isStrOf x v
def M6 (w:World):Key→Int
 | .inl k=>hashInt k
 | .inr x=>hashStr w x
theorem bq: ∀ {k:Key} {v:Value},kC k v=true→(∃ i t,k=Sum.inl i∧v=Value.int i t)∨(∃ x t,k=Sum.inr x∧v=Value.str x t)
 | .inl i,v,h=>by
  obtain⟨t,e⟩:=Value.isInt_shape (k:=i) (v:=v) h
  exact .inl ⟨i,t,rfl,e⟩
 | .inr x,v,h=>by
  obtain⟨t,e⟩:=Value.isStrOf_shape (x:=x) (v:=v) h
  exact .inr ⟨x,t,rfl,e⟩
theorem qv (i:Int) (t:Tok):kC (.inl i) (.int i t)=true:=by simp[kC,Value.isInt]
theorem qu (x:Str) (t:Tok):kC (.inr x) (.str x t)=true:=by simp[kC,Value.isStrOf]
theorem IM (a b:Int):decide ((Sum.inl a:Key)=Sum.inl b)=(a==b):=by
 by_cases e:a=b
 ·subst e;simp
 ·have h: ¬ (Sum.inl a:Key)=Sum.inl b:=fun q=>e (Sum.inl.inj q)
  rw[Oh h]
  exact(beq_eq_false_iff_ne.mpr e).symm
theorem Cj (a b:Str):decide ((Sum.inr a:Key)=Sum.inr b)=decide (a=b):=by
 by_cases e:a=b
 ·subst e;simp
 ·have h: ¬ (Sum.inr a:Key)=Sum.inr b:=fun q=>e (Sum.inr.inj q)
  rw[Oh h,Oh e]
theorem IL (a:Int) (b:Str):decide ((Sum.inl a:Key)=Sum.inr b)=false:=Oh (fun q=>nomatch q)
theorem IJ (a:Str) (b:Int):decide ((Sum.inr a:Key)=Sum.inl b)=false:=Oh (fun q=>nomatch q)
def aY (prog:Program) (w:World):PySem.KeyKind prog w Key where
 is:=kC
 hash:=M6 w
 inj:=fun v a b ha hb=>by
  rcases bq ha with⟨i,t,rfl,rfl⟩|⟨x,t,rfl,rfl⟩
  ·rcases bq hb with⟨j,u,rfl,e⟩|⟨y,u,rfl,e⟩
   ·injection e with e1 _;rw[e1]
   ·exact nomatch e
  ·rcases bq hb with⟨j,u,rfl,e⟩|⟨y,u,rfl,e⟩
   ·exact nomatch e
   ·injection e with e1 _;rw[e1]
 byValue:=fun k v h=>by
  rcases bq h with⟨i,t,rfl,rfl⟩|⟨x,t,rfl,rfl⟩<;>rfl
 pyHash:=fun hv h=>by
  rcases bq hv with⟨i,t,rfl,rfl⟩|⟨x,t,rfl,rfl⟩
  ·exact wpAny_pyHash_int h
  ·exact wpAny_pyHash_str h
 eqBool:=fun hu hv h=>by
  rcases bq hu with⟨i,t,rfl,rfl⟩|⟨x,t,rfl,rfl⟩
  ·rcases bq hv with⟨j,u,rfl,rfl⟩|⟨y,u,rfl,rfl⟩
   ·rw[IM] at h;exact wpAny_eqBool_int h
   ·rw[IL] at h;exact SeqAt.EqAt.int_str i t y u _ _ _ _ h
  ·rcases bq hv with⟨j,u,rfl,rfl⟩|⟨y,u,rfl,rfl⟩
   ·rw[IJ] at h;exact SeqAt.EqAt.str_int x t j u _ _ _ _ h
   ·rw[Cj] at h;exact wpAny_eqBool_str h
 «strs»:=fun k x t v h=>by
  rcases bq h with⟨i,u,rfl,e⟩|⟨y,u,rfl,e⟩
  ·exact nomatch e
  ·injection e with e1 _
   subst e1
   cases v<;>rfl
theorem wG (prog:Program) (w:World) (k:Key) (v:Value):(aY prog w).is k v=kC k v:=rfl
theorem uB (prog:Program) (w:World) (i:Int) (t:Tok):(aY prog w).is (.inl i) (.int i t)=true:=qv i t
theorem uA (prog:Program) (w:World) (x:Str) (t:Tok):(aY prog w).is (.inr x) (.str x t)=true:=qu x t
end L2
namespace L2
open PySem PySem.Spec PyProof.Rows
inductive V where
 |aE|bl (b:Bool)|int (i:Int)|str (x:Str)|LQ (b:Array UInt8)|Nh (b:UInt64)|ref (a:Addr)|ty (n:String)
 deriving DecidableEq
def RelV:V→Value→Prop
 | .aE,u=>u=Value.none
 | .bl b,u=>u=Value.bool b
 | .int i,u=> ∃ t,u=Value.int i t
 | .str x,u=> ∃ t,u=Value.str x t
 | .LQ b,u=> ∃ t,u=Value.bytes b t
 | .Nh b,u=> ∃ t,u=Value.float b t
 | .ref a,u=>u=Value.ref a
 | .ty n,u=>u=Value.type n
abbrev Vals:List V→List Value→Prop:=Paired RelV
theorem Vals.length {xs:List V} {us:List Value} (r:Vals xs us):xs.length=us.length:=Paired.length r
theorem Vals.get: ∀ {xs:List V} {us:List Value} {i:Nat} {x:V},Vals xs us→xs[i]?=some x→∃ u,us[i]?=some u∧RelV x u
 |_,_,_,_,.nil,e=>by simp at e
 |_,_,0,_,.cons r _,e=>by simp at e;subst e;exact⟨_,rfl,r⟩
 |_,_,i+1,x,.cons _ t,e=>by
  obtain⟨u,h1,h2⟩:=Vals.get (i:=i) (x:=x) t (by simpa using e)
  exact⟨u,by simpa using h1,h2⟩
theorem Vals.set {x:V} {u:Value} (r:RelV x u): ∀ {xs:List V} {us:List Value} (i:Nat),Vals xs us→Vals (xs.set i x) (us.set i u)
 |_,_,_,.nil=>.nil
 |_,_,0,.cons _ t=>.cons r t
 |_,_,i+1,.cons q t=>.cons q (Vals.set r i t)
theorem Vals.append: ∀ {xs ys:List V} {us ws:List Value},Vals xs us→Vals ys ws→Vals (xs++ys) (us++ws)
 |_,_,_,_,.nil,s=>s
 |_,_,_,_,.cons r t,s=>.cons r (Vals.append t s)
theorem Vals.take: ∀ {xs:List V} {us:List Value} (n:Nat),Vals xs us→Vals (xs.take n) (us.take n)
 |_,_,0,_=>.nil
 |_,_,_+1,.nil=>.nil
 |_,_,n+1,.cons r t=>.cons r (Vals.take n t)
theorem Vals.drop: ∀ {xs:List V} {us:List Value} (n:Nat),Vals xs us→Vals (xs.drop n) (us.drop n)
 |_,_,0,r=>r
 |_,_,_+1,.nil=>.nil
 |_,_,n+1,.cons _ t=>Vals.drop n t
def pV:Option V→Option Value→Prop
 |some v,some u=>RelV v u
 |none,none=>True
 |_,_=>False
def KV {κ:Type}:List (κ×V)→List (κ×Value)→Prop:=Paired fun (p:κ×V) (q:κ×Value)=>p.1=q.1∧RelV p.2 q.2
def kV:Key→V
 | .inl i=>.int i
 | .inr x=>.str x
inductive HO where
  |lst (xs:List V)
  |tup (xs:List V)
  |dK (kvs:List (Key×V))|dT (kvs:List (List Key×V))
  |set (S:Int→Bool) (n:Nat)
  |ins (C dx:Addr) (fs:List (Str×V))
  |own (x:Addr)
  |xd (fs:List (Str×V))
  |met (f x:Addr)
  |vD (lo hi:Int)
  |eF (o:Obj) (u:HO)
  |mx (ps:Array Value)
  |ext (φ:Heap→Prop)
abbrev Hp:=Addr→Option HO
def upd (H:Hp) (a:Addr) (o:HO):Hp:=fun b=>if b=a then some o else H b
theorem ar {H:Hp} {a:Addr} {o:HO}:upd H a o a=some o:=by unfold upd;rw[OG rfl]
theorem ag {H:Hp} {a b:Addr} {o:HO} (h:b≠a):upd H a o b=H b:=by unfold upd;rw[OH h]
theorem DP {H:Hp} {a:Addr} {o u:HO}:upd (upd H a o) a u=upd H a u:=by
 funext b;unfold upd;split<;>rfl
theorem B3 {H:Hp} {a b:Addr} {o u:HO} (h:H a=some o) (h':H b=some u) (d:o≠u):a≠b:=by
 intro e;subst e;rw[h] at h';exact d (OK h')
theorem aD {H:Hp} {a b:Addr} {o:HO} (h:H a=some o) (h':H b=none):a≠b:=by
 intro e;subst e;rw[h] at h';cases h'
section
variable (P:Program) (w:World)
def bS (H:Hp) (h:Heap) (a:Addr):HO→Prop
 | .lst xs=>xs.length≤sizeLine∧∃ (ay:List Value) (n:Nat),Vals xs ay∧h.get? a=some {cls:=.type "list",data:=.seq ay.toArray n}
 | .tup xs=>xs.length≤sizeLine∧∃ ay:List Value,Vals xs ay∧IsTup h a ay.toArray
 | .dK kvs=>kvs.length≤sizeLine∧(a==sysModules)=false∧∃ vs,KV kvs vs∧h.DictOf (aY P w) a vs
 | .dT kvs=>kvs.length≤sizeLine∧(a==sysModules)=false∧∃ xs:List (List Key×Addr×Value),
   Paired (fun (p:List Key×V) (q:List Key×Addr×Value)=>p.1=q.1∧H q.2.1=some (.tup (p.1.map kV))∧RelV p.2 q.2.2) kvs xs∧
   ∃ o es ep,h.get? a=some o∧o.ExactDict∧o.data= .dict es ep∧es.toList=xs.map (entryOfKey (tupleKind (aY P w)))∧(xs.map (·.1)).Nodup
 | .set S n=>h.SetOf (intKind P w) a S n
 | .ins C dx fs=>H dx=some (.own a)∧fs.length≤1000∧dx≠a∧h.get? a=some (PySem.W.instObj C dx)∧
   ∃ mA,h.Ns1 dx mA∧(∀ f,pV (fs.lookup f) (mA f))∧PySem.Within mA (fs.map (·.1))
 | .own _=> ∃ o,h.get? a=some o
 | .xd fs=> ∃ mA,h.Ns1 a mA∧∀ f,pV (fs.lookup f) (mA f)
 | .vD lo hi=> ∃ t u v,h.get? a=some {cls:=.type "range",data:=.fields #[.int lo t,.int hi u,.int 1 v]}
 | .eF o u=>h.get? a=some o∧bS H h a u
 | .mx ps=>h.get? a=some {cls:=.none,data:=.fields ps}
 | .met f x=>h.get? a=some (PySem.W.methodObj (.ref f) (.ref x))
 | .ext φ=>φ h∧(∃ o,h.get? a=some o)∧∀ h1 h2:Heap,φ h1→(∀ o,h1.get? a=some o→h2.get? a=some o)→φ h2
def jd (H:Hp) (h:Heap):Prop:= ∀ a o,H a=some o→bS P w H h a o
end
section
variable {P:Program} {w:World} {H H':Hp} {h h':Heap} {a:Addr} {o:HO}
theorem bS.lt (x:bS P w H h a o):a < h.objs.size:=by
 cases o with
 |lst xs=>obtain⟨_,_,_,_,e⟩:=x;exact N9 e
 |tup xs=>obtain⟨_,_,_,p⟩:=x;exact p.lt
 |dK kvs=>obtain⟨_,_,_,_,o,_,_,e,_⟩:=x;exact N9 e
 |dT kvs=>obtain⟨_,_,_,_,o,_,_,e,_⟩:=x;exact N9 e
 |set S n=>obtain⟨o,_,_,_,e,_⟩:=x;exact N9 e
 |ins C dx fs=>obtain⟨_,_,_,e,_⟩:=x;exact N9 e
 |own y=>obtain⟨_,e⟩:=x;exact N9 e
 |xd fs=>obtain⟨_,⟨_,_,_,e,_⟩,_⟩:=x;exact N9 e
 |vD lo hi=>obtain⟨_,_,_,e⟩:=x;exact N9 e
 |eF ob u=>obtain⟨e,_⟩:=x;exact N9 e
 |mx ps=>exact N9 (show h.get? a=some _ from x)
 |met f y=>exact N9 (show h.get? a=some _ from x)
 |ext φ=>obtain⟨_,⟨_,e⟩,_⟩:=x;exact N9 e
theorem Paired.ID {α β:Type} {F G:α→β→Prop}: ∀ {l₁:List α} {l₂:List β},Paired F l₁ l₂→(∀ a b,F a b→G a b)→Paired G l₁ l₂
 |_,_,.nil,_=>.nil
 |_,_,.cons r t,f=>.cons (f _ _ r) (Paired.ID t f)
theorem bS.mY (x:bS P w H h a o) (k: ∀ b u,(b=a∨H b=some (.own a))→h.get? b=some u→h'.get? b=some u)
  (ho: ∀ b,H b=some (.own a)→H' b=some (.own a)) (ht: ∀ b xs,H b=some (.tup xs)→H' b=some (.tup xs)):bS P w H' h' a o:=by
 induction o with
 |lst xs=>obtain⟨z,ay,n,r,e⟩:=x;exact⟨z,ay,n,r,k _ _ (.inl rfl) e⟩
 |tup xs=>obtain⟨z,ay,r,ob,e,c⟩:=x;exact⟨z,ay,r,ob,k _ _ (.inl rfl) e,c⟩
 |dK kvs=>obtain⟨z,y,vs,r,ob,es,ep,e,c⟩:=x;exact⟨z,y,vs,r,ob,es,ep,k _ _ (.inl rfl) e,c⟩
 |dT kvs=>
  obtain⟨z,y,xs,r,ob,es,ep,e,c⟩:=x
  exact⟨z,y,xs,Paired.ID r fun p q z=>⟨z.1,ht _ _ z.2.1,z.2.2⟩,ob,es,ep,k _ _ (.inl rfl) e,c⟩
 |set S n=>obtain⟨ob,es,ep,t,e,c⟩:=x;exact⟨ob,es,ep,t,k _ _ (.inl rfl) e,c⟩
 |ins C dx fs=>
  obtain⟨d,z,ne,e,mA,⟨od,es,ep,e2,c⟩,r⟩:=x
  exact⟨ho _ d,z,ne,k _ _ (.inl rfl) e,mA,⟨od,es,ep,k _ _ (.inr d) e2,c⟩,r⟩
 |own y=>obtain⟨ob,e⟩:=x;exact⟨ob,k _ _ (.inl rfl) e⟩
 |xd fs=>obtain⟨mA,⟨od,es,ep,e,c⟩,r⟩:=x;exact⟨mA,⟨od,es,ep,k _ _ (.inl rfl) e,c⟩,r⟩
 |vD lo hi=>obtain⟨t,u,v,e⟩:=x;exact⟨t,u,v,k _ _ (.inl rfl) e⟩
 |eF ob u ih=>obtain⟨e,q⟩:=x;exact⟨k _ _ (.inl rfl) e,ih q⟩
 |mx ps=>
  have e:h.get? a=some {cls:=.none,data:=.fields ps}:=x
  show h'.get? a=some {cls:=.none,data:=.fields ps}
  exact k a _ (.inl rfl) e
 |met f y=>
  have e:h.get? a=some (PySem.W.methodObj (.ref f) (.ref y)):=x
  show h'.get? a=some (PySem.W.methodObj (.ref f) (.ref y))
  exact k a _ (.inl rfl) e
 |ext φ=>obtain⟨p,⟨o,e⟩,st⟩:=x;exact⟨st _ _ p fun o q=>k _ _ (.inl rfl) q,⟨o,k _ _ (.inl rfl) e⟩,st⟩
theorem jd.lt (x:jd P w H h) (e:H a=some o):a < h.objs.size:=(x a o e).lt
theorem jd.fresh (x:jd P w H h) (e:h.objs.size≤a):H a=none:=by
 cases q:H a with
 |none=>rfl
 |some u=>exact absurd (Of (x.lt q) e) (Nat.lt_irrefl _)
theorem jd.kept (x:jd P w H h) (k: ∀ b u,h.get? b=some u→h'.get? b=some u):jd P w H h':=fun a o e=>
 (x a o e).mY (fun b u _ q=>k b u q) (fun _ q=>q) fun _ _ q=>q
theorem jd.laid (x:jd P w H h) (k: ∀ b u,h.get? b=some u→h'.get? b=some u) (hp:h.objs.size≤a) (new:bS P w (upd H a o) h' a o):jd P w (upd H a o) h':=fun b u e=>by
 have hn:=x.fresh hp
 by_cases hb:b=a
 ·subst hb;rw[ar] at e;cases e;exact new
 ·rw[ag hb] at e
  exact(x b u e).mY (fun c v _ q=>k c v q) (fun c q=>by rw[ag (aD q hn)];exact q) fun c xs q=>by rw[ag (aD q hn)];exact q
end
def Rd (H:Hp) (a:Addr) (u:HO):Prop:=H a=some u∨∃ o,H a=some (.eF o u)
theorem Rd.ok {P:Program} {w:World} {H:Hp} {h:Heap} {a:Addr} {u:HO} (r:Rd H a u) (x:jd P w H h):bS P w H h a u:=by
 rcases r with r|⟨o,r⟩
 ·exact x a u r
 ·obtain⟨_,q⟩:=x a _ r
  exact q
def L5:Option HO→Prop
 |some (.lst _)=>True
 |some (.dK _)=>True
 |some (.dT _)=>True
 |some (.set _ _)=>True
 |some (.ins _ _ _)=>True
 |some (.ext _)=>True
 |_=>False
section
variable {P:Program} {w:World} {H:Hp} {h h':Heap} {x e:Addr} {o':HO}
theorem jd.write (ok:jd P w H h) (mu:L5 (H x)) (he:e=x∨H e=some (.own x)) (k: ∀ b u,b≠e→h.get? b=some u→h'.get? b=some u) (heo: ∃ u,h'.get? e=some u)
  (new:bS P w (upd H x o') h' x o'):jd P w (upd H x o') h':=fun b u q=>by
 have nown: ∀ c y,H c=some (.own y)→c≠x:=fun c y r z=>by subst z;rw[r] at mu;exact mu
 have ntup: ∀ c xs,H c=some (.tup xs)→c≠x:=fun c xs r z=>by subst z;rw[r] at mu;exact mu
 by_cases hb:b=x
 ·subst hb;rw[ar] at q;cases q;exact new
 ·rw[ag hb] at q
  by_cases hbe:b=e
  ·have q':H b=some (.own x):=by
    rcases he with z|z
    ·exact absurd (hbe.trans z) hb
    ·rw[hbe];exact z
   rw[q] at q';cases q'
   obtain⟨v,hv⟩:=heo
   exact⟨v,by rw[hbe];exact hv⟩
  ·refine(ok b u q).mY (fun c v hc r=>k c v ?_ r) (fun c r=>by rw[ag (nown c b r)];exact r) fun c xs r=>by rw[ag (ntup c xs r)];exact r
   rcases hc with rfl|hc
   ·exact hbe
   ·rintro rfl
    rcases he with z|z
    ·exact nown c b hc z
    ·rw[hc] at z;cases z;exact hb rfl
end
set_option genInjectivity false in
structure Un (fs ex:List Addr) (H H':Hp) (h h':Heap):Prop where
 keep: ∀ b o,h.get? b=some o→H b=none→b∉fs→b∉ex→h'.get? b=some o
 slot: ∀ b o,h.get? b=some o→H b=none→b∈fs→b∉ex→∃ sl,h'.get? b=some {o with slots:=sl}
 free: ∀ b o,h.get? b=some o→H b=none→b∉ex→H' b=none
 there: ∀ b o,h.get? b=some o→b∉ex→∃ o',h'.get? b=some o'
 qQ: ∀ b xs,H b=some (.tup xs)→H' b=some (.tup xs)
 kH: ∀ b o u,H b=some (.eF o u)→H' b=some (.eF o u)
 o9: ∀ b ps,H b=some (.mx ps)→∃ more,H' b=some (.mx (ps++more))
section
variable {fs fs' ex ex':List Addr} {H H1 H2:Hp} {h h1 h2 h':Heap} {a x e:Addr} {o:HO}
theorem Un.any (u:Un fs ex H H1 h h1) {b:Addr} {ob:Obj} (q:h.get? b=some ob) (n:H b=none) (hx:b∉ex): ∃ sl,h1.get? b=some {ob with slots:=sl}:=by
 by_cases hb:b∈fs
 ·exact u.slot b ob q n hb hx
 ·exact⟨ob.slots,u.keep b ob q n hb hx⟩
theorem Un.kept (k: ∀ b u,h.get? b=some u→h'.get? b=some u):Un fs ex H H h h':=
 ⟨fun b ob q _ _ _=>k b ob q,fun b ob q _ _ _=>⟨ob.slots,k b ob q⟩,fun _ _ _ n _=>n,fun b ob q _=>⟨ob,k b ob q⟩,fun _ _ q=>q,fun _ _ _ q=>q,fun _ ps q=>⟨#[],by rw[q];simp⟩⟩
theorem Un.refl:Un fs ex H H h h:=Un.kept fun _ _ q=>q
theorem Un.laid (k: ∀ b u,h.get? b=some u→h'.get? b=some u) (hp:h.objs.size≤a) (hn:H a=none):Un fs ex H (upd H a o) h h' where
 keep:=fun b u q _ _ _=>k b u q
 slot:=fun b u q _ _ _=>⟨u.slots,k b u q⟩
 free:=fun b u q n _=>by rw[ag (Oo (Of (N9 q) hp))];exact n
 there:=fun b u q _=>⟨u,k b u q⟩
 qQ:=fun b xs q=>by rw[ag (aD q hn)];exact q
 kH:=fun b u xs q=>by rw[ag (aD q hn)];exact q
 o9:=fun b ps q=>⟨#[],by rw[ag (aD q hn),q];simp⟩
theorem Un.write (mu:L5 (H x)) (he:e=x∨H e=some (.own x)) (k: ∀ b u,b≠e→h.get? b=some u→h'.get? b=some u) (heo: ∃ u,h'.get? e=some u):Un fs ex H (upd H x o) h h':=by
 have hx: ∀ b,H b=none→b≠x:=fun b n z=>by subst z;rw[n] at mu;exact mu
 have hb: ∀ b,H b=none→b≠e:=fun b n z=>by
  subst z
  rcases he with r|r
  ·exact hx b n r
  ·rw[n] at r;cases r
 have hm: ∀ b u,H b=some u→¬ L5 (some u)→b≠x:=fun b u q nm z=>by subst z;rw[q] at mu;exact nm mu
 refine⟨fun b u q n _ _=>k b u (hb b n) q,fun b u q n _ _=>⟨u.slots,k b u (hb b n) q⟩,fun b u q n _=>by rw[ag (hx b n)];exact n,fun b u q _=>?_,
  fun b xs q=>by rw[ag (hm b _ q fun z=>z)];exact q,fun b u xs q=>by rw[ag (hm b _ q fun z=>z)];exact q,fun b ps q=>⟨#[],by rw[ag (hm b _ q fun z=>z),q];simp⟩⟩
 by_cases hbe:b=e
 ·subst hbe;exact heo
 ·exact⟨u,k b u hbe q⟩
end
def Mg (h:Heap) (H:Hp):List Addr:=(List.range h.objs.size).filter fun a=>(H a).isSome
def sj (h:Heap) (H:Hp):Heap:=PySem.W.hideAll h (Mg h H)
theorem zU (h:Heap) (H:Hp):(sj h H).objs.size=h.objs.size:=PySem.W.hideAll_size _ _
theorem n8 {h:Heap} {H:Hp} {b:Addr} {o:Obj} (e:h.get? b=some o) (n:H b=none):(sj h H).get? b=some o:=
 PySem.W.hideAll_get _ e fun hm=>by
  have q:(H b).isSome=true:=(OE.mp hm).2
  rw[n] at q;simp at q
theorem EH {h:Heap} {H:Hp} {b:Addr} {o:Obj} (e:(sj h H).get? b=some o):h.get? b=some o∧H b=none:=by
 have e':h.get? b=some o:=PySem.W.of_hideAll (Mg h H) e
 refine⟨e',?_⟩
 cases q:H b with
 |none=>rfl
 |some x=>
  have hm:b∈Mg h H:=OE.mpr ⟨List.mem_range.mpr (N9 e'),by simp[q]⟩
  have z:(sj h H).get? b=none:=PySem.W.hideAll_none (Mg h H) hm
  rw[z] at e;cases e
def FN (g h:Heap) (L:Addr):List (Addr×Obj):=(List.range h.objs.size).filterMap fun a=>if a=L∨(g.get? a).isSome=true then none else(h.get? a).map fun o=>(a,o)
def rest (g h:Heap) (L d:Addr):List (Addr×Obj):=(FN g h L).filter fun p=>decide (p.1≠d)
end L2
namespace L2
open PySem PySem.Spec PyProof.Rows
set_option genInjectivity false in
structure Mod (K:Frag) (mg:Str→Option Value) (base:Heap):Prop where
  M5:K.In base
  glob:base.Ns mainGlobals mg
  blt: ∃ mb,base.Ns builtinsNs mb∧∀ x:Str,x≠"__name__"→mb x=bootBuiltins x
  nolimit:base.NoLimit
set_option genInjectivity false in
structure Cx where
 prog:Program
 w:World
 K:Frag
 mg:Str→Option Value
 base:Heap
 A:Around
 N:List Str
 s₀:Shared
 H₀:Hp
 env:Env
 outer:List Env
 stack:List Env
 ex:List Addr
 fn:Str→Bool
 calm:Bool
 pn:List (Addr×Obj)
 xe:Value→Shared→Prop
def CD (l:List Env):List Addr:=l.filterMap (·.frame)
abbrev Cx.fs (X:Cx):List Addr:=CD X.outer
def Kh (sc:Scope) (x:Str):Prop:=sc.names.lookup x=some .local∨sc.names.lookup x=some .cell∨sc.names.lookup x=some .free
def Loc (sc:Scope) (x:Str):Prop:=sc.names.lookup x=some .local∨sc.names.lookup x=some .cell
def Look (env:Env) (h:Heap) (m:Str→Option Value) (x:Str) (u:Value):Prop:=
 (env.kindOf x=some .local∧m x=some u)∨((env.kindOf x=some .cell∨env.kindOf x=some .free)∧∃ c,env.cells.lookup x=some c∧h.IsCell c (some u))
set_option genInjectivity false in
structure Cx.Ok (X:Cx):Prop where
 mod:Mod X.K X.mg X.base
 kind:X.env.scope.kind= .function
 glob:X.env.globals=mainGlobals
 blt:X.env.builtins=builtinsNs
 above:X.s₀.heap.objs.size≤X.env.locals
 inj: ∀ x y c,X.env.cells.lookup x=some c→X.env.cells.lookup y=some c→x=y
 has: ∀ x,(X.env.kindOf x=some .cell∨X.env.kindOf x=some .free)→∃ c,X.env.cells.lookup x=some c
 Kf: ∀ x c,X.fn x=true→X.env.cells.lookup x=some c→X.s₀.heap.objs.size≤c
 hd:X.calm=true→X.A.handled=none
 frames:X.A.frames=some X.stack
 KN:X.stack=X.outer∨(X.stack=X.env::X.outer∧X.env.frame=some X.env.locals)
 Ni: ∀ b∈X.ex,b≠X.env.locals∧∀ x c,X.env.cells.lookup x=some c→c≠b
 bs: ∀ b o,X.base.get? b=some o→X.s₀.heap.get? b=some o∧X.H₀ b=none
 DG:X.base.objs.size≤X.s₀.heap.objs.size
 zF: ∀ b o,X.base.get? b=some o→b∉X.ex
 CI: ∀ b∈X.ex,b∉X.fs
 lG:X.s₀.heap.FunFrames X.base X.outer
 GI: ∀ b∈X.fs,X.H₀ b=none
set_option genInjectivity false in
structure Inv (X:Cx) (pZ:List (Addr×Obj)) (σ:List (Option V)) (H:Hp) (s:Shared):Prop where
 ok:X.Ok
 os:s.os=X.s₀.os
 bare:AllBare s.gens
 base:Un X.fs X.ex X.H₀ H X.s₀.heap s.heap
 loc: ∃ m,s.heap.Ns X.env.locals m∧∀ (i:Nat) (x:Str) (v:V),X.N[i]?=some x→σ[i]?=some (some v)→Kh X.env.scope x→∃ u,RelV v u∧Look X.env s.heap m x u
 cell: ∀ x c,X.env.cells.lookup x=some c→∃ v,s.heap.IsCell c v
 free:H X.env.locals=none
 iY: ∀ x c,X.env.cells.lookup x=some c→H c=none
 pin: ∀ p∈X.pn++pZ,s.heap.get? p.1=some p.2∧H p.1=none∧p.1≠X.env.locals∧p.1∉X.fs∧∀ v,p.2.data≠.cell v
 a7:jd X.prog X.w H s.heap
 len:σ.length=X.N.length
section
variable {X:Cx} {pZ:List (Addr×Obj)} {σ:List (Option V)} {H H':Hp} {s:Shared} {h':Heap}
theorem Cx.Ok.MU (ok:X.Ok) {b:Addr} {o:Obj} (e:X.base.get? b=some o):b∉X.fs:=fun hb=>by
 have:=(ok.lG.mem hb).1
 rw[e] at this;cases this
theorem Inv.bs (I:Inv X pZ σ H s): ∀ b o,X.base.get? b=some o→s.heap.get? b=some o∧H b=none:=fun b o e=>
 ⟨I.base.keep b o (I.ok.bs b o e).1 (I.ok.bs b o e).2 (I.ok.MU e) (I.ok.zF b o e),I.base.free b o (I.ok.bs b o e).1 (I.ok.bs b o e).2 (I.ok.zF b o e)⟩
theorem Inv.bk (I:Inv X pZ σ H s): ∀ b o,X.base.get? b=some o→s.heap.get? b=some o:=fun b o e=>(I.bs b o e).1
theorem Inv.mod (I:Inv X pZ σ H s):Mod X.K X.mg X.base:=I.ok.mod
theorem Inv.Kc (I:Inv X pZ σ H s):X.K.In s.heap:=I.ok.mod.M5.keeps I.bk
theorem Inv.lt (I:Inv X pZ σ H s):X.env.locals < s.heap.objs.size:=let ⟨_,hn,_⟩:=I.loc;hn.lt
theorem Inv.sz (I:Inv X pZ σ H s):X.s₀.heap.objs.size≤s.heap.objs.size:=Od I.ok.above (Nat.le_of_lt I.lt)
theorem Inv.MT (I:Inv X pZ σ H s) {a:Addr} (h:s.heap.objs.size≤a):a∉X.fs:=fun hb=>by
 obtain⟨_,o,ho,_⟩:=I.ok.lG.mem hb
 exact absurd (Of (N9 ho) (Od I.sz h)) (Nat.lt_irrefl _)
theorem Inv.Jy (I:Inv X pZ σ H s): ∀ x c,X.env.cells.lookup x=some c→c≠X.env.locals:=fun x c e z=>by
 obtain⟨v,o,ho,hd⟩:=I.cell x c e
 obtain⟨m,⟨o',es,ep,ho',hd',_⟩,_⟩:=I.loc
 rw[z,ho'] at ho;cases ho;rw[hd'] at hd;cases hd
theorem Inv.lG (I:Inv X pZ σ H s):s.heap.FunFrames X.base X.outer:=by
 have all: ∀ (l:List Env),(∀ b∈CD l,b∈X.fs)→X.s₀.heap.FunFrames X.base l→s.heap.FunFrames X.base l:=by
  intro l
  induction l with
  |nil=>intro _ _;trivial
  |cons env r ih=>
   intro hs hl
   obtain⟨hk,⟨L,o,hf,hn,ho,hd⟩,hr⟩:=hl
   have hL:L∈X.fs:=hs L (by unfold CD;rw[List.filterMap_cons,hf];exact NS)
   obtain⟨sl,e⟩:=I.base.slot L o ho (I.ok.GI L hL) hL fun z=>I.ok.CI L z hL
   exact⟨hk,⟨L,_,hf,hn,e,hd⟩,ih (fun b hb=>hs b (by unfold CD;rw[List.filterMap_cons,hf];exact NV _ hb)) hr⟩
 exact all X.outer (fun _ hb=>hb) I.ok.lG
theorem Inv.stack (I:Inv X pZ σ H s):s.heap.FunFrames X.base X.stack:=by
 rcases I.ok.KN with e|⟨e,hf⟩
 ·rw[e];exact I.lG
 ·rw[e]
  obtain⟨m,hn,_⟩:=I.loc
  refine .cons (by rw[I.ok.kind];decide) hf hn ?_ I.lG
  exact Heap.get?_none_of_le (Od I.ok.DG I.ok.above)
theorem Inv.kU (I:Inv X pZ σ H s): ∀ b∈CD X.stack,b∈X.env.locals::X.fs:=fun b hb=>by
 rcases I.ok.KN with e|⟨e,hf⟩
 ·rw[e] at hb;exact NV _ hb
 ·rw[e] at hb
  unfold CD at hb
  rw[List.filterMap_cons,hf] at hb
  exact hb
theorem Inv.xW (I:Inv X pZ σ H s): ∀ b∈CD X.stack,H b=none:=fun b hb=>by
 rcases N2.mp (I.kU b hb) with e|hb
 ·rw[e];exact I.free
 ·obtain⟨_,o,ho,_⟩:=I.ok.lG.mem hb
  exact I.base.free b o ho (I.ok.GI b hb) fun z=>I.ok.CI b z hb
theorem Inv.step {g':Array GenState} {t':Nat} {d':Drawn} {ch:List Addr} (I:Inv X pZ σ H s)
  (hch: ∀ b∈ch,(b∈X.ex∨X.s₀.heap.objs.size≤b)∧b≠X.env.locals∧(∀ x c,X.env.cells.lookup x=some c→c≠b)∧∀ p∈X.pn++pZ,p.1≠b)
  (keep: ∀ b o,b≠X.env.locals→b∉X.fs→b∉ch→s.heap.get? b=some o→H b=none→h'.get? b=some o)
  (slot: ∀ b o,b≠X.env.locals→b∈X.fs→b∉ch→s.heap.get? b=some o→H b=none→∃ sl,h'.get? b=some {o with slots:=sl}) (free: ∀ b o,b∉ch→s.heap.get? b=some o→H b=none→H' b=none)
  (there: ∀ b o,b∉ch→s.heap.get? b=some o→∃ o',h'.get? b=some o')
  (qQ: ∀ b xs,H b=some (.tup xs)→H' b=some (.tup xs)) (kH: ∀ b o u,H b=some (.eF o u)→H' b=some (.eF o u)) (o9: ∀ b ps,H b=some (.mx ps)→∃ more,H' b=some (.mx (ps++more)))
  (ns: ∀ m,s.heap.Ns X.env.locals m→h'.Ns X.env.locals m) (a7:jd X.prog X.w H' h') (hg:AllBare g'):
  Inv X pZ σ H' {s with heap:=h',gens:=g',drawn:=d',toks:=t'}:=by
 have MV: ∀ b o,X.s₀.heap.get? b=some o→b≠X.env.locals:=fun b o e=>Oo (Of (N9 e) I.ok.above)
 have neC: ∀ b o,X.s₀.heap.get? b=some o→b∉X.ex→b∉ch:=fun b o e hx hb=>by
  rcases(hch b hb).1 with z|z
  ·exact hx z
  ·exact absurd (Of (N9 e) z) (Nat.lt_irrefl _)
 have cellK: ∀ x c,X.env.cells.lookup x=some c→∀ v,s.heap.IsCell c v→h'.IsCell c v:=fun x c e v bt=>by
  obtain⟨o,ho,hd⟩:=bt
  have nch:c∉ch:=fun z=>(hch c z).2.2.1 x c e rfl
  by_cases hc:c∈X.fs
  ·obtain⟨sl,q⟩:=slot c o (I.Jy x c e) hc nch ho (I.iY x c e)
   exact⟨_,q,hd⟩
  ·exact⟨o,keep c o (I.Jy x c e) hc nch ho (I.iY x c e),hd⟩
 refine⟨I.ok,I.os,hg,⟨fun b o e n hb hx=>?_,fun b o e n hb hx=>?_,fun b o e n hx=>?_,fun b o e hx=>?_,fun b xs e=>qQ b xs (I.base.qQ b xs e),fun b o xs e=>kH b o xs (I.base.kH b o xs e),fun b ps e=>?_⟩,?_,fun x c e=>?_,?_,fun x c e=>?_,fun p hp=>?_,a7,I.len⟩
 ·exact keep b o (MV b o e) hb (neC b o e hx) (I.base.keep b o e n hb hx) (I.base.free b o e n hx)
 ·obtain⟨sl,e1⟩:=I.base.slot b o e n hb hx
  obtain⟨sl',e2⟩:=slot b _ (MV b o e) hb (neC b o e hx) e1 (I.base.free b o e n hx)
  exact⟨sl',e2⟩
 ·obtain⟨o',e1⟩:=I.base.there b o e hx
  exact free b o' (neC b o e hx) e1 (I.base.free b o e n hx)
 ·obtain⟨o',e1⟩:=I.base.there b o e hx
  exact there b o' (neC b o e hx) e1
 ·obtain⟨m1,e1⟩:=I.base.o9 b ps e
  obtain⟨m2,e2⟩:=o9 b _ e1
  exact⟨m1++m2,by rw[e2,Array.append_assoc]⟩
 ·obtain⟨m,hn,hl⟩:=I.loc
  refine⟨m,ns m hn,fun i x v e1 e2 e3=>?_⟩
  obtain⟨u,r,l⟩:=hl i x v e1 e2 e3
  refine⟨u,r,?_⟩
  rcases l with l|⟨k,c,e,z⟩
  ·exact .inl l
  ·exact .inr ⟨k,c,e,cellK x c e _ z⟩
 ·obtain⟨v,z⟩:=I.cell x c e
  exact⟨v,cellK x c e v z⟩
 ·obtain⟨m,⟨o,_,_,ho,_⟩,_⟩:=I.loc
  exact free _ o (fun z=>(hch _ z).2.1 rfl) ho I.free
 ·obtain⟨v,o,ho,hd⟩:=I.cell x c e
  exact free c o (fun z=>(hch c z).2.2.1 x c e rfl) ho (I.iY x c e)
 ·obtain⟨e,n,ne,nf,d⟩:=I.pin p hp
  have nch:p.1∉ch:=fun z=>(hch p.1 z).2.2.2 p hp rfl
  exact⟨keep p.1 p.2 ne nf nch e n,free p.1 p.2 nch e n,ne,nf,d⟩
theorem Inv.un {t':Nat} (I:Inv X pZ σ H s) (u:Un X.fs [] H H' s.heap h') (a7:jd X.prog X.w H' h'):Inv X pZ σ H' {s with heap:=h',toks:=t'}:=by
 obtain⟨m,⟨o,es,ep,ho,r⟩,_⟩:=id I.loc
 obtain⟨sl,hL⟩:=u.any ho I.free (by simp)
 exact I.step (g':=s.gens) (d':=s.drawn) (ch:=[]) (fun _ z=>nomatch z) (fun b o _ hb _ e n=>u.keep b o e n hb (by simp)) (fun b o _ hb _ e n=>u.slot b o e n hb (by simp)) (fun b o _ e n=>u.free b o e n (by simp)) (fun b o _ e=>u.there b o e (by simp)) u.qQ u.kH u.o9 (fun m' hm=>by
  obtain⟨o',es',ep',ho',r'⟩:=hm
  rw[ho] at ho';cases ho'
  exact⟨_,es',ep',hL,r'⟩) a7 I.bare
theorem Inv.call {g':Array GenState} {t':Nat} {d':Drawn} {ch:List Addr} (I:Inv X pZ σ H s) (u:Un (CD X.stack) ch H H' s.heap h') (a7:jd X.prog X.w H' h') (hg:AllBare g')
  (hch: ∀ b∈ch,(b∈X.ex∨X.s₀.heap.objs.size≤b)∧b≠X.env.locals∧(∀ x c,X.env.cells.lookup x=some c→c≠b)∧∀ p∈X.pn++pZ,p.1≠b):
  Inv X pZ σ H' {s with heap:=h',gens:=g',drawn:=d',toks:=t'}:=by
 obtain⟨m,⟨o,es,ep,ho,r⟩,_⟩:=id I.loc
 obtain⟨sl,hL⟩:=u.any ho I.free fun z=>(hch _ z).2.1 rfl
 exact I.step (ch:=ch) hch (fun b o hL hb hc e n=>u.keep b o e n (fun z=>(N2.mp (I.kU b z)).elim hL hb) hc) (fun b o _ _ hc e n=>u.any e n hc) (fun b o hc e n=>u.free b o e n hc) (fun b o hc e=>u.there b o e hc) u.qQ u.kH u.o9 (fun m' hm=>by
  obtain⟨o',es',ep',ho',r'⟩:=hm
  rw[ho] at ho';cases ho'
  exact⟨_,es',ep',hL,r'⟩) a7 hg
theorem Inv.turned {t':Nat} {it:Addr} (I:Inv X pZ σ H s) (k: ∀ b o,b≠it→s.heap.get? b=some o→h'.get? b=some o) (hn:H it=none) (hL:it≠X.env.locals)
  (h1:it∈X.ex∨X.s₀.heap.objs.size≤it) (h2: ∀ x c,X.env.cells.lookup x=some c→c≠it) (h3: ∀ p∈X.pn++pZ,p.1≠it):Inv X pZ σ H {s with heap:=h',toks:=t'}:=by
 have nit: ∀ b u,H b=some u→b≠it:=fun b u e z=>by rw[z,hn] at e;cases e
 refine I.step (g':=s.gens) (d':=s.drawn) (ch:=[it]) (fun b hb=>?_) (fun b o _ _ hc e _=>k b o (fun z=>hc (by simp[z])) e) (fun b o _ _ hc e _=>⟨o.slots,k b o (fun z=>hc (by simp[z])) e⟩) (fun _ _ _ _ n=>n)
  (fun b o hc e=>⟨o,k b o (fun z=>hc (by simp[z])) e⟩) (fun _ _ e=>e) (fun _ _ _ e=>e) (fun b ps e=>⟨#[],by rw[e];simp⟩) (fun m hm=>?_) (fun b u e=>?_) I.bare
 ·have e:b=it:=by simpa using hb
  subst e
  exact⟨h1,hL,h2,h3⟩
 ·obtain⟨o,es,ep,ho,r⟩:=hm
  exact⟨o,es,ep,k _ o (Ne.symm hL) ho,r⟩
 ·refine(I.a7 b u e).mY (fun c v hc q=>k c v ?_ q) (fun _ q=>q) fun _ _ q=>q
  rcases hc with z|z
  ·rw[z];exact nit b u e
  ·exact nit c _ z
theorem Inv.tok (I:Inv X pZ σ H s) (t:Nat):Inv X pZ σ H {s with toks:=t}:=I.un (h':=s.heap) (t':=t) Un.refl I.a7
theorem Inv.kept {t':Nat} (I:Inv X pZ σ H s) (k: ∀ b u,s.heap.get? b=some u→h'.get? b=some u):Inv X pZ σ H {s with heap:=h',toks:=t'}:=I.un (Un.kept k) (I.a7.kept k)
theorem Inv.laid {a:Addr} {o:HO} {t':Nat} (I:Inv X pZ σ H s) (k: ∀ b u,s.heap.get? b=some u→h'.get? b=some u) (hp:s.heap.objs.size≤a) (new:bS X.prog X.w (upd H a o) h' a o):
  Inv X pZ σ (upd H a o) {s with heap:=h',toks:=t'}:=I.un (Un.laid k hp (I.a7.fresh hp)) (I.a7.laid k hp new)
theorem Inv.write {x e:Addr} {o:HO} {t':Nat} (I:Inv X pZ σ H s) (mu:L5 (H x)) (he:e=x∨H e=some (.own x)) (k: ∀ b u,b≠e→s.heap.get? b=some u→h'.get? b=some u) (heo: ∃ u,h'.get? e=some u)
  (new:bS X.prog X.w (upd H x o) h' x o):Inv X pZ σ (upd H x o) {s with heap:=h',toks:=t'}:=I.un (Un.write mu he k heo) (I.a7.write mu he k heo new)
theorem Inv.jk {d8:List (Addr×Obj)} (I:Inv X pZ σ H s) (h: ∀ p∈d8,s.heap.get? p.1=some p.2∧H p.1=none∧p.1≠X.env.locals∧p.1∉X.fs∧∀ v,p.2.data≠.cell v):Inv X d8 σ H s:=
 ⟨I.ok,I.os,I.bare,I.base,I.loc,I.cell,I.free,I.iY,fun p hp=>(OF.mp hp).elim (fun z=>I.pin p (List.mem_append_left _ z)) (h p),I.a7,I.len⟩
theorem uu {N:List Str} (hN:N.Nodup) {i j:Nat} {x:Str} (a:N[i]?=some x) (b:N[j]?=some x):i=j:=by
 obtain⟨h1,e1⟩:=NY.mp a
 obtain⟨h2,e2⟩:=NY.mp b
 exact(List.getElem_inj hN).mp (e1.trans e2.symm)
theorem p6 {M:Model} {A:Around} {E:Value→Shared→Prop} {i:Nat} {x:Str} {v:V} {u:Value} {Q:Unit→Shared→Prop} (I:Inv X pZ σ H s) (hN:X.N.Nodup) (hi:X.N[i]?=some x) (hx:Loc X.env.scope x) (r:RelV v u)
  (h: ∀ s',Inv X pZ (σ.set i (some v)) H s'→(∃ a,Heap.SameBut a s.heap s'.heap∧(a=X.env.locals∨X.env.cells.lookup x=some a))→Q () s') (hf:X.fn x=true∨X.env.scope.names.lookup x=some .local:=by first|exact .inl rfl|exact .inr rfl|assumption):wpAny M A (storeName X.env x u) Q E s:=by
 obtain⟨m,hn,hl⟩:=id I.loc
 have hcls:(X.env.scope.kind== .class||(X.env.scope.kind== .module&&X.env.locals !=X.env.globals))=false:=by rw[I.ok.kind];rfl
 have hiσ:i < σ.length:=by rw[I.len];exact(NY.mp hi).1
 have Jy:=I.Jy
 have tracked: ∀ {a:Addr} {h':Heap},(∃ o,s.heap.get? a=some o∧H a=none)→Heap.SameBut a s.heap h'→jd X.prog X.w H h':=fun {a h'} ha hs b ob e=>by
  obtain⟨_,_,hfree⟩:=ha
  refine(I.a7 b ob e).mY (fun c w' hc q=>(hs.2 c ?_).trans q) (fun _ q=>q) fun _ _ q=>q
  rintro rfl
  rcases hc with rfl|hc
  ·rw[hfree] at e;cases e
  ·rw[hfree] at hc;cases hc
 rcases hx with hk|hk
 ·refine wpAny_storeName_local hk hn (fun h' hn' hs=>?_) hcls
  obtain⟨oL,_,_,hoL,_⟩:=id hn
  refine h _ ⟨I.ok,I.os,I.bare,⟨fun b o e n hb hx=>?_,fun b o e n hb hx=>?_,I.base.free,fun b o e hx=>?_,I.base.qQ,I.base.kH,I.base.o9⟩,⟨_,hn',fun j y v' e1 e2 e3=>?_⟩,fun y c e=>?_,I.free,I.iY,fun p hp=>?_,tracked ⟨oL,hoL,I.free⟩ hs,by simpa using I.len⟩ ⟨_,hs,.inl rfl⟩
  ·exact(hs.2 b (Oo (Of (N9 e) I.ok.above))).trans (I.base.keep b o e n hb hx)
  ·obtain⟨sl,e1⟩:=I.base.slot b o e n hb hx
   exact⟨sl,(hs.2 b (Oo (Of (N9 e) I.ok.above))).trans e1⟩
  ·obtain⟨o',e1⟩:=I.base.there b o e hx
   exact⟨o',(hs.2 b (Oo (Of (N9 e) I.ok.above))).trans e1⟩
  ·by_cases hj:j=i
   ·subst hj
    rw[hi] at e1;cases e1
    rw[OI hiσ] at e2
    cases e2
    exact⟨u,r,.inl ⟨hk,by simp⟩⟩
   ·rw[Ot (Ne.symm hj)] at e2
    obtain⟨u',r',q⟩:=hl j y v' e1 e2 e3
    refine⟨u',r',?_⟩
    rcases q with⟨k,e⟩|⟨k,c,e,z⟩
    ·refine .inl ⟨k,?_⟩
     have:y≠x:=fun e=>hj (uu hN e1 (e▸hi))
     simp[this,e]
    ·exact .inr ⟨k,c,e,z.sameBut hs (Jy y c e)⟩
  ·obtain⟨w',z⟩:=I.cell y c e
   exact⟨w',z.sameBut hs (Jy y c e)⟩
  ·obtain⟨e,n,ne,nf,d⟩:=I.pin p hp
   exact⟨(hs.2 p.1 ne).trans e,n,ne,nf,d⟩
 ·have hfn:X.fn x=true:=by
   rcases hf with z|z
   ·exact z
   ·rw[z] at hk;cases hk
  obtain⟨c,hc⟩:=I.ok.has x (.inl hk)
  obtain⟨w',z⟩:=I.cell x c hc
  refine wpAny_storeName_cell I.ok.kind hk hc z (fun h' hc' hs=>?_)
  obtain⟨oc,hoc,hocd⟩:=id z
  refine h {s with heap:=h'} ⟨I.ok,I.os,I.bare,⟨fun b o e n hb hx=>?_,fun b o e n hb hx=>?_,I.base.free,fun b o e hx=>?_,I.base.qQ,I.base.kH,I.base.o9⟩,⟨m,hn.sameBut hs (Ne.symm (Jy x c hc)),fun j y v' e1 e2 e3=>?_⟩,fun y c' e=>?_,I.free,I.iY,fun p hp=>?_,tracked ⟨oc,hoc,I.iY x c hc⟩ hs,by simpa using I.len⟩ ⟨c,hs,.inr hc⟩
  ·exact(hs.2 b (Oo (Of (N9 e) (I.ok.Kf x c hfn hc)))).trans (I.base.keep b o e n hb hx)
  ·obtain⟨sl,e1⟩:=I.base.slot b o e n hb hx
   exact⟨sl,(hs.2 b (Oo (Of (N9 e) (I.ok.Kf x c hfn hc)))).trans e1⟩
  ·obtain⟨o',e1⟩:=I.base.there b o e hx
   exact⟨o',(hs.2 b (Oo (Of (N9 e) (I.ok.Kf x c hfn hc)))).trans e1⟩
  ·by_cases hj:j=i
   ·subst hj
    rw[hi] at e1;cases e1
    rw[OI hiσ] at e2
    cases e2
    exact⟨u,r,.inr ⟨.inl hk,c,hc,hc'⟩⟩
   ·rw[Ot (Ne.symm hj)] at e2
    obtain⟨u',r',q⟩:=hl j y v' e1 e2 e3
    refine⟨u',r',?_⟩
    rcases q with q|⟨k,c',e,z'⟩
    ·exact .inl q
    ·refine .inr ⟨k,c',e,z'.sameBut hs ?_⟩
     rintro rfl
     exact hj (uu hN e1 (I.ok.inj _ _ _ e hc▸hi))
  ·by_cases hcc:c'=c
   ·subst hcc;exact⟨_,hc'⟩
   ·obtain⟨w2,z2⟩:=I.cell y c' e
    exact⟨w2,z2.sameBut hs hcc⟩
  ·obtain⟨e,n,ne,nf,d⟩:=I.pin p hp
   refine⟨(hs.2 p.1 ?_).trans e,n,ne,nf,d⟩
   intro q
   rw[q,hoc] at e
   have q':oc=p.2:=OK e
   exact d w' (by rw[←q'];exact hocd)
theorem kh {M:Model} {A:Around} {E:Value→Shared→Prop} {i:Nat} {x:Str} {v:V} {u:Value} {Q:Unit→Shared→Prop} (I:Inv X pZ σ H s) (hN:X.N.Nodup) (hi:X.N[i]?=some x) (hx:Loc X.env.scope x) (r:RelV v u)
  (h: ∀ s',Inv X pZ (σ.set i (some v)) H s'→Q () s') (hf:X.fn x=true∨X.env.scope.names.lookup x=some .local:=by first|exact .inl rfl|exact .inr rfl|assumption):wpAny M A (storeName X.env x u) Q E s:=
 p6 I hN hi hx r (fun s' I' _=>h s' I') hf
theorem Inv.LN {s':Shared} {ch:List Addr} (I:Inv X pZ σ H s) (ho:s'.os=s.os) (u:Un (CD X.stack) ch H H' s.heap s'.heap) (a7:jd X.prog X.w H' s'.heap) (hg:AllBare s'.gens)
  (hch: ∀ b∈ch,(b∈X.ex∨X.s₀.heap.objs.size≤b)∧b≠X.env.locals∧(∀ x c,X.env.cells.lookup x=some c→c≠b)∧∀ p∈X.pn++pZ,p.1≠b):Inv X pZ σ H' s':=by
 obtain⟨h',g',d',t',o'⟩:=s'
 have e:o'=s.os:=ho
 subst e
 exact I.call (g':=g') (t':=t') (d':=d') u a7 hg hch
end
abbrev XK:=Value→Option Addr→Hp→Prop
abbrev St:=List (Option V)
abbrev VK:=V→Hp→Prop
abbrev TE:=St→Hp→VK→Prop
abbrev TT:=St→Hp→(Bool→Hp→Prop)→Prop
abbrev TA:=St→Hp→(List V→Hp→Prop)→Prop
set_option genInjectivity false in
structure Ends where
 nx:St→Hp→Prop
 rt:VK
 bk:St→Hp→Prop:=fun _ _=>False
 ct:St→Hp→Prop:=fun _ _=>False
abbrev TS:=Ends→St→Hp→Prop
def EP (X:Cx) (pZ:List (Addr×Obj)) (σ:St) (Q:VK) (u:Value) (s':Shared):Prop:= ∃ v H',Inv X pZ σ H' s'∧RelV v u∧Q v H'
def TP (X:Cx) (pZ:List (Addr×Obj)) (σ:St) (Q:Bool→Hp→Prop) (b:Bool) (s':Shared):Prop:= ∃ H',Inv X pZ σ H' s'∧Q b H'
def AP (X:Cx) (pZ:List (Addr×Obj)) (σ:St) (Q:List V→Hp→Prop) (us:List Value) (s':Shared):Prop:= ∃ vs H',Inv X pZ σ H' s'∧Vals vs us∧Q vs H'
def SP (X:Cx) (pZ:List (Addr×Obj)) (D:Ends) (f:Flow) (s':Shared):Prop:=
 match f with
 | .next=> ∃ σ' H',Inv X pZ σ' H' s'∧D.nx σ' H'
 | .brk=> ∃ σ' H',Inv X pZ σ' H' s'∧D.bk σ' H'
 | .cont=> ∃ σ' H',Inv X pZ σ' H' s'∧D.ct σ' H'
 | .ret u=> ∃ v σ' H',Inv X pZ σ' H' s'∧RelV v u∧D.rt v H'
def PE (X:Cx) (e:Expr) (t:TE):Prop:=
 ∀ (pZ:List (Addr×Obj)) (s:Shared) (σ:St) (H:Hp) (Q:VK),Inv X pZ σ H s→t σ H Q→wpAny (model X.prog X.w) X.A (eval e X.env) (EP X pZ σ Q) X.xe s
def PT (X:Cx) (e:Expr) (t:TT):Prop:=
 ∀ (pZ:List (Addr×Obj)) (s:Shared) (σ:St) (H:Hp) (Q:Bool→Hp→Prop),Inv X pZ σ H s→t σ H Q→wpAny (model X.prog X.w) X.A (isTrue e X.env (eval e X.env)) (TP X pZ σ Q) X.xe s
def PW (X:Cx) (e:Expr) (t:TT):Prop:=
 ∀ (whole:Sem Value) (pZ:List (Addr×Obj)) (s:Shared) (σ:St) (H:Hp) (Q:Bool→Hp→Prop),Inv X pZ σ H s→t σ H Q→wpAny (model X.prog X.w) X.A (isTrue e X.env whole) (TP X pZ σ Q) X.xe s
theorem PW.pt {X:Cx} {e:Expr} {t:TT} (h:PW X e t):PT X e t:=h _
def PA (X:Cx) (es:List Expr) (t:TA):Prop:=
 ∀ (pos:Pos) (pZ:List (Addr×Obj)) (s:Shared) (σ:St) (H:Hp) (Q:List V→Hp→Prop),Inv X pZ σ H s→t σ H Q→wpAny (model X.prog X.w) X.A (spliced (backTo pos (starEach es X.env))) (AP X pZ σ Q) X.xe s
def PS (X:Cx) (st:Stmt) (t:TS):Prop:=
 ∀ (pZ:List (Addr×Obj)) (s:Shared) (σ:St) (H:Hp) (D:Ends),Inv X pZ σ H s→t D σ H→wpAny (model X.prog X.w) X.A (exec st X.env) (SP X pZ D) X.xe s
def vG (X:Cx) (st:List Stmt) (t:TS):Prop:=
 ∀ (pZ:List (Addr×Obj)) (s:Shared) (σ:St) (H:Hp) (D:Ends),Inv X pZ σ H s→t D σ H→wpAny (model X.prog X.w) X.A (execs st X.env) (SP X pZ D) X.xe s
theorem bh {α:Type} {t:Sem α} {Q Q':α→Shared→Prop} {M:Model} {A:Around} {E:Value→Shared→Prop} {s:Shared} (h:wpAny M A t Q E s) (hQ: ∀ a s,Q a s→Q' a s):wpAny M A t Q' E s:=wpAny_mono h hQ fun _ _ x=>x
end L2
namespace L2
open PySem PySem.Spec PyProof.Rows
section
variable {X:Cx}
def mX (i:Nat):TE:=fun σ H Q=> ∃ v,σ[i]?=some (some v)∧Q v H
def tC (v:V):TE:=fun _ H Q=>Q v H
theorem Bw {i:Nat} {x:Str} {pos:Pos} (hN:X.N[i]?=some x) (hv:Kh X.env.scope x) (hd:(x==("__debug__":Str))=false:=by decide) (hcd:(x==("__classdict__":Str))=false:=by decide):PE X (.Name x pos) (mX i):=by
 intro pZ s σ H Q I h
 obtain⟨v,e,h⟩:=h
 obtain⟨m,hn,hl⟩:=I.loc
 obtain⟨u,r,l⟩:=hl i x v hN e hv
 have fin:EP X pZ σ Q u s:=⟨v,H,I,r,h⟩
 rcases l with⟨hk,hm⟩|⟨hk,c,hc,hcell⟩
 ·exact wpAny_Name (wpAny_loadName_local I.ok.kind hk hn hm fin) hd
 ·rcases hk with hk|hk
  ·exact wpAny_Name (wpAny_loadName_cell I.ok.kind hk hc hcell fin) hd
  ·exact wpAny_Name (wpAny_loadName_free I.ok.kind hk hc hcell fin hcd) hd
theorem aI {i j pos}:PE X (.Constant (.int i) j pos) (tC (.int i)):=fun _ _ _ H _ I h=>wpAny_Constant_int ⟨.int i,H,I.tok _,⟨_,rfl⟩,h⟩
theorem Le {b j pos}:PE X (.Constant (.bool b) j pos) (tC (.bl b)):=fun _ _ _ H _ I h=>Constant_bool ⟨.bl b,H,I,rfl,h⟩
theorem HX {j pos}:PE X (.Constant .none j pos) (tC .aE):=fun _ _ _ H _ I h=>Constant_none ⟨.aE,H,I,rfl,h⟩
theorem HV {x j pos}:PE X (.Constant (.str x) j pos) (tC (.str x)):=fun _ _ _ H _ I h=>Calls.Constant_str ⟨.str x,H,I.tok _,⟨_,rfl⟩,h⟩
def Gl (X:Cx) (x:Str):Prop:=X.env.kindOf x=some .globalImplicit
theorem EZ {E:Value→Shared→Prop} {pZ:List (Addr×Obj)} {s:Shared} {σ:St} {H:Hp} {x:Str} {u:Value} {pos:Pos} {Q:Value→Shared→Prop} (I:Inv X pZ σ H s) (hg:Gl X x) (hm:X.mg x=some u) (h:Q u s)
  (hd:(x==("__debug__":Str))=false:=by decide):wpAny (model X.prog X.w) X.A (eval (.Name x pos) X.env) Q E s:=
 Calls.Name_function_global I.ok.kind hg (Calls.loadGlobal_global (by rw[I.ok.glob];exact I.mod.glob.keeps I.bk) hm h) hd
theorem gz {E:Value→Shared→Prop} {pZ:List (Addr×Obj)} {s:Shared} {σ:St} {H:Hp} {x:Str} {u:Value} {pos:Pos} {Q:Value→Shared→Prop} (I:Inv X pZ σ H s) (hg:Gl X x) (hm:X.mg x=none) (hv:bootBuiltins x=some u) (h:Q u s)
  (hn:x≠"__name__":=by decide) (hd:(x==("__debug__":Str))=false:=by decide):wpAny (model X.prog X.w) X.A (eval (.Name x pos) X.env) Q E s:=by
 obtain⟨mb,h1,h2⟩:=I.mod.blt
 exact Calls.Name_function_global I.ok.kind hg (Calls.loadGlobal_builtin (by rw[I.ok.glob];exact I.mod.glob.keeps I.bk) hm (by rw[I.ok.blt];exact h1.keeps I.bk) ((h2 x hn).trans hv) h) hd
variable {a b:Expr} {ta tb:TE} {pos:Pos}
def PC (X:Cx) (op:CmpOp) (a b:Expr) (t:TE):Prop:=
 ∀ (pZ:List (Addr×Obj)) (s:Shared) (σ:St) (H:Hp) (Q:VK),Inv X pZ σ H s→t σ H Q→
  wpAny (model X.prog X.w) X.A (eval a X.env) (fun v s₁=>wpAny (model X.prog X.w) X.A (eval b X.env) (fun u s₂=>wpAny (model X.prog X.w) X.A (compareOp op v u) (EP X pZ σ Q) X.xe s₂) X.xe s₁) X.xe s
theorem uv (b:Expr) {op:CmpOp} (h:op≠.In) (h2:op≠.NotIn):behindInMarks op b=false:=by
 have e1:(op==CmpOp.In)=false:=by cases op<;>first|rfl|exact absurd rfl h
 have e2:(op==CmpOp.NotIn)=false:=by cases op<;>first|rfl|exact absurd rfl h2
 cases b<;>simp[behindInMarks,e1,e2]
def tB (t:TE):TT:=fun σ H Q=>t σ H fun x H1=> ∃ c,x= .bl c∧Q c H1
theorem HY {op:CmpOp} {t:TE} (h:PC X op a b t) (h1:behindInMarks op b=false:=by first|exact uv _ (by decide) (by decide)|rfl):PE X (.Compare a [op] [b] pos) t:=fun pZ s σ H Q I hw=>wpAny_Compare1 (h pZ s σ H Q I hw) h1
theorem HQ {op:CmpOp} {t:TE} (h:PC X op a b t) (h1:behindInMarks op b=false:=by first|exact uv _ (by decide) (by decide)|rfl):PT X (.Compare a [op] [b] pos) (tB t):=by
 intro pZ s σ H Q I hw
 refine wpAny_isTrue_Compare1 (bh (h pZ s σ H _ I hw) fun v s1 h1=>bh h1 fun u s2 h2=>bh h2 fun c s3 ⟨x,H1,I1,r1,q1⟩=>?_) h1
 obtain⟨d,rfl,q⟩:=q1
 cases r1
 exact wpAny_truthy_bool ⟨H1,I1,q⟩
theorem HN {e:Expr} {t:TE} (h:PE X e t) (he: ∀ whole,isTrue e X.env whole=(do let v ←whole;standAt e.pos;holding [v] (truthy v)):=by intro _;rfl):PT X e (tB t):=by
 intro pZ s σ H Q I hw
 refine isTrue_plain (bh (h pZ s σ H _ I hw) fun v s1 ⟨x,H1,I1,r1,q1⟩=>?_) (he _)
 obtain⟨d,rfl,q⟩:=q1
 cases r1
 exact wpAny_truthy_bool ⟨H1,I1,q⟩
variable {tA tB':TT} {rest:List Expr}
def MI (t u:TT):TT:=fun σ H Q=>t σ H fun c H1=>if c=true then u σ H1 Q else Q false H1
def NF (t u:TT):TT:=fun σ H Q=>t σ H fun c H1=>if c=true then Q true H1 else u σ H1 Q
def MG (t:TT):TT:=fun σ H Q=>t σ H fun c H1=>Q (!c) H1
theorem yd (ha:PT X a tA):PW X (.BoolOp .And [a] pos) tA:=by
 intro wh pZ s σ H Q I h
 refine isTrue_and (bh (ha pZ s σ H Q I h) fun c s1 e=>?_)
 cases c with
 |true=>exact isTrue_and_nil e
 |false=>exact e
theorem HM (ha:PT X a tA):PW X (.BoolOp .Or [a] pos) tA:=by
 intro wh pZ s σ H Q I h
 refine isTrue_or (bh (ha pZ s σ H Q I h) fun c s1 e=>?_)
 cases c with
 |false=>exact isTrue_or_nil e
 |true=>exact e
theorem Bf (ha:PT X a tA) (hb:PW X (.BoolOp .And (b::rest) pos) tB'):PW X (.BoolOp .And (a::b::rest) pos) (MI tA tB'):=by
 intro wh pZ s σ H Q I h
 refine isTrue_and (bh (ha pZ s σ H _ I h) fun c s1 ⟨H1,I1,q1⟩=>?_)
 cases c with
 |true=>exact hb wh pZ s1 σ H1 Q I1 q1
 |false=>exact⟨H1,I1,q1⟩
theorem K8 (ha:PT X a tA) (hb:PW X (.BoolOp .Or (b::rest) pos) tB'):PW X (.BoolOp .Or (a::b::rest) pos) (NF tA tB'):=by
 intro wh pZ s σ H Q I h
 refine isTrue_or (bh (ha pZ s σ H _ I h) fun c s1 ⟨H1,I1,q1⟩=>?_)
 cases c with
 |true=>exact⟨H1,I1,q1⟩
 |false=>exact hb wh pZ s1 σ H1 Q I1 q1
theorem HP (ha:PT X a tA):PT X (.UnaryOp .Not a pos) (MG tA):=by
 intro pZ s σ H Q I h
 exact isTrue_not (ha pZ s σ H (fun c H1=>Q (!c) H1) I h)
def KJ (ta tb:TE):TE:=fun σ H Q=>ta σ H fun x H1=> ∃ c,x= .bl c∧if c=true then tb σ H1 Q else Q (.bl false) H1
theorem HW {op} {t:TE} (h:PE X a t):PE X (.BoolOp op [a] pos) t:=fun pZ s σ H Q I hw=>BoolOp_one (h pZ s σ H Q I hw)
theorem HZ (ha:PE X a ta) (hb:PE X (.BoolOp .And (b::rest) pos) tb):PE X (.BoolOp .And (a::b::rest) pos) (KJ ta tb):=by
 intro pZ s σ H Q I h
 refine BoolOp_and (bh (ha pZ s σ H _ I h) fun v s1 ⟨x,H1,I1,r1,q1⟩=>?_)
 obtain⟨c,rfl,q1⟩:=q1
 cases r1
 refine wpAny_truthy_bool ?_
 cases c with
 |true=>exact hb pZ s1 σ H1 Q I1 q1
 |false=>exact⟨.bl false,H1,I1,rfl,q1⟩
def NG (t:TT) (ta tb:TE):TE:=fun σ H Q=>t σ H fun c H1=>if c=true then ta σ H1 Q else tb σ H1 Q
theorem Bz {c:Expr} (hc:PT X c tA) (ha:PE X a ta) (hb:PE X b tb):PE X (.IfExp c a b pos) (NG tA ta tb):=by
 intro pZ s σ H Q I h
 refine wpAny_IfExp (bh (hc pZ s σ H _ I h) fun d s1 ⟨H1,I1,q1⟩=>?_)
 cases d with
 |true=>exact ha pZ s1 σ H1 Q I1 q1
 |false=>exact hb pZ s1 σ H1 Q I1 q1
end
end L2
namespace L2
open PySem PySem.Spec PyProof.Rows
def bM (K:Frag) (H:Hp) (a:Addr) (xs:List V):Prop:=
 Rd H a (.lst xs)∨
  ∃ (o:Obj) (ay:Array Value) (n:Nat),K.lookup a=some o∧o.cls= .type "list"∧o.dict=none∧o.data= .seq ay n∧ay.size≤sizeLine∧Vals xs ay.toList
def cN (K:Frag) (H:Hp) (a:Addr) (xs:List V):Prop:=
 Rd H a (.tup xs)∨
  ∃ (o:Obj) (ay:Array Value) (n:Nat),K.lookup a=some o∧o.cls= .type "tuple"∧o.data= .seq ay n∧ay.size≤sizeLine∧Vals xs ay.toList
def Nr:Value→Option V
 | .none=>some .aE
 | .bool b=>some (.bl b)
 | .int i _=>some (.int i)
 | .str x _=>some (.str x)
 | .bytes b _=>some (.LQ b)
 | .float b _=>some (.Nh b)
 | .ref a=>some (.ref a)
 | .type n=>some (.ty n)
 |_=>none
theorem RelV.abs {x:V} {u:Value} (r:RelV x u):Nr u=some x:=by
 cases x with
 |aE=>cases r;rfl
 |bl _=>cases r;rfl
 |int _=>obtain⟨t,rfl⟩:=r;rfl
 |str _=>obtain⟨t,rfl⟩:=r;rfl
 |LQ _=>obtain⟨t,rfl⟩:=r;rfl
 |Nh _=>obtain⟨t,rfl⟩:=r;rfl
 |ref _=>cases r;rfl
 |ty _=>cases r;rfl
theorem RelV.inj {x y:V} {u:Value} (r:RelV x u) (q:RelV y u):x=y:=OK (r.abs.symm.trans q.abs)
theorem Vals.inj: ∀ {xs ys:List V} {us:List Value},Vals xs us→Vals ys us→xs=ys
 |_,_,_,.nil,.nil=>rfl
 |_,_,_,.cons r t,.cons r' t'=>by rw[r.inj r',Vals.inj t t']
section
variable {X:Cx} {pZ:List (Addr×Obj)} {σ:St} {H:Hp} {s:Shared} {a:Addr} {xs ys:List V}
theorem bM.of {K:Frag} (h:H a=some (.lst xs)):bM K H a xs:=.inl (.inl h)
theorem cN.of {K:Frag} (h:H a=some (.tup xs)):cN K H a xs:=.inl (.inl h)
theorem Inv.list (I:Inv X pZ σ H s) (h:bM X.K H a xs): ∃ ay:List Value,Vals xs ay∧PlainL s.heap a ay.toArray∧xs.length≤sizeLine:=by
 rcases h with h|⟨o,ay,n,hk,hc,hd,hs,hz,r⟩
 ·obtain⟨z,ay,n,r,e⟩:=h.ok I.a7
  exact⟨ay,r,⟨_,n,e,rfl,rfl,rfl⟩,z⟩
 ·refine⟨ay.toList,r,⟨o,n,I.Kc a o hk,hc,hd,by simpa using hs⟩,?_⟩
  have e:=r.length
  simp only[Ou] at e
  lia
theorem Inv.tuple (I:Inv X pZ σ H s) (h:cN X.K H a xs): ∃ ay:List Value,Vals xs ay∧IsTup s.heap a ay.toArray∧xs.length≤sizeLine:=by
 rcases h with h|⟨o,ay,n,hk,hc,hs,hz,r⟩
 ·obtain⟨z,ay,r,p⟩:=h.ok I.a7
  exact⟨ay,r,p,z⟩
 ·refine⟨ay.toList,r,⟨o,I.Kc a o hk,hc,n,by simpa using hs⟩,?_⟩
  have e:=r.length
  simp only[Ou] at e
  lia
theorem Inv.uE (I:Inv X pZ σ H s) (h:bM X.K H a xs) (h':bM X.K H a ys):xs=ys:=by
 obtain⟨ay,r,⟨o,n,e,_,_,d⟩,_⟩:=I.list h
 obtain⟨ba,r',⟨o',n',e',_,_,d'⟩,_⟩:=I.list h'
 rw[e] at e';cases e'
 rw[d] at d'
 injection d' with d1 _
 have:ay=ba:=by simpa using congrArg Array.toList d1
 subst this
 exact r.inj r'
theorem Inv.p5 (I:Inv X pZ σ H s) (h:cN X.K H a xs) (h':cN X.K H a ys):xs=ys:=by
 obtain⟨ay,r,⟨o,e,_,n,d⟩,_⟩:=I.tuple h
 obtain⟨ba,r',⟨o',e',_,n',d'⟩,_⟩:=I.tuple h'
 rw[e] at e';cases e'
 rw[d] at d'
 injection d' with d1 _
 have:ay=ba:=by simpa using congrArg Array.toList d1
 subst this
 exact r.inj r'
end
abbrev Cx.mU (X:Cx) (E:Value→Shared→Prop):Cx:={X with xe:=E}
abbrev Cx.ql (X:Cx):Cx:=X.mU fun _ _=>False
theorem Cx.Ok.mU {X:Cx} (ok:X.Ok) (E:Value→Shared→Prop):(X.mU E).Ok:=
 ⟨ok.mod,ok.kind,ok.glob,ok.blt,ok.above,ok.inj,ok.has,ok.Kf,ok.hd,ok.frames,ok.KN,ok.Ni,ok.bs,ok.DG,ok.zF,ok.CI,ok.lG,ok.GI⟩
theorem Cx.Ok.fR {X:Cx} {E:Value→Shared→Prop} (ok:(X.mU E).Ok):X.Ok:=
 ⟨ok.mod,ok.kind,ok.glob,ok.blt,ok.above,ok.inj,ok.has,ok.Kf,ok.hd,ok.frames,ok.KN,ok.Ni,ok.bs,ok.DG,ok.zF,ok.CI,ok.lG,ok.GI⟩
section
variable {X:Cx} {pZ:List (Addr×Obj)} {σ:St} {H:Hp} {s:Shared} {E:Value→Shared→Prop}
theorem Inv.mU (I:Inv X pZ σ H s) (E:Value→Shared→Prop):Inv (X.mU E) pZ σ H s:=⟨I.ok.mU E,I.os,I.bare,I.base,I.loc,I.cell,I.free,I.iY,I.pin,I.a7,I.len⟩
theorem Inv.fR (I:Inv (X.mU E) pZ σ H s):Inv X pZ σ H s:=⟨I.ok.fR,I.os,I.bare,I.base,I.loc,I.cell,I.free,I.iY,I.pin,I.a7,I.len⟩
theorem SP.fR {D:Ends} {f:Flow} {s':Shared} (h:SP (X.mU E) pZ D f s'):SP X pZ D f s':=by
 cases f with
 |next=>obtain⟨σ',H',I,q⟩:=h;exact⟨σ',H',I.fR,q⟩
 |brk=>obtain⟨σ',H',I,q⟩:=h;exact⟨σ',H',I.fR,q⟩
 |cont=>obtain⟨σ',H',I,q⟩:=h;exact⟨σ',H',I.fR,q⟩
 |ret u=>obtain⟨v,σ',H',I,r,q⟩:=h;exact⟨v,σ',H',I.fR,r,q⟩
theorem PE.ql {e:Expr} {t:TE} (h:PE X.ql e t):PE X e t:=fun pZ s σ H Q I hw=>
 wpAny_mono (h pZ s σ H Q (I.mU _) hw) (fun _ _ ⟨v,H',I',r,q⟩=>⟨v,H',I'.fR,r,q⟩) fun _ _ z=>False.elim z
theorem vG.ql {st:List Stmt} {t:TS} (h:vG X.ql st t):vG X st t:=fun pZ s σ H D I hw=>
 wpAny_mono (h pZ s σ H D (I.mU _) hw) (fun _ _ q=>q.fR) fun _ _ z=>False.elim z
end
section
variable {X:Cx} {st:Stmt} {rest:List Stmt} {t u:TS} {e:Expr} {te:TE} {pos:Pos}
def KH:TS:=fun D σ H=>D.nx σ H
def MF (t u:TS):TS:=fun D σ H=>t {D with nx:=u D} σ H
theorem rG:vG X [] KH:=fun _ _ σ H _ I h=>wpAny_execs_nil ⟨σ,H,I,h⟩
theorem bX (h1:PS X st t) (h2:vG X rest u):vG X (st::rest) (MF t u):=by
 intro pZ s σ H D I h
 refine wpAny_execs_cons (bh (h1 pZ s σ H {D with nx:=u D} I h) fun f s1 q=>?_)
 cases f with
 |next=>
  obtain⟨σ',H',I',q⟩:=q
  exact h2 pZ s1 σ' H' D I' q
 |ret v=>exact q
 |brk=>exact q
 |cont=>exact q
theorem f9 (h1:PS X st t):vG X [st] t:=by
 intro pZ s σ H D I h
 refine wpAny_execs_cons (bh (h1 pZ s σ H D I h) fun f s1 q=>?_)
 cases f with
 |next=>exact wpAny_execs_nil q
 |ret v=>exact q
 |brk=>exact q
 |cont=>exact q
theorem Inv.quiet {pZ:List (Addr×Obj)} {σ:St} {H:Hp} {s:Shared} (I:Inv X pZ σ H s):interactive X.env=false:=by simp[interactive,I.ok.kind]
def xU (te:TE):TS:=fun D σ H=>te σ H fun _ H1=>D.nx σ H1
theorem Ei (he:PE X e te) (hs:swapsWith e none pos.line X.env=pure false:=by rfl):PS X (.Expr e pos) (xU te):=by
 intro pZ s σ H D I h
 exact wpAny_Expr_any (bh (he pZ s σ H _ I h) fun v s1 ⟨x,H1,I1,r1,q1⟩=>⟨σ,H1,I1,q1⟩) I.quiet hs
def Ho (te:TE):TS:=fun D σ H=>te σ H D.rt
theorem rH (he:PE X e te):PS X (.Return (some e) pos) (Ho te):=by
 intro pZ s σ H D I h
 exact wpAny_Return_some (bh (he pZ s σ H _ I h) fun v s1 ⟨x,H1,I1,r1,q1⟩=>⟨x,σ,H1,I1,r1,q1⟩)
def Hr (c:TT) (t u:TS):TS:=fun D σ H=>c σ H fun b H1=>if b=true then t D σ H1 else u D σ H1
theorem Bl {c:Expr} {a b:List Stmt} {tc:TT} (hc:PT X c tc) (ha:vG X a t) (hb:vG X b u):PS X (.If c a b pos) (Hr tc t u):=by
 intro pZ s σ H D I h
 refine wpAny_If (bh (hc pZ s σ H _ I h) fun d s1 ⟨H1,I1,q1⟩=>?_)
 cases d with
 |true=>exact ha pZ s1 σ H1 D I1 q1
 |false=>exact hb pZ s1 σ H1 D I1 q1
end
abbrev TG:=V→St→Hp→(St→Hp→Prop)→Prop
abbrev Dv:=List V→St→Hp→(St→Hp→Prop)→Prop
def PG (X:Cx) (target:Expr) (t:TG):Prop:=
 ∀ (pZ:List (Addr×Obj)) (s:Shared) (σ:St) (H:Hp) (v:V) (u:Value) (Q:St→Hp→Prop),Inv X pZ σ H s→RelV v u→t v σ H Q→
  wpAny (model X.prog X.w) X.A (assign target X.env u) (fun _ s'=> ∃ σ' H',Inv X pZ σ' H' s'∧Q σ' H') X.xe s
def L4 (X:Cx) (ts:List Expr) (t:Dv):Prop:=
 ∀ (pZ:List (Addr×Obj)) (s:Shared) (σ:St) (H:Hp) (vs:List V) (us:List Value) (Q:St→Hp→Prop),Inv X pZ σ H s→Vals vs us→t vs σ H Q→
  wpAny (model X.prog X.w) X.A (assignInOrder ((assignEach ts X.env).map (·.2)) us) (fun _ s'=> ∃ σ' H',Inv X pZ σ' H' s'∧Q σ' H') X.xe s
abbrev JM:=V→V→V→Hp→(Hp→Prop)→Prop
def L1 (X:Cx) (t:JM):Prop:=
 ∀ (pZ:List (Addr×Obj)) (s:Shared) (σ:St) (H:Hp) (o i v:V) (ov iv u:Value) (Q:Hp→Prop),Inv X pZ σ H s→RelV o ov→RelV i iv→RelV v u→t o i v H Q→
  wpAny (model X.prog X.w) X.A (setItem ov iv u) (fun _ s'=> ∃ H',Inv X pZ σ H' s'∧Q H') X.xe s
section
variable {X:Cx} {pos:Pos}
def cJ (i:Nat):TG:=fun v σ H Q=>Q (σ.set i (some v)) H
theorem mL {i:Nat} {x:Str} (hN:X.N.Nodup) (hi:X.N[i]?=some x) (hx:Loc X.env.scope x) (hf:X.fn x=true∨X.env.scope.names.lookup x=some .local:=by first|exact .inl rfl|exact .inr rfl|assumption):PG X (.Name x pos) (cJ i):=by
 intro pZ s σ H v u Q I r h
 exact wpAny_assign_Name (kh I hN hi hx r (fun s' I'=>⟨_,H,I',h⟩) hf)
def I0:Dv:=fun vs σ H Q=>vs=[]∧Q σ H
def Cz (t:TG) (u:Dv):Dv:=fun vs σ H Q=> ∃ v r,vs=v::r∧t v σ H fun σ' H'=>u r σ' H' Q
theorem yf:L4 X [] I0:=by
 intro pZ s σ H vs us Q I r h
 obtain⟨e,h⟩:=h
 subst e
 cases r
 exact assignInOrder_nil ⟨σ,H,I,h⟩
theorem nC {e:Expr} {es:List Expr} {t:TG} {u:Dv} (h1:PG X e t) (h2:L4 X es u)
  (hs:(assignEach (e::es) X.env).map (·.2)=assign e X.env::(assignEach es X.env).map (·.2):=by rfl):L4 X (e::es) (Cz t u):=by
 intro pZ s σ H vs us Q I r h
 obtain⟨v,vr,e1,h⟩:=h
 subst e1
 cases r with
 |cons r rr=>
  rw[hs]
  refine assignInOrder_cons (bh (h1 pZ s σ H _ _ _ I r h) fun _ s1 ⟨σ1,H1,I1,q1⟩=>?_)
  exact h2 pZ s1 σ1 H1 _ _ Q I1 rr q1
def wO (K:Frag) (n:Nat) (t:Dv):TG:=fun v σ H Q=> ∃ a xs,v= .ref a∧cN K H a xs∧xs.length=n∧t xs σ H Q
theorem Bu {es:List Expr} {k:Nat} {t:Dv} {n:Nat} (hc:X.calm=true) (h:L4 X es t)
  (hn:(assignEach es X.env).length=n:=by rfl) (hst:(assignEach es X.env).findIdx? (·.1)=none:=by rfl):PG X (.Tuple es k pos) (wO X.K n t):=by
 intro pZ s σ H v u Q I r hw
 obtain⟨a,xs,e1,hq,hl,hw⟩:=hw
 subst e1
 cases r
 obtain⟨ay,rv,ht,hz⟩:=I.tuple hq
 refine assign_Tuple_tuple (I.ok.hd hc) ht (by simp[hn,←hl,rv.length]) hst fun h' hx=>?_
 have I1:Inv X pZ σ H {s with heap:=h'}:=I.kept (t':=s.toks) fun b o e=>hx b o (Oo (N9 e)) e
 exact h pZ _ σ H xs _ Q I1 (by simpa using rv) hw
def Nc (to ti:TE) (t:JM):TG:=fun v σ H Q=>to σ H fun o H1=>ti σ H1 fun i H2=>t o i v H2 fun H3=>Q σ H3
theorem Bv {o i:Expr} {to ti:TE} {t:JM} (ho:PE X o to) (hi:PE X i ti) (hs:L1 X t)
  (ha: ∀ v,assign (.Subscript o i pos) X.env v=(do
   let ov ←holding [v] (eval o X.env)
   let iv ←holding [v,ov] (eval i X.env)
   standAt pos
   holding [v,ov,iv] (setItem ov iv v)
   release [v,ov,iv] []):=by intro _;rfl):PG X (.Subscript o i pos) (Nc to ti t):=by
 intro pZ s σ H v u Q I r h
 rw[ha]
 refine NR (wpAny_holding (bh (ho pZ s σ H _ I h) fun ov s1 ⟨x,H1,I1,r1,q1⟩=>?_))
 refine NR (wpAny_holding (bh (hi pZ s1 σ H1 _ I1 q1) fun iv s2 ⟨y,H2,I2,r2,q2⟩=>?_))
 refine NR (wpAny_standAt (NR (wpAny_holding (bh (hs pZ s2 σ H2 x y v ov iv u _ I2 r1 r2 r q2) fun _ s3 ⟨H3,I3,q3⟩=>?_))))
 exact wpAny_release ⟨σ,H3,I3,q3⟩
def hW (te:TE) (g:TG):TS:=fun D σ H=>te σ H fun x H1=>g x σ H1 D.nx
theorem wg {tg e:Expr} {te:TE} {g:TG} (he:PE X e te) (hg:PG X tg g) (hs:swapsWithSole [tg] e pos.line X.env=pure false:=by rfl) (hw:swappedStores [tg] e X.env=pure none:=by rfl)
  (h1:(assignEach [tg] X.env).map (·.2)=[assign tg X.env]:=by rfl):PS X (.Assign [tg] e pos) (hW te g):=by
 intro pZ s σ H D I h
 refine wpAny_Assign_stores (bh (he pZ s σ H _ I h) fun v s1 ⟨x,H1,I1,r1,q1⟩=>?_) hs hw
 rw[h1]
 exact bh (hg pZ s1 σ H1 x v _ I1 r1 q1) fun _ s2 q=>q
theorem iH {i:Nat} {x:Str} {e:Expr} {te:TE} {pos':Pos} (hN:X.N.Nodup) (hi:X.N[i]?=some x) (hx:Loc X.env.scope x) (he:PE X e te) (hs:swapsWith e (some (.Name x pos')) pos.line X.env=pure false:=by rfl) (hf:X.fn x=true∨X.env.scope.names.lookup x=some .local:=by first|exact .inl rfl|exact .inr rfl|assumption):
  PS X (.Assign [.Name x pos'] e pos) (hW te (cJ i)):=by
 intro pZ s σ H D I h
 refine wpAny_Assign_Name (bh (he pZ s σ H _ I h) fun v s1 ⟨y,H1,I1,r1,q1⟩=>?_) hs
 exact kh I1 hN hi hx r1 (fun s2 I2=>⟨_,H1,I2,q1⟩) hf
def Hq (i j:Nat) (ta:TA):TS:=fun D σ H=>ta σ H fun vs H1=> ∃ v w,vs=[v,w]∧D.nx ((σ.set i (some v)).set j (some w)) H1
theorem HR {i j:Nat} {x y:Str} {a b:Expr} {ta:TA} {px py pt:Pos} {kt k2 pt2} (hc:X.calm=true) (hN:X.N.Nodup) (hi:X.N[i]?=some x) (hj:X.N[j]?=some y) (hij:i≠j)
  (hx:X.env.scope.names.lookup x=some .local) (hy:X.env.scope.names.lookup y=some .local) (ha:PA X [a,b] ta)
  (hw:swappedStores [.Tuple [.Name x px,.Name y py] kt pt] (.Tuple [a,b] k2 pt2) X.env=pure (some [x,y]))
  (hs:swapsWithSole [.Tuple [.Name x px,.Name y py] kt pt] (.Tuple [a,b] k2 pt2) pos.line X.env=pure false:=by rfl):
  PS X (.Assign [.Tuple [.Name x px,.Name y py] kt pt] (.Tuple [a,b] k2 pt2) pos) (Hq i j ta):=by
 intro pZ s σ H D I h
 rw[exec_Assign_arm]
 refine NR (wpAny_standAt ?_)
 rw[hs]
 refine NR (NW ?_)
 rw[OH (by decide)]
 refine NR (Tuple_ (bh (ha _ pZ s σ H _ I h) fun us s1 ⟨vs,H1,I1,r1,q1⟩=>?_))
 obtain⟨v,w,e1,q1⟩:=q1
 subst e1
 obtain⟨u1,u2,rfl,rv,rw'⟩: ∃ u1 u2,us=[u1,u2]∧RelV v u1∧RelV w u2:=by
  cases r1 with
  |cons p q=>
   cases q with
   |cons p' q'=>
    cases q'
    exact⟨_,_,rfl,p,p'⟩
 refine wpAny_newObj_type ?_ (by show 2≤sizeLine;decide)
 have I2:Inv X pZ σ H1 {s1 with heap:=s1.heap.push {cls:=.type "tuple",data:=.seq [u1,u2].toArray}}:=I1.kept (t':=s1.toks) fun b o e=>NU _ e
 rw[hw]
 refine NR (NW ?_)
 show wpAny (model X.prog X.w) X.A (do rule "assign.swapped-stores";let items ←unpackItems (.ref s1.heap.objs.size) 2 none;assignInOrder [fun v=>bindName X.env y v,fun v=>bindName X.env x v] items.reverse;pure Flow.next) _ _ _
 refine NR (wpAny_rule (NR (unpackItems_tuple (items:= #[u1,u2]) (I.ok.hd hc) (IsTup.new s1.heap _) fun h' hx'=>?_)))
 have I3:=I2.kept (h':=h') (t':=s1.toks) fun b o e=>hx' b o (Oo (N9 e)) e
 show wpAny _ _ (assignInOrder [fun v=>bindName X.env y v,fun v=>bindName X.env x v] [u2,u1] >>= fun _=>pure Flow.next) _ _ _
 refine NR (assignInOrder_cons (wpAny_bindName (kh I3 hN hj (.inl hy) rw' (fun s2 I4=>?_) (.inr hy))))
 refine assignInOrder_cons (wpAny_bindName (kh I4 hN hi (.inl hx) rv (fun s3 I5=>assignInOrder_nil (NW ?_)) (.inr hx)))
 rw[List.set_comm _ _ (Ne.symm hij)] at I5
 exact⟨_,H1,I5,q1⟩
end
section
variable {X:Cx} {pos:Pos}
def vP (c:TT) (tb:TS):TS:=fun D σ H=> ∃ W:Nat→St→Hp→Prop,(∃ m,W m σ H)∧∀ m σ H,W m σ H→
 c σ H fun b H1=>if b=true then ∃ N:St→Hp→Prop,(∀ σ' H',N σ' H'→∃ m',m' < m∧W m' σ' H')∧tb {D with nx:=N,ct:=N,bk:=D.nx} σ H1 else D.nx σ H1
theorem Bk {c:Expr} {body:List Stmt} {tc:TT} {tb:TS} (hp:PassesOwn (model X.prog X.w) X.A X.env X.xe) (hc:PT X c tc) (hb:vG X body tb):PS X (.While c body [] pos) (vP tc tb):=by
 intro pZ s σ H D I h
 obtain⟨W,⟨m0,w0⟩,turn⟩:=h
 refine wpAny_While (codeAny_whileLoop (fun n s'=> ∃ σ' H',Inv X pZ σ' H' s'∧W n σ' H') ?_ m0 ⟨σ,H,I,w0⟩)
 rintro n s1 ⟨σ1,H1,I1,w1⟩
 refine wpAny_passesOwn hp (bh (hc pZ s1 σ1 H1 _ I1 (turn n σ1 H1 w1)) fun b s2 ⟨H2,I2,q2⟩=>?_)
 cases b with
 |true=>
  obtain⟨N,hN,q2⟩:=q2
  rw[OG rfl]
  refine wpAny_passesOwn hp (bh (hb pZ s2 σ1 H2 _ I2 q2) fun f s3 q3=>?_)
  cases f with
  |next=>
   obtain⟨σ3,H3,I3,n3⟩:=q3
   obtain⟨m',hm,w3⟩:=hN σ3 H3 n3
   exact⟨m',hm,σ3,H3,I3,w3⟩
  |cont=>
   obtain⟨σ3,H3,I3,n3⟩:=q3
   obtain⟨m',hm,w3⟩:=hN σ3 H3 n3
   exact⟨m',hm,σ3,H3,I3,w3⟩
  |brk=>exact q3
  |ret v=>exact q3
 |false=>
  rw[OH Bool.false_ne_true]
  exact wpAny_execs_nil ⟨σ1,H2,I2,q2⟩
end
set_option genInjectivity false in
structure It where
 go:Nat→Hp→Prop
 Aq:Nat→Hp→V→Hp→Prop
 stop:Nat→Hp→Prop
def cD (X:Cx) (pZ:List (Addr×Obj)) (H:Hp) (b:Addr):Prop:=
 H b=none∧b≠X.env.locals∧b∉X.fs∧(b∈X.ex∨X.s₀.heap.objs.size≤b)∧(∀ x c,X.env.cells.lookup x=some c→c≠b)∧∀ p∈X.pn++pZ,p.1≠b
theorem Inv.n9 {X:Cx} {pZ:List (Addr×Obj)} {σ:St} {H H':Hp} {s:Shared} {b:Addr} (I:Inv X pZ σ H s) (hb:s.heap.objs.size≤b) (hn:H' b=none):cD X pZ H' b:=by
 refine⟨hn,Nat.ne_of_gt (Of I.lt hb),I.MT hb,.inr (Od I.sz hb),fun x c e z=>?_,fun p hp z=>?_⟩
 ·obtain⟨v,q⟩:=I.cell x c e
  exact absurd (Of q.lt (by rw[z];exact hb)) (Nat.lt_irrefl _)
 ·exact absurd (Of (N9 (I.pin p hp).1) (by rw[z];exact hb)) (Nat.lt_irrefl _)
set_option genInjectivity false in
structure Turn (P:Program) (w:World) (K:Frag) (tg:Expr) (J:It) (fp:List Addr) (it:Addr) (tn:Nat→Heap→Prop):Prop where
 mem:it∈fp
 obj: ∀ i h,tn i h→∀ b∈fp,∃ o,h.get? b=some o∧∀ v,o.data≠.cell v
 keep: ∀ i h h',tn i h→(∀ b∈fp,∀ o,h.get? b=some o→h'.get? b=some o)→tn i h'
 item: ∀ (X:Cx),X.prog=P→X.w=w→X.K=K→X.calm=true→∀ (i:Nat) (pZ:List (Addr×Obj)) (s:Shared) (σ:St) (H:Hp) (E:Value→Shared→Prop),Inv X pZ σ H s→(∀ b∈fp,cD X pZ H b)→tn i s.heap→J.go i H→
  wpAny (model P w) X.A (pyNext (.ref it)) (fun r s1=> ∃ u,r=some u∧
   wpAny (model P w) X.A (letOwnedTupleGo tg (.ref it) u) (fun _ s2=> ∃ x H',Inv X pZ σ H' s2∧RelV x u∧J.Aq i H x H'∧tn (i+1) s2.heap∧∀ b∈fp,H' b=none) E s1) E s
 done: ∀ (X:Cx),X.prog=P→X.w=w→X.K=K→X.calm=true→∀ (i:Nat) (pZ:List (Addr×Obj)) (s:Shared) (σ:St) (H:Hp) (E:Value→Shared→Prop),Inv X pZ σ H s→(∀ b∈fp,cD X pZ H b)→tn i s.heap→J.stop i H→
  wpAny (model P w) X.A (pyNext (.ref it)) (fun r s1=>r=none∧Inv X pZ σ H s1) E s
 self: ∀ (A:Around) (i:Nat) (s:Shared) (Q:Value→Shared→Prop) (E:Value→Shared→Prop),tn i s.heap→Q (.ref it) s→wpAny (model P w) A (pyIter (.ref it)) Q E s
abbrev TI:=St→Hp→(It→Hp→Prop)→Prop
def L3 (X:Cx) (pZ:List (Addr×Obj)) (σ:St) (tg:Expr) (R:It→Hp→Prop) (itv:Value) (s2:Shared):Prop:=
 ∃ (it:Addr) (fp:List Addr) (tn:Nat→Heap→Prop) (J:It) (H':Hp),itv= .ref it∧Inv X pZ σ H' s2∧Turn X.prog X.w X.K tg J fp it tn∧tn 0 s2.heap∧(∀ b∈fp,cD X pZ H' b)∧R J H'
def PI (X:Cx) (tg iter:Expr) (wi:TI):Prop:=
 ∀ (pZ:List (Addr×Obj)) (s:Shared) (σ:St) (H:Hp) (R:It→Hp→Prop),Inv X pZ σ H s→wi σ H R→
  wpAny (model X.prog X.w) X.A (eval iter X.env) (fun v s1=>wpAny (model X.prog X.w) X.A (pyIter v) (L3 X pZ σ tg R) X.xe s1) X.xe s
theorem qz {M : Model} {A : Around} {E : Value → Shared → Prop} {s : Shared} {tg : Expr} {it : Addr} {u : Value} {o : Obj} {n : String} {vs : Array Value} {Q : Unit → Shared → Prop} (ho : s.heap.get? it = some o) (hc : o.cls = .type n) (hd : o.data = .fields vs)
    (hn : ["enumerate", "zip", "dict_itemiterator", "dict_reverseitemiterator", "odict_iterator", "itertools.zip_longest", "itertools.pairwise"].contains n = false) (hQ : Q () s) : wpAny M A (letOwnedTupleGo tg (.ref it) u) Q E s := by
  unfold letOwnedTupleGo
  cases tg <;> first
    | exact NW hQ
    | (cases u <;> first
        | exact NW hQ
        | (refine NR (wpAny_load ho ?_)
           rw [hc, hd]
           show wpAny M A (if (["enumerate", "zip", "dict_itemiterator", "dict_reverseitemiterator", "odict_iterator", "itertools.zip_longest", "itertools.pairwise"].contains n && vs[0]? == some (rawInt _)) = true then _ else _) Q E s
           rw [OH (by intro h; rw [hn, Bool.false_and] at h; cases h)]
           exact NW hQ))
def Mt (K:Frag) (a:Addr):It:=
 ⟨fun i H=> ∃ xs x,bM K H a xs∧xs[i]?=some x,fun i H x H'=>H'=H∧∀ xs,bM K H a xs→xs[i]?=some x,fun i H=> ∃ xs,bM K H a xs∧xs.length≤i⟩
def Ms (K:Frag) (a:Addr):It:=
 ⟨fun i H=> ∃ xs x,cN K H a xs∧xs[i]?=some x,fun i H x H'=>H'=H∧∀ xs,cN K H a xs→xs[i]?=some x,fun i H=> ∃ xs,cN K H a xs∧xs.length≤i⟩
def Ma (lo:Int) (n:Nat):It:=⟨fun i _=>i < n,fun i H x H'=>H'=H∧x= .int (lo+i),fun i _=>n≤i⟩
theorem y9 {P:Program} {w:World} {K:Frag} {tg:Expr} (a it:Addr):Turn P w K tg (Mt K a) [it] it (fun i h=>h.IsListIter it a i) where
 mem:=by simp
 obj:=fun i h st b hb=>by
  have e:b=it:=by simpa using hb
  subst e
  obtain⟨o,e,c,d⟩:=st
  exact⟨o,e,fun v z=>by rw[d] at z;cases z⟩
 keep:=fun i h h' st k=>st.at fun o e=>k it (by simp) o e
 item:=by
  intro X hP hw hK hc i pZ s σ H E I hf st hg
  subst hP hw hK
  obtain⟨xs,x,hq,hx⟩:=hg
  obtain⟨ay,rv,p,hz⟩:=I.list hq
  obtain⟨u,hu,ru⟩:=rv.get hx
  obtain⟨f0,f1,f2,f3,f4,f5⟩:=hf it (by simp)
  refine wpAny_pyNext_list_item st p.isList (x:=u) (by simpa using hu) fun h' st' sb=>?_
  have I1:Inv X pZ σ H {s with heap:=h'}:=I.turned (t':=s.toks) (fun b o hb e=>(sb.2 b hb).trans e) f0 f1 f3 f4 f5
  obtain⟨o,e,c,d⟩:=id st'
  exact⟨u,rfl,qz (s:={s with heap:=h'}) e c d (by decide) ⟨x,H,I1,ru,⟨rfl,fun ys hy=>by rw[I.uE hy hq];exact hx⟩,st',fun b hb=>(hf b hb).1⟩⟩
 done:=by
  intro X hP hw hK hc i pZ s σ H E I hf st hg
  subst hP hw hK
  obtain⟨xs,hq,hx⟩:=hg
  obtain⟨ay,rv,p,hz⟩:=I.list hq
  obtain⟨f0,f1,f2,f3,f4,f5⟩:=hf it (by simp)
  have hl:=rv.length
  exact wpAny_pyNext_list_end (I.ok.hd hc) st p.isList (by simp;lia) fun h' eb=>⟨rfl,I.turned (t':=s.toks) (fun b o hb e=>eb b o hb e) f0 f1 f3 f4 f5⟩
 self:=fun _ _ _ _ _ st h=>wpAny_pyIter_listiter st h
theorem vK {P:Program} {w:World} {K:Frag} {tg:Expr} (a it:Addr):Turn P w K tg (Ms K a) [it] it (fun i h=>h.IsTupleIter it a i) where
 mem:=by simp
 obj:=fun i h st b hb=>by
  have e:b=it:=by simpa using hb
  subst e
  obtain⟨o,e,c,d⟩:=st
  exact⟨o,e,fun v z=>by rw[d] at z;cases z⟩
 keep:=fun i h h' st k=>st.at fun o e=>k it (by simp) o e
 item:=by
  intro X hP hw hK hc i pZ s σ H E I hf st hg
  subst hP hw hK
  obtain⟨xs,x,hq,hx⟩:=hg
  obtain⟨ay,rv,p,hz⟩:=I.tuple hq
  obtain⟨u,hu,ru⟩:=rv.get hx
  obtain⟨f0,f1,f2,f3,f4,f5⟩:=hf it (by simp)
  refine wpAny_pyNext_tuple_item st (show s.heap.IsTuple a ay.toArray from p) (x:=u) (by simpa using hu) fun h' st' sb=>?_
  have I1:Inv X pZ σ H {s with heap:=h'}:=I.turned (t':=s.toks) (fun b o hb e=>(sb.2 b hb).trans e) f0 f1 f3 f4 f5
  obtain⟨o,e,c,d⟩:=id st'
  exact⟨u,rfl,qz (s:={s with heap:=h'}) e c d (by decide) ⟨x,H,I1,ru,⟨rfl,fun ys hy=>by rw[I.p5 hy hq];exact hx⟩,st',fun b hb=>(hf b hb).1⟩⟩
 done:=by
  intro X hP hw hK hc i pZ s σ H E I hf st hg
  subst hP hw hK
  obtain⟨xs,hq,hx⟩:=hg
  obtain⟨ay,rv,p,hz⟩:=I.tuple hq
  obtain⟨f0,f1,f2,f3,f4,f5⟩:=hf it (by simp)
  have hl:=rv.length
  exact wpAny_pyNext_tuple_end (I.ok.hd hc) st (show s.heap.IsTuple a ay.toArray from p) (by simp;lia) fun h' eb=>⟨rfl,I.turned (t':=s.toks) (fun b o hb e=>eb b o hb e) f0 f1 f3 f4 f5⟩
 self:=fun _ _ _ _ _ st h=>wpAny_pyIter_tupleiter st h
theorem vL {P:Program} {w:World} {K:Frag} {tg:Expr} (it:Addr) (lo:Int) (n:Nat):Turn P w K tg (Ma lo n) [it] it (fun i h=>IsRangeIter h it (lo+(i:Nat) * 1) ((n:Int) - (i:Nat)) 1) where
 mem:=by simp
 obj:=fun i h st b hb=>by
  have e:b=it:=by simpa using hb
  subst e
  exact⟨_,st,fun v z=>by
   have z':Data.fields _=Data.cell v:=z
   cases z'⟩
 keep:=fun i h h' st k=>k it (by simp) _ st
 item:=by
  intro X hP hw hK hc i pZ s σ H E I hf st hg
  subst hP hw hK
  obtain⟨f0,f1,f2,f3,f4,f5⟩:=hf it (by simp)
  have W:=Walks.range (prog:=X.prog) (w:=X.w) (I.ok.hd hc) it lo 1 n
  refine W.item i s _ _ hg st fun v h' tk hv st' kk=>?_
  obtain⟨t,rfl⟩:=hv
  have I1:Inv X pZ σ H {s with heap:=h',toks:=tk}:=I.turned (fun b o hb e=>kk b o (by simpa using hb) e) f0 f1 f3 f4 f5
  refine⟨_,rfl,qz (s:={s with heap:=h',toks:=tk}) (n:="range_iterator") st' rfl rfl (by decide) ⟨.int (lo+i),H,I1,⟨t,?_⟩,⟨rfl,rfl⟩,st',fun b hb=>(hf b hb).1⟩⟩
  rw[Int.mul_one]
 done:=by
  intro X hP hw hK hc i pZ s σ H E I hf st hg
  subst hP hw hK
  obtain⟨f0,f1,f2,f3,f4,f5⟩:=hf it (by simp)
  exact wpAny_pyNext_range_end (I.ok.hd hc) st (by have:n≤i:=hg;lia) fun h' eb=>⟨rfl,I.turned (t':=s.toks) (fun b o hb e=>eb b o hb e) f0 f1 f3 f4 f5⟩
 self:=fun _ _ _ _ _ st h=>wpAny_pyIter_rangeiter st h
end L2
namespace L2
open PySem PySem.Spec PyProof.Rows
section
variable {X:Cx} {tg:Expr}
theorem ud {pZ:List (Addr×Obj)} {σ:St} {H:Hp} {s:Shared} {R:It→Hp→Prop} {E:Value→Shared→Prop} {lo hi:Int} {t u v:Tok} {tk:Nat} (I:Inv X pZ σ H s) (h1: -(2 ^ 62)≤lo) (h2:lo < 2 ^ 62) (h3: -(2 ^ 62)≤hi) (h4:hi < 2 ^ 62)
  (q:R (Ma lo (hi - lo).toNat) H):wpAny (model X.prog X.w) X.A (pyIter (.ref s.heap.objs.size)) (L3 X pZ σ tg R) E {s with heap:=s.heap.push {cls:=.type "range",data:=.fields #[.int lo t,.int hi u,.int 1 v]},toks:=tk}:=by
 refine wpAny_pyIter_range (IsRange.new ..) (small_one h1 h2 h3 h4) ?_
 have I1:Inv X pZ σ H {s with heap:=s.heap.push {cls:=.type "range",data:=.fields #[.int lo t,.int hi u,.int 1 v]},toks:=tk}:=I.kept fun b o e=>NU _ e
 refine⟨(s.heap.push {cls:=.type "range",data:=.fields #[.int lo t,.int hi u,.int 1 v]}).objs.size,[(s.heap.push {cls:=.type "range",data:=.fields #[.int lo t,.int hi u,.int 1 v]}).objs.size],_,_,H,rfl,
  I1.kept (t':=tk) fun b o e=>NU _ e,vL _ lo (hi - lo).toNat,?_,fun b hb=>?_,q⟩
 ·have e1:lo+((0:Nat):Int) * 1=lo:=by simp
  have e2:(((hi - lo).toNat:Nat):Int) - ((0:Nat):Int)=Builtin.Range.rangeSize lo hi 1:=by rw[rangeSize_one];split<;>lia
  show IsRangeIter _ _ (lo+((0:Nat):Int) * 1) ((((hi - lo).toNat:Nat):Int) - ((0:Nat):Int)) 1
  rw[e1,e2]
  exact N6 _ rfl
 ·have e:b=(s.heap.push {cls:=.type "range",data:=.fields #[.int lo t,.int hi u,.int 1 v]}).objs.size:=by simpa using hb
  subst e
  exact I1.n9 (NZ _) (I1.a7.fresh (NZ _))
def Cq (ta:TA):TI:=fun σ H R=>ta σ H fun vs H1=> ∃ j:Int,vs=[.int j]∧-(2 ^ 62)≤j∧j < 2 ^ 62∧R (Ma 0 j.toNat) H1
def Cp (ta:TA):TI:=fun σ H R=>ta σ H fun vs H1=> ∃ i j:Int,vs=[.int i,.int j]∧(-(2 ^ 62)≤i∧i < 2 ^ 62∧-(2 ^ 62)≤j∧j < 2 ^ 62)∧R (Ma i (j - i).toNat) H1
theorem zt {a:Expr} {ta:TA} {p pos:Pos} (hg:Gl X "range") (hm:X.mg "range"=none) (ha:PA X [a] ta) (hs:starEach [a] X.env=[(false,eval a X.env)]:=by rfl):PI X tg (.Call (.Name "range" p) [a] [] pos) (Cq ta):=by
 intro pZ s σ H R I h
 refine Call_ (gz I hg hm boot_range (PyProof.Rows.callWith_type1 (bh (ha pos pZ s σ H _ I h) fun us s1 ⟨vs,H1,I1,r1,q1⟩=>?_) hs rfl))
 obtain⟨j,e,q1,q2,q⟩:=q1
 subst e
 cases r1 with
 |cons r rr=>
  cases rr
  obtain⟨t,rfl⟩:=r
  exact call_range_1 (ud I1 (by lia) (by lia) q1 q2 (by simpa using q))
theorem zr {a b:Expr} {ta:TA} {p pos:Pos} (hg:Gl X "range") (hm:X.mg "range"=none) (ha:PA X [a,b] ta) (hs:starEach [a,b] X.env=[(false,eval a X.env),(false,eval b X.env)]:=by rfl) (hs2:starEach [b] X.env=[(false,eval b X.env)]:=by rfl):
  PI X tg (.Call (.Name "range" p) [a,b] [] pos) (Cp ta):=by
 intro pZ s σ H R I h
 refine Call_ (gz I hg hm boot_range (PyProof.Rows.callWith_type1 (bh (ha pos pZ s σ H _ I h) fun us s1 ⟨vs,H1,I1,r1,q1⟩=>?_) (by rw[hs,hs2]) (by rw[hs2];rfl)))
 obtain⟨i,j,e,⟨q1,q2,q3,q4⟩,q⟩:=q1
 subst e
 cases r1 with
 |cons r rr=>
  cases rr with
  |cons r' rr=>
   cases rr
   obtain⟨t,rfl⟩:=r
   obtain⟨t',rfl⟩:=r'
   exact call_range_2 (ud I1 q1 q2 q3 q4 q)
def zc (wi:TI) (g:TG) (tb:TS):TS:=fun D σ H=>wi σ H fun J H1=> ∃ W:Nat→Nat→St→Hp→Prop,(∃ m,W 0 m σ H1)∧∀ i m σ H,W i m σ H→
 (J.stop i H∧D.nx σ H)∨(J.go i H∧∃ N:St→Hp→Prop,(∀ σ' H',N σ' H'→∃ m',m' < m∧W (i+1) m' σ' H')∧∀ x H',J.Aq i H x H'→g x σ H' fun σ2 H2=>tb {D with nx:=N,ct:=N,bk:=D.nx} σ2 H2)
def lg (fp:List Addr) (h:Heap):List (Addr×Obj):=fp.filterMap fun b=>(h.get? b).map fun o=>(b,o)
theorem dz {fp:List Addr} {h:Heap} {b:Addr} {o:Obj} (hb:b∈fp) (e:h.get? b=some o):(b,o)∈lg fp h:=List.mem_filterMap.mpr ⟨b,hb,by rw[e];rfl⟩
theorem zE {fp:List Addr} {h:Heap} {p:Addr×Obj} (hp:p∈lg fp h):p.1∈fp∧h.get? p.1=some p.2:=by
 obtain⟨b,hb,e⟩:=List.mem_filterMap.mp hp
 cases q:h.get? b with
 |none=>rw[q] at e;cases e
 |some o=>
  rw[q] at e
  have e':(b,o)=p:=OK e
  subst e'
  exact⟨hb,q⟩
theorem Inv.pinned {pZ:List (Addr×Obj)} {σ:St} {H:Hp} {s:Shared} {fp:List Addr} (I:Inv X pZ σ H s) (hf: ∀ b∈fp,cD X pZ H b) (ho: ∀ b∈fp,∃ o,s.heap.get? b=some o∧∀ v,o.data≠.cell v):Inv X (pZ++lg fp s.heap) σ H s:=
 I.jk fun p hp=>(OF.mp hp).elim (fun z=>I.pin p (Ob _ z)) fun z=>by
  obtain⟨hb,e⟩:=zE z
  obtain⟨f0,f1,f2,_⟩:=hf p.1 hb
  obtain⟨o,e',d⟩:=ho p.1 hb
  rw[e] at e';cases e'
  exact⟨e,f0,f1,f2,d⟩
theorem Inv.ij {pZ pl:List (Addr×Obj)} {σ:St} {H:Hp} {s:Shared} (I:Inv X (pZ++pl) σ H s):Inv X pZ σ H s:=I.jk fun p hp=>I.pin p (Ob _ (List.mem_append_left _ hp))
theorem rJ {iter:Expr} {body:List Stmt} {wi:TI} {g:TG} {tb:TS} {pos:Pos} (hp:PassesOwn (model X.prog X.w) X.A X.env X.xe) (hc:X.calm=true) (hi:PI X tg iter wi) (hg:PG X tg g) (hb:vG X body tb)
  (hs: ∀ x,foldedSetIterable iter X.env x=pure x:=by intro _;rfl):PS X (.For tg iter body [] pos) (zc wi g tb):=by
 intro pZ s σ H D I h
 refine wpAny_For (bh (hi pZ s σ H _ I h) fun v s1 h1=>bh h1 fun itv s2 h2=>?_) hs
 obtain⟨it,fp,tn,J,H2,e,I2,T,st2,f2,W,⟨m0,w0⟩,turn⟩:=h2
 subst e
 have mZ: ∀ {H':Hp},(∀ b∈fp,H' b=none)→∀ b∈fp,cD X pZ H' b:=fun hn b hb=>⟨hn b hb,(f2 b hb).2⟩
 refine codeAny_forLoop_any (fun n s'=> ∃ i σ' H',Inv X pZ σ' H' s'∧tn i s'.heap∧(∀ b∈fp,H' b=none)∧W i n σ' H') ?_ m0 ⟨0,σ,H2,I2,st2,fun b hb=>(f2 b hb).1,w0⟩
 rintro n s3 ⟨i,σ3,H3,I3,st3,fr3,w3⟩
 rcases turn i n σ3 H3 w3 with⟨stop,qn⟩|⟨go,N,hN,step⟩
 ·refine wpAny_passesOwn hp (bh (T.done X rfl rfl rfl hc i pZ s3 σ3 H3 X.xe I3 (mZ fr3) st3 stop) fun r s4 ⟨hr,I4⟩=>?_)
  subst hr
  exact wpAny_execs_nil ⟨σ3,H3,I4,qn⟩
 ·refine wpAny_passesOwn hp (bh (T.item X rfl rfl rfl hc i pZ s3 σ3 H3 X.xe I3 (mZ fr3) st3 go) fun r s4 ⟨u,hr,h4⟩=>?_)
  subst hr
  refine wpAny_passesOwn hp (bh h4 fun _ s5 ⟨x,H5,I5,r5,y5,st5,fr5⟩=>?_)
  have I5':=I5.pinned (mZ fr5) (T.obj _ _ st5)
  refine wpAny_passesOwn hp (bh (hg _ s5 σ3 H5 x u _ I5' r5 (step x H5 y5)) fun _ s6 ⟨σ6,H6,I6,q6⟩=>?_)
  refine wpAny_passesOwn hp (bh (hb _ s6 σ6 H6 _ I6 q6) fun f s7 q7=>?_)
  have again: ∀ {σ7:St} {H7:Hp},Inv X (pZ++lg fp s5.heap) σ7 H7 s7→N σ7 H7→∃ m,m < n∧∃ i σ' H',Inv X pZ σ' H' s7∧tn i s7.heap∧(∀ b∈fp,H' b=none)∧W i m σ' H':=fun {σ7 H7} I7 n7=>by
   obtain⟨m',hm,w7⟩:=hN σ7 H7 n7
   refine⟨m',hm,i+1,σ7,H7,I7.ij,T.keep _ _ _ st5 fun b hb o e=>(I7.pin (b,o) (Ob _ (Ob _ (dz hb e)))).1,fun b hb=>?_,w7⟩
   obtain⟨o,e,d⟩:=T.obj _ _ st5 b hb
   exact(I7.pin (b,o) (Ob _ (Ob _ (dz hb e)))).2.1
  cases f with
  |next=>obtain⟨σ7,H7,I7,n7⟩:=q7;exact again I7 n7
  |cont=>obtain⟨σ7,H7,I7,n7⟩:=q7;exact again I7 n7
  |brk=>obtain⟨σ7,H7,I7,q7⟩:=q7;exact⟨σ7,H7,I7.ij,q7⟩
  |ret v=>obtain⟨x7,σ7,H7,I7,r7,q7⟩:=q7;exact⟨x7,σ7,H7,I7.ij,r7,q7⟩
end
end L2
namespace L2
open PySem PySem.Spec PyProof.Rows
abbrev R2:=V→V→Hp→VK→Prop
def du (X:Cx) (f:Value→Value→Sem Value) (r:R2):Prop:=
 ∀ (pZ:List (Addr×Obj)) (s:Shared) (σ:St) (H:Hp) (x y:V) (v u:Value) (Q:VK),Inv X pZ σ H s→RelV x v→RelV y u→r x y H Q→
  wpAny (model X.prog X.w) X.A (f v u) (EP X pZ σ Q) X.xe s
def Mq (X:Cx) (f:Value→Sem Value) (r:V→Hp→VK→Prop):Prop:=
 ∀ (pZ:List (Addr×Obj)) (s:Shared) (σ:St) (H:Hp) (x:V) (v:Value) (Q:VK),Inv X pZ σ H s→RelV x v→r x H Q→
  wpAny (model X.prog X.w) X.A (f v) (EP X pZ σ Q) X.xe s
def fc (X:Cx) (f:Value) (r:List V→Hp→VK→Prop):Prop:=
 ∀ (pZ:List (Addr×Obj)) (s:Shared) (σ:St) (H:Hp) (xs:List V) (us:List Value) (Q:VK),Inv X pZ σ H s→Vals xs us→r xs H Q→
  wpAny (model X.prog X.w) X.A (call f us) (EP X pZ σ Q) X.xe s
def DR (r:R2) (ta tb:TE):TE:=fun σ H Q=>ta σ H fun x H1=>tb σ H1 fun y H2=>r x y H2 Q
def MD (r:V→Hp→VK→Prop) (ta:TE):TE:=fun σ H Q=>ta σ H fun x H1=>r x H1 Q
def rI (C:Int→Int→Prop) (g:Int→Int→V):R2:=fun x y H Q=> ∃ i j,x= .int i∧y= .int j∧C i j∧Q (g i j) H
def wc (g:Int→Int→V):R2:=fun x y H Q=> ∃ i j,x= .int i∧y= .int j∧Q (g i j) H
def rU (g:Int→V):V→Hp→VK→Prop:=fun x H Q=> ∃ i,x= .int i∧Q (g i) H
section
variable {X:Cx} {a b c:Expr} {ta tb tc:TE} {pos:Pos}
theorem JC (ha:PE X a ta) (hb:PE X b tb) {pZ:List (Addr×Obj)} {s:Shared} {σ:St} {H:Hp} {R:V→V→Hp→Prop} (I:Inv X pZ σ H s)
  (h:ta σ H fun x H1=>tb σ H1 fun y H2=>R x y H2) {Q:Value→Shared→Prop} {f:Value→Value→Sem Value}
  (hf: ∀ v u s2 x y H2,Inv X pZ σ H2 s2→RelV x v→RelV y u→R x y H2→wpAny (model X.prog X.w) X.A (f v u) Q X.xe s2):
  wpAny (model X.prog X.w) X.A (eval a X.env) (fun v s₁=>wpAny (model X.prog X.w) X.A (eval b X.env) (fun u s₂=>wpAny (model X.prog X.w) X.A (f v u) Q X.xe s₂) X.xe s₁) X.xe s:=by
 refine bh (ha pZ s σ H _ I h) fun v s1 ⟨x,H1,I1,r1,q1⟩=>?_
 refine bh (hb pZ s1 σ H1 _ I1 q1) fun u s2 ⟨y,H2,I2,r2,q2⟩=>?_
 exact hf v u s2 x y H2 I2 r1 r2 q2
theorem bz {op:Operator} {r:R2} (ho:du X (binaryOp op) r) (ha:PE X a ta) (hb:PE X b tb):PE X (.BinOp a op b pos) (DR r ta tb):=by
 intro pZ s σ H Q I h
 exact wpAny_BinOp (JC ha hb I h fun v u s2 x y H2 I2 rx ry q=>ho pZ s2 σ H2 x y v u Q I2 rx ry q)
theorem La {op:UnaryOp} {r:V→Hp→VK→Prop} (ho:Mq X (unaryOp op) r) (ha:PE X a ta):PE X (.UnaryOp op a pos) (MD r ta):=by
 intro pZ s σ H Q I h
 exact UnaryOp_ (bh (ha pZ s σ H _ I h) fun v s1 ⟨x,H1,I1,r1,q1⟩=>ho pZ s1 σ H1 x v Q I1 r1 q1)
theorem J8 {f:Value→Value→Sem Value} {C:Int→Int→Prop} {g:Int→Int→Int}
  (rule: ∀ (i j:Int) (t u:Tok) (s:Shared) (Q:Value→Shared→Prop) (E:Value→Shared→Prop),C i j→Q (.int (g i j) s.toks) {s with toks:=s.toks+1}→wpAny (model X.prog X.w) X.A (f (.int i t) (.int j u)) Q E s):
  du X f (rI C fun i j=>.int (g i j)):=by
 intro pZ s σ H x y v u Q I rx ry h
 obtain⟨i,j,rfl,rfl,hc,q⟩:=h
 obtain⟨t,rfl⟩:=rx
 obtain⟨t',rfl⟩:=ry
 exact rule i j t t' s _ _ hc ⟨.int (g i j),H,I.tok _,⟨_,rfl⟩,q⟩
theorem Li {f:Value→Value→Sem Value} {g:Int→Int→Int}
  (rule: ∀ (i j:Int) (t u:Tok) (s:Shared) (Q:Value→Shared→Prop) (E:Value→Shared→Prop),Q (.int (g i j) s.toks) {s with toks:=s.toks+1}→wpAny (model X.prog X.w) X.A (f (.int i t) (.int j u)) Q E s):
  du X f (wc fun i j=>.int (g i j)):=by
 intro pZ s σ H x y v u Q I rx ry h
 obtain⟨i,j,rfl,rfl,q⟩:=h
 obtain⟨t,rfl⟩:=rx
 obtain⟨t',rfl⟩:=ry
 exact rule i j t t' s _ _ ⟨.int (g i j),H,I.tok _,⟨_,rfl⟩,q⟩
theorem EE {f:Value→Value→Sem Value} {g:Int→Int→Bool}
  (rule: ∀ (i j:Int) (t u:Tok) (s:Shared) (Q:Value→Shared→Prop) (E:Value→Shared→Prop),Q (.bool (g i j)) s→wpAny (model X.prog X.w) X.A (f (.int i t) (.int j u)) Q E s):
  du X f (wc fun i j=>.bl (g i j)):=by
 intro pZ s σ H x y v u Q I rx ry h
 obtain⟨i,j,rfl,rfl,q⟩:=h
 obtain⟨t,rfl⟩:=rx
 obtain⟨t',rfl⟩:=ry
 exact rule i j t t' s _ _ ⟨.bl (g i j),H,I,rfl,q⟩
def J0 (i j:Int):Prop:=0 < j∧j < 1073741824
def DB (i j:Int):Prop:=0≤j∧j≤1000000∧i.natAbs < 2 ^ 64
def lU (i j:Int):Prop:=(-(2 ^ 64) < i∧i < 2 ^ 64)∨(-(2 ^ 64) < j∧j < 2 ^ 64)
theorem lU.ok {i j:Int} (h:lU i j):IntMulOk i j:=by
 rcases h with⟨h1,h2⟩|⟨h1,h2⟩
 ·exact .of_left (intBits_le_64 h1 h2)
 ·exact .of_right (intBits_le_64 h1 h2)
theorem gk:du X (binaryOp .Add) (wc fun i j=>.int (i+j)):=Li fun _ _ _ _ _ _ _ q=>add_int q
theorem Ih:du X (binaryOp .Sub) (wc fun i j=>.int (i - j)):=Li fun _ _ _ _ _ _ _ q=>sub_int q
theorem ll:du X (binaryOp .Mult) (rI lU fun i j=>.int (i * j)):=J8 fun _ _ _ _ _ _ _ hc q=>mul_int q hc.ok
theorem rP:du X (binaryOp .FloorDiv) (rI J0 fun i j=>.int (i / j)):=J8 fun i j _ _ _ _ _ hc q=>by
 have h1:(0:Int) < j:=hc.1
 have h2:j < 1073741824:=hc.2
 exact floordiv_int (by lia) (by rw[Int.fdiv_eq_ediv_of_nonneg i (by lia)];exact q) (.inl (PyProof.noPylong_small (by lia)))
theorem gg:du X (binaryOp .Mod) (rI (fun _ j=>0 < j) fun i j=>.int (i % j)):=J8 fun i j _ _ _ _ _ hc q=>by
 have h1:(0:Int) < j:=hc
 exact mod_int' (by lia) (by rw[Int.fmod_eq_emod_of_nonneg i (by lia)];exact q)
theorem Ij:du X (binaryOp .Pow) (rI DB fun i j=>.int (i ^ j.toNat)):=J8 fun _ _ _ _ _ _ _ hc q=>pow_int_small hc.1 hc.2.1 hc.2.2 q
theorem NC {f:Value→Sem Value} {g:Int→Int}
  (rule: ∀ (i:Int) (t:Tok) (s:Shared) (Q:Value→Shared→Prop) (E:Value→Shared→Prop),Q (.int (g i) s.toks) {s with toks:=s.toks+1}→wpAny (model X.prog X.w) X.A (f (.int i t)) Q E s):
  Mq X f (rU fun i=>.int (g i)):=by
 intro pZ s σ H x v Q I rx h
 obtain⟨i,rfl,q⟩:=h
 obtain⟨t,rfl⟩:=rx
 exact rule i t s _ _ ⟨.int (g i),H,I.tok _,⟨_,rfl⟩,q⟩
theorem Hf:Mq X (unaryOp .USub) (rU fun i=>.int (-i)):=NC fun _ _ _ _ _ q=>neg_int q
end
section
variable {X:Cx} {a b c:Expr} {ta tb tc:TE} {pos:Pos}
theorem iZ {pZ:List (Addr×Obj)} {σ:St} {H:Hp} {s:Shared} {Q:VK} {k k':Bool} (I:Inv X pZ σ H s) (q:Q (.bl k) H) (e:k=k'):EP X pZ σ Q (.bool k') s:=by
 subst e
 exact⟨.bl k,H,I,rfl,q⟩
theorem yq:du X (compareOp .Lt) (wc fun i j=>.bl (decide (i < j))):=EE fun _ _ _ _ _ _ _ q=>lt_int q
theorem Lh:du X (compareOp .LtE) (wc fun i j=>.bl (decide (i≤j))):=EE fun _ _ _ _ _ _ _ q=>le_int q
theorem BV:du X (compareOp .Gt) (wc fun i j=>.bl (decide (j < i))):=EE fun _ _ _ _ _ _ _ q=>gt_int q
theorem BX:du X (compareOp .GtE) (wc fun i j=>.bl (decide (j≤i))):=EE fun _ _ _ _ _ _ _ q=>ge_int q
theorem zC:du X (compareOp .In) (fun x y H Q=> ∃ i j,x= .str i∧y= .str j∧Q (.bl (!(Builtin.Str.occurrences j i 0 j.length 1).isEmpty)) H):=by
 intro pZ s σ H x y v u Q I rx ry h
 obtain⟨i,j,rfl,rfl,q⟩:=h
 obtain⟨t,rfl⟩:=rx
 obtain⟨t',rfl⟩:=ry
 exact in_str (iZ I q rfl)
theorem BR:du X (compareOp .Is) (fun x y H Q=>y= .aE∧Q (.bl (decide (x= .aE))) H):=by
 intro pZ s σ H x y v u Q I rx ry h
 obtain⟨rfl,q⟩:=h
 cases ry
 refine is_none_gen (iZ I q ?_)
 cases x<;>first
  |(cases rx;rfl)
  |(obtain⟨t,rfl⟩:=rx;rfl)
theorem yp:du X (compareOp .IsNot) (fun x y H Q=>y= .aE∧Q (.bl (!decide (x= .aE))) H):=by
 intro pZ s σ H x y v u Q I rx ry h
 obtain⟨rfl,q⟩:=h
 cases ry
 refine isnot_none_gen (iZ I q ?_)
 cases x<;>first
  |(cases rx;rfl)
  |(obtain⟨t,rfl⟩:=rx;rfl)
theorem du.or {f:Value→Value→Sem Value} {r r':R2} (h:du X f r) (h':du X f r'):du X f (fun x y H Q=>r x y H Q∨r' x y H Q):=by
 intro pZ s σ H x y v u Q I rx ry q
 rcases q with q|q
 ·exact h pZ s σ H x y v u Q I rx ry q
 ·exact h' pZ s σ H x y v u Q I rx ry q
theorem jH (b:Expr) {op:CmpOp} (h:op≠.In:=by decide) (h2:op≠.NotIn:=by decide):behindInMarks op b=false:=by
 have e1:(op==CmpOp.In)=false:=by cases op<;>first|rfl|exact absurd rfl h
 have e2:(op==CmpOp.NotIn)=false:=by cases op<;>first|rfl|exact absurd rfl h2
 cases b<;>simp[behindInMarks,e1,e2]
theorem Ep {op:CmpOp} {r:R2} (ho:du X (compareOp op) r) (ha:PE X a ta) (hb:PE X b tb) (hm:behindInMarks op b=false):PE X (.Compare a [op] [b] pos) (DR r ta tb):=by
 intro pZ s σ H Q I h
 exact wpAny_Compare1 (JC ha hb I h fun v u s2 x y H2 I2 rx ry q=>ho pZ s2 σ H2 x y v u Q I2 rx ry q) hm
def Gj (t:TE):TT:=fun σ H Q=>t σ H fun x H'=> ∃ k,x= .bl k∧Q k H'
theorem mI {op:CmpOp} {r:R2} (ho:du X (compareOp op) r) (ha:PE X a ta) (hb:PE X b tb) (hm:behindInMarks op b=false):PT X (.Compare a [op] [b] pos) (Gj (DR r ta tb)):=by
 intro pZ s σ H Q I h
 refine wpAny_isTrue_Compare1 (bh (ha pZ s σ H _ I h) fun v s1 ⟨x,H1,I1,r1,q1⟩=>bh (hb pZ s1 σ H1 _ I1 q1) fun u s2 ⟨y,H2,I2,r2,q2⟩=>
  bh (ho pZ s2 σ H2 x y v u _ I2 r1 r2 q2) fun c s3 ⟨z,H3,I3,r3,k,e,q3⟩=>?_) hm
 subst e
 cases r3
 exact wpAny_truthy_bool ⟨H3,I3,q3⟩
def vR (r r':R2) (ta tb tc:TE):TE:=fun σ H Q=>ta σ H fun x H1=>tb σ H1 fun y H2=>r x y H2 fun z H3=> ∃ k,z= .bl k∧
 (if k=true then tc σ H3 fun w' H4=>r' y w' H4 Q else Q (.bl false) H3)
theorem BC {op op':CmpOp} {r r':R2} (ho:du X (compareOp op) r) (ho':du X (compareOp op') r') (ha:PE X a ta) (hb:PE X b tb) (hc:PE X c tc)
  (hm:lastMarks [op,op'] [b,c]=false:=by with_unfolding_all rfl):PE X (.Compare a [op,op'] [b,c] pos) (vR r r' ta tb tc):=by
 intro pZ s σ H Q I h
 refine Compare_chain (bh (ha pZ s σ H _ I h) fun v s1 ⟨x,H1,I1,r1,q1⟩=>chain_link (bh (hb pZ s1 σ H1 _ I1 q1) fun u s2 ⟨y,H2,I2,r2,q2⟩=>
  bh (ho pZ s2 σ H2 x y v u _ I2 r1 r2 q2) fun d s3 ⟨z,H3,I3,r3,k,e,q3⟩=>?_)) hm
 subst e
 cases r3
 refine wpAny_truthy_bool ?_
 cases k with
 |false=>exact ite_ff ⟨.bl false,H3,I3,rfl,q3⟩
 |true=>exact ite_tt (chain_last (bh (hc pZ s3 σ H3 _ I3 q3) fun w' s4 ⟨z',H4,I4,r4,q4⟩=>ho' pZ s4 σ H4 y z' u w' Q I4 r2 r4 q4))
theorem Bj {op op':CmpOp} {r r':R2} (ho:du X (compareOp op) r) (ho':du X (compareOp op') r') (ha:PE X a ta) (hb:PE X b tb) (hc:PE X c tc)
  (hm:lastMarks [op,op'] [b,c]=false:=by with_unfolding_all rfl):PT X (.Compare a [op,op'] [b,c] pos) (Gj (vR r r' ta tb tc)):=by
 intro pZ s σ H Q I h
 refine isTrue_chain (bh (ha pZ s σ H _ I h) fun v s1 ⟨x,H1,I1,r1,q1⟩=>test_link (bh (hb pZ s1 σ H1 _ I1 q1) fun u s2 ⟨y,H2,I2,r2,q2⟩=>
  bh (ho pZ s2 σ H2 x y v u _ I2 r1 r2 q2) fun d s3 ⟨z,H3,I3,r3,k,e,q3⟩=>?_)) hm
 subst e
 cases r3
 refine wpAny_truthy_bool ?_
 cases k with
 |false=>
  obtain⟨k',e',q'⟩:=q3
  cases e'
  exact ite_ff ⟨H3,I3,q'⟩
 |true=>
  refine ite_tt (test_last (bh (hc pZ s3 σ H3 _ I3 q3) fun w' s4 ⟨z',H4,I4,r4,q4⟩=>bh (ho' pZ s4 σ H4 y z' u w' _ I4 r2 r4 q4) fun d' s5 ⟨z2,H5,I5,r5,k2,e2,q5⟩=>?_))
  subst e2
  cases r5
  exact wpAny_truthy_bool ⟨H5,I5,q5⟩
theorem nM:(sizeLine:Nat) < 2 ^ 63:=by rw[Ox];decide
theorem wt:du X (binaryOp .Add) (fun x y H Q=> ∃ i j,x= .str i∧y= .str j∧i.length+j.length≤sizeLine∧Q (.str (i++j)) H):=by
 intro pZ s σ H x y v u Q I rx ry h
 obtain⟨i,j,rfl,rfl,hz,q⟩:=h
 obtain⟨t,rfl⟩:=rx
 obtain⟨t',rfl⟩:=ry
 exact add_str (fun t' tk=>⟨.str (i++j),H,I.tok _,⟨_,rfl⟩,q⟩) hz
theorem vals1 {x:V} {us:List Value} (r:Vals [x] us): ∃ u,us=[u]∧RelV x u:=by
 cases r with
 |cons r1 r2=>cases r2;exact⟨_,rfl,r1⟩
theorem vals2 {x y:V} {us:List Value} (r:Vals [x,y] us): ∃ u w',us=[u,w']∧RelV x u∧RelV y w':=by
 cases r with
 |cons r1 r2=>
  cases r2 with
  |cons r3 r4=>cases r4;exact⟨_,_,rfl,r1,r3⟩
theorem De:fc X (.builtin "abs") (fun xs H Q=> ∃ i,xs=[.int i]∧Q (.int (if i < 0 then -i else i)) H):=by
 intro pZ s σ H xs us Q I r h
 obtain⟨i,rfl,q⟩:=h
 obtain⟨u,rfl,t,rfl⟩:=vals1 r
 exact call_abs_int fun u tk=>⟨.int (if i < 0 then -i else i),H,I.tok _,⟨_,rfl⟩,q⟩
theorem Ah (hc:X.calm=true):fc X (.builtin "max") (fun xs H Q=> ∃ i j,xs=[.int i,.int j]∧Q (.int (if j > i then j else i)) H):=by
 intro pZ s σ H xs us Q I r h
 obtain⟨i,j,rfl,q⟩:=h
 obtain⟨u,w',rfl,⟨t,rfl⟩,⟨t',rfl⟩⟩:=vals2 r
 refine max_two_ints (I.ok.hd hc) fun h' tk k=>⟨_,H,I.kept k,?_,q⟩
 by_cases hj:j > i
 ·rw[OG hj,OG hj];exact⟨_,rfl⟩
 ·rw[OH hj,OH hj];exact⟨_,rfl⟩
theorem qI (hc:X.calm=true):fc X (.builtin "min") (fun xs H Q=> ∃ i j,xs=[.int i,.int j]∧Q (.int (if j < i then j else i)) H):=by
 intro pZ s σ H xs us Q I r h
 obtain⟨i,j,rfl,q⟩:=h
 obtain⟨u,w',rfl,⟨t,rfl⟩,⟨t',rfl⟩⟩:=vals2 r
 refine min_two_ints (I.ok.hd hc) fun h' tk k=>⟨_,H,I.kept k,?_,q⟩
 by_cases hj:j < i
 ·rw[OG hj,OG hj];exact⟨_,rfl⟩
 ·rw[OH hj,OH hj];exact⟨_,rfl⟩
theorem Ai:fc X (.type "int") (fun xs H Q=>(∃ i,xs=[.int i]∧Q (.int i) H)∨∃ k,xs=[.bl k]∧Q (.int (if k then 1 else 0)) H):=by
 intro pZ s σ H xs us Q I r h
 rcases h with⟨i,rfl,q⟩|⟨k,rfl,q⟩
 ·obtain⟨u,rfl,t,rfl⟩:=vals1 r
  exact call_int_int ⟨.int i,H,I,⟨_,rfl⟩,q⟩
 ·obtain⟨u,rfl,r1⟩:=vals1 r
  cases r1
  exact call_int_bool ⟨.int (if k then 1 else 0),H,I.tok _,⟨_,rfl⟩,q⟩
def L9 (K:Frag) (x:V) (H:Hp) (n:Nat):Prop:=
 match x with
 | .str y=>y.length≤sizeLine∧n=y.length
 | .LQ y=>y.size≤sizeLine∧n=y.size
 | .ref p=>(∃ xs,bM K H p xs∧n=xs.length)∨∃ xs,cN K H p xs∧n=xs.length
 |_=>False
theorem Dc:fc X (.builtin "len") (fun xs H Q=> ∃ x n,xs=[x]∧L9 X.K x H n∧Q (.int n) H):=by
 intro pZ s σ H xs us Q I r h
 obtain⟨x,n,rfl,e,q⟩:=h
 obtain⟨u,rfl,rx⟩:=vals1 r
 have hl:=nM
 have hs:sizeLine=16777216:=Ox
 cases x with
 |str y=>
  obtain⟨t,rfl⟩:=rx
  obtain⟨hy,e'⟩:y.length≤sizeLine∧n=y.length:=e
  subst e'
  exact len_str (by lia) ⟨.int _,H,I.tok _,⟨_,rfl⟩,q⟩
 |LQ y=>
  obtain⟨t,rfl⟩:=rx
  obtain⟨hy,e'⟩:y.size≤sizeLine∧n=y.size:=e
  subst e'
  exact PySem.W.len_bytes (by lia) ⟨.int _,H,I.tok _,⟨_,rfl⟩,q⟩
 |ref p=>
  cases rx
  have e':(∃ xs,bM X.K H p xs∧n=xs.length)∨∃ xs,cN X.K H p xs∧n=xs.length:=e
  rcases e' with⟨xs,hx,e'⟩|⟨xs,hx,e'⟩
  ·subst e'
   obtain⟨ay,r',pl,hz⟩:=I.list hx
   have hlen:=r'.length
   exact Calls.call_len_list pl.isList (by simp only[NX];lia) ⟨.int xs.length,H,I.tok _,⟨_,by simp only[NX];rw[hlen]⟩,q⟩
  ·subst e'
   obtain⟨ay,r',pl,hz⟩:=I.tuple hx
   have hlen:=r'.length
   exact len_tuple pl (by simp only[NX];lia) ⟨.int xs.length,H,I.tok _,⟨_,by simp only[NX];rw[hlen]⟩,q⟩
 |_=>exact(show False from e).elim
end
end L2
namespace L2
open PySem PySem.Spec PyProof.Rows
theorem pV.some_of {v:V} {o:Option Value} (r:pV (some v) o): ∃ u,o=some u∧RelV v u:=by
 cases o with
 |none=>exact(show False from r).elim
 |some u=>exact⟨u,rfl,r⟩
end L2
namespace L2
open PySem PySem.Spec PyProof.Rows
set_option genInjectivity false in
structure cx (k:Nat) (A:Around):Prop where
 hd:A.handled=none
 dp:A.depth+3 * k+5 < recursionLimit
 un:A.units+16 * k+200 < cLine
 gd:A.guards=some []
theorem cx.mono {j k:Nat} {A:Around} (r:cx k A) (h:j≤k):cx j A:=⟨r.hd,by have:=r.dp;lia,by have:=r.un;lia,r.gd⟩
theorem cx.deeper {k:Nat} {A:Around} (r:cx (k+1) A) (env:Env):cx k (A.deeper env):=
 ⟨r.hd,by have:=r.dp;show A.depth+1+3 * k+5 < _;lia,by have:=r.un;show A.units+3+16 * k+200 < _;lia,r.gd⟩
theorem cx.in1 {k:Nat} {A:Around} (r:cx (k+1) A):cx k A.in1:=
 ⟨r.hd,by have:=r.dp;show A.depth+3 * k+5 < _;lia,by have:=r.un;show A.units+1+16 * k+200 < _;lia,by first|exact r.gd|(simp[Around.in1,r.gd])⟩
theorem cx.depth {k:Nat} {A:Around} (r:cx k A):A.depth < recursionLimit:=by have:=r.dp;lia
theorem cx.units {k:Nat} {A:Around} (r:cx k A):A.units+64 < cLine:=by have:=r.un;lia
def vQ:TA:=fun _ H Q=>Q [] H
def kc (ta:TE) (tr:TA):TA:=fun σ H Q=>ta σ H fun x H1=>tr σ H1 fun xs H2=>Q (x::xs) H2
section
variable {X:Cx} {e:Expr} {es:List Expr} {te:TE} {t:TA} {pos:Pos}
theorem dY:PA X [] vQ:=fun _ _ _ _ H Q I h=>Calls.spliced_nil ⟨[],H,I,.nil,h⟩
theorem cn (ha:PE X e te) (hr:PA X es t) (hs:starEach (e::es) X.env=(false,eval e X.env)::starEach es X.env:=by rfl):PA X (e::es) (kc te t):=by
 intro pos pZ s σ H Q I h
 rw[hs]
 show wpAny _ _ (spliced ((false,eval e X.env)::backTo pos (starEach es X.env))) _ _ s
 refine Calls.spliced_cons (bh (ha pZ s σ H _ I h) fun u s1 ⟨x,H1,I1,r1,q1⟩=>?_)
 exact bh (hr pos pZ s1 σ H1 _ I1 q1) fun us s2 ⟨xs,H2,I2,r2,q2⟩=>⟨x::xs,H2,I2,.cons r1 r2,q2⟩
def KA (t:TA):TE:=fun σ H Q=>t σ H fun xs H1=>xs.length≤sizeLine∧∀ p,H1 p=none→Q (.ref p) (upd H1 p (.tup xs))
def MH (t:TA):TE:=fun σ H Q=>t σ H fun xs H1=>xs.length≤sizeLine∧∀ p,H1 p=none→Q (.ref p) (upd H1 p (.lst xs))
theorem wk {x1} (h:PA X es t):PE X (.Tuple es x1 pos) (KA t):=by
 intro pZ s σ H Q I hq
 refine wpAny_Tuple_spliced (bh (h pos pZ s σ H _ I hq) fun us s1 ⟨xs,H1,I1,r,z,q⟩=>⟨by rw[←r.length];exact z,?_⟩)
 have hf:H1 s1.heap.objs.size=none:=I1.a7.fresh (NZ _)
 refine⟨.ref s1.heap.objs.size,upd H1 s1.heap.objs.size (.tup xs),I1.laid (t':=s1.toks) (fun b u e=>NU _ e) (NZ _) ?_,rfl,q _ hf⟩
 exact⟨z,us,r,⟨_,N6 _ rfl,rfl,_,rfl⟩⟩
theorem wm (h:PA X es t):PE X (.List es pos) (MH t):=by
 intro pZ s σ H Q I hq
 refine wpAny_List_spliced (bh (h pos pZ s σ H _ I hq) fun us s1 ⟨xs,H1,I1,r,z,q⟩=>⟨by rw[←r.length];exact z,?_⟩)
 have hf:H1 s1.heap.objs.size=none:=I1.a7.fresh (NZ _)
 refine⟨.ref s1.heap.objs.size,upd H1 s1.heap.objs.size (.lst xs),I1.laid (t':=s1.toks) (fun b u e=>NU _ e) (NZ _) ?_,rfl,q _ hf⟩
 exact⟨z,us,0,r,N6 _ rfl⟩
end
abbrev Sp:=List V→Hp→VK→XK→Prop
abbrev Ap:=List Env→Hp→Shared→XK→Value→Shared→Prop
set_option genInjectivity false in
structure Am (P:Program) (w:World) (K:Frag) (mg:Str→Option Value) (base:Heap) (A:Around) (outer:List Env) (s:Shared) (H:Hp):Prop where
 frames:A.frames=some outer
 mod:Mod K mg base
 bs: ∀ b o,base.get? b=some o→s.heap.get? b=some o∧H b=none
 DG:base.objs.size≤s.heap.objs.size
 lG:s.heap.FunFrames base outer
 GI: ∀ b∈CD outer,H b=none
 a7:jd P w H s.heap
 bare:AllBare s.gens
def CE (outer:List Env) (P:Program) (w:World) (H:Hp) (s:Shared) (Q:VK) (u:Value) (s':Shared):Prop:=
 ∃ v H',s'.os=s.os∧AllBare s'.gens∧Un (CD outer) [] H H' s.heap s'.heap∧jd P w H' s'.heap∧RelV v u∧Q v H'
def CR (CX:Ap) (outer:List Env) (P:Program) (w:World) (H:Hp) (s:Shared) (Q:VK) (E:XK) (r:Result) (s':Shared):Prop:=
 match r with
 | .ok (.ret u)=>CE outer P w H s Q u s'
 | .ok _=>False
 | .error e=>CX outer H s E e s'
set_option genInjectivity false in
structure cP (P:Program) (w:World) (K:Frag) (mg:Str→Option Value) (base:Heap) (CX:Ap) (k:Nat) (f:Addr) (fd:FuncData) (ps:List Str) (sp:Sp):Prop where
 len: ∀ vs H Q E,sp vs H Q E→vs.length=ps.length
 run: ∀ (A:Around) (outer:List Env) (s:Shared) (H:Hp) (args:Args) (us:List Value) (vs:List V) (Q:VK) (E:XK),cx k A→Am P w K mg base A outer s H→BindsTo s fd args (ps.zip us)→Vals vs us→sp vs H Q E→
  codeAny (model P w) A (.call (.ref f) args) (CR CX outer P w H s Q E) s
theorem cP.imp {P:Program} {w:World} {K:Frag} {mg:Str→Option Value} {base:Heap} {CX:Ap} {k:Nat} {f:Addr} {fd:FuncData} {ps:List Str} {sp sp':Sp} (F:cP P w K mg base CX k f fd ps sp)
  (h: ∀ vs H Q E,sp' vs H Q E→sp vs H Q E):cP P w K mg base CX k f fd ps sp':=
 ⟨fun vs H Q E q=>F.len vs H Q E (h _ _ _ _ q),fun A outer s H args us vs Q E hr he hb hv hs=>F.run A outer s H args us vs Q E hr he hb hv (h _ _ _ _ hs)⟩
section
variable {X:Cx} {pZ:List (Addr×Obj)} {σ:St} {H:Hp} {s s':Shared}
theorem Inv.sy (I:Inv X pZ σ H s):Am X.prog X.w X.K X.mg X.base X.A X.stack s H:=
 ⟨I.ok.frames,I.ok.mod,I.bs,Od I.ok.DG I.sz,I.stack,I.xW,I.a7,I.bare⟩
theorem Inv.after {Q:VK} {u:Value} (I:Inv X pZ σ H s) (h:CE X.stack X.prog X.w H s Q u s'):EP X pZ σ Q u s':=by
 obtain⟨v,H',os,bare,un,a7,r,q⟩:=h
 obtain⟨hh,g,d,t,os'⟩:=s'
 obtain rfl:os'=s.os:=os
 exact⟨v,H',I.call (h':=hh) (g':=g) (d':=d) (t':=t) (ch:=[]) un a7 bare (fun b z=>absurd z (by simp)),r,q⟩
end
def tN (sp:Sp) (dvs:List V) (E:XK) (t:TA):TE:=fun σ H Q=>t σ H fun vs H1=>sp (vs++dvs) H1 Q E
def Binds (K:Frag) (fd:FuncData) (ps:List Str) (ds:List Value):Prop:=
 ∀ (s:Shared) (us:List Value),K.In s.heap→(us++ds).length=ps.length→BindsTo s fd ⟨us,[]⟩ (ps.zip (us++ds))
theorem Binds.all {K:Frag} {fd:FuncData} {ps:List Str} (h: ∀ us:List Value,us.length=ps.length→bindArgs fd ⟨us,[]⟩=pure (ps.zip us)):Binds K fd ps []:=fun s us _ hl=>by
 rw[List.append_nil] at hl ⊢
 exact .of_eq (h us hl)
def Passes (CX:Ap) (X:Cx) (E:XK):Prop:= ∀ (pZ:List (Addr×Obj)) (σ:St) (H:Hp) (s:Shared) (e:Value) (s':Shared),Inv X pZ σ H s→CX X.stack H s E e s'→X.xe e s'
section
variable {X:Cx} {CX:Ap} {k:Nat} {f C:Addr} {fd:FuncData} {ps:List Str} {sp:Sp} {dvs:List V} {ds:List Value} {E:XK} {x m:Str} {p pos apos:Pos} {e o:Expr} {es:List Expr} {ta:TE} {t:TA}
theorem HG {pZ:List (Addr×Obj)} {σ:St} {H:Hp} {s:Shared} {Q:VK} {us:List Value} {vs:List V} (F:cP X.prog X.w X.K X.mg X.base CX k f fd ps sp) (hr:cx k X.A) (hb:Binds X.K fd ps ds) (hd:Vals dvs ds) (hx:Passes CX X E)
  (I:Inv X pZ σ H s) (r:Vals vs us) (h:sp (vs++dvs) H Q E):wpAny (model X.prog X.w) X.A (call (.ref f) us) (EP X pZ σ Q) X.xe s:=by
 have r2:Vals (vs++dvs) (us++ds):=r.append hd
 have hl:(us++ds).length=ps.length:=by rw[←r2.length];exact F.len _ _ _ _ h
 refine wpAny_call (codeAny_mono (F.run X.A X.stack s H ⟨us,[]⟩ (us++ds) (vs++dvs) Q E hr I.sy (hb s us I.Kc hl) r2 h) fun r s' hq=>?_)
 cases r with
 |error e=>exact hx pZ σ H s e s' I hq
 |ok fl=>
  cases fl with
  |ret u=>exact I.after hq
  |next=>exact False.elim hq
  |brk=>exact False.elim hq
  |cont=>exact False.elim hq
theorem Er (F:cP X.prog X.w X.K X.mg X.base CX k f fd ps sp) (hr:cx k X.A) (hg:Gl X x) (hm:X.mg x=some (.ref f)) (hk:keepIn X.K (.ref f)=true) (hb:Binds X.K fd ps ds) (hd:Vals dvs ds) (hx:Passes CX X E)
  (ha:PA X (e::es) t) (mE:(x==("__debug__":Str))=false:=by decide) (he:starEach (e::es) X.env=(false,eval e X.env)::starEach es X.env:=by rfl) (jP:(backTo pos (starEach es X.env)).any (·.1)=false:=by rfl):
  PE X (.Call (.Name x p) (e::es) [] pos) (tN sp dvs E t):=by
 intro pZ s σ H Q I h
 refine wpAny_Call_Name_kw (EZ I hg hm ?_ mE)
 refine PySem.W.callWith_K (h₀:=X.base) I.ok.mod.M5 hk (bh (ha pos pZ s σ H _ I h) fun us s1 ⟨vs,H1,I1,r,q⟩=>⟨I1.Kc,?_⟩) he jP
 exact HG F hr hb hd hx I1 r q
end
set_option genInjectivity false in
structure aB (N P:List Str) (sc:Scope):Prop where
 kind:sc.kind= .function
 co:sc.isCoroutine=false
 gen:sc.isGenerator=false
 nd:N.Nodup
 pre:N.take P.length=P
 par: ∀ x∈P,sc.names.lookup x=some .local∨sc.names.lookup x=some .cell
 Iu: ∀ y∈sc.names,y.2≠.free
theorem qJ {kindOf:Str→Option NameKind} {x:Str}: ∀ {binds:List (Str×Value)} {m:Str→Option Value},(∀ v,(x,v)∉binds)→bindL kindOf binds m x=m x
 |[],_,_=>rfl
 |(n,v)::r,m,h=>by
  unfold bindL
  rw[qJ fun w hw=>h w (NV _ hw)]
  split
  ·have:x≠n:=by rintro rfl;exact h v NS
   simp[this]
  ·rfl
theorem qL {kindOf:Str→Option NameKind} {x:Str}: ∀ {binds:List (Str×Value)} {m:Str→Option Value},(∀ v,(x,v)∉binds)→bindC kindOf binds m x=m x
 |[],_,_=>rfl
 |(n,v)::r,m,h=>by
  unfold bindC
  rw[qL fun w hw=>h w (NV _ hw)]
  split
  ·rfl
  ·have:x≠n:=by rintro rfl;exact h v NS
   simp[this]
theorem qK {kindOf:Str→Option NameKind} {x:Str} {v:Value}: ∀ {P:List Str} {vs:List Value} {i:Nat} {m:Str→Option Value},P.Nodup→P[i]?=some x→vs[i]?=some v→kindOf x=some .local→
  bindL kindOf (P.zip vs) m x=some v
 |[],_,_,_,_,h,_,_=>by simp at h
 |_::_,[],_,_,_,_,h,_=>by simp at h
 |p::P,w::vs,0,m,nd,h1,h2,hk=>by
  simp at h1 h2;subst h1;subst h2
  show bindL kindOf ((p,w)::P.zip vs) m p=_
  unfold bindL
  rw[qJ fun v hv=>(List.nodup_cons.mp nd).1 (List.of_mem_zip hv).1,OG hk]
  simp
 |p::P,w::vs,i+1,m,nd,h1,h2,hk=>by
  show bindL kindOf ((p,w)::P.zip vs) m x=_
  unfold bindL
  exact qK (i:=i) (List.nodup_cons.mp nd).2 (by simpa using h1) (by simpa using h2) hk
theorem qM {kindOf:Str→Option NameKind} {x:Str} {v:Value}: ∀ {P:List Str} {vs:List Value} {i:Nat} {m:Str→Option Value},P.Nodup→P[i]?=some x→vs[i]?=some v→kindOf x≠some .local→
  bindC kindOf (P.zip vs) m x=some v
 |[],_,_,_,_,h,_,_=>by simp at h
 |_::_,[],_,_,_,_,h,_=>by simp at h
 |p::P,w::vs,0,m,nd,h1,h2,hk=>by
  simp at h1 h2;subst h1;subst h2
  show bindC kindOf ((p,w)::P.zip vs) m p=_
  unfold bindC
  rw[qL fun v hv=>(List.nodup_cons.mp nd).1 (List.of_mem_zip hv).1,OH hk]
  simp
 |p::P,w::vs,i+1,m,nd,h1,h2,hk=>by
  show bindC kindOf ((p,w)::P.zip vs) m x=_
  unfold bindC
  exact qM (i:=i) (List.nodup_cons.mp nd).2 (by simpa using h1) (by simpa using h2) hk
def start (N:List Str) (vs:List V):St:=vs.map some++List.replicate (N.length - vs.length) none
def fP (CX:Ap) (P:Program) (w:World) (K:Frag) (mg:Str→Option Value) (base:Heap) (N:List Str) (qual:Str) (scope:Scope) (f:Addr) (cd:Value) (A:Around) (outer:List Env) (s:Shared) (H:Hp) (E:XK):Cx where
 prog:=P
 w:=w
 K:=K
 mg:=mg
 base:=base
 A:=A.deeper (envOfC qual scope s.heap.objs.size f cd)
 N:=N
 s₀:=s
 H₀:=H
 env:=envOfC qual scope s.heap.objs.size f cd
 outer:=outer
 stack:=envOfC qual scope s.heap.objs.size f cd::outer
 ex:=[]
 calm:=true
 fn:=fun _=>true
 pn:=[]
 xe:=fun e s'=>wpAny (model P w) (A.deeper (envOfC qual scope s.heap.objs.size f cd)) (leaving (envOfC qual scope s.heap.objs.size f cd) e) (fun _ s''=>CX outer H s E e s'') (fun e' s''=>CX outer H s E e' s'') s'
theorem ve {sc:Scope} {n:Nat} {x:Str} (h:sc.names.lookup x=some .cell): ∃ c,(cellsFrom n sc.names []).lookup x=some c:=by
 have q:=PySem.W.cellsFrom_some sc.names n [] (.inl h)
 exact Option.isSome_iff_exists.mp q
theorem qy {CX:Ap} {P:Program} {w:World} {K:Frag} {mg:Str→Option Value} {base:Heap} {N ps:List Str} {qual:Str} {scope:Scope} {f:Addr} {cd:Value} {A:Around} {outer:List Env} {s s1:Shared} {H:Hp} {E:XK} {us:List Value} {vs:List V}
  (S:aB N ps scope) (hd:A.handled=none) (e0:Am P w K mg base A outer s H) (hl:vs.length=ps.length) (r:Vals vs us)
  (x:InCallC s s.heap.objs.size (bindL (envOfC qual scope s.heap.objs.size f cd).kindOf (ps.zip us) fun _=>none) (cellsFrom (s.heap.objs.size+1) scope.names []) (bindC (envOfC qual scope s.heap.objs.size f cd).kindOf (ps.zip us) fun _=>none) s1):
  Inv (fP CX P w K mg base N qual scope f cd A outer s H E) [] (start N vs) H s1:=by
 have jP:ps.length≤N.length:=by have:=congrArg List.length S.pre;rw[List.length_take] at this;lia
 obtain⟨h1,tk,rfl,hk⟩:=x.done
 have noA: ∀ b:Addr,b∉(fP CX P w K mg base N qual scope f cd A outer s H E).ex:=fun b z=>absurd (show b∈([]:List Addr) from z) (by simp)
 refine⟨⟨e0.mod,S.kind,rfl,rfl,NZ _,fun y z c h1 h2=>?_,fun y hy=>?_,fun y c _ h=>?_,fun _=>hd,Around.frames_deeper e0.frames,.inr ⟨rfl,rfl⟩,fun b z=>absurd z (noA b),e0.bs,e0.DG,fun b _ _=>noA b,fun b z=>absurd z (noA b),e0.lG,e0.GI⟩,
  rfl,e0.bare,Un.kept hk,⟨_,x.toInCall.ns,fun i y v h1 h2 h3=>?_⟩,fun y c h=>⟨_,x.cell y c h⟩,e0.a7.fresh (NZ _),fun y c h=>?_,fun p hp=>absurd (show p∈([]:List (Addr×Obj)) from hp) (by simp),e0.a7.kept hk,?_⟩
 ·exact name_of_addr x.apart (PySem.mem_of_lookup h1) (PySem.mem_of_lookup h2)
 ·have hy:scope.names.lookup y=some .cell∨scope.names.lookup y=some .free:=hy
  rcases hy with hy|hy
  ·exact ve hy
  ·exact absurd rfl (S.Iu _ (PySem.mem_of_lookup hy))
 ·exact Nat.le_of_lt (x.above y c (PySem.mem_of_lookup h))
 ·have hi:i < vs.length:=by
   unfold start at h2
   by_cases hi:i < vs.length
   ·exact hi
   ·rw[List.getElem?_append_right (by simpa using hi)] at h2
    rw[List.getElem?_replicate] at h2
    split at h2<;>cases h2
  have ha:vs[i]?=some v:=by
   unfold start at h2
   rw[Oy (by simpa using hi),Oc] at h2
   cases e:vs[i]? with
   |none=>rw[e] at h2;cases h2
   |some a=>rw[e] at h2;cases h2;rfl
  obtain⟨u,hu,rv⟩:=r.get ha
  have hp:ps[i]?=some y:=by
   rw[←S.pre,List.getElem?_take_of_lt (by lia)];exact h1
  have ndP:ps.Nodup:=by rw[←S.pre];exact S.nd.sublist (List.take_sublist _ _)
  refine⟨u,rv,?_⟩
  rcases S.par y (List.mem_of_getElem? hp) with k|k
  ·exact .inl ⟨k,qK ndP hp hu k⟩
  ·obtain⟨c,e⟩:=ve (n:=s.heap.objs.size+1) k
   refine .inr ⟨.inl k,c,e,?_⟩
   have q:=x.cell y c e
   rw[qM ndP hp hu (by show scope.names.lookup y≠_;rw[k];decide)] at q
   exact q
 ·exact e0.a7.fresh (Nat.le_of_lt (x.above y c (PySem.mem_of_lookup h)))
 ·unfold start
  show _=N.length
  rw[Oi,NT,List.length_replicate]
  lia
theorem GK {CX:Ap} {P:Program} {w:World} {K:Frag} {mg:Str→Option Value} {base:Heap} {k:Nat} {f:Addr} {name qual:Str} {params:Arguments} {body:List Stmt} {scope:Scope} {dV kV doc pm dP ct oc:Value} {an od:Option Addr}
  {osl:Array (Option Value)} {N ps:List Str} {sp:Sp} (lk:K.lookup f=some ⟨oc,od,.func (fnOf name qual params body scope dV kV doc pm an dP ct),osl⟩) (hcd:codeIn K dP qual=true) (S:aB N ps scope)
  (len: ∀ vs H Q E,sp vs H Q E→vs.length=ps.length)
  (fO: ∀ (A:Around) (outer:List Env) (s:Shared) (H:Hp) (vs:List V) (Q:VK) (E:XK),cx k (A.deeper (envOfC qual scope s.heap.objs.size f dP))→sp vs H Q E→
   ∃ t,vG (fP CX P w K mg base N qual scope f dP A outer s H E) body t∧t {nx:=fun _ H'=>Q .aE H',rt:=Q} (start N vs) H):
  cP P w K mg base CX (k+1) f (fnOf name qual params body scope dV kV doc pm an dP ct) ps sp:=by
 refine⟨len,fun A outer s H args us vs Q E hr e0 hb r hsp=>?_⟩
 have hl:=len _ _ _ _ hsp
 have KX:K.In s.heap:=e0.mod.M5.keeps fun b o e=>(e0.bs b o e).1
 have lim:s.heap.NoLimit:=e0.mod.nolimit.keeps fun b o e=>(e0.bs b o e).1
 have hkind: ∀ y∈ps.zip us,scope.names.lookup y.1=some .local∨(scope.names.lookup y.1=some .cell∧((cellsFrom (s.heap.objs.size+1) scope.names []).lookup y.1).isSome=true):=fun bt hy=>by
  obtain⟨n,v⟩:=bt
  rcases S.par n (List.of_mem_zip hy).1 with q|q
  ·exact .inl q
  ·exact .inr ⟨q,PySem.W.cellsFrom_some _ _ _ (.inl q)⟩
 refine codeAny_call_function hr.depth (KX _ _ lk) rfl S.co S.gen rfl (PySem.W.codeRec_of KX hcd) (hb _ _ _ _ ?_)
 refine wpAny_newFunctionEnv_cells S.kind hkind fun env he s1 x=>?_
 subst he
 refine⟨lim.keeps x.toInCall.keep,codeAny_func ?_⟩
 obtain⟨t,ht,hq⟩:=fO A outer s H vs Q E (hr.deeper _) hsp
 have I:Inv (fP CX P w K mg base N qual scope f dP A outer s H E) [] (start N vs) H s1:=qy S hr.hd e0 hl r x
 refine wpAny_mono (ht [] s1 (start N vs) H _ I hq) (fun fl s' hs=>?_) fun e s' hs=>hs
 have fin: ∀ {σ':St} {H':Hp} {v:V} {u:Value},Inv (fP CX P w K mg base N qual scope f dP A outer s H E) [] σ' H' s'→RelV v u→Q v H'→CE outer P w H s Q u s':=
  fun {σ' H' v u} J rv q=>⟨v,H',J.os,J.bare,J.base,J.a7,rv,q⟩
 cases fl with
 |ret u=>
  obtain⟨v,σ',H',J,rv,q⟩:=hs
  exact fin J rv q
 |next=>
  obtain⟨σ',H',J,q⟩:=hs
  exact fin (v:=V.aE) (u:=Value.none) J rfl q
 |brk=>
  obtain⟨_,_,_,q⟩:=hs
  exact False.elim q
 |cont=>
  obtain⟨_,_,_,q⟩:=hs
  exact False.elim q
end L2
namespace L2
open PySem PySem.Spec PyProof.Rows
section
variable {X:Cx} {x:Str} {p pos:Pos} {e:Expr} {es:List Expr} {t:TA} {id T:String} {r:List V→Hp→VK→Prop}
def J7 (r:List V→Hp→VK→Prop) (t:TA):TE:=fun σ H Q=>t σ H fun vs H1=>r vs H1 Q
theorem ue (hc:fc X (.builtin id) r) (hg:Gl X x) (hm:X.mg x=none) (hv:bootBuiltins x=some (.builtin id)) (ha:PA X (e::es) t) (hn:x≠"__name__":=by decide) (mE:(x==("__debug__":Str))=false:=by decide)
  (he:starEach (e::es) X.env=(false,eval e X.env)::starEach es X.env:=by rfl) (jP:(backTo pos (starEach es X.env)).any (·.1)=false:=by rfl):PE X (.Call (.Name x p) (e::es) [] pos) (J7 r t):=by
 intro pZ s σ H Q I h
 refine wpAny_Call_Name_kw (gz I hg hm hv ?_ hn mE)
 exact PyProof.Rows.callWith_builtin1 (bh (ha pos pZ s σ H _ I h) fun us s1 ⟨vs,H1,I1,r1,q1⟩=>hc pZ s1 σ H1 vs us Q I1 r1 q1) he jP
theorem zw (hc:fc X (.type T) r) (hg:Gl X x) (hm:X.mg x=none) (hv:bootBuiltins x=some (.type T)) (ha:PA X (e::es) t) (hn:x≠"__name__":=by decide) (mE:(x==("__debug__":Str))=false:=by decide)
  (he:starEach (e::es) X.env=(false,eval e X.env)::starEach es X.env:=by rfl) (jP:(backTo pos (starEach es X.env)).any (·.1)=false:=by rfl):PE X (.Call (.Name x p) (e::es) [] pos) (J7 r t):=by
 intro pZ s σ H Q I h
 refine wpAny_Call_Name_kw (gz I hg hm hv ?_ hn mE)
 exact PyProof.Rows.callWith_type1 (bh (ha pos pZ s σ H _ I h) fun us s1 ⟨vs,H1,I1,r1,q1⟩=>hc pZ s1 σ H1 vs us Q I1 r1 q1) he jP
end
end L2
namespace HT
open PySem PyProof.Rows
def lexLt:List Int→List Int→Bool
 |[],[]=>false
 |[],_::_=>true
 |_::_,[]=>false
 |x::xs,y::ys=>if x=y then lexLt xs ys else decide (x < y)
theorem jO (x y:Int) (xs ys:List Int):lexLt (x::xs) (y::ys)=if x=y then lexLt xs ys else decide (x < y):=rfl
theorem jv:lexLt [] []=false:=rfl
theorem nN (y:Int) (ys:List Int):lexLt [] (y::ys)=true:=rfl
theorem nQ (x:Int) (xs:List Int):lexLt (x::xs) []=false:=rfl
theorem CO (A:Around) (s:Shared) (a:Int) (t:Tok) (c:Int) (u:Tok): ∃ e,SeqAt.EqAt A s (.int a t) (.int c u) e∧(e=true↔a=c):=
 ⟨(a==c),SeqAt.EqAt.int_int a t c u,by simp⟩
section
variable {prog : Program} {w : World} {A : Around} {E : Value → Shared → Prop} {s : Shared}
theorem FA {t b:Addr} {vs ws:List Value} {Q:Value→Shared→Prop} (ht:IsTup s.heap t vs.toArray) (hb:IsTup s.heap b ws.toArray) (hv:vs≠[])
  (h1:ws=[]→Q (.ref t) s) (h2:ws≠[]→Q (.ref s.heap.objs.size) {s with heap:=s.heap.push {cls:=.type "tuple",data:=.seq (vs++ws).toArray}})
  (hsz:vs.length+ws.length≤sizeLine):wpAny (model prog w) A (binaryOp .Add (.ref t) (.ref b)) Q E s:=by
 obtain⟨⟨cls,dd,data,sl⟩,ho,hc,n,hd⟩:=id ht
 obtain⟨⟨cls2,dd2,data2,sl2⟩,ho2,hc2,n2,hd2⟩:=id hb
 simp only at hc hd hc2 hd2
 subst hc hd hc2 hd2
 have e:vs.toArray++ws.toArray=(vs++ws).toArray:=by simp
 by_cases hw:ws=[]
 ·exact concat_meets ⟨_,ho,rfl⟩ ⟨_,ho2,rfl⟩ noFill_tuple_add seq_tuple_add PySem.F.slot_tuple_add PySem.F.entry_tuple_add (PySem.F.args_tuple_add_2 _ _)
   (tuple_addW1 t b vs.toArray ws.toArray n n2 dd dd2 sl sl2 (by simpa using hv) (by simp[hw])) ⟨ho,ho2,h1 hw⟩
 ·refine concat_meets ⟨_,ho,rfl⟩ ⟨_,ho2,rfl⟩ noFill_tuple_add seq_tuple_add PySem.F.slot_tuple_add PySem.F.entry_tuple_add (PySem.F.args_tuple_add_2 _ _)
   (tuple_addW2 t b vs.toArray ws.toArray n n2 dd dd2 sl sl2 (by simpa using hv) (by simpa using hw) (by rw[NX,NX];exact hsz)) ⟨ho,ho2,?_⟩
  rw[e]
  exact h2 hw
def cb (n d:Nat):Option Int→Nat
 |none=>d
 |some v=>if v < 0 then(v+(n:Int)).toNat else min v.toNat n
theorem ki (n d:Nat):cb n d none=d:=rfl
theorem jj (n d k:Nat):cb n d (some (k:Int))=min k n:=by
 show (if(k:Int) < 0 then((k:Int)+(n:Int)).toNat else min (k:Int).toNat n)=min k n
 rw[OH (by lia),Int.toNat_natCast]
theorem HF (n d:Nat) (hd:d≤n) (o:Option Int):cb n d o≤n:=by
 cases o with
 |none=>exact hd
 |some v=>
  show (if v < 0 then(v+(n:Int)).toNat else min v.toNat n)≤n
  by_cases hv:v < 0
  ·rw[OG hv];lia
  ·rw[OH hv];exact Nat.min_le_right _ _
theorem yS (v:Int) (n d:Nat):(if v < 0 then max (v+(n:Int)) 0 else min v (n:Int))=((cb n d (some v):Nat):Int):=by
 show (if v < 0 then max (v+(n:Int)) 0 else min v (n:Int))=(((if v < 0 then(v+(n:Int)).toNat else min v.toNat n):Nat):Int)
 by_cases hv:v < 0
 ·simp only[OG hv];lia
 ·simp only[OH hv];lia
theorem xD (lo hi:Option Int) (n:Nat):Builtin.Slice.sliceAdjust lo hi 1 (n:Int)=(((cb n 0 lo:Nat):Int),((cb n n hi:Nat):Int)):=by
 have h1: ¬ ((1:Int) < 0):=by lia
 unfold Builtin.Slice.sliceAdjust
 simp only[h1,if_false]
 refine Prod.ext ?_ ?_
 ·cases lo with
  |none=>rfl
  |some v=>exact yS v n 0
 ·cases hi with
  |none=>rfl
  |some v=>exact yS v n n
theorem wj (i j:Nat):Builtin.Slice.slicePlaces (i:Int) (j:Int) 1=j - i:=by
 unfold Builtin.Slice.slicePlaces
 have h1:(1:Int) > 0:=by lia
 simp only[h1,if_true,Int.ediv_one]
 split<;>lia
theorem m8 {v:Value} {o:Option Int} {Q:Option Int→Shared→Prop} (p:IsPart v o) (h:Q o s):wpAny (model prog w) A (Builtin.Slice.slicePartIndex v) Q E s:=by
 cases p with
 |none=>exact slicePart_none h
 |int i t=>exact slicePart_int h
theorem fL {sl:Addr} {vl vu:Value} {lo hi:Option Int} {n:Nat} {Q:Int×Int×Nat→Shared→Prop} (hs:s.heap.IsSliceOf sl vl vu .none) (pl:IsPart vl lo) (pu:IsPart vu hi)
  (h:Q (((cb n 0 lo:Nat):Int),1,cb n n hi - cb n 0 lo) s):wpAny (model prog w) A (Builtin.Slice.sliceApplied (.ref sl) (pure (n:Int))) Q E s:=by
 obtain⟨os,hos,hcs,hds⟩:=id hs
 unfold Builtin.Slice.sliceApplied Builtin.Slice.sliceFields
 refine NR (NR (wpAny_field hos hds (x:=vl) rfl (NR (wpAny_field hos hds (x:=vu) rfl (NR (wpAny_field hos hds (x:=.none) rfl (NW ?_)))))))
 refine NR (slicePart_none ?_)
 show wpAny _ _ (if((1:Int)==0)=true then _ else _) _ _ s
 rw[OH (by decide)]
 refine NR (m8 pl (NR (m8 pu (NR (NW ?_)))))
 show wpAny _ _ (match Builtin.Slice.sliceAdjust lo hi 1 (n:Int) with|(lo,hi)=>pure (lo,(1:Int),Builtin.Slice.slicePlaces lo hi 1)) _ _ s
 rw[xD lo hi n]
 show wpAny _ _ (pure (((cb n 0 lo:Nat):Int),(1:Int),Builtin.Slice.slicePlaces ((cb n 0 lo:Nat):Int) ((cb n n hi:Nat):Int) 1)) _ _ s
 rw[wj]
 exact NW h
theorem Bp (xs:Array Value) (i k:Nat):((List.range k).filterMap fun (m:Nat)=>xs[((i:Int)+(m:Int) * 1).toNat]?).toArray=((xs.toList.drop i).take k).toArray:=by
 have e:(fun (m:Nat)=>xs[((i:Int)+(m:Int) * 1).toNat]?)=fun m=>xs[i+m]?:=by
  funext m
  have:((i:Int)+(m:Int) * 1).toNat=i+m:=by lia
  rw[this]
 rw[e]
 have:=pick_run xs i k
 rw[List.filterMap_map] at this
 have e2:((fun x=>xs[x]?)∘fun x=>i+x)=fun m=>xs[i+m]?:=rfl
 rw[e2] at this
 rw[this]
theorem kG {t sl:Addr} {items:Array Value} {vl vu:Value} {lo hi:Option Int} {Q:Value→Shared→Prop} (ht:IsTup s.heap t items) (hs:s.heap.IsSliceOf sl vl vu .none) (pl:IsPart vl lo) (pu:IsPart vu hi)
  (hw: ¬ (cb items.size 0 lo=0∧cb items.size items.size hi=items.size))
  (h:Q (.ref s.heap.objs.size) {s with heap:=s.heap.push {cls:=.type "tuple",data:=.seq ((items.toList.drop (cb items.size 0 lo)).take (cb items.size items.size hi - cb items.size 0 lo)).toArray}})
  (hsz:items.size≤sizeLine):wpAny (model prog w) A (getItem (.ref t) (.ref sl)) Q E s:=by
 have htake:sizeOk (.seq ((items.toList.drop (cb items.size 0 lo)).take (cb items.size items.size hi - cb items.size 0 lo)).toArray):=by
  show ((items.toList.drop (cb items.size 0 lo)).take (cb items.size items.size hi - cb items.size 0 lo)).toArray.size≤sizeLine
  rw[NX,List.length_take,List.length_drop,Ou]
  lia
 have hj:cb items.size items.size hi≤items.size:=HF _ _ (NZ _) hi
 obtain⟨os,hos,hcs,hds⟩:=id hs
 have hTs:s.TypeIs (.ref sl) "slice":=⟨os,hos,hcs⟩
 unfold getItem
 try with_reducible refine wpAny_holding ?_
 first|refine NR (NW ?_)|skip
 refine NR (wpAny_sequenceKey ht.typeIs (by decide) ?_)
 refine NR (wpAny_callSpecial?_slot (name:=Str.ofString "__getitem__") ht.typeIs PyProof.Rows.slot_tuple_getitem
  (wpAny_call_entry PyProof.Rows.slot_tuple_getitem ht.typeIs entry_tuple_getitem ?_ (args_tuple_getitem _ _)))
 show wpAny _ _ (Builtin.Tuple.tupleItemsOf (.ref t) >>= _) _ _ s
 refine NR (tupleItemsOf_ ht ?_)
 refine NR (wpAny_typeOf hTs ?_)
 rw[OG (by decide)]
 refine NR (fL hs pl pu ?_)
 have hno: ¬ ((((cb items.size 0 lo:Nat):Int)==0&&(1:Int)==1&&(cb items.size items.size hi - cb items.size 0 lo)==items.size)=true):=by
  intro q
  rw[Ov,Ov] at q
  have q1:((cb items.size 0 lo:Nat):Int)=0:=eq_of_beq q.1.1
  have q2:cb items.size items.size hi - cb items.size 0 lo=items.size:=eq_of_beq q.2
  exact hw ⟨by lia,by lia⟩
 show wpAny _ _ (if(((cb items.size 0 lo:Nat):Int)==0&&(1:Int)==1&&(cb items.size items.size hi - cb items.size 0 lo)==items.size)=true then _ else _) _ _ s
 rw[OH hno,Bp]
 first
  |exact NR (m:=Builtin.Tuple.tupleExact _) (wpAny_newObj_type (NW ⟨_,rfl,NW h⟩) htake)
  |exact NR (m:=Builtin.Tuple.tupleExact _) (wpAny_newObj_type (NR (NW (NW ⟨_,rfl,NW h⟩))) htake)
  |exact NR (NR (m:=Builtin.Tuple.tupleExact _) (wpAny_newObj_type (NW (NW ⟨_,rfl,NW h⟩)) htake))
  |exact NR (NR (m:=Builtin.Tuple.tupleExact _) (wpAny_newObj_type (NW ⟨_,rfl,NW h⟩) htake))
end
end HT
namespace L2
open PySem PySem.Spec PyProof.Rows
abbrev TO:=St→Hp→(Option Int→Hp→Prop)→Prop
def PO (X:Cx) (e:Option Expr) (t:TO):Prop:=
 ∀ (pZ:List (Addr×Obj)) (s:Shared) (σ:St) (H:Hp) (Q:Option Int→Hp→Prop),Inv X pZ σ H s→t σ H Q→
  wpAny (model X.prog X.w) X.A (evalPart e X.env) (fun u s'=> ∃ o H',Inv X pZ σ H' s'∧IsPart u o∧Q o H') X.xe s
def DS:TO:=fun _ H Q=>Q none H
def KD (t:TE):TO:=fun σ H Q=>t σ H fun x H1=> ∃ i,x= .int i∧Q (some i) H1
section
variable {X:Cx} {e:Expr} {te:TE} {lo hi:Option Expr} {tl th:TO} {pos p2:Pos}
theorem mK:PO X none DS:=by
 intro pZ s σ H Q I h
 rw[evalPart_none]
 exact NW ⟨none,H,I,.none,h⟩
theorem mJ (h:PE X e te):PO X (some e) (KD te):=by
 intro pZ s σ H Q I hw
 rw[evalPart_some]
 refine bh (h pZ s σ H _ I hw) fun u s1 ⟨x,H1,I1,r1,q1⟩=>?_
 obtain⟨i,rfl,q⟩:=q1
 obtain⟨t,rfl⟩:=r1
 exact⟨some i,H1,I1,.int i t,q⟩
def Aw (X:Cx) (r:V→Option Int→Option Int→Hp→VK→Prop):Prop:=
 ∀ (pZ:List (Addr×Obj)) (s:Shared) (σ:St) (H:Hp) (x:V) (v vl vu:Value) (lo hi:Option Int) (sl:Addr) (Q:VK),Inv X pZ σ H s→RelV x v→s.heap.IsSliceOf sl vl vu .none→IsPart vl lo→IsPart vu hi→r x lo hi H Q→
  ∃ T id,typeLookup (.type T) "__getitem__"=pure (some (.builtin id))∧s.TypeIs v T∧wpAny (model X.prog X.w) X.A (getItem v (.ref sl)) (EP X pZ σ Q) X.xe s
theorem Aw.or {r r':V→Option Int→Option Int→Hp→VK→Prop} (h:Aw X r) (h':Aw X r'):Aw X (fun x lo hi H Q=>r x lo hi H Q∨r' x lo hi H Q):=by
 intro pZ s σ H x v vl vu lo hi sl Q I rx hs pl pu q
 rcases q with q|q
 ·exact h pZ s σ H x v vl vu lo hi sl Q I rx hs pl pu q
 ·exact h' pZ s σ H x v vl vu lo hi sl Q I rx hs pl pu q
def ME (r:V→Option Int→Option Int→Hp→VK→Prop) (te:TE) (tl th:TO):TE:=fun σ H Q=>te σ H fun x H1=>tl σ H1 fun l H2=>th σ H2 fun u H3=>r x l u H3 Q
theorem kl {r:V→Option Int→Option Int→Hp→VK→Prop} (hr:Aw X r) (he:PE X e te) (hl:PO X lo tl) (hu:PO X hi th):PE X (.Subscript e (.Slice lo hi none p2) pos) (ME r te tl th):=by
 intro pZ s σ H Q I h
 refine Subscript_ (bh (he pZ s σ H _ I h) fun v s1 ⟨x,H1,I1,r1,q1⟩=>?_)
 refine wpAny_Slice (bh (hl pZ s1 σ H1 _ I1 q1) fun vl s2 ⟨l,H2,I2,pl,q2⟩=>bh (hu pZ s2 σ H2 _ I2 q2) fun vu s3 ⟨u,H3,I3,pu,q3⟩=>?_)
 rw[evalPart_none]
 refine NW ?_
 have I4:Inv X pZ σ H3 {s3 with heap:=s3.heap.push {cls:=.type "slice",data:=.fields #[vl,vu,.none]}}:=I3.kept (t':=s3.toks) fun b ob q=>NU _ q
 obtain⟨T,id,hT,ht,hg⟩:=hr pZ {s3 with heap:=s3.heap.push {cls:=.type "slice",data:=.fields #[vl,vu,.none]}} σ H3 x v vl vu l u s3.heap.objs.size Q I4 r1 (Heap.IsSliceOf.new ..) pl pu q3
 show wpAny (model X.prog X.w) X.A (subscriptTail e (.Slice lo hi none p2) v (.ref s3.heap.objs.size)) (EP X pZ σ Q) X.xe {s3 with heap:=s3.heap.push {cls:=.type "slice",data:=.fields #[vl,vu,.none]}}
 exact tail_any (ops:=[.ref s3.heap.objs.size,v]) ht hT hg (by with_unfolding_all rfl)
def kJ (xs:List V) (lo hi:Option Int):List V:=(xs.drop (HT.cb xs.length 0 lo)).take (HT.cb xs.length xs.length hi - HT.cb xs.length 0 lo)
theorem mj (xs:List V) (lo hi:Option Int):(kJ xs lo hi).length≤xs.length:=by
 unfold kJ
 rw[List.length_take,List.length_drop]
 lia
def KW (K:Frag):V→Option Int→Option Int→Hp→VK→Prop:=fun x lo hi H Q=> ∃ a xs,x= .ref a∧cN K H a xs∧
 ¬ (HT.cb xs.length 0 lo=0∧HT.cb xs.length xs.length hi=xs.length)∧∀ p,H p=none→Q (.ref p) (upd H p (.tup (kJ xs lo hi)))
theorem HC:Aw X (KW X.K):=by
 intro pZ s σ H x v vl vu lo hi sl Q I rx hs pl pu h
 obtain⟨a,xs,rfl,hx,hw,q⟩:=h
 cases rx
 obtain⟨ay,r,ht,hz⟩:=I.tuple hx
 have hlen:ay.toArray.size=xs.length:=by rw[NX];exact r.length.symm
 refine⟨"tuple",_,PyProof.Rows.slot_tuple_getitem.lookup,ht.typeIs,?_⟩
 refine HT.kG ht hs pl pu (by rw[hlen];exact hw) ?_ (by rw[hlen];exact hz)
 rw[hlen]
 refine⟨.ref s.heap.objs.size,_,I.laid (t':=s.toks) (o:=.tup (kJ xs lo hi)) (fun b ob q=>NU _ q) (NZ _) ?_,rfl,q _ (I.a7.fresh (NZ _))⟩
 exact⟨Od (mj xs lo hi) hz,_,(r.drop (HT.cb xs.length 0 lo)).take (HT.cb xs.length xs.length hi - HT.cb xs.length 0 lo),IsTup.new _ _⟩
def Gw (K:Frag):R2:=fun x y H Q=> ∃ a b xs ys,x= .ref a∧y= .ref b∧cN K H a xs∧cN K H b ys∧xs≠[]∧xs.length+ys.length≤sizeLine∧
 (ys=[]→Q (.ref a) H)∧(ys≠[]→∀ p,H p=none→Q (.ref p) (upd H p (.tup (xs++ys))))
theorem Vals.mO {xs:List V} {us:List Value} (r:Vals xs us):us=[]↔xs=[]:=by
 cases r with
 |nil=>simp
 |cons _ _=>simp
theorem ED:du X (binaryOp .Add) (Gw X.K):=by
 intro pZ s σ H x y v u Q I rx ry h
 obtain⟨a,b,xs,ys,rfl,rfl,ha,hb,hx,hz,q1,q2⟩:=h
 cases rx
 cases ry
 obtain⟨ay,r1,p1,_⟩:=I.tuple ha
 obtain⟨mC,r2,p2,_⟩:=I.tuple hb
 refine HT.FA p1 p2 (fun z=>hx (r1.mO.mp z)) (fun z=>⟨.ref a,H,I,rfl,q1 (r2.mO.mp z)⟩) (fun z=>?_) (by rw[←r1.length,←r2.length];exact hz)
 refine⟨.ref s.heap.objs.size,_,I.laid (t':=s.toks) (o:=.tup (xs++ys)) (fun b ob q=>NU _ q) (NZ _) ?_,rfl,q2 (fun w=>z (r2.mO.mpr w)) _ (I.a7.fresh (NZ _))⟩
 exact⟨by rw[Oi];exact hz,_,r1.append r2,IsTup.new _ _⟩
end
end L2
namespace L2
open PySem PySem.Spec PyProof.Rows
def Cm (n:Nat) (i:Int):Option Nat:=if 0≤i then(if i < n then some i.toNat else none) else if -(n:Int)≤i then some (i+n).toNat else none
def j3 {α:Type} (xs:List α) (i:Int):Option α:=(Cm xs.length i).bind fun j=>xs[j]?
theorem yz {n:Nat} {i:Int} {j:Nat} (h:Cm n i=some j):seqIndex? i n=some j∧j < n∧-(n:Int)≤i∧i < n:=by
 unfold Cm at h
 by_cases h0:0≤i
 ·rw[OG h0] at h
  by_cases h1:i < n
  ·rw[OG h1] at h
   have e:i.toNat=j:=OK h
   exact⟨by rw[seqIndex_of h0 h1,e],by lia,by lia,h1⟩
  ·rw[OH h1] at h;cases h
 ·rw[OH h0] at h
  by_cases h1: -(n:Int)≤i
  ·rw[OG h1] at h
   have e:(i+n).toNat=j:=OK h
   exact⟨by rw[seqIndex_neg (by lia) h1,e],by lia,h1,by lia⟩
  ·rw[OH h1] at h;cases h
theorem sZ {α:Type} {xs:List α} {i:Int} {v:α} (h:j3 xs i=some v): ∃ j,seqIndex? i xs.length=some j∧xs[j]?=some v∧j < xs.length∧-(xs.length:Int)≤i∧i < xs.length:=by
 unfold j3 at h
 cases e:Cm xs.length i with
 |none=>rw[e] at h;cases h
 |some j=>
  rw[e] at h
  obtain⟨h1,h2,h3,h4⟩:=yz e
  exact⟨j,h1,h,h2,h3,h4⟩
theorem yX {α:Type} {xs:List α} {j:Nat} {v:α} (h:xs[j]?=some v):j3 xs (j:Int)=some v:=by
 have hj:j < xs.length:=(NY.mp h).1
 have e:Cm xs.length (j:Int)=some j:=by
  unfold Cm
  rw[OG (by lia),OG (by lia)];simp
 unfold j3;rw[e];exact h
def tw (b:Expr):Prop:= ∀ o i,subscripted b false o i=operate [o,i] (getItem o i)
def DI (X:Cx) (r:R2):Prop:=
 ∀ (value slice:Expr) (pZ:List (Addr×Obj)) (s:Shared) (σ:St) (H:Hp) (x y:V) (v u:Value) (Q:VK),Inv X pZ σ H s→RelV x v→RelV y u→r x y H Q→
  subscripted slice false v u=operate [v,u] (getItem v u)→wpAny (model X.prog X.w) X.A (subscriptTail value slice v u) (EP X pZ σ Q) X.xe s
def Nu (X:Cx) (id:String) (r:V→List V→Hp→VK→Prop):Prop:=
 ∀ (pZ:List (Addr×Obj)) (s:Shared) (σ:St) (H:Hp) (x:V) (xs:List V) (v:Value) (us:List Value) (Q:VK),Inv X pZ σ H s→RelV x v→Vals xs us→r x xs H Q→
  wpAny (model X.prog X.w) X.A (call (.builtin id) (v::us)) (EP X pZ σ Q) X.xe s
section
variable {X:Cx} {a b:Expr} {ta tb:TE} {pos:Pos}
theorem DI.or {r r':R2} (h:DI X r) (h':DI X r'):DI X (fun x y H Q=>r x y H Q∨r' x y H Q):=by
 intro value slice pZ s σ H x y v u Q I rx ry q hs
 rcases q with q|q
 ·exact h value slice pZ s σ H x y v u Q I rx ry q hs
 ·exact h' value slice pZ s σ H x y v u Q I rx ry q hs
theorem fN {r:R2} (hr:DI X r) (ha:PE X a ta) (hb:PE X b tb) (hs:tw b):PE X (.Subscript a b pos) (DR r ta tb):=by
 intro pZ s σ H Q I h
 exact Subscript_ (JC ha hb I h fun v u s2 x y H2 I2 rx ry q=>hr a b pZ s2 σ H2 x y v u Q I2 rx ry q (hs _ _))
def K6 (K:Frag):R2:=fun x y H Q=> ∃ p xs i v,x= .ref p∧y= .int i∧bM K H p xs∧j3 xs i=some v∧Q v H
def Ec (K:Frag):R2:=fun x y H Q=> ∃ p xs i v,x= .ref p∧y= .int i∧cN K H p xs∧j3 xs i=some v∧Q v H
def K5:R2:=fun x y H Q=> ∃ z i c,x= .str z∧y= .int i∧z.length≤sizeLine∧j3 z.cps.toList i=some c∧Q (.str ⟨#[c]⟩) H
theorem eD:DI X (K6 X.K):=by
 intro value slice pZ s σ H x y v u Q I rx ry h hs
 obtain⟨p,xs,i,z,rfl,rfl,hq,he,q⟩:=h
 cases rx
 obtain⟨t,rfl⟩:=ry
 obtain⟨ay,r,pl,hz⟩:=I.list hq
 obtain⟨j,h1,h2,h3,h4,h5⟩:=sZ he
 obtain⟨w,ew,rw'⟩:=r.get h2
 have hl:=r.length
 have hn:=nM
 have fin:EP X pZ σ Q w s:=⟨z,H,I,rw',q⟩
 by_cases h0:0≤i
 ·have hj:i.toNat=j:=by
   rw[seqIndex_of h0 h5] at h1
   exact OK h1
  exact item_listR pl.isList h0 (by lia) (by rw[hj];simpa using ew) fin hs
 ·have hj:(i+(ay.toArray.size:Int)).toNat=j:=by
   rw[seqIndex_neg (by lia) h4] at h1
   rw[NX,←hl]
   exact OK h1
  exact subscriptTail_builtinR (x:=w) pl.isList.typeIs slot_list_getitem.lookup
   (wpAny_getItem_list_neg (Q:=fun r s'=>r=w∧EP X pZ σ Q r s') pl.isList (by lia) (by rw[NX]<;>lia) (by lia) (by rw[hj];simpa using ew) ⟨rfl,fin⟩) hs
theorem nW:DI X (Ec X.K):=by
 intro value slice pZ s σ H x y v u Q I rx ry h hs
 obtain⟨p,xs,i,z,rfl,rfl,hq,he,q⟩:=h
 cases rx
 obtain⟨t,rfl⟩:=ry
 obtain⟨ay,r,pl,hz⟩:=I.tuple hq
 obtain⟨j,h1,h2,h3,h4,h5⟩:=sZ he
 obtain⟨w,ew,rw'⟩:=r.get h2
 have hl:=r.length
 have hn:=nM
 have fin:EP X pZ σ Q w s:=⟨z,H,I,rw',q⟩
 exact subscriptTail_builtinR (x:=w) pl.typeIs slot_tuple_getitem.lookup
  (getItem_tuple (j:=j) (Q:=fun r s'=>r=w∧EP X pZ σ Q r s') pl (by lia) (by lia) (by rw[NX,←hl];exact h1) (by simpa using ew) ⟨rfl,fin⟩) hs
theorem IP:DI X K5:=by
 intro value slice pZ s σ H x y v u Q I rx ry h hs
 obtain⟨z,i,c,rfl,rfl,hz,he,q⟩:=h
 obtain⟨t,rfl⟩:=rx
 obtain⟨t',rfl⟩:=ry
 obtain⟨j,h1,h2,h3,h4,h5⟩:=sZ he
 have hl:z.cps.toList.length=z.length:=by simp[Str.length]
 rw[hl] at h1 h4 h5
 have hn:=nM
 exact tail_any (typeIs_str s z t) slot_str_getitem.lookup (getItem_str (c:=c) (by
  have e1:decide (i < -(2 ^ 63:Int))=false:=Oh (by lia)
  have e2:decide (i ≥ 2 ^ 63)=false:=Oh (by lia)
  rw[e1,e2,Bool.or_false]) (by rw[h1];simpa using h2) ⟨.str ⟨#[c]⟩,H,I.tok _,⟨_,rfl⟩,q⟩) hs
def Nv (K:Frag):R2:=fun x y H Q=>K6 K x y H Q∨Ec K x y H Q∨K5 x y H Q
theorem IQ:DI X (Nv X.K):=eD.or (nW.or IP)
theorem wH (ay:List Value) (n j:Nat) (u:Value):Obj.mapSeq (·.setIfInBounds j u) {cls:=.type "list",data:=.seq ay.toArray n}={cls:=.type "list",data:=.seq (ay.set j u).toArray n}:=by
 simp[Obj.mapSeq]
theorem Inv.lst {pZ:List (Addr×Obj)} {σ:St} {H:Hp} {s:Shared} {p:Addr} {xs:List V} (I:Inv X pZ σ H s) (h:H p=some (.lst xs)):
  ∃ (ay:List Value) (n:Nat),Vals xs ay∧s.heap.get? p=some {cls:=.type "list",data:=.seq ay.toArray n}∧xs.length≤sizeLine:=by
 obtain⟨z,ay,n,r,e⟩:=I.a7 p _ h
 exact⟨ay,n,r,e,z⟩
theorem Inv.IF {pZ:List (Addr×Obj)} {σ:St} {H:Hp} {s:Shared} {p:Addr} {xs ys:List V} {ay ba:List Value} {n n':Nat} {f:Obj→Obj} (I:Inv X pZ σ H s) (h:H p=some (.lst xs))
  (ho:s.heap.get? p=some {cls:=.type "list",data:=.seq ay.toArray n}) (hf:f {cls:=.type "list",data:=.seq ay.toArray n}={cls:=.type "list",data:=.seq ba.toArray n'}) (r:Vals ys ba) (hz:ys.length≤sizeLine) (t:Nat):
  Inv X pZ σ (upd H p (.lst ys)) {s with heap:=s.heap.update p f,toks:=t}:=by
 have e:(s.heap.update p f).get? p=some {cls:=.type "list",data:=.seq ba.toArray n'}:=by
  rw[Heap.get?_update_self f ho (by rw[hf]<;>rfl),hf]
 refine I.write (x:=p) (e:=p) (by rw[h];trivial) (.inl rfl) (fun b u hb q=>(Heap.get?_update_other _ _ (Ne.symm hb)).trans q) ⟨_,e⟩ ?_
 exact⟨hz,ba,n',r,e⟩
def K2:V→V→V→Hp→(Hp→Prop)→Prop:=fun o i v H Q=> ∃ p xs k j,o= .ref p∧i= .int k∧H p=some (.lst xs)∧Cm xs.length k=some j∧Q (upd H p (.lst (xs.set j v)))
theorem set_list:L1 X K2:=by
 intro pZ s σ H o i v ov iv u Q I ro ri rv h
 obtain⟨p,xs,k,j,rfl,rfl,hp,hj,q⟩:=h
 cases ro
 obtain⟨t,rfl⟩:=ri
 obtain⟨ay,n,r,ho,hz⟩:=I.lst hp
 obtain⟨h1,h2,h3,h4⟩:=yz hj
 have hl:=r.length
 have hn:=nM
 have I':Inv X pZ σ (upd H p (.lst (xs.set j v))) {s with heap:=s.heap.update p (Obj.mapSeq (·.setIfInBounds j u))}:=
  I.IF hp ho (wH ay n j u) (r.set rv j) (by rw[List.length_set];exact hz) s.toks
 by_cases h0:0≤k
 ·have hk:k.toNat=j:=by
   rw[seqIndex_of h0 h4] at h1
   exact OK h1
  exact PySem.W.ki_setAt ho h0 (by lia) (by rw[NX,←hl];exact h4) (by rw[hk];exact⟨_,I',q⟩)
 ·have hk:(k+(ay.toArray.size:Int)).toNat=j:=by
   rw[seqIndex_neg (by lia) h3] at h1
   rw[NX,←hl]
   exact OK h1
  exact PySem.W.ki_setBack ho (by lia) (by rw[NX,←hl];exact h3) (by lia) (by rw[hk];exact⟨_,I',q⟩)
theorem qY (lo hi:Option Int) (n:Nat):(sliceBounds lo hi none n).1=((HT.cb n 0 lo:Nat):Int)∧(sliceBounds lo hi none n).2.1=((HT.cb n n hi:Nat):Int)∧(sliceBounds lo hi none n).2.2=1:=by
 refine⟨?_,?_,rfl⟩
 ·cases lo with
  |none=>simp[sliceBounds,HT.cb]
  |some i=>
   simp only[sliceBounds,HT.cb,Option.getD_none,show (1:Int) > 0 by decide,if_true]
   by_cases h:i < 0
   ·simp only[h,if_true]<;>lia
   ·simp only[h,if_false]<;>lia
 ·cases hi with
  |none=>simp[sliceBounds,HT.cb]
  |some i=>
   simp only[sliceBounds,HT.cb,Option.getD_none,show (1:Int) > 0 by decide,if_true]
   by_cases h:i < 0
   ·simp only[h,if_true]<;>lia
   ·simp only[h,if_false]<;>lia
theorem pd (ay:List Value) (lo hi:Option Int):slicePick ay.toArray lo hi none=((ay.drop (HT.cb ay.length 0 lo)).take (HT.cb ay.length ay.length hi - HT.cb ay.length 0 lo)).toArray:=by
 obtain⟨h1,h2,h3⟩:=qY lo hi ay.toArray.size
 unfold slicePick
 rw[h1,h2,h3]
 simp only[sliceRange_one,pick_run,NX]<;>rfl
def KZ (K:Frag):V→Option Int→Option Int→Hp→VK→Prop:=fun x lo hi H Q=> ∃ a xs,x= .ref a∧bM K H a xs∧∀ p,H p=none→Q (.ref p) (upd H p (.lst (kJ xs lo hi)))
theorem mH:Aw X (KZ X.K):=by
 intro pZ s σ H x v vl vu lo hi sl Q I rx hs pl pu h
 obtain⟨a,xs,rfl,hx,q⟩:=h
 cases rx
 obtain⟨ay,r,ht,hz⟩:=I.list hx
 have hlen:=r.length
 refine⟨"list",_,slot_list_getitem.lookup,ht.isList.typeIs,?_⟩
 refine wpAny_getItem_list_slice ht.isList hs pl pu .none (by simp) ?_ (by rw[NX]<;>lia)
 rw[pd,←hlen]
 refine⟨.ref s.heap.objs.size,_,I.laid (t':=s.toks) (o:=.lst (kJ xs lo hi)) (fun b ob q=>NU _ q) (NZ _) ?_,rfl,q _ (I.a7.fresh (NZ _))⟩
 exact⟨Od (mj xs lo hi) hz,_,0,(r.drop (HT.cb xs.length 0 lo)).take (HT.cb xs.length xs.length hi - HT.cb xs.length 0 lo),N6 _ rfl⟩
def cE:V→Bool
 | .aE=>true
 | .bl _=>true
 | .int _=>true
 | .str _=>true
 |_=>false
def tF:V→V→Bool
 | .aE,.aE=>true
 | .bl a,.bl b=>a==b
 | .bl a,.int b=>(if a then 1 else 0)==b
 | .int a,.bl b=>a==(if b then 1 else 0)
 | .int a,.int b=>a==b
 | .str a,.str b=>a==b
 |_,_=>false
theorem CP {A:Around} {s:Shared} {y x:V} {u v:Value} (ry:RelV y u) (rx:RelV x v) (fy:cE y=true) (fx:cE x=true):SeqAt.EqAt A s u v (tF y x):=by
 cases y with
 |aE=>
  cases ry
  cases x with
  |aE=>cases rx;exact SeqAt.EqAt.same _
  |bl b=>cases rx;exact SeqAt.EqAt.none_bool b
  |int b=>obtain⟨t,rfl⟩:=rx;exact SeqAt.EqAt.none_int b t
  |str b=>obtain⟨t,rfl⟩:=rx;exact SeqAt.EqAt.none_str b t
  |_=>exact absurd (show false=true from fx) Bool.false_ne_true
 |bl a=>
  cases ry
  cases x with
  |aE=>cases rx;exact SeqAt.EqAt.bool_none a
  |bl b=>cases rx;exact SeqAt.EqAt.bool_bool a b
  |int b=>obtain⟨t,rfl⟩:=rx;exact SeqAt.EqAt.bool_int a b t
  |str b=>obtain⟨t,rfl⟩:=rx;exact SeqAt.EqAt.bool_str a b t
  |_=>exact absurd (show false=true from fx) Bool.false_ne_true
 |int a=>
  obtain⟨t',rfl⟩:=ry
  cases x with
  |aE=>cases rx;exact SeqAt.EqAt.int_none a t'
  |bl b=>cases rx;exact SeqAt.EqAt.int_bool a t' b
  |int b=>obtain⟨t,rfl⟩:=rx;exact SeqAt.EqAt.int_int a t' b t
  |str b=>obtain⟨t,rfl⟩:=rx;exact SeqAt.EqAt.int_str a t' b t
  |_=>exact absurd (show false=true from fx) Bool.false_ne_true
 |str a=>
  obtain⟨t',rfl⟩:=ry
  cases x with
  |aE=>cases rx;exact SeqAt.EqAt.str_none a t'
  |bl b=>cases rx;exact SeqAt.EqAt.str_bool a t' b
  |int b=>obtain⟨t,rfl⟩:=rx;exact SeqAt.EqAt.str_int a t' b t
  |str b=>obtain⟨t,rfl⟩:=rx;exact SeqAt.EqAt.str_str a t' b t
  |_=>exact absurd (show false=true from fx) Bool.false_ne_true
 |_=>exact absurd (show false=true from fy) Bool.false_ne_true
def wR (x:V) (u:Value):Bool:=match u with
 | .none=>tF .aE x
 | .bool b=>tF (.bl b) x
 | .int i _=>tF (.int i) x
 | .str z _=>tF (.str z) x
 |_=>false
theorem CN {x y:V} {u:Value} (r:RelV y u) (f:cE y=true):wR x u=tF y x:=by
 cases y with
 |aE=>cases r;rfl
 |bl b=>cases r;rfl
 |int i=>obtain⟨t,rfl⟩:=r;rfl
 |str z=>obtain⟨t,rfl⟩:=r;rfl
 |_=>exact absurd (show false=true from f) Bool.false_ne_true
theorem kM {x:V}: ∀ {xs:List V} {us:List Value},Vals xs us→xs.all cE=true→us.any (wR x)=xs.any fun y=>tF y x
 |_,_,.nil,_=>rfl
 |y::xs,u::us,.cons r t,f=>by
  rw[List.all_cons,Ov] at f
  rw[List.any_cons,List.any_cons,CN r f.1,kM t f.2]
theorem iL {A:Around} {s:Shared} {x:V} {v:Value} (rx:RelV x v) (fx:cE x=true): ∀ {xs:List V} {us:List Value},Vals xs us→xs.all cE=true→∀ u∈us,SeqAt.EqAt A s u v (wR x u)
 |_,_,.nil,_=>fun u hu=>by cases hu
 |y::xs,u::us,.cons r t,f=>fun u' hu=>by
  rw[List.all_cons,Ov] at f
  rcases N2.mp hu with rfl|hu
  ·rw[CN r f.1];exact CP r rx f.1 fx
  ·exact iL rx fx t f.2 u' hu
def Mn (x:V) (xs:List V):Bool:=xs.any fun y=>tF y x
def MO (K:Frag) (neg:Bool):R2:=fun x y H Q=> ∃ p xs,y= .ref p∧(bM K H p xs∨cN K H p xs)∧cE x=true∧xs.all cE=true∧Q (.bl (if neg then !Mn x xs else Mn x xs)) H
theorem zD:du X (compareOp .In) (MO X.K false):=by
 intro pZ s σ H x y v u Q I rx ry h
 obtain⟨p,xs,rfl,hq,fx,fs,q⟩:=h
 cases ry
 rcases hq with hq|hq
 ·obtain⟨ay,r,pl,hz⟩:=I.list hq
  refine SeqAt.in_listAt (wR x) pl.isList (fun w hw=>iL rx fx r fs w (by simpa using hw)) ⟨.bl _,H,I,rfl,?_⟩
  rw[show ay.toArray.any (wR x)=ay.any (wR x) by simp,kM r fs]
  exact q
 ·obtain⟨ay,r,pl,hz⟩:=I.tuple hq
  refine SeqAt.in_tupleAt (wR x) pl (fun w hw=>iL rx fx r fs w (by simpa using hw)) ⟨.bl _,H,I,rfl,?_⟩
  rw[show ay.toArray.any (wR x)=ay.any (wR x) by simp,kM r fs]
  exact q
theorem rO:du X (compareOp .NotIn) (MO X.K true):=by
 intro pZ s σ H x y v u Q I rx ry h
 obtain⟨p,xs,rfl,hq,fx,fs,q⟩:=h
 cases ry
 rcases hq with hq|hq
 ·obtain⟨ay,r,pl,hz⟩:=I.list hq
  refine SeqAt.notIn_listAt (wR x) pl.isList (fun w hw=>iL rx fx r fs w (by simpa using hw)) ⟨.bl _,H,I,rfl,?_⟩
  rw[show ay.toArray.any (wR x)=ay.any (wR x) by simp,kM r fs]
  exact q
 ·obtain⟨ay,r,pl,hz⟩:=I.tuple hq
  refine SeqAt.notIn_tupleAt (wR x) pl (fun w hw=>iL rx fx r fs w (by simpa using hw)) ⟨.bl _,H,I,rfl,?_⟩
  rw[show ay.toArray.any (wR x)=ay.any (wR x) by simp,kM r fs]
  exact q
theorem rN:du X (compareOp .NotIn) (fun x y H Q=> ∃ i j,x= .str i∧y= .str j∧Q (.bl (!(!(Builtin.Str.occurrences j i 0 j.length 1).isEmpty))) H):=by
 intro pZ s σ H x y v u Q I rx ry h
 obtain⟨i,j,rfl,rfl,q⟩:=h
 obtain⟨t,rfl⟩:=rx
 obtain⟨t',rfl⟩:=ry
 exact notIn_str ⟨.bl _,H,I,rfl,q⟩
theorem jw:fc X (.type "tuple") (fun xs H Q=> ∃ p ys,xs=[.ref p]∧((bM X.K H p ys∧∀ l,H l=none→Q (.ref l) (upd H l (.tup ys)))∨(cN X.K H p ys∧Q (.ref p) H))):=by
 intro pZ s σ H xs us Q I r h
 obtain⟨p,ys,rfl,h⟩:=h
 obtain⟨u,rfl,rx⟩:=vals1 r
 cases rx
 rcases h with⟨hq,q⟩|⟨hq,q⟩
 ·obtain⟨ay,r',pl,hz⟩:=I.list hq
  have hlen:=r'.length
  refine call_tuple_list pl.isList (fun h' kp=>?_) (by simp only[NX]<;>lia)
  have I1:Inv X pZ σ H {s with heap:=h'}:=I.kept (t':=s.toks) kp
  have I2:Inv X pZ σ (upd H h'.objs.size (.tup ys)) {s with heap:=h'.push {cls:=.type "tuple",data:=.seq ay.toArray}}:=
   I1.laid (t':=s.toks) (fun b o e=>NU _ e) (NZ _) (show bS X.prog X.w _ _ _ (.tup ys) from⟨hz,ay,r',IsTup.new _ _⟩)
  exact⟨.ref h'.objs.size,_,I2,rfl,q _ (I1.a7.fresh (NZ _))⟩
 ·obtain⟨ay,r',pl,hz⟩:=I.tuple hq
  exact call_tuple_same pl ⟨.ref p,H,I,rfl,q⟩
def MA (K:Frag) (T:String) (x:V) (H:Hp):Prop:=match x with
 | .str _=>T="str"
 | .int _=>T="int"
 | .ref p=>(T="list"∧∃ xs,bM K H p xs)∨(T="tuple"∧∃ o,K.lookup p=some o∧o.cls= .type "tuple"∧o.dict=none)∨
   (T="dict"∧((∃ kvs,Rd H p (.dK kvs))∨∃ kvs,H p=some (.dT kvs)))∨(T="set"∧∃ S n,H p=some (.set S n))
 |_=>False
theorem Hg {pZ:List (Addr×Obj)} {σ:St} {H:Hp} {s:Shared} {T:String} {x:V} {v:Value} (I:Inv X pZ σ H s) (r:RelV x v) (ty:MA X.K T x H):
  s.TypeIs v T∧∀ a,v= .ref a→∃ ob,s.heap.get? a=some ob∧ob.dict=none:=by
 cases x with
 |str z=>
  obtain⟨t,rfl⟩:=r
  cases (show T="str" from ty)
  exact⟨typeIs_str s z t,fun _ e=>nomatch e⟩
 |int i=>
  obtain⟨t,rfl⟩:=r
  cases (show T="int" from ty)
  exact⟨typeIs_int s i t,fun _ e=>nomatch e⟩
 |ref p=>
  cases r
  rcases ty with⟨rfl,xs,hq⟩|⟨rfl,o,hk,hc,hd⟩|⟨rfl,hk⟩|⟨rfl,S,n,hk⟩
  ·obtain⟨ay,_,pl,_⟩:=I.list hq
   refine⟨pl.isList.typeIs,fun a e=>?_⟩
   cases e
   obtain⟨o,n,e,c,hd,_⟩:=pl
   exact⟨o,e,hd⟩
  ·refine⟨⟨o,I.Kc p o hk,hc⟩,fun a e=>?_⟩
   cases e
   exact⟨o,I.Kc _ o hk,hd⟩
  ·have z: ∃ o,s.heap.get? p=some o∧o.ExactDict:=by
    rcases hk with⟨kvs,hk⟩|⟨kvs,hk⟩
    ·obtain⟨_,_,_,_,o,_,_,e,ex,_⟩:=hk.ok I.a7
     exact⟨o,e,ex⟩
    ·obtain⟨_,_,_,_,o,_,_,e,ex,_⟩:=I.a7 p _ hk
     exact⟨o,e,ex⟩
   obtain⟨o,e,ex⟩:=z
   refine⟨⟨o,e,ex.1⟩,fun a e2=>?_⟩
   cases e2
   exact⟨o,e,ex.2.1⟩
  ·obtain⟨o,_,_,_,e,ex,_⟩:=I.a7 p _ hk
   refine⟨⟨o,e,ex.1⟩,fun a e2=>?_⟩
   cases e2
   exact⟨o,e,ex.2.1⟩
 |_=>exact False.elim ty
def KI (K:Frag) (T:String) (r:V→List V→Hp→VK→Prop) (to:TE) (t:TA):TE:=fun σ H Q=>to σ H fun x H1=>MA K T x H1∧t σ H1 fun xs H2=>r x xs H2 Q
variable {o e:Expr} {es:List Expr} {to:TE} {t:TA} {name:Str} {apos lJ:Pos} {T id:String} {r:V→List V→Hp→VK→Prop}
theorem Ld (pa:PlainAttrs T) (slot:Slot T name id) (hty:typeOf (.builtin id)=pure (.type "method_descriptor")) (hm:Nu X id r) (ho:PE X o to) (ha:PA X (e::es) t)
  (hbase:attributeBase o name X.env (eval o X.env)=eval o X.env:=by rfl)
  (hfew:((backTo lJ (starEach (e::es) X.env)).all (fun x=>!x.1)&&(backToKw lJ (keywordEach [] X.env)).all (fun x=>x.1.isSome)
   &&decide ((e::es).length+([]:List Keyword).length+(if([]:List Keyword).isEmpty then 0 else 1) < 30))=true:=by rfl)
  (hline:(apos.endLine==lJ.line)=true:=by rfl) (hs:starEach (e::es) X.env=(false,eval e X.env)::starEach es X.env:=by rfl) (hplain:(backTo lJ (starEach es X.env)).any (·.1)=false:=by rfl):
  PE X (.Call (.Attribute o name apos) (e::es) [] lJ) (KI X.K T r to t):=by
 intro pZ s σ H Q I h
 refine wpAny_Call_method_late hbase hfew hline rfl (bh (ho pZ s σ H _ I h) fun v s1 ⟨x,H1,I1,r1,ty,q1⟩=>?_)
 obtain⟨h1,h2⟩:=Hg I1 r1 ty
 refine⟨T,id,pa,slot,hty,h1,h2,?_⟩
 have hA:=ha lJ pZ s1 σ H1 _ I1 q1
 rw[hs] at hA ⊢
 refine Calls.callWith_builtin (by show (false||(backTo lJ (starEach es X.env)).any (·.1))=false;rw[hplain]<;>rfl) (Calls.evalArgs_plain ?_)
 exact bh hA fun us s2 ⟨vs,H2,I2,r2,q2⟩=>hm pZ s2 σ H2 x vs v us Q I2 r1 r2 q2
end
end L2
namespace L2
open PySem PySem.Spec PyProof.Rows
def L6 (X:Cx) (id:String) (r:V→List V→Hp→VK→Prop):Prop:=
 ∀ (pZ:List (Addr×Obj)) (s:Shared) (σ:St) (H:Hp) (x:V) (xs:List V) (v:Value) (us:List Value) (Q:VK),Inv X pZ σ H s→RelV x v→Vals xs us→r x xs H Q→
  wpAny (model X.prog X.w) X.A (call (.builtin id) (v::us)) (EP X pZ σ Q) X.xe s
theorem Vals.one: ∀ {x:V} {us:List Value},Vals [x] us→∃ u,us=[u]∧RelV x u
 |_,_,.cons r .nil=>⟨_,rfl,r⟩
theorem Vals.rep {xs:List V} {us:List Value} (h:Vals xs us): ∀ k:Nat,Vals (List.replicate k xs).flatten (List.replicate k us).flatten
 |0=>.nil
 |k+1=>by
  rw[List.replicate_succ,List.replicate_succ,List.flatten_cons,List.flatten_cons]
  exact Vals.append h (Vals.rep h k)
theorem foldl_rep (ay:List Value): ∀ (k:Nat) (acc:List Value),
  List.foldl (fun x1 x2=>x1++x2) acc.toArray (List.replicate k ay.toArray)=(acc++(List.replicate k ay).flatten).toArray
 |0,acc=>by simp
 |k+1,acc=>by
  have e:acc.toArray++ay.toArray=(acc++ay).toArray:=by simp
  have e2:(acc++ay)++(List.replicate k ay).flatten=acc++(List.replicate (k+1) ay).flatten:=by
   rw[List.replicate_succ,List.flatten_cons,List.append_assoc]
  rw[←e2,←foldl_rep ay k (acc++ay),←e,List.replicate_succ,List.foldl_cons]
section
variable {X:Cx} {pZ:List (Addr×Obj)} {σ:St} {H:Hp} {s:Shared} {l b:Addr} {xs ys zs:List V}
theorem Inv.zM {ay ba:List Value} {n:Nat} {f:Array Value→Array Value} {t':Nat} (I:Inv X pZ σ H s) (hH:H l=some (.lst xs))
  (e:s.heap.get? l=some {cls:=.type "list",data:=.seq ay.toArray n}) (hf:f ay.toArray=ba.toArray) (hv:Vals ys ba) (hz:ys.length≤sizeLine):
  Inv X pZ σ (upd H l (.lst ys)) {s with heap:=s.heap.update l (Obj.mapSeq f),toks:=t'}:=by
 have q:=PySem.IsL.update e f
 rw[hf] at q
 refine I.write (x:=l) (e:=l) (by rw[hH];exact trivial) (.inl rfl) (fun b' u hb hu=>(Heap.get?_update_other s.heap (Obj.mapSeq f) (Ne.symm hb)).trans hu) ⟨_,q⟩ ?_
 exact⟨hz,ba,_,hv,q⟩
theorem Inv.Ca {ay:List Value} {t':Nat} (I:Inv X pZ σ H s) (hv:Vals ys ay) (hz:ys.length≤sizeLine):
  Inv X pZ σ (upd H s.heap.objs.size (.lst ys)) {s with heap:=s.heap.push {cls:=.type "list",data:=.seq ay.toArray},toks:=t'}:=
 I.laid (fun _ _ q=>NU _ q) (NZ _) ⟨hz,ay,0,hv,N6 _ rfl⟩
theorem Inv.fresh (I:Inv X pZ σ H s):H s.heap.objs.size=none:=I.a7.fresh (NZ _)
theorem Inv.jq (I:Inv X pZ σ H s) (hH:H l=some (.lst xs)):xs.length≤sizeLine∧∃ (ay:List Value) (n:Nat),Vals xs ay∧xs.length=ay.length∧s.heap.get? l=some {cls:=.type "list",data:=.seq ay.toArray n}:=by
 obtain⟨z,ay,n,r,e⟩:=I.a7 l _ hH
 exact⟨z,ay,n,r,r.length,e⟩
theorem ur {n:Nat} (h:n≤sizeLine):Builtin.List.listTooLong n=false:=by
 unfold Builtin.List.listTooLong
 exact Oh (by lia)
end
section
variable {X:Cx}
def yc:V→List V→Hp→VK→Prop:=fun x vs H Q=> ∃ l xs y,x= .ref l∧vs=[y]∧H l=some (.lst xs)∧xs.length < sizeLine∧Q .aE (upd H l (.lst (xs++[y])))
theorem qm:L6 X "list.append" yc:=by
 intro pZ s σ H x vs v us Q I rx rv h
 obtain⟨l,xs,y,rfl,rfl,hH,hz,q⟩:=h
 cases rx
 obtain⟨u,rfl,ru⟩:=rv.one
 obtain⟨z,ay,n,r,hl,e⟩:=I.jq hH
 refine call_meets F.slot_list_append ⟨_,e,rfl⟩ F.entry_list_append (F.args_list_append_2 _ _) (PySem.list_append l ay.toArray n u (by rw[NX];lia)) ⟨e,?_⟩
 refine⟨.aE,_,I.zM (ba:=ay++[u]) hH e (by simp) (r.append (.cons ru .nil)) ?_,rfl,q⟩
 rw[Oi,List.length_singleton]
 lia
def yb:V→List V→Hp→VK→Prop:=fun x vs H Q=> ∃ l b xs zs,x= .ref l∧vs=[.ref b]∧H l=some (.lst xs)∧H b=some (.lst zs)∧xs.length+zs.length≤sizeLine∧Q .aE (upd H l (.lst (xs++zs)))
theorem zH:L6 X "list.extend" yb:=by
 intro pZ s σ H x vs v us Q I rx rv h
 obtain⟨l,b,xs,zs,rfl,rfl,hH,hB,hz,q⟩:=h
 cases rx
 obtain⟨u,rfl,ru⟩:=rv.one
 cases ru
 obtain⟨z,ay,n,r,hl,e⟩:=I.jq hH
 obtain⟨z2,mC,n2,r2,hl2,e2⟩:=I.jq hB
 have hsz:ay.toArray.size+mC.toArray.size≤sizeLine:=by rw[NX,NX];lia
 have hlong: ¬ (!ay.toArray.isEmpty&&Builtin.List.listTooLong (ay.toArray.size+mC.toArray.size))=true:=by
  rw[ur hsz,Bool.and_false]
  exact Bool.false_ne_true
 refine call_meets F.slot_list_extend ⟨_,e,rfl⟩ F.entry_list_extend (F.args_list_extend_2 _ _)
  (AutoSeq1.list_extend_list_list_0 l ay.toArray n b mC.toArray n2 hlong (by rw[NX];lia) (by lia)) ⟨e,e2,?_⟩
 refine⟨.aE,_,I.zM (ba:=ay++mC) hH e (by simp) (r.append r2) ?_,rfl,q⟩
 rw[Oi]
 lia
def HL:R2:=fun x y H Q=> ∃ l b xs zs,x= .ref l∧y= .ref b∧H l=some (.lst xs)∧H b=some (.lst zs)∧xs.length+zs.length≤sizeLine∧∀ p,H p=none→Q (.ref p) (upd H p (.lst (xs++zs)))
theorem wq:du X (binaryOp .Add) HL:=by
 intro pZ s σ H x y v u Q I rx ry h
 obtain⟨l,b,xs,zs,rfl,rfl,hH,hB,hz,q⟩:=h
 cases rx
 cases ry
 obtain⟨z,ay,n,r,hl,e⟩:=I.jq hH
 obtain⟨z2,mC,n2,r2,hl2,e2⟩:=I.jq hB
 refine PySem.P.add_list e e2 ?_ (by rw[NX,NX];lia)
 have ea:ay.toArray++mC.toArray=(ay++mC).toArray:=by simp
 rw[ea]
 exact⟨.ref _,_,I.Ca (t':=s.toks) (r.append r2) (by rw[Oi];lia),rfl,q _ I.fresh⟩
def K3:R2:=fun x y H Q=> ∃ l k xs,x= .ref l∧y= .int k∧H l=some (.lst xs)∧-(2 ^ 63)≤k∧k < 2 ^ 63∧xs.length * k.toNat≤sizeLine∧
 ∀ p,H p=none→Q (.ref p) (upd H p (.lst (List.replicate k.toNat xs).flatten))
theorem len_rep {α:Type} (xs:List α) (k:Nat):(List.replicate k xs).flatten.length=k * xs.length:=by
 induction k with
 |zero=>simp
 |succ k ih=>rw[List.replicate_succ,List.flatten_cons,Oi,ih,Nat.succ_mul,Nat.add_comm]
theorem Ii:du X (binaryOp .Mult) K3:=by
 intro pZ s σ H x y v u Q I rx ry h
 obtain⟨l,k,xs,rfl,rfl,hH,h1,h2,hz,q⟩:=h
 cases rx
 obtain⟨t,rfl⟩:=ry
 obtain⟨z,ay,n,r,hl,e⟩:=I.jq hH
 have hlen:ay.toArray.size * k.toNat≤sizeLine:=by rw[NX,←hl];exact hz
 have hcap: ¬ ay.toArray.size * k.toNat > (2 ^ 63 - 1) / 8:=by
  have:(sizeLine:Nat)≤(2 ^ 63 - 1) / 8:=by decide
  lia
 have hfit: ¬ (!Builtin.List.listFitsIndex k)=true:=by
  rw[fitsIndex_both h1 h2]
  exact Bool.false_ne_true
 have hlong: ¬ Builtin.List.listTooLong (ay.toArray.size * k.toNat)=true:=by
  rw[ur hlen]
  exact Bool.false_ne_true
 have hnew:List.foldl (fun x1 x2=>x1++x2) #[] (List.replicate (if ay.toArray.isEmpty=true then 0 else k.toNat) ay.toArray)=(List.replicate k.toNat ay).flatten.toArray:=by
  have f0: ∀ m:Nat,List.foldl (fun x1 x2=>x1++x2) #[] (List.replicate m ay.toArray)=(List.replicate m ay).flatten.toArray:=fun m=>by
   have:=foldl_rep ay m []
   rw[List.nil_append] at this
   exact this
  rw[f0]
  cases ay with
  |nil=>simp
  |cons a r'=>rw[OH (by simp)]
 refine wpAny_binaryOp_repeat_ref (T:="list") (U:="int") (by decide) ⟨_,e,rfl⟩ (fun s'=>typeIs_int s' k t) noFill_list_mul F.fills_int_mul F.slot_int_rmul repeat_list F.slot_int_index.lookup
  (call_meets F.slot_int_rmul (typeIs_int s k t) F.entry_int_rmul (F.args_int_rmul_2 _ _) (int___rmul___int_list k t l ay.toArray n)
   ⟨e,rfl,⟨_,e,rfl⟩,call_meets F.slot_list_mul ⟨_,e,rfl⟩ F.entry_list_mul (F.args_list_mul_2 _ _) (AutoListH.list___mul___list_int_3 l ay.toArray n k t hfit hcap hlong) ⟨e,?_⟩⟩)
 rw[hnew]
 exact⟨.ref _,_,I.Ca (t':=s.toks) (r.rep k.toNat) (by rw[len_rep,Nat.mul_comm];exact hz),rfl,q _ I.fresh⟩
end
end L2
namespace Att
open PySem PySem.W PySem.Calls PyProof.Rows
theorem mD {P:Params} {h:Heap}: ∀ (ns:List Int) (vs:List Value),WellAll P h vs (ns.map WData.int)→IntsAre vs ns:=by
 intro ns
 induction ns with
 |nil=>
  intro vs w
  rw[List.map_nil] at w
  cases w
  exact .nil
 |cons n ns ih=>
  intro vs w
  rw[N1] at w
  cases w with
  |cons a b=>
   cases a
   exact .cons _ _ (ih _ b)
theorem zl {l:OpenLaw} {n:Nat} (hn:l.most=some n) {P:Params} {h:Heap} {args:List WData} {vals:List Value}
  (hpre:l.row.toRowW.claim.pre args=true) (hwl:WellAll P h vals args):
  ∃ a vs ns,vals=[Value.ref a]∧args=[WData.list (ns.map WData.int)]∧h.get? a=some {cls:=.type "list",data:=.seq vs.toArray}∧IntsAre vs ns∧ns.length≤n:=by
 have hsh:WShape.hasAll [] args [.list .int]=true:=(pre_splitW hpre).1
 have hc:l.pre.holds [] {args:=args}=true:=(pre_splitW hpre).2
 obtain⟨d,r,rfl,h1,h2⟩:=hasAllW_cons hsh
 obtain rfl:=hasAllW_nil h2
 obtain⟨xs,rfl,h3⟩:=hasW_list h1
 obtain⟨ns,rfl⟩:=items_int h3
 have hlen:ns.length≤n:=by
  unfold OpenLaw.pre at hc
  have h4:(WTm.not (.lt (.lit (.int (n:Int))) (.len (.arg 0)))).holds [] {args:=[.list (ns.map .int)]}=true:=by
   have h4:=(holds_andW hc).1
   rw[hn] at h4
   exact h4
  have h5:=condW_of h4 (w_not (w_lt w_lit (w_len_list (w_arg rfl))))
  rw[NT] at h5
  refine Nat.le_of_not_lt fun q=>?_
  have q':(n:Int) < ((ns.length:Nat):Int):=by lia
  first
   |(rw[decide_eq_true q'] at h5;exact absurd h5 (by decide))
   |(simp at h5;lia)
 cases hwl with
 |cons w1 w2=>
  cases w2
  cases w1 with
  |list ho hall=>exact⟨_,_,ns,rfl,rfl,ho,mD ns _ hall,hlen⟩
theorem zq (l:OpenLaw) (args:List WData):l.row.toRowW.claim.post args (.bool true) args=true:=
 postW_of (r:=l.row.toRowW) (X:=(true==true))
  (show WShape.has [] (.bool true) .bool=true by first|rfl|decide|simp[WShape.has,WShape.arms,WShape.armsAll])
  (show (WTm.eq .res (.lit (.bool true))).value [] {args:=args,res:=some (.bool true),after:=args}=some (.bool (true==true)) from w_eq_bool (w_res rfl) w_lit) rfl
theorem vi {l:OpenLaw} {n:Nat} {q:Program} {loose:List Str} {XP:(Str→Option Value)→Heap→Prop} {YP:World→Heap→Prop} {d:DefRec}
  (hn:l.most=some n) (hdf:d.params.defaults=[])
  (call: ∀ (w:World) (s₀ s₁:Shared) (mg mb:Str→Option Value) (fa:Addr) (o:Obj) (pm cd doc:Value) (a:Addr) (vs:List Value) (ns:List Int),
   Ground q loose [] XP w s₀ mg mb s₁.heap→YP w s₁.heap→
   s₁.heap.get? fa=some o→o.data= .func (docDef d.name d.params d.body d.scope pm cd doc)→s₁.heap.CodeRec cd d.name→mg d.name=some (.ref fa)→
   s₁.heap.get? a=some {cls:=.type "list",data:=.seq vs.toArray}→IntsAre vs ns→ns.length≤n→s₁.gens= #[]→
   codeAny (model l.prog w) callerA (.call (.ref fa) ⟨[.ref a],[]⟩) (fun r s'=>r= .ok (.ret (.bool true))∧OldK s₁.heap s'.heap∧s'.os=s₁.os∧AllBare s'.gens) s₁):
  WalkO q loose XP YP l.row.toRowW d [] (fun f vs=>PySem.call f vs):=by
 intro w s₀ s₁ mg mb G Y fa o pm cd doc dV kV ho hd hcd hD hmg hg args vals as hpre hlay hrd hwl hlo
 obtain rfl:dV= .none:=Dflts.none hD hdf
 obtain rfl:kV= .none:=Dflts.noKw hD
 obtain⟨a,vs,ns,rfl,rfl,hobj,hints,hlen⟩:=zl hn hpre hwl
 refine enter_call (codeAny_mono (call w s₀ s₁ mg mb fa o pm cd doc a vs ns G Y ho (fd_plain hd) hcd hmg hobj hints hlen hg) fun r s' hq=>?_)
 obtain⟨rfl,h2,h3,h4⟩:=hq
 exact⟨.inl ⟨.bool true,.bool true,[],rfl,fun _=>rfl,.bool true,zq l _,fun _=>⟨List.Pairwise.nil,fun _ hm=>(nomatch hm)⟩⟩,h2,h3,h4⟩
end Att
namespace L2
open PySem PySem.Spec PyProof.Rows
theorem jg: ∀ {vs:List Value} {ns:List Int},IntsAre vs ns→Vals (ns.map V.int) vs
 |_,_,.nil=>.nil
 |_,_,.cons n t h=>.cons ⟨t,rfl⟩ (jg h)
end L2
namespace L2
open PySem PySem.Spec PyProof.Rows
end L2
namespace L2
open PySem PySem.Spec PyProof.Rows
def dD (s:Stmt):Arguments:=match s with
 | .FunctionDef _ a _ _ _ _ _ _ _ _=>a
 |_=>{posonlyargs:=[],args:=[],vararg:=none,kwonlyargs:=[],kw_defaults:=[],kwarg:=none,defaults:=[]}
def bg (s:Stmt):List Stmt:=match s with
 | .FunctionDef _ _ b _ _ _ _ _ _ _=>b
 |_=>[]
def ao (s:Stmt):Scope:=match s with
 | .FunctionDef _ _ _ _ _ _ sc _ _ _=>sc
 |_=>{kind:=.function,names:=[],isGenerator:=false,isCoroutine:=false}
abbrev ig:Ap:=fun _ _ _ _ _ _=>False
abbrev E0:XK:=fun _ _ _=>False
theorem yg {X:Cx}:Passes ig X E0:=fun _ _ _ _ _ _ _ h=>h.elim
set_option genInjectivity false in
structure DJ (K:Frag) (x qual:Str) (st:Stmt) (f:Addr) (fd:FuncData):Prop where
 ex: ∃ (oc:Value) (od:Option Addr) (kV doc pm:Value) (an:Option Addr) (dP ct:Value) (osl:Array (Option Value)),
  fd=fnOf x qual (dD st) (bg st) (ao st) .none kV doc pm an dP ct∧K.lookup f=some ⟨oc,od,.func fd,osl⟩∧codeIn K dP qual=true
 kp:keepIn K (.ref f)=true
section
variable {P:Program} {w:World} {K:Frag} {mg:Str→Option Value} {base:Heap}
theorem DJ.ok {x qual:Str} {st:Stmt} {f:Addr} {fd:FuncData} {N ps:List Str} {k:Nat} {sp:Sp} (F:DJ K x qual st f fd) (S:aB N ps (ao st)) (len: ∀ vs H Q E,sp vs H Q E→vs.length=ps.length)
  (fO: ∀ (dP:Value) (A:Around) (outer:List Env) (s:Shared) (H:Hp) (vs:List V) (Q:VK) (E:XK),cx k (A.deeper (envOfC qual (ao st) s.heap.objs.size f dP))→sp vs H Q E→
   ∃ t,vG (fP ig P w K mg base N qual (ao st) f dP A outer s H E).ql (bg st) t∧t {nx:=fun _ H'=>Q .aE H',rt:=Q} (start N vs) H):cP P w K mg base ig (k+1) f fd ps sp:=by
 obtain⟨oc,od,kV,doc,pm,an,dP,ct,osl,rfl,lk,hcd⟩:=F.ex
 refine GK lk hcd S len fun A outer s H vs Q E hr hsp=>?_
 obtain⟨t,h,q⟩:=fO dP A outer s H vs Q E hr hsp
 exact⟨t,h.ql,q⟩
theorem DJ.binds {x qual:Str} {st:Stmt} {f:Addr} {fd:FuncData} {ps:List Str} (F:DJ K x qual st f fd)
  (h: ∀ (kV doc pm:Value) (an:Option Addr) (dP ct:Value) (us:List Value),us.length=ps.length→bindArgs (fnOf x qual (dD st) (bg st) (ao st) .none kV doc pm an dP ct) ⟨us,[]⟩=pure (ps.zip us)):Binds K fd ps []:=by
 obtain⟨oc,od,kV,doc,pm,an,dP,ct,osl,rfl,lk,hcd⟩:=F.ex
 exact .all (h kV doc pm an dP ct)
theorem su {x qual:Str} {st:Stmt} {f:Addr} {oc:Value} {od an:Option Addr} {osl:Array (Option Value)} {kV doc pm dP ct:Value} (l:K.lookup f=some ⟨oc,od,.func (fnOf x qual (dD st) (bg st) (ao st) .none kV doc pm an dP ct),osl⟩)
  (c:codeIn K dP qual=true) (k:keepIn K (.ref f)=true):DJ K x qual st f (fnOf x qual (dD st) (bg st) (ao st) .none kV doc pm an dP ct):=⟨⟨oc,od,kV,doc,pm,an,dP,ct,osl,rfl,l,c⟩,k⟩
end
theorem GH {A:Around} {k:Nat} (hr:cx k A):A.units+1 < cLine:=Nat.lt_of_le_of_lt (Nat.add_le_add_left (by decide:1≤64) _) hr.units
section
variable {X:Cx}
theorem pv (i:Nat) {x:Str} {pos:Pos} (hN:X.N[i]?=some x:=by rfl) (hv:Kh X.env.scope x:=by first|exact Or.inl rfl|exact Or.inr (Or.inl rfl)|exact Or.inr (Or.inr rfl)) (hd:(x==("__debug__":Str))=false:=by decide)
  (hcd:(x==("__classdict__":Str))=false:=by decide):PE X (.Name x pos) (mX i):=Bw hN hv hd hcd
end
theorem IU {c A B:Prop} [Decidable c] (h1:c→A) (h2: ¬ c→B):if c then A else B:=by
 by_cases h:c
 ·rw[OG h]
  exact h1 h
 ·rw[OH h]
  exact h2 h
def dS (H H':Hp):Prop:= ∀ b o,H b=some o→H' b=some o
theorem dS.trans {H H1 H2:Hp} (a:dS H H1) (b:dS H1 H2):dS H H2:=fun c o h=>b c o (a c o h)
theorem dS.seq {K:Frag} {H H':Hp} {a:Addr} {xs:List V} (e:dS H H') (h:bM K H a xs):bM K H' a xs:=by
 rcases h with(h|⟨o,h⟩)|h
 ·exact .inl (.inl (e _ _ h))
 ·exact .inl (.inr ⟨o,e _ _ h⟩)
 ·exact .inr h
end L2
end
namespace L2
section
variable {κ:Type} [DecidableEq κ]
def ka (kvs:List (κ×V)) (k:κ):Option V:=(kvs.find? fun kv=>decide (kv.1=k)).map (·.2)
def putK (kvs:List (κ×V)) (k:κ) (v:V):List (κ×V):=
 if(kvs.any fun kv=>decide (kv.1=k))=true then kvs.map (fun kv=>if kv.1=k then(kv.1,v) else kv) else kvs++[(k,v)]
theorem j8 {p:κ×V} {r:List (κ×V)} {k:κ} (e:p.1=k):ka (p::r) k=some p.2:=by simp[ka,List.find?_cons,e]
theorem j9 {p:κ×V} {r:List (κ×V)} {k:κ} (e: ¬ p.1=k):ka (p::r) k=ka r k:=by simp[ka,List.find?_cons,e]
theorem tH (k:κ): ∀ kvs:List (κ×V),(kvs.any fun kv=>decide (kv.1=k))=(ka kvs k).isSome
 |[]=>rfl
 |p::r=>by
  rw[List.any_cons]
  by_cases e:p.1=k
  ·simp only[j8 e,decide_eq_true e,Bool.true_or,Option.isSome_some]
  ·rw[j9 e,Oh e,Bool.false_or];exact tH k r
theorem l5 (kvs:List (κ×V)) (k:κ) (v:V):(putK kvs k v).length≤kvs.length+1:=by
 unfold putK
 split
 ·rw[NT];lia
 ·rw[Oi,N5,List.length_nil];lia
theorem pV.lB {o:Option V} {u:Option Value} (r:pV o u):o.isSome=u.isSome:=by
 cases o with
 |none=>cases u with
  |none=>rfl
  |some _=>exact(show False from r).elim
 |some _=>cases u with
  |none=>exact(show False from r).elim
  |some _=>rfl
theorem KV.val {kvs:List (κ×V)} {vs:List (κ×Value)} (r:KV kvs vs) (k:κ):pV (ka kvs k) (valueAt vs k):=by
 unfold KV at r
 induction r with
 |nil=>exact True.intro
 | @cons p q ps qs h t ih=>
  obtain⟨h1,h2⟩:=h
  by_cases e:p.1=k
  ·have e':q.1=k:=h1.symm.trans e
   have b:valueAt (q::qs) k=some q.2:=by simp[valueAt,List.find?_cons,e']
   rw[j8 e,b];exact h2
  ·have e': ¬ q.1=k:=fun z=>e (h1.trans z)
   have b:valueAt (q::qs) k=valueAt qs k:=by simp[valueAt,List.find?_cons,e']
   rw[j9 e,b];exact ih
theorem KV.any {kvs:List (κ×V)} {vs:List (κ×Value)} (r:KV kvs vs) (k:κ):(kvs.any fun kv=>decide (kv.1=k))=vs.any fun kv=>decide (kv.1=k):=by
 unfold KV at r
 induction r with
 |nil=>rfl
 |cons h t ih=>rw[List.any_cons,List.any_cons,ih,h.1]
theorem KV.v5 {kvs:List (κ×V)} {vs:List (κ×Value)} (r:KV kvs vs) (k:κ) {y:V} {u:Value} (ry:RelV y u):
  KV (kvs.map fun kv=>if kv.1=k then(kv.1,y) else kv) (vs.map fun kv=>if kv.1=k then(kv.1,u) else kv):=by
 unfold KV at r ⊢
 induction r with
 |nil=>exact .nil
 | @cons p q ps qs h t ih=>
  rw[N1,N1]
  refine .cons ?_ ih
  obtain⟨h1,h2⟩:=h
  by_cases e:p.1=k
  ·rw[OG e,OG (h1.symm.trans e)];exact⟨h1,ry⟩
  ·rw[OH e,OH (fun z=>e (h1.trans z))];exact⟨h1,h2⟩
theorem KV.put {kvs:List (κ×V)} {vs:List (κ×Value)} (r:KV kvs vs) (k:κ) {y:V} {u:Value} (ry:RelV y u):KV (putK kvs k y) (stored vs k u):=by
 unfold putK stored
 rw[r.any k]
 by_cases e:(vs.any fun kv=>decide (kv.1=k))=true
 ·rw[OG e,OG e];exact r.v5 k ry
 ·rw[OH e,OH e];exact Paired.snoc r ⟨rfl,ry⟩
theorem KV.keys {kvs:List (κ×V)} {vs:List (κ×Value)} (r:KV kvs vs):kvs.map (·.1)=vs.map (·.1):=by
 unfold KV at r
 induction r with
 |nil=>rfl
 |cons h t ih=>rw[N1,N1,ih,h.1]
theorem KV.length {kvs:List (κ×V)} {vs:List (κ×Value)} (r:KV kvs vs):kvs.length=vs.length:=Paired.length r
end
theorem yy {P:Program} {w:World} {k:Key} {u:Value} (r:RelV (kV k) u):(aY P w).is k u=true:=by
 cases k with
 |inl i=>obtain⟨t,e⟩:=(show ∃ t,u=Value.int i t from r);subst e;exact uB P w i t
 |inr x=>obtain⟨t,e⟩:=(show ∃ t,u=Value.str x t from r);subst e;exact uA P w x t
theorem qx {P:Program} {w:World}: ∀ {ks:List Key} {us:List Value},Vals (ks.map kV) us→ItemsAre (aY P w) ks us
 |[],_,r=>by rw[List.map_nil] at r;cases r;exact .nil
 |k::ks,_,r=>by
  rw[N1] at r
  cases r with
  |cons h t=>exact .cons (yy h) (qx t)
abbrev KT (H:Hp):List (List Key×V)→List (List Key×Addr×Value)→Prop:=Paired fun p q=>p.1=q.1∧H q.2.1=some (.tup (p.1.map kV))∧RelV p.2 q.2.2
theorem KT.val {H:Hp} {kvs:List (List Key×V)} {xs:List (List Key×Addr×Value)} (r:KT H kvs xs) (k:List Key):pV (ka kvs k) ((atKey xs k).map (·.2)):=by
 induction r with
 |nil=>exact True.intro
 | @cons p q ps qs h t ih=>
  obtain⟨h1,_,h2⟩:=h
  by_cases e:p.1=k
  ·have e':q.1=k:=h1.symm.trans e
   have b:atKey (q::qs) k=some q.2:=by simp[atKey,List.find?_cons,e']
   rw[j8 e,b];exact h2
  ·have e': ¬ q.1=k:=fun z=>e (h1.trans z)
   have b:atKey (q::qs) k=atKey qs k:=by simp[atKey,List.find?_cons,e']
   rw[j9 e,b];exact ih
theorem KT.v5 {H:Hp} {kvs:List (List Key×V)} {xs:List (List Key×Addr×Value)} (r:KT H kvs xs) (k:List Key) {y:V} {u:Value} (ry:RelV y u):
  KT H (kvs.map fun kv=>if kv.1=k then(kv.1,y) else kv) (xs.map (putAt k u)):=by
 induction r with
 |nil=>exact .nil
 | @cons p q ps qs h t ih=>
  rw[N1,N1]
  refine .cons ?_ ih
  obtain⟨h1,h2,h3⟩:=h
  unfold putAt
  by_cases e:p.1=k
  ·rw[OG e,OG (h1.symm.trans e)];exact⟨h1,h2,ry⟩
  ·rw[OH e,OH (fun z=>e (h1.trans z))];exact⟨h1,h2,h3⟩
theorem KT.put {H:Hp} {kvs:List (List Key×V)} {xs:List (List Key×Addr×Value)} (r:KT H kvs xs) (k:List Key) {b:Addr} {y:V} {u:Value} (hb:H b=some (.tup (k.map kV))) (ry:RelV y u):
  KT H (putK kvs k y) (storedH xs k b u):=by
 have e:(kvs.any fun kv=>decide (kv.1=k))=(atKey xs k).isSome:=by
  rw[tH,(r.val k).lB,Option.isSome_map]
 unfold putK storedH
 rw[e]
 by_cases q:(atKey xs k).isSome=true
 ·rw[OG q,OG q];exact r.v5 k ry
 ·rw[OH q,OH q];exact Paired.snoc r ⟨rfl,hb,ry⟩
theorem KT.keeps {H H':Hp} {kvs:List (List Key×V)} {xs:List (List Key×Addr×Value)} (r:KT H kvs xs) (ht: ∀ b ys,H b=some (.tup ys)→H' b=some (.tup ys)):KT H' kvs xs:=
 Paired.ID r fun _ _ z=>⟨z.1,ht _ _ z.2.1,z.2.2⟩
section
variable {P:Program} {w:World} {H:Hp} {h:Heap} {a:Addr}
theorem Gp {u:HO} (ok:jd P w H h) (e:Rd H a u):bS P w H h a u:=e.ok ok
theorem uW {kvs:List (Key×V)} (ok:jd P w H h) (e:Rd H a (.dK kvs)):kvs.length≤sizeLine∧(a==sysModules)=false∧∃ vs,KV kvs vs∧h.DictOf (aY P w) a vs:=
 show bS P w H h a (.dK kvs) from Gp ok e
theorem LI {kvs:List (Key×V)} (ok:jd P w H h) (e:H a=some (.dK kvs)):kvs.length≤sizeLine∧(a==sysModules)=false∧∃ vs,KV kvs vs∧h.DictOf (aY P w) a vs:=uW ok (.inl e)
theorem sa {ks:List Key} (ok:jd P w H h) (e:H a=some (.tup (ks.map kV))):(tupleKind (aY P w)).is h ks a:=by
 obtain⟨_,ay,r,o,h1,h2,n,h3⟩:=(show bS P w H h a (.tup (ks.map kV)) from ok a _ e)
 exact⟨o,ay.toArray,n,h1,h2,h3,by simpa using qx r⟩
theorem yM {kvs:List (List Key×V)} (ok:jd P w H h) (e:Rd H a (.dT kvs)):kvs.length≤sizeLine∧(a==sysModules)=false∧
  ∃ xs,KT H kvs xs∧h.DictOfH (tupleKind (aY P w)) a xs:=by
 obtain⟨z,y,xs,r,o,es,ep,h1,h2,h3,h4,h5⟩:=(show bS P w H h a (.dT kvs) from Gp ok e)
 refine⟨z,y,xs,r,o,es,ep,h1,h2,h3,h4,fun x hx=>?_,h5⟩
 have all: ∀ {l:List (List Key×V)} {m:List (List Key×Addr×Value)},KT H l m→∀ x∈m,(tupleKind (aY P w)).is h x.1 x.2.1:=by
  intro l m q
  induction q with
  |nil=>intro x hx;exact nomatch hx
  | @cons p q ps qs hq t ih=>
   intro x hx
   rcases N2.mp hx with e|hx
   ·subst e
    exact sa ok (by rw[←hq.1];exact hq.2.1)
   ·exact ih x hx
 exact all r x hx
theorem LH {kvs:List (List Key×V)} (ok:jd P w H h) (e:H a=some (.dT kvs)):kvs.length≤sizeLine∧(a==sysModules)=false∧
  ∃ xs,KT H kvs xs∧h.DictOfH (tupleKind (aY P w)) a xs:=yM ok (.inl e)
end
def Ao (H:Hp) (a:Addr) (y:V) (r:Option V):Prop:=
 (∃ kvs k,Rd H a (.dK kvs)∧y=kV k∧r=ka kvs k)∨∃ kvs k b,Rd H a (.dT kvs)∧y= .ref b∧H b=some (.tup (k.map kV))∧r=ka kvs k
def Md (H:Hp) (a:Addr) (y v:V) (H':Hp):Prop:=
 (∃ kvs k,H a=some (.dK kvs)∧y=kV k∧kvs.length < sizeLine∧H'=upd H a (.dK (putK kvs k v)))∨
 ∃ kvs k b,H a=some (.dT kvs)∧y= .ref b∧H b=some (.tup (k.map kV))∧kvs.length < sizeLine∧H'=upd H a (.dT (putK kvs k v))
section
variable {X:Cx} {pZ:List (Addr×Obj)} {σ:St} {H:Hp} {s:Shared} {a:Addr} {y v:V} {u r:Value} {o:Option V} {A:Around} {E:Value→Shared→Prop}
theorem Inv.big (I:Inv X pZ σ H s):sysModules < s.heap.objs.size:=by
 have h:mainGlobals < s.heap.objs.size:=(I.mod.glob.keeps I.bk).lt
 exact Nat.lt_trans (by decide) h
theorem Af {Q:Value→Shared→Prop} (hu:A.units+1 < cLine) (I:Inv X pZ σ H s) (g:Ao H a y (some v)) (ry:RelV y u) (h: ∀ w' s',Inv X pZ σ H s'→RelV v w'→Q w' s'):
  wpAny (model X.prog X.w) A (getItem (.ref a) u) Q E s:=by
 rcases g with⟨kvs,k,e,ey,l⟩|⟨kvs,k,b,e,ey,eb,l⟩
 ·subst ey
  obtain⟨z,hd,vs,rel,dd⟩:=uW I.a7 e
  obtain⟨w',hw,rw'⟩:=pV.some_of (v:=v) (o:=valueAt vs k) (by rw[l];exact rel.val k)
  exact wpAny_getItem_of (yy ry) dd.mapOf hw (h w' _ (I.tok _) rw')
 ·subst ey
  cases (show u=Value.ref b from ry)
  obtain⟨z,hd,xs,rel,dd⟩:=yM I.a7 e
  obtain⟨w',hw,rw'⟩:=pV.some_of (v:=v) (o:=(atKey xs k).map (·.2)) (by rw[l];exact rel.val k)
  obtain⟨p,hp,hp2⟩:=Og.mp hw
  refine wpAny_getItem_heap (tupleKind_room_in1 hu) (sa I.a7 eb) dd hp ?_
  rw[hp2]
  exact h w' _ (I.tok _) rw'
theorem Nl {Q:Value→Shared→Prop} (hu:A.units+1 < cLine) (I:Inv X pZ σ H s) (g:Ao H a y o) (ry:RelV y u) (h: ∀ s',Inv X pZ σ H s'→Q (.bool o.isSome) s'):
  wpAny (model X.prog X.w) A (compareOp .In u (.ref a)) Q E s:=by
 rcases g with⟨kvs,k,e,ey,l⟩|⟨kvs,k,b,e,ey,eb,l⟩
 ·subst ey
  obtain⟨z,hd,vs,rel,dd⟩:=uW I.a7 e
  refine wpAny_in_of (yy ry) hd dd.mapOf ?_
  rw[←(rel.val k).lB,←l]
  exact h _ (I.tok _)
 ·subst ey
  cases (show u=Value.ref b from ry)
  obtain⟨z,hd,xs,rel,dd⟩:=yM I.a7 e
  refine wpAny_in_heap (tupleKind_room_in1 hu) (sa I.a7 eb) hd dd ?_
  have q:=(rel.val k).lB
  rw[Option.isSome_map] at q
  rw[←q,←l]
  exact h _ (I.tok _)
theorem yQ {h':Heap} {t':Nat} {ob:HO} (I:Inv X pZ σ H s) (mu:L5 (H a)) (hs:Heap.SameBut a s.heap h') (he: ∃ q,h'.get? a=some q) (new:bS X.prog X.w (upd H a ob) h' a ob):
  Inv X pZ σ (upd H a ob) {s with heap:=h',toks:=t'}:=
 I.write (x:=a) (e:=a) mu (.inl rfl) (fun b q hb z=>(hs.2 b hb).trans z) he new
theorem Jr {P:Program} {w:World} {H':Hp} {h':Heap} {kvs:List (Key×V)} {vs:List (Key×Value)} (z:kvs.length≤sizeLine) (hd:(a==sysModules)=false) (rel:KV kvs vs) (dd:h'.DictOf (aY P w) a vs):
  bS P w H' h' a (.dK kvs):=⟨z,hd,vs,rel,dd⟩
theorem Ac {H':Hp} {Q:Unit→Shared→Prop} (hu:A.units+1 < cLine) (I:Inv X pZ σ H s) (g:Md H a y v H') (ry:RelV y u) (rv:RelV v r) (h: ∀ s',Inv X pZ σ H' s'→Q () s'):
  wpAny (model X.prog X.w) A (setItem (.ref a) u r) Q E s:=by
 rcases g with⟨kvs,k,e,ey,l,eH⟩|⟨kvs,k,b,e,ey,eb,l,eH⟩
 ·subst ey eH
  obtain⟨z,hd,vs,rel,dd⟩:=LI I.a7 e
  have hz:vs.length≤sizeLine:=by rw[←rel.length];exact z
  have hl:(putK kvs k v).length≤sizeLine:=by have:=l5 kvs k v;lia
  refine wpAny_setItem_pairs (hsz:=hz) (yy ry) dd fun h' dd' hs=>h _ ?_
  have he: ∃ q,h'.get? a=some q:=let ⟨q,_,_,hq,_⟩:=dd';⟨q,hq⟩
  exact yQ I (by rw[e];exact True.intro) hs he (Jr hl hd (rel.put k rv) dd')
 ·subst ey eH
  cases (show u=Value.ref b from ry)
  obtain⟨z,hd,xs,rel,dd⟩:=LH I.a7 e
  have hz:xs.length≤sizeLine:=by rw[←Paired.length rel];exact z
  have hl:(putK kvs k v).length≤sizeLine:=by have:=l5 kvs k v;lia
  refine wpAny_setItem_heap (hsz:=hz) (tupleKind_room_in1 hu) (sa I.a7 eb) dd fun h' dd' hs=>h _ ?_
  obtain⟨q,es,ep,hq,h2,h3,h4,_,h5⟩:=dd'
  refine yQ I (by rw[e];exact True.intro) hs ⟨q,hq⟩ ⟨hl,hd,_,(rel.put k eb rv).keeps fun c ys ec=>?_,q,es,ep,hq,h2,h3,h4,h5⟩
  rw[ag (B3 ec e (fun z=>nomatch z))]
  exact ec
end
section
variable {X:Cx} {pZ:List (Addr×Obj)} {σ:St} {H:Hp} {s:Shared} {a:Addr} {kvs:List (Key×V)} {k:Key} {u:Value} {A:Around} {E:Value→Shared→Prop}
theorem LJ {Q:Value→Shared→Prop} (I:Inv X pZ σ H s) (e:Rd H a (.dK kvs)) (h: ∀ t s',Inv X pZ σ H s'→Q (.int kvs.length t) s'):wpAny (model X.prog X.w) A (call (.builtin "len") [.ref a]) Q E s:=by
 obtain⟨z,hd,vs,rel,dd⟩:=uW I.a7 e
 refine call_len_dict hd dd (by rw[←rel.length];rw[Ox] at z;lia) ?_
 rw[←rel.length]
 exact h _ _ (I.tok _)
end
def JO (i:Expr):Prop:= ∀ ov iv,subscripted i false ov iv=operate [ov,iv] (getItem ov iv)
theorem DY {prog:Program} {w:World} {A:Around} {E:Value→Shared→Prop} {s:Shared} {env:Env} {value slice:Expr} {pos:Pos} {T id:String} {Q:Value→Shared→Prop}
  (hl:typeLookup (.type T) "__getitem__"=pure (some (.builtin id))) (hs:JO slice)
  (h:wpAny (model prog w) A (eval value env) (fun o s₁=>wpAny (model prog w) A (eval slice env) (fun i s₂=>s₂.TypeIs o T∧wpAny (model prog w) A (getItem o i) Q E s₂) E s₁) E s):
  wpAny (model prog w) A (eval (.Subscript value slice pos) env) Q E s:=by
 refine Subscript_ (wpAny_mono h (fun o s₁ h₁=>wpAny_mono h₁ (fun i s₂ h₂=>?_) fun _ _ x=>x) fun _ _ x=>x)
 obtain⟨hT,h₂⟩:=h₂
 unfold subscriptTail
 refine NR ?_
 rw[getitemInPython_of_ne hT.not_modules]
 refine NR (wpAny_specialOf hT hl ?_)
 have fin:wpAny (model prog w) A (subscripted slice false o i) (fun r s₃=>wpAny (model prog w) A (letTemporaryGo value o r >>= fun _=>pure r) Q E s₃) E s₂:=by
  rw[hs o i]
  exact wpAny_operating (wpAny_mono h₂ (fun r s₃ h₃=>NR (wpAny_letTemporaryGo (NW h₃))) fun _ _ x=>x)
 first
  |exact NW (NR fin)
  |exact NR (NW (NR fin))
  |exact NR fin
theorem uZ {X:Cx} {pZ:List (Addr×Obj)} {σ:St} {H:Hp} {s:Shared} {a:Addr} {y:V} {o:Option V} (I:Inv X pZ σ H s) (g:Ao H a y o):s.TypeIs (.ref a) "dict":=by
 rcases g with⟨kvs,k,e,_,_⟩|⟨kvs,k,b,e,_,_,_⟩
 ·obtain⟨_,_,vs,_,dd⟩:=uW I.a7 e
  exact dd.typeIs
 ·obtain⟨_,_,xs,_,dd⟩:=yM I.a7 e
  exact dd.typeIs
def Gm (td ty:TE):TE:=fun σ H Q=>td σ H fun x H1=>ty σ H1 fun y H2=> ∃ a v,x= .ref a∧Ao H2 a y (some v)∧Q v H2
def Hs (ty td:TE):TE:=fun σ H Q=>ty σ H fun y H1=>td σ H1 fun x H2=> ∃ a o,x= .ref a∧Ao H2 a y o∧Q (.bl o.isSome) H2
def A7 (td ty tv:TE):TS:=fun D σ H=>tv σ H fun v H1=>td σ H1 fun x H2=>ty σ H2 fun y H3=> ∃ a H4,x= .ref a∧Md H3 a y v H4∧D.nx σ H4
section
variable {X:Cx} {o i e value:Expr} {pos pos' tpos:Pos} {td ty tv:TE}
theorem Eo (hu:X.A.units+1 < cLine) (ho:PE X o td) (hi:PE X i ty) (hs:JO i):PE X (.Subscript o i pos) (Gm td ty):=by
 intro pZ s σ H Q I h
 refine DY PySem.F.slot_dict_getitem.lookup hs (bh (ho pZ s σ H _ I h) fun u s1 ⟨x,H1,I1,rx,q1⟩=>bh (hi pZ s1 σ H1 _ I1 q1) fun iv s2 ⟨y,H2,I2,ry,a,v,ex,g,q2⟩=>?_)
 subst ex
 obtain rfl:u=Value.ref a:=rx
 exact⟨uZ I2 g,Af hu I2 g ry fun w' s3 I3 rw'=>⟨v,H2,I3,rw',q2⟩⟩
theorem BD (hu:X.A.units+1 < cLine) (hi:PE X i ty) (ho:PE X o td):PC X .In i o (Hs ty td):=by
 intro pZ s σ H Q I h
 refine bh (hi pZ s σ H _ I h) fun iv s1 ⟨y,H1,I1,ry,q1⟩=>bh (ho pZ s1 σ H1 _ I1 q1) fun u s2 ⟨x,H2,I2,rx,a,ov,ex,g,q2⟩=>?_
 subst ex
 obtain rfl:u=Value.ref a:=rx
 exact Nl hu I2 g ry fun s3 I3=>⟨.bl ov.isSome,H2,I3,rfl,q2⟩
theorem Ej (hu:X.A.units+1 < cLine) (ho:PE X o td) (hi:PE X i ty) (hv:PE X value tv) (hs:swapsWith value (some (.Subscript o i pos')) pos.line X.env=pure false):
  PS X (.Assign [.Subscript o i pos'] value pos) (A7 td ty tv):=by
 intro pZ s σ H D I h
 refine wpAny_Assign_Subscript (bh (hv pZ s σ H _ I h) fun r s1 ⟨v,H1,I1,rv,q1⟩=>bh (ho pZ s1 σ H1 _ I1 q1) fun u s2 ⟨x,H2,I2,rx,q2⟩=>bh (hi pZ s2 σ H2 _ I2 q2) fun iv s3 ⟨y,H3,I3,ry,a,H4,ex,g,q3⟩=>?_) hs
 subst ex
 obtain rfl:u=Value.ref a:=rx
 exact Ac hu I3 g ry rv fun s4 I4=>⟨σ,H4,I4,q3⟩
end
theorem C0 {P:Program} {w:World} {H:Hp} (h:Heap) (hb:sysModules < h.objs.size):bS P w H (h.push {cls:=.type "dict",data:=.dict #[]}) h.objs.size (.dK []):=
 ⟨Ol _,beq_eq_false_iff_ne.mpr (Ne.symm (Oo hb)),[],.nil,Heap.DictOf.new h⟩
def AS:TE:=fun _ H Q=> ∀ p,H p=none→Q (.ref p) (upd H p (.dK []))
section
variable {X:Cx} {pos:Pos}
theorem BB:PE X (.Dict [] [] pos) AS:=fun pZ s σ H Q I h=>
 wpAny_Dict_empty ⟨.ref s.heap.objs.size,_,I.laid (a:=s.heap.objs.size) (o:=.dK []) (t':=s.toks) (fun _ _ q=>NU _ q) (NZ _) (C0 s.heap I.big),rfl,h _ (I.a7.fresh (NZ _))⟩
end
def d7 (cells:List (Str×Addr)) (cs:List (Str×Addr)) (p:Str×NameKind):List (Str×Addr):=
 if p.2== .free then(match cells.lookup p.1 with|some c=>(p.1,c)::cs|none=>cs) else cs
def vc (names:List (Str×NameKind)) (cells:List (Str×Addr)):List (Str×Addr):=names.foldl (d7 cells) []
theorem kK (env:Env): ∀ (names:List (Str×NameKind)) (cs:List (Str×Addr)),(∀ p∈names,p.2= .free→∃ c,env.cells.lookup p.1=some c)→
  (forIn names cs fun (p:Str×NameKind) r=>(if(p.2== .free)=true then do let a ←cellOf env p.1;pure (ForInStep.yield ((p.1,a)::r)) else pure (ForInStep.yield r):Sem (ForInStep (List (Str×Addr)))))=pure (names.foldl (d7 env.cells) cs)
 |[],cs,_=>rfl
 |p::r,cs,h=>by
  have ih:=fun cs'=>kK env r cs' fun q hq=>h q (NV _ hq)
  rw[List.forIn_cons]
  by_cases hp:(p.2== .free)=true
  ·obtain⟨c,hc⟩:=h p NS (by simpa using hp)
   have e:d7 env.cells cs p=(p.1,c)::cs:=by unfold d7;rw[OG hp,hc]
   have e2:cellOf env p.1=pure c:=by unfold cellOf;rw[hc]
   rw[OG hp,e2,List.foldl_cons,e]
   exact ih _
  ·have e:d7 env.cells cs p=cs:=by unfold d7;rw[OH hp]
   rw[OH hp,List.foldl_cons,e]
   exact ih _
theorem jS {scope:Scope} {env:Env} (h: ∀ p∈scope.names,p.2= .free→∃ c,env.cells.lookup p.1=some c):closureFor scope env=pure (vc scope.names env.cells):=by
 have q:=kK env scope.names [] h
 unfold closureFor
 show (forIn scope.names [] _ >>= fun cs=>pure cs)=_
 have e: ∀ m:Sem (List (Str×Addr)),(m >>= fun cs=>pure cs)=m:=fun m=>bind_pure m
 rw[e]
 exact q
theorem c7 (cells:List (Str×Addr)): ∀ (names:List (Str×NameKind)) (cs:List (Str×Addr)),(∀ x c,cs.lookup x=some c→cells.lookup x=some c)→∀ x c,(names.foldl (d7 cells) cs).lookup x=some c→cells.lookup x=some c
 |[],_,h=>h
 |p::r,cs,h=>c7 cells r _ (fun x c e=>by
  unfold d7 at e
  split at e
  ·split at e
   ·rename_i c' hc'
    rw[List.lookup_cons] at e
    split at e
    ·rename_i hx
     have hx':x=p.1:=by simpa using hx
     cases e;rw[hx'];exact hc'
    ·exact h x c e
   ·exact h x c e
  ·exact h x c e)
theorem va (cells:List (Str×Addr)): ∀ (names:List (Str×NameKind)) (cs:List (Str×Addr)) (x:Str),(∃ c,cs.lookup x=some c)→∃ c,(names.foldl (d7 cells) cs).lookup x=some c
 |[],_,_,h=>h
 |p::r,cs,x,h=>va cells r _ x (by
  unfold d7
  split
  ·split
   ·rw[List.lookup_cons]
    split
    ·exact⟨_,rfl⟩
    ·exact h
   ·exact h
  ·exact h)
theorem xg (cells:List (Str×Addr)): ∀ (names:List (Str×NameKind)) (cs:List (Str×Addr)) (x:Str),(x,NameKind.free)∈names→(∃ c,cells.lookup x=some c)→∃ c,(names.foldl (d7 cells) cs).lookup x=some c
 |[],_,_,h,_=>by simp at h
 |p::r,cs,x,h,hc=>by
  rcases N2.mp h with e|e
  ·subst e
   refine va cells r _ x ?_
   obtain⟨c,hc⟩:=hc
   unfold d7
   rw[OG (by rfl),hc]
   exact⟨c,by rw[List.lookup_cons];simp⟩
  ·exact xg cells r _ x e hc
def fg (X:Cx) (scope:Scope) (N:List Str) (s₀:Shared) (H₀:Hp) (ex:List Addr) (pn:List (Addr×Obj)):Cx:=
 {prog:=X.prog,w:=X.w,K:=X.K,mg:=X.mg,base:=X.base,A:=X.A,N:=N,s₀:=s₀,H₀:=H₀,env:=compEnvC scope (vc scope.names X.env.cells) s₀.heap.objs.size X.env,outer:=X.stack,stack:=X.stack,ex:=ex,fn:=fun _=>false,calm:=true,pn:=pn,xe:=fun _ _=>False}
def fk (js:List (Option Nat)) (σ:St):St:=js.map fun o=>match o with|some j=>(σ[j]?).getD none|none=>none
def y3 (X:Cx) (ifs:List Expr) (t:TT):Prop:=
 ∀ (pZ:List (Addr×Obj)) (s:Shared) (σ:St) (H:Hp) (Q:Bool→Hp→Prop),Inv X pZ σ H s→t σ H Q→
  wpAny (model X.prog X.w) X.A (forIn ifs true fun c r=>if r=true then do let ok ←isTrue c X.env (eval c X.env);pure (ForInStep.yield ok) else pure (ForInStep.yield r)) (TP X pZ σ Q) X.xe s
def KG:TT:=fun _ H Q=>Q true H
theorem Eg {X:Cx}:y3 X [] KG:=fun pZ s σ H Q I h=>wpAny_tests_nil ⟨H,I,h⟩
theorem Ef {X:Cx} {c:Expr} {t:TT} (h:PT X c t):y3 X [c] t:=fun pZ s σ H Q I hw=>wpAny_tests_one (h pZ s σ H Q I hw)
theorem Ag {prog:Program} {w:World} {A:Around} {R:Result→Shared→Prop} {s:Shared} {elt target iter:Expr} {ifs:List Expr} {scope:Scope} {pos:Pos} {it acc:Value} {env:Env} (I:Nat→Shared→Prop)
  (turn: ∀ n s,I n s→wpAny (model prog w) A (pyNext it) (fun r s₁=>match r with
   |none=>R (.ok .next) s₁
   |some v=>wpAny (model prog w) A (letOwnedTupleGo target it v) (fun _ s₁'=>wpAny (model prog w) A (assign target env v) (fun _ s₂=>
     wpAny (model prog w) A (forIn ifs true fun c r=>if r=true then do let ok ←isTrue c env (eval c env);pure (ForInStep.yield ok) else pure (ForInStep.yield r)) (fun ok s₃=>
      if ok=true then wpAny (model prog w) A (eval elt env) (fun x s₄=>
       wpAny (model prog w) A (call (.builtin "list.append") [acc,x]) (fun _ s₅=> ∃ m,m < n∧I m s₅) (fun _ _=>False) s₄) (fun _ _=>False) s₃
      else ∃ m,m < n∧I m s₃) (fun _ _=>False) s₂) (fun _ _=>False) s₁') (fun _ _=>False) s₁) (fun _ _=>False) s)
  (n:Nat) (h:I n s):
  codeAny (model prog w) A (.compLoop (.ListComp elt [⟨target,iter,ifs,0⟩] scope pos) 0 it acc env) R s:=by
 refine codeAny_loop rfl I (fun n s hI=>?_) n h
 show wpAny _ A ((compTurn (.ListComp elt [⟨target,iter,ifs,0⟩] scope pos) 0 it acc env).onRaise (fun x=>do noteFrame x env;theTreesLotGoes x)) _ _ s
 refine wpAny_noted ?_
 refine wpAny_mono (E:=fun _ _=>False) ?_ (fun _ _ q=>q) fun _ _ q=>q.elim
 rw[compTurn_list]
 refine NR (wpAny_standAt (NR (bh (turn n s hI) fun r s₁ h₁=>?_)))
 cases r with
 |none=>exact NW h₁
 |some v=>
  refine NR (bh h₁ fun _ s₁' h₁'=>?_)
  refine NR (bh h₁' fun _ s₂ h₂=>NR (bh h₂ fun ok s₃ h₃=>?_))
  cases ok with
  |false=>exact NW ⟨rfl,h₃⟩
  |true=>exact NR (NR (bh h₃ fun x s₄ h₄=>NR (bh h₄ fun _ s₅ h₅=>NW (NW ⟨rfl,h₅⟩))))
def NN (J:It) (D:Addr) (g:TG) (tt:TT) (te:TE) (Q:VK) (σ0:St) (H1:Hp):Prop:=
 ∃ W:Nat→Nat→St→Hp→Prop,(∃ m,W 0 m σ0 (upd H1 D (.lst [])))∧∀ i m σ' H',W i m σ' H'→
  (J.stop i H'∧Q (.ref D) H')∨(J.go i H'∧∀ x H2,J.Aq i H' x H2→g x σ' H2 fun σ2 H3=>tt σ2 H3 fun ok H4=>
   if ok=true then te σ2 H4 fun y H5=> ∃ ys,H5 D=some (.lst ys)∧ys.length < sizeLine∧∃ m',m' < m∧W (i+1) m' σ2 (upd H5 D (.lst (ys++[y])))
   else ∃ m',m' < m∧W (i+1) m' σ2 H4)
def As (js:List (Option Nat)) (wi:TI) (g:TG) (tt:TT) (te:TE):TE:=fun σ H Q=>wi σ H fun J H1=> ∀ D,H1 D=none→NN J D g tt te Q (fk js σ) H1
set_option genInjectivity false in
structure bb (X:Cx) (scope:Scope) (N:List Str) (js:List (Option Nat)):Prop where
 kind:scope.kind= .function
 wF: ∀ y∈scope.names,y.2≠.cell
 names: ∀ y∈scope.names,y.2= .local→scope.names.lookup y.1=some .local
 free: ∀ y∈scope.names,y.2= .free→X.env.scope.names.lookup y.1=some .cell∨X.env.scope.names.lookup y.1=some .free
 len:js.length=N.length
 NL: ∀ (i:Nat) (y:Str) (j:Nat),N[i]?=some y→js[i]?=some (some j)→X.N[j]?=some y∧scope.names.lookup y=some .free
def jF (env:Env) (p:Str×NameKind):Str×NameKind:=if(p.2==NameKind.free&&env.scope.kind== .function&&env.kindOf p.1==some .cell) then(p.1,NameKind.cell) else(p.1,p.2)
theorem uc (env:Env) (p:Str×NameKind):(jF env p).1=p.1:=by unfold jF;split<;>rfl
theorem t9 {env:Env}: ∀ {names:List (Str×NameKind)} {x:Str},names.lookup x=some .free→(names.map (jF env)).lookup x=some .cell∨(names.map (jF env)).lookup x=some .free
 |[],_,h=>by simp at h
 |p::r,x,h=>by
  rw[N1,List.lookup_cons,uc]
  rw[List.lookup_cons] at h
  cases hx:x==p.1 with
  |true=>
   rw[hx] at h
   have h':p.2= .free:=by simpa using h
   have e:(jF env p).2= .cell∨(jF env p).2= .free:=by
    unfold jF
    split
    ·exact .inl rfl
    ·exact .inr h'
   rcases e with e|e
   ·exact .inl (congrArg some e)
   ·exact .inr (congrArg some e)
  |false=>
   rw[hx] at h
   exact t9 (env:=env) h
theorem ua {env:Env}: ∀ {names:List (Str×NameKind)} {x:Str},((names.map (jF env)).lookup x=some .cell∨(names.map (jF env)).lookup x=some .free)→(x,NameKind.free)∈names∨(x,NameKind.cell)∈names
 |[],_,h=>by simp at h
 |p::r,x,h=>by
  rw[N1,List.lookup_cons,uc] at h
  cases hx:x==p.1 with
  |true=>
   rw[hx] at h
   have hx':x=p.1:=by simpa using hx
   have h2:(jF env p).2= .cell∨(jF env p).2= .free:=h.elim (fun z=>.inl (OK z)) fun z=>.inr (OK z)
   have e:p.2= .free∨p.2= .cell:=by
    by_cases hc:(p.2==NameKind.free&&env.scope.kind== .function&&env.kindOf p.1==some .cell)=true
    ·simp only[Ov] at hc
     exact .inl (by simpa using hc.1.1)
    ·have e2:jF env p=(p.1,p.2):=by unfold jF;rw[OH hc]
     rw[e2] at h2
     exact h2.symm
   rcases e with e|e
   ·exact .inl (by rw[hx',←e];exact NS)
   ·exact .inr (by rw[hx',←e];exact NS)
  |false=>
   rw[hx] at h
   rcases ua h with q|q
   ·exact .inl (NV _ q)
   ·exact .inr (NV _ q)
section
variable {X:Cx} {pZ:List (Addr×Obj)} {σ:St} {H:Hp} {s:Shared} {scope:Scope} {N:List Str} {js:List (Option Nat)} {fp:List Addr}
theorem bb.Fz (L:bb X scope N js) (ok:X.Ok): ∀ p∈scope.names,p.2= .free→∃ c,X.env.cells.lookup p.1=some c:=fun p hp hf=>ok.has p.1 (L.free p hp hf)
theorem bb.ok (L:bb X scope N js) (I:Inv X pZ σ H s) (hc:X.calm=true) (hf: ∀ b∈fp,cD X pZ H b) (ho: ∀ b∈fp,∃ o,s.heap.get? b=some o):(fg X scope N s H fp (X.pn++pZ)).Ok where
 mod:=I.ok.mod
 kind:=L.kind
 glob:=I.ok.glob
 blt:=I.ok.blt
 above:=NZ _
 inj:=fun x y c h1 h2=>I.ok.inj x y c (c7 _ _ _ (fun _ _ e=>by simp at e) x c h1) (c7 _ _ _ (fun _ _ e=>by simp at e) y c h2)
 has:=fun x hx=>by
  have hx':(scope.names.map (jF X.env)).lookup x=some .cell∨(scope.names.map (jF X.env)).lookup x=some .free:=hx
  rcases ua hx' with q|q
  ·exact xg _ _ _ x q (L.Fz I.ok _ q rfl)
  ·exact absurd rfl (L.wF _ q)
 Kf:=fun x c h _=>by cases h
 hd:=fun _=>I.ok.hd hc
 frames:=I.ok.frames
 KN:=.inl rfl
 Ni:=fun b hb=>by
  obtain⟨o,e⟩:=ho b hb
  refine⟨Oo (N9 e),fun x c h=>(hf b hb).2.2.2.2.1 x c (c7 _ _ _ (fun _ _ e=>by simp at e) x c h)⟩
 bs:=I.bs
 DG:=Od I.ok.DG I.sz
 zF:=fun b o e hb=>by
  rcases(hf b hb).2.2.2.1 with z|z
  ·exact I.ok.zF b o e z
  ·exact absurd (Of (N9 e) (Od I.ok.DG z)) (Nat.lt_irrefl _)
 CI:=fun b hb z=>by
  rcases N2.mp (I.kU b z) with e|e
  ·exact(hf b hb).2.1 e
  ·exact(hf b hb).2.2.1 e
 lG:=I.stack
 GI:=I.xW
theorem bb.start (L:bb X scope N js) (I:Inv X pZ σ H s) (hc:X.calm=true) (hf: ∀ b∈fp,cD X pZ H b) (ho: ∀ b∈fp,∃ o,s.heap.get? b=some o) {h':Heap} {tk:Nat}
  (hn:h'.Ns s.heap.objs.size (fun _=>none)) (hk: ∀ b o,s.heap.get? b=some o→h'.get? b=some o):
  Inv (fg X scope N s H fp (X.pn++pZ)) [] (fk js σ) H {s with heap:=h',toks:=tk}:=by
 refine⟨L.ok I hc hf ho,rfl,I.bare,Un.kept hk,⟨_,hn,fun i y v e1 e2 e3=>?_⟩,fun x c e=>?_,I.a7.fresh (NZ _),fun x c e=>?_,fun p hp=>?_,I.a7.kept hk,?_⟩
 ·unfold fk at e2
  rw[Oc] at e2
  cases ej:js[i]? with
  |none=>rw[ej] at e2;cases e2
  |some o=>
   rw[ej] at e2
   cases o with
   |none=>simp at e2
   |some j=>
    simp only[Option.map_some,Option.some.injEq] at e2
    have es:σ[j]?=some (some v):=by
     cases q:σ[j]? with
     |none=>rw[q] at e2;simp at e2
     |some z=>rw[q] at e2;simp at e2;rw[e2]
    obtain⟨en,ef⟩:=L.NL i y j e1 ej
    have em:(y,NameKind.free)∈scope.names:=PySem.mem_of_lookup ef
    have ek:=L.free _ em rfl
    obtain⟨m,_,hl⟩:=I.loc
    obtain⟨u,r,l⟩:=hl j y v en es (ek.elim (fun z=>.inr (.inl z)) fun z=>.inr (.inr z))
    refine⟨u,r,.inr ⟨t9 ef,?_⟩⟩
    rcases l with⟨l,_⟩|⟨_,c,ec,z⟩
    ·have l':X.env.scope.names.lookup y=some .local:=l
     rcases ek with ek|ek<;>(rw[ek] at l';cases l')
    ·obtain⟨c',hc'⟩:=xg X.env.cells scope.names [] y em ⟨c,ec⟩
     have e':=c7 X.env.cells scope.names [] (fun _ _ e=>by simp at e) y c' hc'
     rw[ec] at e';cases e'
     obtain⟨o,ho,hd⟩:=z
     exact⟨c,hc',⟨o,hk c o ho,hd⟩⟩
 ·obtain⟨v,o,ho,hd⟩:=I.cell x c (c7 _ _ _ (fun _ _ e=>by simp at e) x c e)
  exact⟨v,o,hk c o ho,hd⟩
 ·exact I.iY x c (c7 _ _ _ (fun _ _ e=>by simp at e) x c e)
 ·have hp':p∈X.pn++pZ:=by simpa[fg] using hp
  obtain⟨e,n,ne,nf,d⟩:=I.pin p hp'
  refine⟨hk _ _ e,n,Oo (N9 e),fun z=>?_,d⟩
  rcases N2.mp (I.kU _ z) with q|q
  ·exact ne q
  ·exact nf q
 ·unfold fk
  rw[NT]
  exact L.len
theorem Cc {σ':St} {H':Hp} {s':Shared} {ps:List (Addr×Obj)} (I:Inv X pZ σ H s) (hf: ∀ b∈fp,cD X pZ H b) (J:Inv (fg X scope N s H fp (X.pn++pZ)) ps σ' H' s'):
  Inv X pZ σ H' s'∧cD X pZ H' s.heap.objs.size∧∃ m,s'.heap.Ns s.heap.objs.size m:=by
 refine⟨I.LN (ch:=fp) J.os J.base J.a7 J.bare fun b hb=>⟨(hf b hb).2.2.2.1,(hf b hb).2.1,(hf b hb).2.2.2.2.1,(hf b hb).2.2.2.2.2⟩,I.n9 (NZ _) J.free,?_⟩
 obtain⟨m,hn,_⟩:=J.loc
 exact⟨m,hn⟩
theorem Inv.gone {H':Hp} {s':Shared} {C:Addr} {h':Heap} {m:Str→Option Value} (I:Inv X pZ σ H' s') (f:cD X pZ H' C) (hs:Heap.SameBut C s'.heap h'):Inv X pZ σ H' {s' with heap:=h'}:=
 I.turned (t':=s'.toks) (it:=C) (fun b o hb e=>(hs.2 b hb).trans e) f.1 f.2.1 f.2.2.2.1 f.2.2.2.2.1 f.2.2.2.2.2
theorem E1 {elt target iter:Expr} {ifs:List Expr} {pos:Pos} {g:TG} {tt:TT} {te:TE} {it:Addr} {tn:Nat→Heap→Prop} {J:It} {Q:VK} {R:Value→Addr→Result→Shared→Prop}
  (L:bb X scope N js) (hc:X.calm=true)
  (hg: ∀ s₀ H₀ ex pn,PG (fg X scope N s₀ H₀ ex pn) target g) (ht: ∀ s₀ H₀ ex pn,y3 (fg X scope N s₀ H₀ ex pn) ifs tt) (he: ∀ s₀ H₀ ex pn,PE (fg X scope N s₀ H₀ ex pn) elt te)
  (I:Inv X pZ σ H s) (T:Turn X.prog X.w X.K target J fp it tn) (st:tn 0 s.heap) (hf: ∀ b∈fp,cD X pZ H b)
  {D:Addr} {s3:Shared} {h₁:Heap} {tk:Nat} (I3:Inv X pZ σ (upd H D (.lst [])) s3) (hDl: ∀ b o,s.heap.get? b=some o→b≠D) (k3: ∀ b o,s.heap.get? b=some o→s3.heap.get? b=some o)
  (hns₁:h₁.Ns s3.heap.objs.size (fun _=>none)) (kk: ∀ b o,s3.heap.get? b=some o→h₁.get? b=some o)
  (w: ∃ W:Nat→Nat→St→Hp→Prop,(∃ m,W 0 m (fk js σ) (upd H D (.lst [])))∧∀ i m σ' H',W i m σ' H'→
   (J.stop i H'∧Q (.ref D) H')∨(J.go i H'∧∀ x H2,J.Aq i H' x H2→g x σ' H2 fun σ2 H3=>tt σ2 H3 fun ok H4=>
    if ok=true then te σ2 H4 fun y H5=> ∃ ys,H5 D=some (.lst ys)∧ys.length < sizeLine∧∃ m',m' < m∧W (i+1) m' σ2 (upd H5 D (.lst (ys++[y])))
    else ∃ m',m' < m∧W (i+1) m' σ2 H4))
  (hR: ∀ C s' H',Inv X pZ σ H' s'→cD X pZ H' C→(∃ m,s'.heap.Ns C m)→Q (.ref D) H'→R (.ref D) C (.ok .next) s'):
  codeAny (model X.prog X.w) X.A (.compStart (.ListComp elt [⟨target,iter,ifs,0⟩] scope pos) 0 (.ref it) (.ref D) {newEnv scope s3.heap.objs.size X.env.globals (vc scope.names X.env.cells) X.env.qual none .none (some X.env) builtinsNs with scope:=relabel scope X.env}) (R (.ref D) s3.heap.objs.size) {s3 with heap:=h₁,toks:=tk}:=by
 have obj:=T.obj 0 s.heap st
 have ho3: ∀ b∈fp,∃ o,s3.heap.get? b=some o:=fun b hb=>by obtain⟨o,e,_⟩:=obj b hb;exact⟨o,k3 b o e⟩
 have hf3: ∀ b∈fp,cD X pZ (upd H D (.lst [])) b:=fun b hb=>by
  refine⟨?_,(hf b hb).2⟩
  obtain⟨o,e,_⟩:=obj b hb
  rw[ag (hDl b o e)]
  exact(hf b hb).1
 have I4:Inv (fg X scope N s3 (upd H D (.lst [])) fp (X.pn++pZ)) [] (fk js σ) (upd H D (.lst [])) {s3 with heap:=h₁,toks:=tk}:=
  L.start I3 hc hf3 ho3 hns₁ kk
 obtain⟨W,⟨m0,w0⟩,turn⟩:=w
 have st4:tn 0 h₁:=T.keep 0 _ _ st fun b _ o e=>kk b o (k3 b o e)
 generalize hX:fg X scope N s3 (upd H D (.lst [])) fp (X.pn++pZ)=Y at I4
 have fpY: ∀ b∈fp,b≠Y.env.locals∧b∉Y.fs∧(b∈Y.ex∨Y.s₀.heap.objs.size≤b)∧(∀ x c,Y.env.cells.lookup x=some c→c≠b)∧∀ p∈Y.pn++[],p.1≠b:=fun b hb=>by
  rw[←hX]
  obtain⟨o,e⟩:=ho3 b hb
  refine⟨Oo (N9 e),fun z=>?_,.inl hb,fun x c h=>(hf b hb).2.2.2.2.1 x c (c7 _ _ _ (fun _ _ e=>by simp at e) x c h),fun p hp=>(hf b hb).2.2.2.2.2 p (by simpa[fg] using hp)⟩
  rcases N2.mp (I3.kU b z) with q|q
  ·exact(hf b hb).2.1 q
  ·exact(hf b hb).2.2.1 q
 have loop:codeAny (model X.prog X.w) X.A (.compLoop (.ListComp elt [⟨target,iter,ifs,0⟩] scope pos) 0 (.ref it) (.ref D) Y.env) (R (.ref D) s3.heap.objs.size) {s3 with heap:=h₁,toks:=tk}:=by
  have pr:Y.prog=X.prog:=by rw[←hX];rfl
  have pw:Y.w=X.w:=by rw[←hX];rfl
  have pK:Y.K=X.K:=by rw[←hX];rfl
  have pA:Y.A=X.A:=by rw[←hX];rfl
  have pc:Y.calm=true:=by rw[←hX];rfl
  have px:Y.xe=fun _ _=>False:=by rw[←hX];rfl
  have mZ: ∀ {H':Hp},(∀ b∈fp,H' b=none)→∀ b∈fp,cD Y [] H' b:=fun hn b hb=>⟨hn b hb,fpY b hb⟩
  refine Ag (fun n s'=> ∃ i σ' H',Inv Y [] σ' H' s'∧tn i s'.heap∧(∀ b∈fp,H' b=none)∧W i n σ' H') ?_ m0 ⟨0,_,_,I4,st4,fun b hb=>(hf3 b hb).1,w0⟩
  rintro n s5 ⟨i,σ5,H5,I5,st5,fr5,w5⟩
  have gY:PG Y target g:=by rw[←hX];exact hg _ _ _ _
  have tY:y3 Y ifs tt:=by rw[←hX];exact ht _ _ _ _
  have eY:PE Y elt te:=by rw[←hX];exact he _ _ _ _
  unfold PG at gY;unfold y3 at tY;unfold PE at eY
  rw[pr,pw,pA,px] at gY tY eY
  have ap:=qm (X:=Y)
  unfold L6 at ap
  rw[pr,pw,pA,px] at ap
  rcases turn i n σ5 H5 w5 with⟨stop,q⟩|⟨go,step⟩
  ·have d:=T.done Y pr pw pK pc i [] s5 σ5 H5 (fun _ _=>False) I5 (mZ fr5) st5 stop
   rw[pA] at d
   refine bh d fun r s6 ⟨hr,I6⟩=>?_
   subst hr
   have I6':Inv (fg X scope N s3 (upd H D (.lst [])) fp (X.pn++pZ)) [] σ5 H5 s6:=by rw[hX];exact I6
   obtain⟨a1,a2,a3⟩:=Cc I3 hf3 I6'
   exact hR _ s6 H5 a1 a2 a3 q
  ·have d:=T.item Y pr pw pK pc i [] s5 σ5 H5 (fun _ _=>False) I5 (mZ fr5) st5 go
   rw[pA] at d
   refine bh d fun r s6 ⟨u,hr,h6⟩=>?_
   subst hr
   refine bh h6 fun _ s7 ⟨x,H7,I7,r7,y7,st7,fr7⟩=>?_
   have I7':=I7.pinned (mZ fr7) (T.obj _ _ st7)
   refine bh (gY _ s7 σ5 H7 x u _ I7' r7 (step x H7 y7)) fun _ s8 ⟨σ8,H8,I8,q8⟩=>?_
   have again: ∀ {σ9:St} {H9:Hp} {s9:Shared},Inv Y ([]++lg fp s7.heap) σ9 H9 s9→(∃ m',m' < n∧W (i+1) m' σ9 H9)→∃ m,m < n∧∃ i σ' H',Inv Y [] σ' H' s9∧tn i s9.heap∧(∀ b∈fp,H' b=none)∧W i m σ' H':=fun {σ9 H9 s9} I9 ⟨m',hm,w9⟩=>by
    refine⟨m',hm,i+1,σ9,H9,I9.ij,T.keep _ _ _ st7 fun b hb o e=>(I9.pin (b,o) (Ob _ (Ob _ (dz hb e)))).1,fun b hb=>?_,w9⟩
    obtain⟨o,e,d⟩:=T.obj _ _ st7 b hb
    exact(I9.pin (b,o) (Ob _ (Ob _ (dz hb e)))).2.1
   refine bh (tY _ s8 σ8 H8 _ I8 q8) fun ok s9 ⟨H9,I9,q9⟩=>?_
   cases ok with
   |false=>
    rw[OH (by decide)] at q9
    rw[OH (by decide)]
    exact again I9 q9
   |true=>
    rw[OG rfl] at q9
    rw[OG rfl]
    refine bh (eY _ s9 σ8 H9 _ I9 q9) fun v s10 ⟨y,H10,I10,r10,ys,eys,lys,q10⟩=>?_
    refine bh (ap _ s10 σ8 H10 (.ref D) [y] (.ref D) [v] (fun _ H'=> ∃ m',m' < n∧W (i+1) m' σ8 H') I10 rfl (.cons r10 .nil) ⟨D,ys,y,rfl,rfl,eys,lys,q10⟩) fun v2 s11 ⟨y2,H11,I11,_,q11⟩=>?_
    exact again I11 q11
 have ee:({newEnv scope s3.heap.objs.size X.env.globals (vc scope.names X.env.cells) X.env.qual none .none (some X.env) builtinsNs with scope:=relabel scope X.env}:Env)=Y.env:=by rw[←hX];rfl
 rw[ee]
 exact codeAny_compStart_list loop (T.self _ 0 _ _ _ st4 loop)
theorem uF {elt target iter:Expr} {ifs:List Expr} {pos:Pos} {g:TG} {tt:TT} {te:TE} {it:Addr} {tn:Nat→Heap→Prop} {J:It} {Q:VK} {E:Value→Shared→Prop} {R:Value→Addr→Result→Shared→Prop}
  (L:bb X scope N js) (hc:X.calm=true)
  (hg: ∀ s₀ H₀ ex pn,PG (fg X scope N s₀ H₀ ex pn) target g) (ht: ∀ s₀ H₀ ex pn,y3 (fg X scope N s₀ H₀ ex pn) ifs tt) (he: ∀ s₀ H₀ ex pn,PE (fg X scope N s₀ H₀ ex pn) elt te)
  (I:Inv X pZ σ H s) (T:Turn X.prog X.w X.K target J fp it tn) (st:tn 0 s.heap) (hf: ∀ b∈fp,cD X pZ H b)
  (w: ∀ D,H D=none→∃ W:Nat→Nat→St→Hp→Prop,(∃ m,W 0 m (fk js σ) (upd H D (.lst [])))∧∀ i m σ' H',W i m σ' H'→
   (J.stop i H'∧Q (.ref D) H')∨(J.go i H'∧∀ x H2,J.Aq i H' x H2→g x σ' H2 fun σ2 H3=>tt σ2 H3 fun ok H4=>
    if ok=true then te σ2 H4 fun y H5=> ∃ ys,H5 D=some (.lst ys)∧ys.length < sizeLine∧∃ m',m' < m∧W (i+1) m' σ2 (upd H5 D (.lst (ys++[y])))
    else ∃ m',m' < m∧W (i+1) m' σ2 H4))
  (hR: ∀ D C s' H',Inv X pZ σ H' s'→cD X pZ H' C→(∃ m,s'.heap.Ns C m)→Q (.ref D) H'→R (.ref D) C (.ok .next) s'):
  wpAny (model X.prog X.w) X.A (newList []) (fun acc s₃=>wpAny (model X.prog X.w) X.A (newFunctionEnv scope X.env.globals (vc scope.names X.env.cells) [] X.env.qual none .none (some X.env)) (fun cenv s₄=>
   codeAny (model X.prog X.w) X.A (.compStart (.ListComp elt [⟨target,iter,ifs,0⟩] scope pos) 0 (.ref it) acc {cenv with scope:=relabel scope X.env}) (R acc cenv.locals) s₄) E s₃) E s:=by
 have I3:=I.Ca (t':=s.toks) (ys:=[]) (ay:=[]) .nil (Ol _)
 have hD:=I.fresh
 refine wpAny_newObj_type (wpAny_newFunctionEnv L.wF (by intro y hy;simp at hy) (fun h₁ hns₁ hsb₁=>?_) L.kind)
 dsimp only at hns₁ hsb₁
 exact E1 (Q:=Q) (R:=R) (s3:={s with heap:=s.heap.push {cls:=.type "list",data:=.seq ([]:List Value).toArray},toks:=s.toks}) L hc hg ht he I T st hf I3 (fun b o e=>Oo (N9 e)) (fun b o e=>NU _ e) hns₁
  (fun b o e=>hsb₁.extBut b o (Oo (N9 e)) (NU _ e)) (w _ hD) (fun C=>hR _ C)
theorem Lc {elt target iter:Expr} {ifs:List Expr} {pos:Pos} {wi:TI} {g:TG} {tt:TT} {te:TE} (L:bb X scope N js) (hc:X.calm=true) (hi:PI X target iter wi)
  (hg: ∀ s₀ H₀ ex pn,PG (fg X scope N s₀ H₀ ex pn) target g) (ht: ∀ s₀ H₀ ex pn,y3 (fg X scope N s₀ H₀ ex pn) ifs tt) (he: ∀ s₀ H₀ ex pn,PE (fg X scope N s₀ H₀ ex pn) elt te)
  (hs: ∀ x,foldedSetIterable iter X.env x=pure x:=by intro _;rfl):PE X (.ListComp elt [⟨target,iter,ifs,0⟩] scope pos) (As js wi g tt te):=by
 intro pZ s σ H Q I h
 rw[eval_ListComp]
 refine wpAny_comprehension_free (use:=none) rfl hs (jS (L.Fz I.ok)) L.kind L.names (bh (hi pZ s σ H _ I h) fun v s1 h1=>bh h1 fun itv s2 h2=>?_)
 obtain⟨it,fp,tn,J,H2,e,I2,T,st2,f2,w⟩:=h2
 subst e
 refine uF (Q:=Q) (R:=fun acc C=>compPost (model X.prog X.w) X.A X.xe none (EP X pZ σ Q) acc C) L hc hg ht he I2 T st2 f2 w ?_
 intro D C s' H' I' f' ⟨m,hn⟩ q
 exact⟨m,hn,fun h' hs'=>⟨.ref D,H',I'.gone (m:=m) f' hs',rfl,q⟩⟩
theorem K9 {elt target iter:Expr} {ifs:List Expr} {pos spos py:Pos} {y:Str} {k:Nat} {wi:TI} {g:TG} {tt:TT} {te:TE} (hN:X.N.Nodup) (hk:X.N[k]?=some y) (hy:Loc X.env.scope y) (L:bb X scope N js) (hc:X.calm=true) (hi:PI X target iter wi)
  (hg: ∀ s₀ H₀ ex pn,PG (fg X scope N s₀ H₀ ex pn) target g) (ht: ∀ s₀ H₀ ex pn,y3 (fg X scope N s₀ H₀ ex pn) ifs tt) (he: ∀ s₀ H₀ ex pn,PE (fg X scope N s₀ H₀ ex pn) elt te)
  (hsw:swapsWith (.ListComp elt [⟨target,iter,ifs,0⟩] scope pos) (some (.Name y py)) spos.line X.env=pure true:=by rfl)
  (hs: ∀ x,foldedSetIterable iter X.env x=pure x:=by intro _;rfl) (hf:X.fn y=true∨X.env.scope.names.lookup y=some .local:=by first|exact .inl rfl|exact .inr rfl|assumption):
  PS X (.Assign [.Name y py] (.ListComp elt [⟨target,iter,ifs,0⟩] scope pos) spos) (hW (As js wi g tt te) (cJ k)):=by
 intro pZ s σ H D I h
 rw[exec_Assign_Name_used _ _ _ _ hsw]
 refine NR (wpAny_standAt (NR ?_))
 show wpAny _ X.A (do let _ ←comprehension (.ListComp elt [⟨target,iter,ifs,0⟩] scope pos) scope X.env _ (newList []) false (eval iter X.env) (some (assign (.Name y py) X.env))) _ _ s
 refine NR (bh (wpAny_comprehension_free (Q:=fun _ s'=>SP X pZ D .next s') rfl hs (jS (L.Fz I.ok)) L.kind L.names (bh (hi pZ s σ H _ I h) fun v s1 h1=>bh h1 fun itv s2 h2=>?_)) fun _ s' hq=>NW (NW hq))
 obtain⟨it,fp,tn,J,H2,e,I2,T,st2,f2,w⟩:=h2
 subst e
 refine uF (Q:=fun v H1=>D.nx (σ.set k (some v)) H1) (R:=fun acc C=>compPost (model X.prog X.w) X.A X.xe (some (assign (.Name y py) X.env)) (fun _ s'=>SP X pZ D .next s') acc C) L hc hg ht he I2 T st2 f2 w ?_
 intro A C s' H' I' f' ⟨m,hn⟩ q
 show wpAny _ _ (assign (.Name y py) X.env (.ref A)) _ _ s'
 refine wpAny_assign_Name (p6 (v:=V.ref A) I' hN hk hy rfl (fun s2 I3 ⟨a,hsb,ha⟩=>?_) hf)
 have hca:C≠a:=by
  rintro rfl
  rcases ha with z|z
  ·exact f'.2.1 z
  ·exact f'.2.2.2.2.1 y _ z rfl
 exact⟨m,hn.sameBut hsb hca,fun h' hs'=>⟨_,H',I3.gone (m:=m) f' hs',q⟩⟩
end
def Mr (x:Str):It:=⟨fun i _=>i < x.cps.size,fun i H v H'=>H'=H∧∃ c,x.cps[i]?=some c∧v= .str ⟨#[c]⟩,fun i _=>i=x.cps.size⟩
theorem p3 {P:Program} {w:World} {K:Frag} {tg:Expr} (it:Addr) (x:Str) (t:Tok) {ty:String}
  (hn:["enumerate","zip","dict_itemiterator","dict_reverseitemiterator","odict_iterator","itertools.zip_longest","itertools.pairwise"].contains ty=false)
  (Wk: ∀ A:Around,A.handled=none→Walks P w A it [it] [it] x.cps.size (SignAt x) (fun i h=>h.IsStrIter it ty x t i))
  (Sf: ∀ (A:Around) i (s:Shared) (Q:Value→Shared→Prop) (E:Value→Shared→Prop),s.heap.IsStrIter it ty x t i→Q (.ref it) s→wpAny (model P w) A (pyIter (.ref it)) Q E s):Turn P w K tg (Mr x) [it] it (fun i h=>h.IsStrIter it ty x t i) where
 mem:=by simp
 obj:=fun i h st b hb=>by
  have e:b=it:=by simpa using hb
  subst e
  obtain⟨o,e,c,d⟩:=st
  exact⟨o,e,fun v z=>by rw[d] at z;cases z⟩
 keep:=fun i h h' st k=>by
  obtain⟨o,e,c,d⟩:=st
  exact⟨o,k it (by simp) o e,c,d⟩
 item:=by
  intro X hP hw hK hc i pZ s σ H E I hf st hg
  subst hP hw hK
  obtain⟨f0,f1,f2,f3,f4,f5⟩:=hf it (by simp)
  refine(Wk X.A (I.ok.hd hc)).item i s _ _ hg st fun v h' tk hv st' kk=>?_
  obtain⟨c,u,hcx,rfl⟩:=hv
  have I1:Inv X pZ σ H {s with heap:=h',toks:=tk}:=I.turned (fun b o hb e=>kk b o (by simpa using hb) e) f0 f1 f3 f4 f5
  obtain⟨o,e,oc,d⟩:=id st'
  exact⟨_,rfl,qz (s:={s with heap:=h',toks:=tk}) e oc d hn ⟨.str ⟨#[c]⟩,H,I1,⟨u,rfl⟩,⟨rfl,c,hcx,rfl⟩,st',fun b hb=>(hf b hb).1⟩⟩
 done:=by
  intro X hP hw hK hc i pZ s σ H E I hf st hg
  subst hP hw hK
  have hg':i=x.cps.size:=hg
  subst hg'
  obtain⟨f0,f1,f2,f3,f4,f5⟩:=hf it (by simp)
  exact(Wk X.A (I.ok.hd hc)).done s _ _ st fun h' tk kk=>⟨rfl,I.turned (fun b o hb e=>kk b o (by simpa using hb) e) f0 f1 f3 f4 f5⟩
 self:=fun A i s Q E st h=>Sf A i s Q E st h
section
variable {X:Cx} {tg:Expr}
theorem zB:du X (compareOp .LtE) (fun x y H Q=> ∃ i j,x= .str i∧y= .str j∧Q (.bl (!decide (j.cps.toList < i.cps.toList))) H):=by
 intro pZ s σ H x y v u Q I rx ry h
 obtain⟨i,j,rfl,rfl,q⟩:=h
 obtain⟨t,rfl⟩:=rx
 obtain⟨t',rfl⟩:=ry
 exact PySem.P.le_str (iZ I q rfl)
theorem EC:du X (binaryOp .Mult) (rI IntMulOk fun i j=>.int (i * j)):=J8 fun _ _ _ _ _ _ _ hc q=>mul_int q hc
theorem kq:du X (binaryOp .Pow) (rI (fun i j=>0≤j∧(Builtin.Int.intBits i:Int) * j≤2 ^ 27) fun i j=>.int (i ^ j.toNat)):=J8 fun _ _ _ _ _ _ _ hc q=>pow_int hc.1 hc.2 q
def MN (K:Frag) (neg:Bool):R2:=fun x y H Q=> ∃ p q xs,x= .ref p∧y= .ref q∧bM K H p xs∧bM K H q []∧Q (.bl (xor neg xs.isEmpty)) H
theorem zA (hu:X.A.units < cLine):du X (compareOp .NotEq) (MN X.K true):=by
 intro pZ s σ H x y v u Q I rx ry h
 obtain⟨p,q,xs,rfl,rfl,h1,h2,hq⟩:=h
 cases rx;cases ry
 obtain⟨ay,r1,l1,_⟩:=I.list h1
 obtain⟨mC,r2,l2,_⟩:=I.list h2
 cases r2
 cases xs with
 |nil=>
  cases r1
  exact SeqAt.RcNeAt.lists (e:=fun _=>true) l1.isList l2.isList rfl hu (fun j a _=>by simp at a) _ _ _ _ (iZ I hq rfl)
 |cons y ys=>
  have e:=r1.length
  exact SeqAt.RcNeAt.lists_lengths l1.isList l2.isList (by simp;intro z;subst z;simp at e) hu _ _ _ _ (iZ I hq rfl)
theorem LS {bs:List Bool} {ay:List Value} (r:Vals (bs.map V.bl) ay) (i:Nat) (v:Value) (e:ay[i]?=some v): ∃ b,bs[i]?=some b∧v= .bool b:=by
 have hl:=r.length
 rw[NT] at hl
 have hi:i < bs.length:=by rw[hl];exact(NY.mp e).1
 obtain⟨u,h1,h2⟩:=r.get (x:=V.bl bs[i]) (by rw[Oc,NQ hi];rfl)
 rw[e] at h1;cases h1
 exact⟨bs[i],NQ hi,h2⟩
theorem v9 (bs:List Bool):((List.range bs.length).all fun i=>(bs[i]?).getD true)=bs.all id:=by
 rw[Bool.eq_iff_iff,List.all_eq_true,List.all_eq_true]
 constructor
 ·intro h b hb
  obtain⟨i,hi,e⟩:=List.getElem_of_mem hb
  have:=h i (List.mem_range.mpr hi)
  rw[NQ hi,e] at this
  exact this
 ·intro h i hi
  have hi':=List.mem_range.mp hi
  rw[NQ hi']
  exact h _ (OB hi')
theorem Dd (hc:X.calm=true):fc X (.builtin "all") (fun xs H Q=> ∃ (p:Addr) (bs:List Bool),xs=[.ref p]∧bM X.K H p (bs.map V.bl)∧Q (.bl (bs.all id)) H):=by
 intro pZ s σ H xs us Q I r h
 obtain⟨p,bs,rfl,hq,q⟩:=h
 obtain⟨u,rfl,rx⟩:=vals1 r
 cases rx
 obtain⟨ay,r',pl,hz⟩:=I.list hq
 have hl:=pl.isList
 have cU:p < s.heap.objs.size:=by obtain⟨_,e,_⟩:=hl;exact N9 e
 have hlen:=r'.length
 rw[NT] at hlen
 refine call_all_walk (wpAny_pyIter_list hl ?_)
 refine⟨s.heap.objs.size,[s.heap.objs.size,p],[s.heap.objs.size],ay.toArray.size,_,_,fun i=>(bs[i]?).getD true,rfl,Walks.list (A:=X.A.in1) (I.ok.hd hc) _ p (Oo cU) ay.toArray,
  ⟨⟨_,N6 _ rfl,rfl,rfl⟩,hl.push _⟩,fun i v s' Q' E' hP hQ=>?_,fun h' tk hk=>?_⟩
 ·obtain⟨b,e,rfl⟩:=LS r' i v (by simpa using hP)
  simp only[e,Option.getD_some] at hQ
  exact wpAny_truthy_bool hQ
 ·refine⟨.bl (bs.all id),H,I.kept (fun b o e=>hk b o (fun hm=>?_) (NU _ e)),?_,q⟩
  ·rw[Om.mp hm] at e;exact Nat.lt_irrefl _ (N9 e)
  ·show Value.bool _=Value.bool _
   rw[NX,←hlen,v9]
theorem xV: ∀ {ys:List Str} {us:List Value},Vals (ys.map V.str) us→StrsAre us ys
 |[],us,r=>by rw[List.map_nil] at r;cases r;exact .nil
 |y::ys,us,r=>by
  rw[N1] at r
  cases r with
  |cons h t=>obtain⟨t',rfl⟩:=h;exact .cons y t' (xV t)
theorem EM:Nu X "str.join" (fun x xs H Q=> ∃ (sep:Str) (p:Addr) (ys:List Str),x= .str sep∧xs=[.ref p]∧bM X.K H p (ys.map V.str)∧(ys.map (·.length)).sum+ys.length * sep.length≤16777216∧Q (.str (Txt.join sep ys)) H):=by
 intro pZ s σ H x xs v us Q I rx rv h
 obtain⟨sep,p,ys,rfl,rfl,hq,hz,q⟩:=h
 obtain⟨t,rfl⟩:=rx
 obtain⟨u,rfl,ru⟩:=vals1 rv
 cases ru
 obtain⟨ay,r',pl,_⟩:=I.list hq
 exact join_list pl.isList (by simpa using xV r') hz fun t' k=>⟨.str (Txt.join sep ys),H,I.tok _,⟨_,rfl⟩,q⟩
end
def II (scope es:Scope) (XN N:List Str) (js:List (Option Nat)):Bool:=
 (scope.kind== .function)&&scope.names.all (fun y=>y.2 != .cell&&(y.2 != .local||scope.names.lookup y.1==some .local)&&(y.2 != .free||es.names.lookup y.1==some .cell||es.names.lookup y.1==some .free))&&
 (js.length==N.length)&&(List.range N.length).all (fun i=>match N[i]?,js[i]? with|some y,some (some j)=>XN[j]?==some y&&scope.names.lookup y==some .free|_,_=>true)
theorem bb.Ln {X:Cx} {scope:Scope} {N:List Str} {js:List (Option Nat)} (es:Scope) (XN:List Str) (h1:X.env.scope=es) (h2:X.N=XN) (h:II scope es XN N js=true):bb X scope N js:=by
 unfold II at h
 simp only[Ov,List.all_eq_true] at h
 obtain⟨⟨⟨ha,hb⟩,hc⟩,hd⟩:=h
 refine⟨by simpa using ha,fun y hy=>?_,fun y hy hl=>?_,fun y hy hl=>?_,by simpa using hc,fun i y j e1 e2=>?_⟩
 ·have:=(hb y hy).1.1
  simpa using this
 ·have:=(hb y hy).1.2
  rw[hl] at this
  simpa using this
 ·have:=(hb y hy).2
  rw[hl] at this
  rw[h1]
  simpa using this
 ·have hi:i < N.length:=(NY.mp e1).1
  have:=hd i (List.mem_range.mpr hi)
  rw[e1,e2] at this
  simp only[Ov] at this
  rw[h2]
  exact⟨by simpa using this.1,by simpa using this.2⟩
def isStar:Expr→Bool
 | .Starred .. =>true
 |_=>false
theorem KO {e:Expr} {es:List Expr} {env:Env} (h:isStar e=false):starEach (e::es) env=(false,eval e env)::starEach es env:=by
 cases e<;>first
  |rfl
  |(exfalso;exact Bool.noConfusion h)
theorem Lf {X:Cx} {e:Expr} {es:List Expr} {te:TE} {t:TA} (ha:PE X e te) (hr:PA X es t) (h:isStar e=false:=by rfl):PA X (e::es) (kc te t):=cn ha hr (KO h)
theorem fM {H:Hp} {p:Addr} (h:H p=none) (o:HO):dS H (upd H p o):=fun b u q=>by rw[ag (aD q h)];exact q
section
set_option genInjectivity false in
structure Bx (p:Prop):Prop where
 out:p
abbrev BE (X:Cx) (e:Expr) (t:TE):Prop:=Bx (PE X e t)
abbrev BT (X:Cx) (e:Expr) (t:TT):Prop:=Bx (PT X e t)
abbrev BW (X:Cx) (e:Expr) (t:TT):Prop:=Bx (PW X e t)
abbrev BA (X:Cx) (es:List Expr) (t:TA):Prop:=Bx (PA X es t)
abbrev BS (X:Cx) (st:Stmt) (t:TS):Prop:=Bx (PS X st t)
abbrev DC (X:Cx) (st:List Stmt) (t:TS):Prop:=Bx (vG X st t)
abbrev BI (X:Cx) (tg iter:Expr) (t:TI):Prop:=Bx (PI X tg iter t)
abbrev BG (X:Cx) (tg:Expr) (t:TG):Prop:=Bx (PG X tg t)
abbrev G6 (X:Cx) (ts:List Expr) (t:Dv):Prop:=Bx (L4 X ts t)
abbrev BO (X:Cx) (e:Option Expr) (t:TO):Prop:=Bx (PO X e t)
abbrev Ge (X:Cx) (ifs:List Expr) (t:TT):Prop:=Bx (y3 X ifs t)
inductive PV where
 |aE|bl (b:Bool)|int (i:Int)|str (x:Str)|tup (l:List PV)|lst (l:List PV)|cL (kvs:List (Key×PV))|tD (ns:List Int)|br
inductive M (α:Type) where
 |fail|ret (a:α)|draw (m:Int) (k:Int→M α)
namespace M
variable {α β γ:Type}
def bind:M α→(α→M β)→M β
 |fail,_=>fail
 |ret a,f=>f a
 |draw m k,f=>draw m fun d=>(k d).bind f
def wp:M α→Nat→(α→Nat→Prop)→Prop
 |fail,_,_=>False
 |ret a,n,Q=>Q a n
 |draw m k,n,Q=>0 < m∧m < 1073741824∧∃ n',n=n'+1∧∀ d,0≤d→d < m→(k d).wp n' Q
theorem wZ (m:M α) (f:α→M β): ∀ (n:Nat) (Q:β→Nat→Prop),(m.bind f).wp n Q=m.wp n fun a n'=>(f a).wp n' Q:=by
 induction m with
 |fail=>intro n Q;rfl
 |ret a=>intro n Q;rfl
 |draw m k ih=>intro n Q;simp only[bind,wp,ih]
theorem wp_mono {m:M α}: ∀ {n:Nat} {Q Q':α→Nat→Prop},m.wp n Q→(∀ a n',Q a n'→Q' a n')→m.wp n Q':=by
 induction m with
 |fail=>intro n Q Q' h _;exact h
 |ret a=>intro n Q Q' h f;exact f _ _ h
 |draw m k ih=>
  intro n Q Q' h f
  obtain⟨h1,h2,n',e,h3⟩:=h
  exact⟨h1,h2,n',e,fun d a b=>ih d (h3 d a b) f⟩
theorem bZ (m:M α) (f:α→M β) (g:β→M γ):(m.bind f).bind g=m.bind fun a=>(f a).bind g:=by
 induction m with
 |fail=>rfl
 |ret a=>rfl
 |draw m k ih=>simp only[bind,ih]
@[simp] theorem rZ (a:α) (f:α→M β):(ret a).bind f=f a:=rfl
def bO:Option α→M α
 |some a=>ret a
 |none=>fail
end M
inductive Rep (B:Addr) (O:Addr→Prop) (H:Hp):PV→V→Prop where
 |aE:Rep B O H .aE .aE
 |bl (b:Bool):Rep B O H (.bl b) (.bl b)
 |int (i:Int):Rep B O H (.int i) (.int i)
 |str (x:Str):Rep B O H (.str x) (.str x)
 |tup {p:Addr} {xs:List V} {l:List PV} (hO: ¬ O p) (h:H p=some (.tup xs)) (hl:l.length=xs.length) (hr: ∀ (i:Nat) (y:PV) (x:V),l[i]?=some y→xs[i]?=some x→Rep B O H y x):Rep B O H (.tup l) (.ref p)
 |lst {p:Addr} {xs:List V} {l:List PV} (hO: ¬ O p) (h:H p=some (.lst xs)) (hl:l.length=xs.length) (hr: ∀ (i:Nat) (y:PV) (x:V),l[i]?=some y→xs[i]?=some x→Rep B O H y x):Rep B O H (.lst l) (.ref p)
 |cL {p:Addr} {ks:List (Key×V)} {l:List (Key×PV)} (hO: ¬ O p) (h:Rd H p (.dK ks)) (hk:l.map (·.1)=ks.map (·.1)) (hr: ∀ (i:Nat) (y:Key×PV) (x:Key×V),l[i]?=some y→ks[i]?=some x→Rep B O H y.2 x.2):Rep B O H (.cL l) (.ref p)
 |tD {p:Addr} {ns:List Int} (hO: ¬ O p) (h: ∃ o,H p=some (.eF o (.lst (ns.map V.int)))):Rep B O H (.tD ns) (.ref p)
 |br:Rep B O H .br (.ref B)
def aJ (B:Addr) (O:Addr→Prop) (H:Hp) (l:List PV) (xs:List V):Prop:=l.length=xs.length∧∀ (i:Nat) (y:PV) (x:V),l[i]?=some y→xs[i]?=some x→Rep B O H y x
def aW (B:Addr) (O:Addr→Prop) (H:Hp) (l:List (Key×PV)) (ks:List (Key×V)):Prop:=l.map (·.1)=ks.map (·.1)∧∀ (i:Nat) (y:Key×PV) (x:Key×V),l[i]?=some y→ks[i]?=some x→Rep B O H y.2 x.2
def eX (H':Hp) (p:Addr):HO→Prop
 | .mx _=> ∃ qs,H' p=some (.mx qs)
 |o=>H' p=some o
theorem eX.of {H':Hp} {p:Addr} {o:HO} (h:H' p=some o):eX H' p o:=by
 cases o<;>first|exact h|exact⟨_,h⟩
theorem eX.there {H':Hp} {p:Addr} {o:HO} (h:eX H' p o): ∃ u,H' p=some u:=by
 cases o<;>first|exact⟨_,h⟩|(obtain⟨qs,e⟩:=h;exact⟨_,e⟩)
theorem eX.to {H' H2:Hp} {p:Addr} {o:HO} (h:eX H' p o) (k: ∀ u,H' p=some u→eX H2 p u):eX H2 p o:=by
 cases o<;>first|exact k _ h|(obtain⟨qs,e⟩:=h;have q:=k (.mx qs) e;exact q)
def Ext (B:Addr) (H H':Hp):Prop:= ∀ p o,p≠B→H p=some o→eX H' p o
theorem Ext.refl (B:Addr) (H:Hp):Ext B H H:=fun _ _ _ h=>.of h
theorem Ext.trans {B:Addr} {H H1 H2:Hp} (a:Ext B H H1) (b:Ext B H1 H2):Ext B H H2:=fun p o n h=>(a p o n h).to fun u e=>b p u n e
theorem Ext.new {B p:Addr} {H:Hp} (h:H p=none) (o:HO):Ext B H (upd H p o):=fun q u _ e=>.of (by rw[ag (aD e h)];exact e)
section
variable {B:Addr} {O O':Addr→Prop} {H H':Hp} {y:PV} {x:V} {l l':List PV} {xs xs':List V}
theorem Rep.cp (h:Rep B O H y x) (hH: ∀ p o,¬ O p→H p=some o→eX H' p o∧¬ O' p):Rep B O' H' y x:=by
 induction h with
 |aE=>exact .aE
 |bl b=>exact .bl b
 |int i=>exact .int i
 |str x=>exact .str x
 |tup hO h hl hr ih=>exact .tup (hH _ _ hO h).2 (hH _ _ hO h).1 hl ih
 |lst hO h hl hr ih=>exact .lst (hH _ _ hO h).2 (hH _ _ hO h).1 hl ih
 |tD hO h=>
  obtain⟨o,e⟩:=h
  exact .tD (hH _ _ hO e).2 ⟨o,(hH _ _ hO e).1⟩
 |cL hO h hl hr ih=>
  rcases h with h|⟨o,h⟩
  ·exact .cL (hH _ _ hO h).2 (.inl (hH _ _ hO h).1) hl ih
  ·exact .cL (hH _ _ hO h).2 (.inr ⟨o,(hH _ _ hO h).1⟩) hl ih
 |br=>exact .br
theorem Rep.keep (h:Rep B O H y x) (hH: ∀ p o,¬ O p→H p=some o→H' p=some o∧¬ O' p):Rep B O' H' y x:=h.cp fun p o n q=>⟨.of (hH p o n q).1,(hH p o n q).2⟩
theorem Rep.ext (h:Rep B O H y x) (hB:O B) (e:Ext B H H'):Rep B O H' y x:=h.cp fun p o n q=>⟨e p o (fun z=>n (z▸hB)) q,n⟩
theorem Rep.less (h:Rep B O H y x) (hO: ∀ p,O' p→O p):Rep B O' H y x:=h.keep fun p o n q=>⟨q,fun z=>n (hO p z)⟩
theorem Rep.grow (h:Rep B O H y x) (hO: ∀ p,O' p→O p∨H p=none):Rep B O' H y x:=h.keep fun p o n q=>⟨q,fun z=>by
 rcases hO p z with w|w
 ·exact n w
 ·rw[w] at q;cases q⟩
theorem aJ.cp (h:aJ B O H l xs) (hH: ∀ p o,¬ O p→H p=some o→eX H' p o∧¬ O' p):aJ B O' H' l xs:=⟨h.1,fun i y x a b=>(h.2 i y x a b).cp hH⟩
theorem aJ.keep (h:aJ B O H l xs) (hH: ∀ p o,¬ O p→H p=some o→H' p=some o∧¬ O' p):aJ B O' H' l xs:=⟨h.1,fun i y x a b=>(h.2 i y x a b).keep hH⟩
theorem aJ.ext (h:aJ B O H l xs) (hB:O B) (e:Ext B H H'):aJ B O H' l xs:=⟨h.1,fun i y x a b=>(h.2 i y x a b).ext hB e⟩
theorem aJ.less (h:aJ B O H l xs) (hO: ∀ p,O' p→O p):aJ B O' H l xs:=⟨h.1,fun i y x a b=>(h.2 i y x a b).less hO⟩
theorem aJ.grow (h:aJ B O H l xs) (hO: ∀ p,O' p→O p∨H p=none):aJ B O' H l xs:=⟨h.1,fun i y x a b=>(h.2 i y x a b).grow hO⟩
theorem aJ.nil:aJ B O H [] []:=⟨rfl,fun i y x a=>by simp at a⟩
theorem aJ.cons (h:Rep B O H y x) (t:aJ B O H l xs):aJ B O H (y::l) (x::xs):=⟨by simp[t.1],fun i y' x' a b=>by
 cases i with
 |zero=>simp at a b;subst a b;exact h
 |succ i=>simp at a b;exact t.2 i y' x' a b⟩
theorem aJ.head (h:aJ B O H (y::l) (x::xs)):Rep B O H y x:=h.2 0 y x rfl rfl
theorem aJ.tail (h:aJ B O H (y::l) (x::xs)):aJ B O H l xs:=⟨by simpa using h.1,fun i y' x' a b=>h.2 (i+1) y' x' (by simpa using a) (by simpa using b)⟩
theorem aJ.nil_inv (h:aJ B O H [] xs):xs=[]:=Ow h.1.symm
theorem aJ.cons_inv (h:aJ B O H (y::l) xs): ∃ x r,xs=x::r∧Rep B O H y x∧aJ B O H l r:=by
 cases xs with
 |nil=>have:=h.1;simp at this
 |cons x r=>exact⟨x,r,rfl,h.head,h.tail⟩
theorem aJ.at (h:aJ B O H l xs) {i:Nat} (e:l[i]?=some y): ∃ x,xs[i]?=some x∧Rep B O H y x:=by
 have hi:i < l.length:=(NY.mp e).1
 have hx:i < xs.length:=h.1▸hi
 exact⟨xs[i],NQ hx,h.2 i y _ e (NQ hx)⟩
theorem aJ.at' (h:aJ B O H l xs) {i:Nat} (e:xs[i]?=some x): ∃ y,l[i]?=some y∧Rep B O H y x:=by
 have hi:i < xs.length:=(NY.mp e).1
 have hx:i < l.length:=h.1▸hi
 exact⟨l[i],NQ hx,h.2 i _ x (NQ hx) e⟩
theorem aJ.append: ∀ {l:List PV} {xs:List V},aJ B O H l xs→aJ B O H l' xs'→aJ B O H (l++l') (xs++xs')
 |[],xs,h,t=>by rw[h.nil_inv];exact t
 |y::l,xs,h,t=>by
  obtain⟨x,r,rfl,h1,h2⟩:=h.cons_inv
  exact .cons h1 (aJ.append h2 t)
theorem aJ.drop: ∀ (k:Nat) {l:List PV} {xs:List V},aJ B O H l xs→aJ B O H (l.drop k) (xs.drop k)
 |0,_,_,h=>h
 |_+1,[],_,h=>by have e:=h.nil_inv;subst e;simpa using aJ.nil
 |k+1,y::l,xs,h=>by
  obtain⟨x,r,rfl,h1,h2⟩:=h.cons_inv
  exact aJ.drop k h2
theorem aJ.take: ∀ (k:Nat) {l:List PV} {xs:List V},aJ B O H l xs→aJ B O H (l.take k) (xs.take k)
 |0,_,_,h=>.nil
 |_+1,[],_,h=>by have e:=h.nil_inv;subst e;simpa using aJ.nil
 |k+1,y::l,xs,h=>by
  obtain⟨x,r,rfl,h1,h2⟩:=h.cons_inv
  exact .cons h1 (aJ.take k h2)
theorem aW.keep {l:List (Key×PV)} {ks:List (Key×V)} (h:aW B O H l ks) (hH: ∀ p o,¬ O p→H p=some o→H' p=some o∧¬ O' p):aW B O' H' l ks:=⟨h.1,fun i y x a b=>(h.2 i y x a b).keep hH⟩
theorem aW.ext {l:List (Key×PV)} {ks:List (Key×V)} (h:aW B O H l ks) (hB:O B) (e:Ext B H H'):aW B O H' l ks:=⟨h.1,fun i y x a b=>(h.2 i y x a b).ext hB e⟩
end
set_option genInjectivity false in
structure cM where
 K:Frag
 sp:Sp
 tabs:List (Addr×Str)
def JP:HO→Prop
 | .eF _ (.dK _)=>False
 | .eF _ _=>True
 |_=>False
def TabAt (H:Hp) (e:Addr×Str):Prop:= ∃ ps,H e.1=some (.mx ps)∧TriplesOk ps.toList∧∀ pos cv,codeAmong pos ps.toList=some cv→∃ c oc vs t,cv= .ref c∧H c=some (.eF oc (.own c))∧oc.data= .fields vs∧vs[1]?=some (.str e.2 t)
theorem TabAt.keep {H H':Hp} {e:Addr×Str} (h:TabAt H e) (k1: ∀ ps,H e.1=some (.mx ps)→H' e.1=some (.mx ps)) (k2: ∀ p ob u,H p=some (.eF ob (.own u))→H' p=some (.eF ob (.own u))):TabAt H' e:=by
 obtain⟨ps,h1,h2,h3⟩:=h
 refine⟨ps,k1 _ h1,h2,fun pos cv e1=>?_⟩
 obtain⟨c,oc,vs,t,rfl,g1,g2⟩:=h3 pos cv e1
 exact⟨c,oc,vs,t,rfl,k2 _ _ _ g1,g2⟩
set_option genInjectivity false in
structure Bg (φ:cM) where
 B:Addr
 bY:Addr→Prop
 ok:Hp→Nat→Prop
 pB:bY B
 keep: ∀ H H' n,(∀ p o,(bY p∨JP o)→H p=some o→H' p=some o)→ok H n→ok H' n
 tp: ∀ e∈φ.tabs,bY e.1
 tab: ∀ H n,ok H n→∀ e∈φ.tabs,TabAt H e
 vN: ∀ H H' n,ok H n→(∀ e∈φ.tabs,TabAt H' e)→(∀ p o,p∉φ.tabs.map (·.1)→H p=some o→H' p=some o)→ok H' n
 CZ: ∀ H n p,ok H n→bY p→∃ o,H p=some o
 dr: ∀ (H:Hp) (n:Nat) (m:Int) (Q:VK) (E:XK),ok H (n+1)→0 < m→m < 1073741824→(∀ (d:Int) (H':Hp),0≤d→d < m→Ext B H H'→ok H' n→Q (.int d) H')→φ.sp [.ref B,.int m] H Q E
variable {φ:cM}
inductive Ent where
 |un|val (y:PV)|own (l:List PV)|bp (kvs:List (Key×PV))
abbrev ae:=List Ent
def lT (G:Bg φ) (O:Addr→Prop) (H:Hp):Ent→Option V→Prop
 | .un,_=>True
 | .val y,o=> ∃ x,o=some x∧Rep G.B O H y x
 | .own l,o=> ∃ p xs,o=some (.ref p)∧O p∧¬ G.bY p∧H p=some (.lst xs)∧aJ G.B O H l xs
 | .bp l,o=> ∃ p ks,o=some (.ref p)∧O p∧¬ G.bY p∧H p=some (.dK ks)∧aW G.B O H l ks
def j7 (G:Bg φ) (O:Addr→Prop) (H:Hp) (σ:St) (ρ:ae):Prop:=σ.length=ρ.length∧∀ (i:Nat) (e:Ent),ρ[i]?=some e→lT G O H e ((σ[i]?).getD none)
set_option genInjectivity false in
structure ES (G:Bg φ) (O:Addr→Prop) (H:Hp) (σ:St) (ρ:ae) (n:Nat):Prop where
 er:j7 G O H σ ρ
 ok:G.ok H n
 pr: ∀ p,G.bY p→O p
 dm: ∀ p,O p→∃ o,H p=some o
theorem ES.B {G:Bg φ} {O:Addr→Prop} {H:Hp} {σ:St} {ρ:ae} {n:Nat} (s:ES G O H σ ρ n):O G.B:=s.pr _ G.pB
theorem lT.ext {G:Bg φ} {O:Addr→Prop} {H H':Hp} {e:Ent} {o:Option V} (h:lT G O H e o) (hB:O G.B) (x:Ext G.B H H'):lT G O H' e o:=by
 cases e with
 |un=>trivial
 |val y=>obtain⟨v,e,r⟩:=h;exact⟨v,e,r.ext hB x⟩
 |own l=>obtain⟨p,xs,e,hp,np,hl,r⟩:=h;exact⟨p,xs,e,hp,np,x p _ (fun z=>np (z▸G.pB)) hl,r.ext hB x⟩
 |bp l=>obtain⟨p,xs,e,hp,np,hl,r⟩:=h;exact⟨p,xs,e,hp,np,x p _ (fun z=>np (z▸G.pB)) hl,r.ext hB x⟩
theorem ES.ext {G:Bg φ} {O:Addr→Prop} {H H':Hp} {σ:St} {ρ:ae} {n n':Nat} (s:ES G O H σ ρ n) (x:Ext G.B H H') (ok:G.ok H' n'):ES G O H' σ ρ n' where
 er:=⟨s.er.1,fun i e h=>(s.er.2 i e h).ext s.B x⟩
 ok:=ok
 pr:=s.pr
 dm:=fun p h=>by
  by_cases e:p=G.B
  ·subst e;exact G.CZ _ _ _ ok G.pB
  ·obtain⟨o,q⟩:=s.dm p h;exact(x p o e q).there
theorem Bg.new {G:Bg φ} {H:Hp} {n:Nat} (ok:G.ok H n) {p:Addr} (h:H p=none) (o:HO):G.ok (upd H p o) n:=G.keep _ _ _ (fun q u _ e=>by rw[ag (aD e h)];exact e) ok
def lR (G:Bg φ) (O:Addr→Prop) (H:Hp) (R:PV→Nat→Prop) (Q:VK):Prop:= ∀ (y:PV) (x:V) (H':Hp) (n':Nat),Ext G.B H H'→G.ok H' n'→Rep G.B O H' y x→R y n'→Q x H'
def o4 (φ:cM) (m:ae→M PV):TE:=fun σ H Q=> ∃ (G:Bg φ) (O:Addr→Prop) (ρ:ae) (n:Nat) (R:PV→Nat→Prop),ES G O H σ ρ n∧(m ρ).wp n R∧lR G O H R Q
def EV (φ:cM) (X:Cx) (e:Expr) (m:ae→M PV):Prop:=BE X e (o4 φ m)
theorem BE.mono {X:Cx} {e:Expr} {t t':TE} (h:BE X e t) (f: ∀ σ H Q,t' σ H Q→t σ H Q):BE X e t':=⟨fun pZ s σ H Q I q=>h.out pZ s σ H Q I (f σ H Q q)⟩
inductive bE (G:Bg φ) (O:Addr→Prop) (H:Hp):PV→V→Prop where
 |full {y:PV} {x:V} (h:Rep G.B O H y x):bE G O H y x
 |top {p:Addr} {xs:List V} {l:List PV} (np: ¬ G.bY p) (h:H p=some (.lst xs)) (r:aJ G.B O H l xs):bE G O H (.lst l) (.ref p)
 |vO {p:Addr} {ks:List (Key×V)} {l:List (Key×PV)} (np: ¬ G.bY p) (h:H p=some (.dK ks)) (r:aW G.B O H l ks):bE G O H (.cL l) (.ref p)
theorem bE.ext {G:Bg φ} {O:Addr→Prop} {H H':Hp} {y:PV} {x:V} (h:bE G O H y x) (hB:O G.B) (e:Ext G.B H H'):bE G O H' y x:=by
 cases h with
 |full h=>exact .full (h.ext hB e)
 | @top p xs l np h r=>exact .top np (e p (.lst xs) (fun z=>np (z▸G.pB)) h) (r.ext hB e)
 | @vO p ks l np h r=>exact .vO np (e p (.dK ks) (fun z=>np (z▸G.pB)) h) (r.ext hB e)
def LY (G:Bg φ) (O:Addr→Prop) (H:Hp) (R:PV→Nat→Prop) (Q:VK):Prop:= ∀ (y:PV) (x:V) (H':Hp) (n':Nat),Ext G.B H H'→G.ok H' n'→bE G O H' y x→R y n'→Q x H'
def qT (φ:cM) (m:ae→M PV):TE:=fun σ H Q=> ∃ (G:Bg φ) (O:Addr→Prop) (ρ:ae) (n:Nat) (R:PV→Nat→Prop),ES G O H σ ρ n∧(m ρ).wp n R∧LY G O H R Q
def EB (φ:cM) (X:Cx) (e:Expr) (m:ae→M PV):Prop:=BE X e (qT φ m)
theorem EV.b {X:Cx} {e:Expr} {m:ae→M PV} (h:EV φ X e m):EB φ X e m:=BE.mono h fun σ H Q ⟨G,O,ρ,n,R,s,w,q⟩=>⟨G,O,ρ,n,R,s,w,fun y x H' n' a b c d=>q y x H' n' a b (.full c) d⟩
def LW (G:Bg φ) (H:Hp) (R:Bool→Nat→Prop) (Q:Bool→Hp→Prop):Prop:= ∀ (b:Bool) (H':Hp) (n':Nat),Ext G.B H H'→G.ok H' n'→R b n'→Q b H'
def xT (φ:cM) (m:ae→M Bool):TT:=fun σ H Q=> ∃ (G:Bg φ) (O:Addr→Prop) (ρ:ae) (n:Nat) (R:Bool→Nat→Prop),ES G O H σ ρ n∧(m ρ).wp n R∧LW G H R Q
def TV (φ:cM) (X:Cx) (e:Expr) (m:ae→M Bool):Prop:=BT X e (xT φ m)
def WV (φ:cM) (X:Cx) (e:Expr) (m:ae→M Bool):Prop:=BW X e (xT φ m)
def LZ (G:Bg φ) (O:Addr→Prop) (H:Hp) (R:List PV→Nat→Prop) (Q:List V→Hp→Prop):Prop:= ∀ (l:List PV) (xs:List V) (H':Hp) (n':Nat),Ext G.B H H'→G.ok H' n'→aJ G.B O H' l xs→R l n'→Q xs H'
def Mi (φ:cM) (m:ae→M (List PV)):TA:=fun σ H Q=> ∃ (G:Bg φ) (O:Addr→Prop) (ρ:ae) (n:Nat) (R:List PV→Nat→Prop),ES G O H σ ρ n∧(m ρ).wp n R∧LZ G O H R Q
def AV (φ:cM) (X:Cx) (es:List Expr) (m:ae→M (List PV)):Prop:=BA X es (Mi φ m)
def dU (G:Bg φ) (O:Addr→Prop) (H:Hp) (l:List PV) (xs:List V):Prop:=l.length=xs.length∧∀ (i:Nat) (y:PV) (x:V),l[i]?=some y→xs[i]?=some x→bE G O H y x
def JL (G:Bg φ) (O:Addr→Prop) (H:Hp) (R:List PV→Nat→Prop) (Q:List V→Hp→Prop):Prop:= ∀ (l:List PV) (xs:List V) (H':Hp) (n':Nat),Ext G.B H H'→G.ok H' n'→dU G O H' l xs→R l n'→Q xs H'
def J6 (φ:cM) (m:ae→M (List PV)):TA:=fun σ H Q=> ∃ (G:Bg φ) (O:Addr→Prop) (ρ:ae) (n:Nat) (R:List PV→Nat→Prop),ES G O H σ ρ n∧(m ρ).wp n R∧JL G O H R Q
def AB (φ:cM) (X:Cx) (es:List Expr) (m:ae→M (List PV)):Prop:=BA X es (J6 φ m)
def y1 (G:Bg φ) (O:Addr→Prop) (H:Hp) (R:List PV→Nat→Prop) (Q:VK):Prop:= ∀ (l:List PV) (p:Addr) (xs:List V) (H':Hp) (n':Nat),Ext G.B H H'→G.ok H' n'→H p=none→H' p=some (.lst xs)→aJ G.B (fun q=>O q∨q=p) H' l xs→R l n'→Q (.ref p) H'
def Gi (φ:cM) (m:ae→M (List PV)):TE:=fun σ H Q=> ∃ (G:Bg φ) (O:Addr→Prop) (ρ:ae) (n:Nat) (R:List PV→Nat→Prop),ES G O H σ ρ n∧(m ρ).wp n R∧y1 G O H R Q
def EF (φ:cM) (X:Cx) (e:Expr) (m:ae→M (List PV)):Prop:=BE X e (Gi φ m)
theorem EF.v {X:Cx} {e:Expr} {m:ae→M (List PV)} (h:EF φ X e m):EV φ X e (fun ρ=>(m ρ).bind fun l=>.ret (.lst l)):=BE.mono h fun σ H Q bt=>by
 obtain⟨G,O,ρ,n,R,s,w,q⟩:=bt
 rw[M.wZ] at w
 refine⟨G,O,ρ,n,_,s,w,fun l p xs H' n' a b c d e f=>q (.lst l) _ H' n' a b (.lst (fun z=>?_) d e.1 (e.less fun q z=>.inl z).2) f⟩
 obtain⟨o,g⟩:=s.dm p z
 rw[c] at g;cases g
end
open Ent (val un)
section
variable {φ:cM}
theorem dB:100000≤sizeLine:=by rw[Ox];decide
section
variable {G:Bg φ} {O:Addr→Prop} {H:Hp} {n:Nat} {R:PV→Nat→Prop} {Q:VK} {x x':V}
theorem lR.sc (w:lR G O H R Q) (ok:G.ok H n) {y:PV} (r:Rep G.B O H y x) (h:R y n):Q x H:=w y x H n (Ext.refl _ _) ok r h
theorem lR.tup (w:lR G O H R Q) (ok:G.ok H n) (dm: ∀ p,O p→∃ o,H p=some o) {p:Addr} (hp:H p=none) {l:List PV} {xs:List V} (hB:O G.B) (r:aJ G.B O H l xs) (h:R (.tup l) n):Q (.ref p) (upd H p (.tup xs)):=by
 have e:=Ext.new (B:=G.B) hp (.tup xs)
 refine w (.tup l) _ _ n e (Bg.new ok hp _) (.tup (fun z=>?_) ar r.1 (r.ext hB e).2) h
 obtain⟨o,g⟩:=dm p z
 rw[hp] at g;cases g
theorem lR.lst (w:lR G O H R Q) (ok:G.ok H n) (dm: ∀ p,O p→∃ o,H p=some o) {p:Addr} (hp:H p=none) {l:List PV} {xs:List V} (hB:O G.B) (r:aJ G.B O H l xs) (h:R (.lst l) n):Q (.ref p) (upd H p (.lst xs)):=by
 have e:=Ext.new (B:=G.B) hp (.lst xs)
 refine w (.lst l) _ _ n e (Bg.new ok hp _) (.lst (fun z=>?_) ar r.1 (r.ext hB e).2) h
 obtain⟨o,g⟩:=dm p z
 rw[hp] at g;cases g
theorem y1.mk {R:List PV→Nat→Prop} (w:y1 G O H R Q) (ok:G.ok H n) {p:Addr} (hp:H p=none) {l:List PV} {xs:List V} (hB:O G.B) (r:aJ G.B O H l xs) (h:R l n):Q (.ref p) (upd H p (.lst xs)):=by
 have e:=Ext.new (B:=G.B) hp (.lst xs)
 refine w l p xs _ n e (Bg.new ok hp _) hp ar ((r.grow fun q z=>?_).ext (.inl hB) e) h
 rcases z with z|z
 ·exact .inl z
 ·subst z;exact .inr hp
theorem Ba {H:Hp} {p:Addr} {a b:List (Key×V)} (h:Rd H p (.dK a)) (g:Rd H p (.dK b)):a=b:=by
 rcases h with h|⟨o,h⟩<;>rcases g with g|⟨o',g⟩<;>(rw[h] at g;cases g)<;>rfl
theorem bE.GA (h:bE G O H .aE x):x= .aE:=by cases h with|full h=>cases h;rfl
theorem bE.Np {b:Bool} (h:bE G O H (.bl b) x):x= .bl b:=by cases h with|full h=>cases h;rfl
theorem bE.bI {i:Int} (h:bE G O H (.int i) x):x= .int i:=by cases h with|full h=>cases h;rfl
theorem bE.fi {z:Str} (h:bE G O H (.str z) x):x= .str z:=by cases h with|full h=>cases h;rfl
theorem bE.il {l:List PV} (h:bE G O H (.tup l) x): ∃ p xs,x= .ref p∧H p=some (.tup xs)∧aJ G.B O H l xs:=by cases h with|full h=>cases h with|tup a b c d=>exact⟨_,_,rfl,b,c,d⟩
theorem bE.d9 {l:List PV} (h:bE G O H (.lst l) x): ∃ p xs,x= .ref p∧H p=some (.lst xs)∧aJ G.B O H l xs:=by
 cases h with
 |full h=>cases h with|lst a b c d=>exact⟨_,_,rfl,b,c,d⟩
 |top a b c=>exact⟨_,_,rfl,b,c⟩
theorem bE.yP {l:List (Key×PV)} (h:bE G O H (.cL l) x): ∃ p ks,x= .ref p∧Rd H p (.dK ks)∧aW G.B O H l ks:=by
 cases h with
 |full h=>cases h with|cL a b c d=>exact⟨_,_,rfl,b,c,d⟩
 |vO a b c=>exact⟨_,_,rfl,.inl b,c⟩
theorem bE.KR {ns:List Int} (h:bE G O H (.tD ns) x): ∃ p o,x= .ref p∧H p=some (.eF o (.lst (ns.map V.int))):=by cases h with|full h=>cases h with|tD a b=>obtain⟨o,b⟩:=b;exact⟨_,o,rfl,b⟩
theorem bE.low {y:PV} (h:bE G O H y x) (pr: ∀ p,G.bY p→O p):Rep G.B G.bY H y x:=by
 cases h with
 |full h=>exact h.less pr
 |top np h r=>exact .lst np h r.1 (r.less pr).2
 |vO np h r=>exact .cL np (.inl h) r.1 fun i y x a b=>(r.2 i y x a b).less pr
end
def aq (ρ:ae) (i:Nat):M PV:=match ρ[i]? with|some (.val y)=>.ret y|_=>.fail
def fF (ρ:ae) (i:Nat):M PV:=match ρ[i]? with|some (.val y)=>.ret y|some (.own l)=>.ret (.lst l)|some (.bp l)=>.ret (.cL l)|_=>.fail
section
variable {X:Cx} {a b c:Expr} {pos:Pos} {ma mb mc:ae→M PV}
theorem yK {e:Expr} {v:V} {y:PV} (h:BE X e (tC v)) (r: ∀ B O H,Rep B O H y v):EV φ X e (fun _=>.ret y):=BE.mono h fun σ H Q ⟨G,O,ρ,n,R,s,w,q⟩=>q.sc s.ok (r _ _ _) w
theorem jQ {i:Int} {j:Nat}:EV φ X (.Constant (.int i) j pos) (fun _=>.ret (.int i)):=yK ⟨aI⟩ fun _ _ _=>.int i
theorem LD {i:Bool} {j:Nat}:EV φ X (.Constant (.bool i) j pos) (fun _=>.ret (.bl i)):=yK ⟨Le⟩ fun _ _ _=>.bl i
theorem Jg {j:Nat}:EV φ X (.Constant .none j pos) (fun _=>.ret .aE):=yK ⟨HX⟩ fun _ _ _=>.aE
theorem Jf {x:Str} {j:Nat}:EV φ X (.Constant (.str x) j pos) (fun _=>.ret (.str x)):=yK ⟨HV⟩ fun _ _ _=>.str x
theorem dw {G:Bg φ} {O:Addr→Prop} {H:Hp} {σ:St} {ρ:ae} {i:Nat} {e:Ent} {x:V} (h:j7 G O H σ ρ) (he:ρ[i]?=some e) (hx:(σ[i]?).getD none=some x):σ[i]?=some (some x):=by
 cases q:σ[i]? with
 |none=>rw[q] at hx;cases hx
 |some o=>rw[q] at hx;cases o with
  |none=>cases hx
  |some z=>simp at hx;rw[hx]
theorem Fj {x:Str} (i:Nat) (h:BE X (.Name x pos) (mX i)):EV φ X (.Name x pos) (fun ρ=>aq ρ i):=BE.mono h fun σ H Q bt=>by
 obtain⟨G,O,ρ,n,R,s,w,q⟩:=bt
 replace w:(aq ρ i).wp n R:=w
 unfold aq at w
 cases e:ρ[i]? with
 |none=>rw[e] at w;exact w.elim
 |some t=>
  rw[e] at w
  cases t with
  |val y=>
   obtain⟨x,hx,r⟩:=s.er.2 i _ e
   exact⟨x,dw s.er e hx,q.sc s.ok r w⟩
  |_=>exact w.elim
theorem Fq {x:Str} (i:Nat) (h:BE X (.Name x pos) (mX i)):EB φ X (.Name x pos) (fun ρ=>fF ρ i):=BE.mono h fun σ H Q bt=>by
 obtain⟨G,O,ρ,n,R,s,w,q⟩:=bt
 replace w:(fF ρ i).wp n R:=w
 unfold fF at w
 cases e:ρ[i]? with
 |none=>rw[e] at w;exact w.elim
 |some t=>
  rw[e] at w
  cases t with
  |val y=>
   obtain⟨x,hx,r⟩:=s.er.2 i _ e
   exact⟨x,dw s.er e hx,q _ _ _ _ (Ext.refl _ _) s.ok (.full r) w⟩
  |own l=>
   obtain⟨p,xs,hx,_,np,hl,r⟩:=s.er.2 i _ e
   exact⟨_,dw s.er e hx,q _ _ _ _ (Ext.refl _ _) s.ok (.top np hl r) w⟩
  |bp l=>
   obtain⟨p,xs,hx,_,np,hl,r⟩:=s.er.2 i _ e
   exact⟨_,dw s.er e hx,q _ _ _ _ (Ext.refl _ _) s.ok (.vO np hl r) w⟩
  |un=>exact w.elim
def kT (r:R2) (op:PV→PV→M PV):Prop:= ∀ (φ:cM) (G:Bg φ) (O:Addr→Prop) (H:Hp) (n:Nat) (R:PV→Nat→Prop) (Q:VK) (y y':PV) (x x':V),
 (∀ p,G.bY p→O p)→(∀ p,O p→∃ o,H p=some o)→G.ok H n→bE G O H y x→bE G O H y' x'→(op y y').wp n R→lR G O H R Q→r x x' H Q
def ab (op:PV→PV→M PV) (ma mb:ae→M PV):ae→M PV:=fun ρ=>(ma ρ).bind fun x=>(mb ρ).bind fun y=>op x y
theorem two {r:R2} {op:PV→PV→M PV} (hv:kT r op): ∀ σ H Q,o4 φ (ab op ma mb) σ H Q→DR r (qT φ ma) (qT φ mb) σ H Q:=fun σ H Q bt=>by
 obtain⟨G,O,ρ,n,R,s,w,q⟩:=bt
 unfold ab at w
 rw[M.wZ] at w
 refine⟨G,O,ρ,n,_,s,w,fun y x H1 n1 e1 a9 r1 w1=>?_⟩
 rw[M.wZ] at w1
 refine⟨G,O,ρ,n1,_,s.ext e1 a9,w1,fun y' x' H2 n2 e2 nF r2 w2=>?_⟩
 exact hv φ G O H2 n2 R Q y y' x x' s.pr (s.ext (e1.trans e2) nF).dm nF (r1.ext s.B e2) r2 w2 fun y x H' n' e o r h=>q y x H' n' (e1.trans (e2.trans e)) o r h
theorem lH {o:Operator} {r:R2} {op:PV→PV→M PV} (ho:du X (binaryOp o) r) (hv:kT r op) (ha:EB φ X a ma) (hb:EB φ X b mb):EV φ X (.BinOp a o b pos) (ab op ma mb):=
 BE.mono ⟨bz ho ha.out hb.out⟩ (two hv)
theorem fG {o:CmpOp} {r:R2} {op:PV→PV→M PV} (ho:du X (compareOp o) r) (hv:kT r op) (ha:EB φ X a ma) (hb:EB φ X b mb) (hm:behindInMarks o b=false):EV φ X (.Compare a [o] [b] pos) (ab op ma mb):=
 BE.mono ⟨Ep ho ha.out hb.out hm⟩ (two hv)
theorem LA {r:R2} {op:PV→PV→M PV} (hr:DI X r) (hv:kT r op) (ha:EB φ X a ma) (hb:EB φ X b mb) (hs:tw b):EV φ X (.Subscript a b pos) (ab op ma mb):=
 BE.mono ⟨fN hr ha.out hb.out hs⟩ (two hv)
def aK (m:ae→M PV):ae→M Bool:=fun ρ=>(m ρ).bind fun y=>match y with| .bl b=>.ret b|_=>.fail
theorem tf {m:ae→M PV} {t:TE} (f: ∀ σ H Q,o4 φ m σ H Q→t σ H Q): ∀ σ H Q,xT φ (aK m) σ H Q→t σ H (fun x H1=> ∃ k,x= .bl k∧Q k H1):=fun σ H Q bt=>by
 obtain⟨G,O,ρ,n,R,s,w,q⟩:=bt
 unfold aK at w
 rw[M.wZ] at w
 refine f σ H _ ⟨G,O,ρ,n,_,s,w,fun y x H1 n1 e1 a9 r1 w1=>?_⟩
 cases y with
 |bl k=>cases r1;exact⟨k,rfl,q k H1 n1 e1 a9 w1⟩
 |_=>exact w1.elim
theorem BT.mono {e:Expr} {t t':TT} (h:BT X e t) (f: ∀ σ H Q,t' σ H Q→t σ H Q):BT X e t':=⟨fun pZ s σ H Q I q=>h.out pZ s σ H Q I (f σ H Q q)⟩
theorem BW.mono {e:Expr} {t t':TT} (h:BW X e t) (f: ∀ σ H Q,t' σ H Q→t σ H Q):BW X e t':=⟨fun w pZ s σ H Q I q=>h.out w pZ s σ H Q I (f σ H Q q)⟩
theorem dv {o:CmpOp} {r:R2} {op:PV→PV→M PV} (ho:du X (compareOp o) r) (hv:kT r op) (ha:EB φ X a ma) (hb:EB φ X b mb) (hm:behindInMarks o b=false):TV φ X (.Compare a [o] [b] pos) (aK (ab op ma mb)):=
 BT.mono ⟨mI ho ha.out hb.out hm⟩ (tf (two hv))
theorem Hh {e:Expr} {m:ae→M PV} (h:EV φ X e m) (he: ∀ whole,isTrue e X.env whole=(do let v ←whole;standAt e.pos;holding [v] (truthy v)):=by intro _;rfl):TV φ X e (aK m):=
 BT.mono ⟨HN h.out he⟩ (tf fun _ _ _ h=>h)
def pP (m:ae→M Bool):ae→M Bool:=fun ρ=>(m ρ).bind fun b=>.ret (!b)
theorem Hj {m:ae→M Bool} (h:TV φ X a m):TV φ X (.UnaryOp .Not a pos) (pP m):=BT.mono ⟨HP h.out⟩ fun σ H Q bt=>by
 obtain⟨G,O,ρ,n,R,s,w,q⟩:=bt
 unfold pP at w
 rw[M.wZ] at w
 exact⟨G,O,ρ,n,_,s,w,fun b H1 n1 e1 a9 w1=>q (!b) H1 n1 e1 a9 w1⟩
def fI (ma mb:ae→M Bool):ae→M Bool:=fun ρ=>(ma ρ).bind fun b=>if b=true then mb ρ else .ret false
def Ig (ma mb:ae→M Bool):ae→M Bool:=fun ρ=>(ma ρ).bind fun b=>if b=true then .ret true else mb ρ
theorem WV.t {e:Expr} {m:ae→M Bool} (h:WV φ X e m):TV φ X e m:=⟨PW.pt h.out⟩
theorem xM {m:ae→M Bool} (h:TV φ X a m):WV φ X (.BoolOp .And [a] pos) m:=⟨yd h.out⟩
theorem G9 {m:ae→M Bool} (h:TV φ X a m):WV φ X (.BoolOp .Or [a] pos) m:=⟨HM h.out⟩
theorem vI {rest:List Expr} {m m':ae→M Bool} (h:TV φ X a m) (h':WV φ X (.BoolOp .And (b::rest) pos) m'):WV φ X (.BoolOp .And (a::b::rest) pos) (fI m m'):=BW.mono ⟨Bf h.out h'.out⟩ fun σ H Q bt=>by
 obtain⟨G,O,ρ,n,R,s,w,q⟩:=bt
 unfold fI at w
 rw[M.wZ] at w
 refine⟨G,O,ρ,n,_,s,w,fun b H1 n1 e1 a9 w1=>?_⟩
 cases b with
 |true=>exact⟨G,O,ρ,n1,R,s.ext e1 a9,w1,fun b H' n' e o h=>q b H' n' (e1.trans e) o h⟩
 |false=>exact q false H1 n1 e1 a9 w1
theorem Ku {rest:List Expr} {m m':ae→M Bool} (h:TV φ X a m) (h':WV φ X (.BoolOp .Or (b::rest) pos) m'):WV φ X (.BoolOp .Or (a::b::rest) pos) (Ig m m'):=BW.mono ⟨K8 h.out h'.out⟩ fun σ H Q bt=>by
 obtain⟨G,O,ρ,n,R,s,w,q⟩:=bt
 unfold Ig at w
 rw[M.wZ] at w
 refine⟨G,O,ρ,n,_,s,w,fun b H1 n1 e1 a9 w1=>?_⟩
 cases b with
 |true=>exact q true H1 n1 e1 a9 w1
 |false=>exact⟨G,O,ρ,n1,R,s.ext e1 a9,w1,fun b H' n' e o h=>q b H' n' (e1.trans e) o h⟩
def fh (ma mb:ae→M PV):ae→M PV:=fun ρ=>(aK ma ρ).bind fun b=>if b=true then mb ρ else .ret (.bl false)
theorem JI {m:ae→M PV} {f:Bool→M PV} {σ:St} {H:Hp} {Q:VK} {G:Bg φ} {O:Addr→Prop} {ρ:ae} {n:Nat} {R:PV→Nat→Prop} {T:V→Hp→Prop} (s:ES G O H σ ρ n) (w:((aK m ρ).bind f).wp n R)
  (k: ∀ (b:Bool) (H1:Hp) (n1:Nat),Ext G.B H H1→G.ok H1 n1→(f b).wp n1 R→T (.bl b) H1):o4 φ m σ H T:=by
 rw[M.wZ] at w
 unfold aK at w
 rw[M.wZ] at w
 refine⟨G,O,ρ,n,_,s,w,fun y x H1 n1 e1 a9 r1 w1=>?_⟩
 cases y with
 |bl b=>cases r1;exact k b H1 n1 e1 a9 w1
 |_=>exact w1.elim
theorem CK {op:BoolOp} (ha:EV φ X a ma):EV φ X (.BoolOp op [a] pos) ma:=⟨HW ha.out⟩
theorem CM {rest:List Expr} (ha:EV φ X a ma) (hb:EV φ X (.BoolOp .And (b::rest) pos) mb):EV φ X (.BoolOp .And (a::b::rest) pos) (fh ma mb):=BE.mono ⟨HZ ha.out hb.out⟩ fun σ H Q ⟨G,O,ρ,n,R,s,w,q⟩=>
 JI (Q:=Q) s w fun b H1 n1 e1 a9 w1=>⟨b,rfl,by
  cases b with
  |true=>exact⟨G,O,ρ,n1,R,s.ext e1 a9,w1,fun y x H' n' e o r h=>q y x H' n' (e1.trans e) o r h⟩
  |false=>exact q _ _ _ _ e1 a9 (.bl _) w1⟩
def o6 (mc:ae→M Bool) (ma mb:ae→M PV):ae→M PV:=fun ρ=>(mc ρ).bind fun b=>if b=true then ma ρ else mb ρ
theorem LB {t:ae→M Bool} (hc:TV φ X c t) (ha:EV φ X a ma) (hb:EV φ X b mb):EV φ X (.IfExp c a b pos) (o6 t ma mb):=BE.mono ⟨Bz hc.out ha.out hb.out⟩ fun σ H Q bt=>by
 obtain⟨G,O,ρ,n,R,s,w,q⟩:=bt
 unfold o6 at w
 rw[M.wZ] at w
 refine⟨G,O,ρ,n,_,s,w,fun b H1 n1 e1 a9 w1=>?_⟩
 cases b with
 |true=>exact⟨G,O,ρ,n1,R,s.ext e1 a9,w1,fun y x H' n' e o r h=>q y x H' n' (e1.trans e) o r h⟩
 |false=>exact⟨G,O,ρ,n1,R,s.ext e1 a9,w1,fun y x H' n' e o r h=>q y x H' n' (e1.trans e) o r h⟩
def chain (op op':PV→PV→M PV) (ma mb mc:ae→M PV):ae→M PV:=fun ρ=>(ma ρ).bind fun x=>(mb ρ).bind fun y=>(op x y).bind fun z=>match z with
 | .bl true=>(mc ρ).bind fun u=>op' y u
 | .bl false=>.ret (.bl false)
 |_=>.fail
theorem vd {r r':R2} {op op':PV→PV→M PV} (hv:kT r op) (hv':kT r' op'): ∀ σ H Q,o4 φ (chain op op' ma mb mc) σ H Q→vR r r' (qT φ ma) (qT φ mb) (qT φ mc) σ H Q:=fun σ H Q bt=>by
 obtain⟨G,O,ρ,n,R,s,w,q⟩:=bt
 unfold chain at w
 rw[M.wZ] at w
 refine⟨G,O,ρ,n,_,s,w,fun y x H1 n1 e1 a9 r1 w1=>?_⟩
 rw[M.wZ] at w1
 refine⟨G,O,ρ,n1,_,s.ext e1 a9,w1,fun y' x' H2 n2 e2 nF r2 w2=>?_⟩
 rw[M.wZ] at w2
 refine hv φ G O H2 n2 _ _ y y' x x' s.pr (s.ext (e1.trans e2) nF).dm nF (r1.ext s.B e2) r2 w2 fun z u H3 n3 e3 ok3 r3 w3=>?_
 cases z with
 |bl k=>
  cases r3
  refine⟨k,rfl,?_⟩
  cases k with
  |true=>
   show qT φ mc σ H3 _
   rw[M.wZ] at w3
   refine⟨G,O,ρ,n3,_,s.ext (e1.trans (e2.trans e3)) ok3,w3,fun y4 x4 H4 n4 e4 ok4 r4 w4=>?_⟩
   exact hv' φ G O H4 n4 R Q y' y4 x' x4 s.pr (s.ext (e1.trans (e2.trans (e3.trans e4))) ok4).dm ok4 (r2.ext s.B (e3.trans e4)) r4 w4 fun y x H' n' e o r h=>q y x H' n' (e1.trans (e2.trans (e3.trans (e4.trans e)))) o r h
  |false=>exact q _ _ _ _ (e1.trans (e2.trans e3)) ok3 (.bl _) w3
 |_=>exact w3.elim
theorem uQ {o o':CmpOp} {r r':R2} {op op':PV→PV→M PV} (ho:du X (compareOp o) r) (hv:kT r op) (ho':du X (compareOp o') r') (hv':kT r' op') (ha:EB φ X a ma) (hb:EB φ X b mb) (hc:EB φ X c mc) (hm:lastMarks [o,o'] [b,c]=false:=by with_unfolding_all rfl):EV φ X (.Compare a [o,o'] [b,c] pos) (chain op op' ma mb mc):=
 BE.mono ⟨BC ho ho' ha.out hb.out hc.out hm⟩ (vd hv hv')
theorem tI {o o':CmpOp} {r r':R2} {op op':PV→PV→M PV} (ho:du X (compareOp o) r) (hv:kT r op) (ho':du X (compareOp o') r') (hv':kT r' op') (ha:EB φ X a ma) (hb:EB φ X b mb) (hc:EB φ X c mc) (hm:lastMarks [o,o'] [b,c]=false:=by with_unfolding_all rfl):TV φ X (.Compare a [o,o'] [b,c] pos) (aK (chain op op' ma mb mc)):=
 BT.mono ⟨Bj ho ho' ha.out hb.out hc.out hm⟩ (tf (vd hv hv'))
end
end
section
variable {φ:cM}
def toV:PV→V
 | .aE=>.aE
 | .bl b=>.bl b
 | .int i=>.int i
 | .str x=>.str x
 |_=>.ty ""
def aQ (y:PV):Bool:=cE (toV y)
theorem eR {B:Addr} {O:Addr→Prop} {H:Hp} {y:PV} {x:V} (h:Rep B O H y x) (f:aQ y=true):x=toV y:=by
 cases h<;>first|rfl|(exact absurd f (by decide))|(simp[aQ,toV,cE] at f)
theorem qE {G:Bg φ} {O:Addr→Prop} {H:Hp} {y:PV} {x:V} (h:bE G O H y x) (f:aQ y=true):x=toV y:=by
 cases h with
 |full h=>exact eR h f
 |_=>simp[aQ,toV,cE] at f
def eqs (f:PV→PV→Option Bool):List PV→List PV→Option Bool
 |[],[]=>some true
 |[],_::_=>some false
 |_::_,[]=>some false
 |a::r,b::t=>(f a b).bind fun x=>(eqs f r t).bind fun y=>some (x&&y)
def wV:Nat→PV→PV→Option Bool
 |k+1,.lst a,.lst b=>eqs (wV k) a b
 |k+1,.tup a,.tup b=>eqs (wV k) a b
 |_+1,.lst _,.tup _=>some false
 |_+1,.tup _,.lst _=>some false
 |_+1,.lst _,y=>if aQ y then some false else none
 |_+1,.tup _,y=>if aQ y then some false else none
 |_+1,y,.lst _=>if aQ y then some false else none
 |_+1,y,.tup _=>if aQ y then some false else none
 |_,y,z=>if aQ y&&aQ z then some (tF (toV y) (toV z)) else none
theorem oq {f:PV→PV→Option Bool}: ∀ {a b:List PV} {c:Bool},eqs f a b=some c→∃ e:Nat→Bool,(∀ j y z,a[j]?=some y→b[j]?=some z→f y z=some (e j))∧c=((List.range (min a.length b.length)).all e&&a.length==b.length)
 |[],[],c,h=>⟨fun _=>true,fun j y z e=>by simp at e,by simp[eqs] at h;simp[h]⟩
 |[],_::_,c,h=>⟨fun _=>true,fun j y z e=>by simp at e,by simp[eqs] at h;simp[h]⟩
 |_::_,[],c,h=>⟨fun _=>true,fun j y z _ e=>by simp at e,by simp[eqs] at h;simp[h]⟩
 |y::r,z::t,c,h=>by
  simp only[eqs] at h
  cases h1:f y z with
  |none=>rw[h1] at h;simp at h
  |some x=>
   rw[h1] at h
   simp only[Option.bind_some] at h
   cases h2:eqs f r t with
   |none=>rw[h2] at h;simp at h
   |some w=>
    rw[h2] at h
    simp only[Option.bind_some,Option.some.injEq] at h
    obtain⟨e,he,hw⟩:=oq h2
    refine⟨fun j=>match j with|0=>x|j+1=>e j,fun j y' z' a b=>?_,?_⟩
    ·cases j with
     |zero=>simp at a b;subst a b;exact h1
     |succ j=>simp at a b;exact he j y' z' a b
    ·have e0:min (y::r).length (z::t).length=min r.length t.length+1:=by simp only[N5];lia
     rw[e0,List.range_succ_eq_map,List.all_cons,List.all_map,←h,hw]
     simp only[N5,Function.comp_def,Bool.and_assoc]
     congr 2
     rw[Bool.eq_iff_iff];simp
theorem sv {α β:Type} {l l':List α} {xs:List β} (h1:l.length=xs.length) (h2:l'.length=xs.length) (hh: ∀ (i:Nat) (y y':α) (x:β),l[i]?=some y→l'[i]?=some y'→xs[i]?=some x→y=y'):l=l':=by
 apply List.ext_getElem (h1.trans h2.symm)
 intro i a b
 exact hh i _ _ _ (NQ a) (NQ b) (NQ (h1▸a))
theorem yE: ∀ {a b:List Int},a.map V.int=b.map V.int→a=b
 |[],[],_=>rfl
 |[],_::_,h=>by simp at h
 |_::_,[],h=>by simp at h
 |x::a,y::b,h=>by
  simp only[N1,List.cons.injEq,V.int.injEq] at h
  rw[h.1,yE h.2]
theorem Rep.uniq {B:Addr} {O:Addr→Prop} {H:Hp} (hB:O B) {y:PV} {x:V} (h:Rep B O H y x): ∀ {y':PV},Rep B O H y' x→y=y':=by
 induction h with
 |aE=>intro y' h;cases h;rfl
 |bl b=>intro y' h;cases h;rfl
 |int i=>intro y' h;cases h;rfl
 |str x=>intro y' h;cases h;rfl
 |tup hO h hl hr ih=>
  intro y' g
  cases g with
  |tup gO g gl gr=>
   rw[h] at g;cases g
   congr 1
   exact sv hl gl fun i y y' x a b c=>ih i y x a c (gr i y' x b c)
  |lst gO g gl gr=>rw[h] at g;cases g
  |cL gO g gl gr=>rcases g with g|⟨o',g⟩<;>(rw[h] at g;cases g)
  |tD gO g=>obtain⟨o,g⟩:=g;rw[h] at g;cases g
  |br=>exact absurd hB hO
 |lst hO h hl hr ih=>
  intro y' g
  cases g with
  |lst gO g gl gr=>
   rw[h] at g;cases g
   congr 1
   exact sv hl gl fun i y y' x a b c=>ih i y x a c (gr i y' x b c)
  |tup gO g gl gr=>rw[h] at g;cases g
  |cL gO g gl gr=>rcases g with g|⟨o',g⟩<;>(rw[h] at g;cases g)
  |tD gO g=>obtain⟨o,g⟩:=g;rw[h] at g;cases g
  |br=>exact absurd hB hO
 |cL hO h hl hr ih=>
  intro y' g
  cases g with
  |cL gO g gl gr=>
   obtain rfl:=Ba h g
   congr 1
   refine sv (by simpa using congrArg List.length hl) (by simpa using congrArg List.length gl) fun i y y' x a b c=>?_
   have k1:y.1=x.1:=by
    have:=congrArg (·[i]?) hl
    simp only[Oc,a,c] at this
    simpa using this
   have k2:y'.1=x.1:=by
    have:=congrArg (·[i]?) gl
    simp only[Oc,b,c] at this
    simpa using this
   exact Prod.ext (k1.trans k2.symm) (ih i y x a c (gr i y' x b c))
  |tup gO g gl gr=>rcases h with h|⟨o',h⟩<;>(rw[h] at g;cases g)
  |lst gO g gl gr=>rcases h with h|⟨o',h⟩<;>(rw[h] at g;cases g)
  |tD gO g=>obtain⟨o,g⟩:=g;rcases h with h|⟨o',h⟩<;>(rw[h] at g;cases g)
  |br=>exact absurd hB hO
 |tD hO h=>
  intro y' g
  obtain⟨o,h⟩:=h
  cases g with
  |tD gO g=>
   obtain⟨o',g⟩:=g
   rw[h] at g
   injection g with g;injection g with g1 g2;injection g2 with g2
   congr 1
   exact yE g2
  |tup gO g gl gr=>rw[h] at g;cases g
  |lst gO g gl gr=>rw[h] at g;cases g
  |cL gO g gl gr=>rcases g with g|⟨o',g⟩<;>(rw[h] at g;cases g)
  |br=>exact absurd hB hO
 |br=>
  intro y' g
  cases g with
  |br=>rfl
  |tup gO g gl gr=>exact absurd hB gO
  |lst gO g gl gr=>exact absurd hB gO
  |cL gO g gl gr=>exact absurd hB gO
  |tD gO g=>exact absurd hB gO
theorem oo {f:PV→PV→Option Bool} (hf: ∀ y c,f y y=some c→c=true): ∀ {a:List PV} {c:Bool},eqs f a a=some c→c=true
 |[],c,h=>by simp[eqs] at h;exact h
 |y::r,c,h=>by
  simp only[eqs] at h
  cases h1:f y y with
  |none=>rw[h1] at h;simp at h
  |some x=>
   rw[h1] at h
   simp only[Option.bind_some] at h
   cases h2:eqs f r r with
   |none=>rw[h2] at h;simp at h
   |some w=>
    rw[h2] at h
    simp only[Option.bind_some,Option.some.injEq] at h
    rw[←h,hf _ _ h1,oo hf h2];rfl
theorem ou {k:Nat} {y z:PV} (h1:aQ y=true) (h2:aQ z=true):wV k y z=some (tF (toV y) (toV z)):=by
 cases k<;>cases y<;>cases z<;>first|rfl|(simp[aQ,toV,cE] at h1;done)|(simp[aQ,toV,cE] at h2;done)
theorem uS: ∀ (k:Nat) (y:PV) (c:Bool),wV k y y=some c→c=true:=by
 intro k
 induction k with
 |zero=>
  intro y c h
  cases y<;>simp[wV,aQ,toV,cE,tF] at h<;>(try exact h)<;>(try exact h.symm)
 |succ k ih=>
  intro y c h
  cases y with
  |lst a=>exact oo ih h
  |tup a=>exact oo ih h
  |_=>simp[wV,aQ,toV,cE,tF] at h<;>(try exact h)<;>(try exact h.symm)
section
variable {X:Cx} {pZ:List (Addr×Obj)} {σ:St} {H:Hp} {s:Shared} {B:Addr} {O:Addr→Prop}
theorem qF {A:Around} {y z:PV} {x x':V} {u v:Value} (h1:aQ y=true) (h2:aQ z=true) (r1:Rep B O H y x) (r2:Rep B O H z x') (q1:RelV x u) (q2:RelV x' v):SeqAt.EqAt A s u v (tF (toV y) (toV z)):=by
 rw[eR r1 h1] at q1
 rw[eR r2 h2] at q2
 exact CP q1 q2 h1 h2
theorem GL (I:Inv X pZ σ H s) (hB:O B): ∀ (k:Nat) (A:Around) (y z:PV) (x x':V) (u v:Value) (c:Bool),Rep B O H y x→Rep B O H z x'→RelV x u→RelV x' v→wV k y z=some c→A.units+k < cLine→SeqAt.EqAt A s u v c:=by
 intro k
 induction k with
 |zero=>
  intro A y z x x' u v c r1 r2 q1 q2 e hu
  have f:aQ y=true∧aQ z=true:=by
   unfold wV at e
   by_cases h:(aQ y&&aQ z)=true
   ·simpa using h
   ·cases y<;>cases z<;>simp_all [aQ,toV,cE]
  rw[ou f.1 f.2] at e
  cases e
  exact qF f.1 f.2 r1 r2 q1 q2
 |succ k ih=>
  intro A y z x x' u v c r1 r2 q1 q2 e hu
  have cH:A.units < cLine:=by lia
  have hu1:A.in1.units+k < cLine:=by show A.units+1+k < cLine;lia
  by_cases f:aQ y=true∧aQ z=true
  ·rw[ou f.1 f.2] at e
   cases e
   exact qF f.1 f.2 r1 r2 q1 q2
  cases r1 with
  | @lst p xs l hO h hl hr=>
   cases q1
   obtain⟨ay,v1,p1,_⟩:=I.list (bM.of (K:=X.K) h)
   cases r2 with
   | @lst p' xs' l' hO' h' hl' hr'=>
    cases q2
    by_cases pe:p=p'
    ·subst pe
     have e1:=Rep.uniq hB (.lst hO h hl hr) (.lst hO' h' hl' hr')
     rw[e1] at e
     rw[uS _ _ _ e]
     exact .same _
    ·obtain⟨ba,v2,p2,_⟩:=I.list (bM.of (K:=X.K) h')
     obtain⟨g,hg,hc⟩:=oq e
     refine .of_refs pe ?_
     have e1:ay.toArray.size=l.length:=by rw[NX,←v1.length,hl]
     have e2:ba.toArray.size=l'.length:=by rw[NX,←v2.length,hl']
     by_cases hs:l.length=l'.length
     ·have hh:=SeqAt.RcAt.lists (A:=A) (e:=g) p1.isList p2.isList (by rw[e1,e2,hs]) cH (fun j h1 h2=>?_)
      ·rw[hc,←hs,Nat.min_self,beq_self_eq_true,Bool.and_true,←e1];exact hh
      ·have j1:j < l.length:=e1▸h1
       have j2:j < l'.length:=e2▸h2
       obtain⟨u1,a1,a2⟩:=v1.get (i:=j) (x:=xs[j]) (NQ _)
       obtain⟨u2,b1,b2⟩:=v2.get (i:=j) (x:=xs'[j]) (NQ _)
       have a3:ay.toArray[j]=u1:=by
        have:=(NY.mp a1).2
        simpa using this
       have b3:ba.toArray[j]=u2:=by
        have:=(NY.mp b1).2
        simpa using this
       rw[a3,b3]
       exact ih A.in1 l[j] l'[j] _ _ _ _ _ (hr j _ _ (NQ j1) (NQ _)) (hr' j _ _ (NQ j2) (NQ _)) a2 b2 (hg j _ _ (NQ j1) (NQ j2)) hu1
     ·have:c=false:=by rw[hc];simp[hs]
      rw[this]
      exact SeqAt.RcAt.lists_lengths p1.isList p2.isList (by rw[e1,e2];simpa using hs) cH
   | @tup p' xs' l' hO' h' hl' hr'=>
    cases q2
    obtain⟨ba,v2,p2,_⟩:=I.tuple (cN.of (K:=X.K) h')
    cases e
    exact .list_tuple p1.isList p2 cH
   |aE=>cases q2;cases e;exact .list_none p1.isList cH
   |bl b=>cases q2;cases e;exact .list_bool b p1.isList cH
   |int b=>obtain⟨t,rfl⟩:=q2;cases e;exact .list_int b t p1.isList cH
   |str b=>obtain⟨t,rfl⟩:=q2;cases e;exact .list_str b t p1.isList cH
   |_=>cases e
  | @tup p xs l hO h hl hr=>
   cases q1
   obtain⟨ay,v1,p1,_⟩:=I.tuple (cN.of (K:=X.K) h)
   cases r2 with
   | @tup p' xs' l' hO' h' hl' hr'=>
    cases q2
    by_cases pe:p=p'
    ·subst pe
     have e1:=Rep.uniq hB (.tup hO h hl hr) (.tup hO' h' hl' hr')
     rw[e1] at e
     rw[uS _ _ _ e]
     exact .same _
    ·obtain⟨ba,v2,p2,_⟩:=I.tuple (cN.of (K:=X.K) h')
     obtain⟨g,hg,hc⟩:=oq e
     refine .of_refs pe ?_
     have e1:ay.toArray.size=l.length:=by rw[NX,←v1.length,hl]
     have e2:ba.toArray.size=l'.length:=by rw[NX,←v2.length,hl']
     have hh:=SeqAt.RcAt.tuples (A:=A) (e:=g) p1 p2 cH (fun j h1 h2=>?_)
     ·rw[hc,←e1,←e2];exact hh
     ·have j1:j < l.length:=e1▸h1
      have j2:j < l'.length:=e2▸h2
      obtain⟨u1,a1,a2⟩:=v1.get (i:=j) (x:=xs[j]) (NQ _)
      obtain⟨u2,b1,b2⟩:=v2.get (i:=j) (x:=xs'[j]) (NQ _)
      have a3:ay.toArray[j]=u1:=by
       have:=(NY.mp a1).2
       simpa using this
      have b3:ba.toArray[j]=u2:=by
       have:=(NY.mp b1).2
       simpa using this
      rw[a3,b3]
      exact ih A.in1 l[j] l'[j] _ _ _ _ _ (hr j _ _ (NQ j1) (NQ _)) (hr' j _ _ (NQ j2) (NQ _)) a2 b2 (hg j _ _ (NQ j1) (NQ j2)) hu1
   | @lst p' xs' l' hO' h' hl' hr'=>
    cases q2
    obtain⟨ba,v2,p2,_⟩:=I.list (bM.of (K:=X.K) h')
    cases e
    exact .tuple_list p1 p2.isList cH
   |aE=>cases q2;cases e;exact .tuple_none p1 cH
   |bl b=>cases q2;cases e;exact .tuple_bool b p1 cH
   |int b=>obtain⟨t,rfl⟩:=q2;cases e;exact .tuple_int b t p1 cH
   |str b=>obtain⟨t,rfl⟩:=q2;cases e;exact .tuple_str b t p1 cH
   |_=>cases e
  |aE=>
   cases r2 with
   |lst a h' b c=>cases q1;cases q2;obtain⟨ba,v2,p2,_⟩:=I.list (bM.of (K:=X.K) h');cases e;exact .none_list p2.isList cH
   |tup a h' b c=>cases q1;cases q2;obtain⟨ba,v2,p2,_⟩:=I.tuple (cN.of (K:=X.K) h');cases e;exact .none_tuple p2 cH
   |_=>first|exact absurd ⟨rfl,rfl⟩ f|cases e
  |bl b=>
   cases r2 with
   |lst a h' _ c=>cases q1;cases q2;obtain⟨ba,v2,p2,_⟩:=I.list (bM.of (K:=X.K) h');cases e;exact .bool_list b p2.isList cH
   |tup a h' _ c=>cases q1;cases q2;obtain⟨ba,v2,p2,_⟩:=I.tuple (cN.of (K:=X.K) h');cases e;exact .bool_tuple b p2 cH
   |_=>first|exact absurd ⟨rfl,rfl⟩ f|cases e
  |int b=>
   cases r2 with
   |lst a h' _ c=>obtain⟨t,rfl⟩:=q1;cases q2;obtain⟨ba,v2,p2,_⟩:=I.list (bM.of (K:=X.K) h');cases e;exact .int_list b t p2.isList cH
   |tup a h' _ c=>obtain⟨t,rfl⟩:=q1;cases q2;obtain⟨ba,v2,p2,_⟩:=I.tuple (cN.of (K:=X.K) h');cases e;exact .int_tuple b t p2 cH
   |_=>first|exact absurd ⟨rfl,rfl⟩ f|cases e
  |str b=>
   cases r2 with
   |lst a h' _ c=>obtain⟨t,rfl⟩:=q1;cases q2;obtain⟨ba,v2,p2,_⟩:=I.list (bM.of (K:=X.K) h');cases e;exact .str_list b t p2.isList cH
   |tup a h' _ c=>obtain⟨t,rfl⟩:=q1;cases q2;obtain⟨ba,v2,p2,_⟩:=I.tuple (cN.of (K:=X.K) h');cases e;exact .str_tuple b t p2 cH
   |_=>first|exact absurd ⟨rfl,rfl⟩ f|cases e
  |_=>cases z<;>cases e
end
end
section
variable {φ:cM}
section
variable {X:Cx}
theorem Eb {A:Around} {s:Shared} {y z:V} {u v:Value} (f1:cE y=true) (f2:cE z=true) (q1:RelV y u) (q2:RelV z v):SeqAt.RcAt A s u v (tF y z)∧SeqAt.RcNeAt A s u v (!tF y z):=by
 cases y with
 |aE=>
  cases q1
  cases z with
  |aE=>cases q2;exact⟨.none_none,.none_none⟩
  |bl b=>cases q2;exact⟨.none_bool b,.none_bool b⟩
  |int b=>obtain⟨t,rfl⟩:=q2;exact⟨.none_int b t,.none_int b t⟩
  |str b=>obtain⟨t,rfl⟩:=q2;exact⟨.none_str b t,.none_str b t⟩
  |_=>cases f2
 |bl a=>
  cases q1
  cases z with
  |aE=>cases q2;exact⟨.bool_none a,.bool_none a⟩
  |bl b=>cases q2;exact⟨.bool_bool a b,.bool_bool a b⟩
  |int b=>obtain⟨t,rfl⟩:=q2;exact⟨.bool_int a b t,.bool_int a b t⟩
  |str b=>obtain⟨t,rfl⟩:=q2;exact⟨.bool_str a b t,.bool_str a b t⟩
  |_=>cases f2
 |int a=>
  obtain⟨t',rfl⟩:=q1
  cases z with
  |aE=>cases q2;exact⟨.int_none a t',.int_none a t'⟩
  |bl b=>cases q2;exact⟨.int_bool a t' b,.int_bool a t' b⟩
  |int b=>obtain⟨t,rfl⟩:=q2;exact⟨.int_int a t' b t,.int_int a t' b t⟩
  |str b=>obtain⟨t,rfl⟩:=q2;exact⟨.int_str a t' b t,.int_str a t' b t⟩
  |_=>cases f2
 |str a=>
  obtain⟨t',rfl⟩:=q1
  cases z with
  |aE=>cases q2;exact⟨.str_none a t',.str_none a t'⟩
  |bl b=>cases q2;exact⟨.str_bool a t' b,.str_bool a t' b⟩
  |int b=>obtain⟨t,rfl⟩:=q2;exact⟨.str_int a t' b t,.str_int a t' b t⟩
  |str b=>obtain⟨t,rfl⟩:=q2;exact⟨.str_str a t' b t,.str_str a t' b t⟩
  |_=>cases f2
 |_=>cases f1
theorem Gq {pZ:List (Addr×Obj)} {σ:St} {H:Hp} {s:Shared} {B:Addr} {O:Addr→Prop} (I:Inv X pZ σ H s) (hB:O B) (k:Nat) (A:Around) (y z:PV) (x x':V) (u v:Value) (c:Bool)
  (r1:Rep B O H y x) (r2:Rep B O H z x') (q1:RelV x u) (q2:RelV x' v) (e:wV (k+1) y z=some c) (hu:A.units+(k+1) < cLine):SeqAt.RcAt A s u v c∧SeqAt.RcNeAt A s u v (!c):=by
 have cH:A.units < cLine:=by lia
 have hu1:A.in1.units+k < cLine:=by show A.units+1+k < cLine;lia
 by_cases f:aQ y=true∧aQ z=true
 ·rw[ou f.1 f.2] at e
  cases e
  rw[eR r1 f.1] at q1
  rw[eR r2 f.2] at q2
  exact Eb f.1 f.2 q1 q2
 cases r1 with
 | @lst p xs l hO h hl hr=>
  cases q1
  obtain⟨ay,v1,p1,_⟩:=I.list (bM.of (K:=X.K) h)
  cases r2 with
  | @lst p' xs' l' hO' h' hl' hr'=>
   cases q2
   obtain⟨ba,v2,p2,_⟩:=I.list (bM.of (K:=X.K) h')
   obtain⟨g,hg,hc⟩:=oq e
   have e1:ay.toArray.size=l.length:=by rw[NX,←v1.length,hl]
   have e2:ba.toArray.size=l'.length:=by rw[NX,←v2.length,hl']
   by_cases hs:l.length=l'.length
   ·have he: ∀ j (h1:j < ay.toArray.size) (h2:j < ba.toArray.size),SeqAt.EqAt A.in1 s ay.toArray[j] ba.toArray[j] (g j):=fun j h1 h2=>by
     have j1:j < l.length:=e1▸h1
     have j2:j < l'.length:=e2▸h2
     obtain⟨u1,a1,a2⟩:=v1.get (i:=j) (x:=xs[j]) (NQ _)
     obtain⟨u2,b1,b2⟩:=v2.get (i:=j) (x:=xs'[j]) (NQ _)
     have a3:ay.toArray[j]=u1:=by
      have:=(NY.mp a1).2
      simpa using this
     have b3:ba.toArray[j]=u2:=by
      have:=(NY.mp b1).2
      simpa using this
     rw[a3,b3]
     exact GL I hB k A.in1 l[j] l'[j] _ _ _ _ _ (hr j _ _ (NQ j1) (NQ _)) (hr' j _ _ (NQ j2) (NQ _)) a2 b2 (hg j _ _ (NQ j1) (NQ j2)) hu1
    have h1:=SeqAt.RcAt.lists (A:=A) (e:=g) p1.isList p2.isList (by rw[e1,e2,hs]) cH he
    have h2:=SeqAt.RcNeAt.lists (A:=A) (e:=g) p1.isList p2.isList (by rw[e1,e2,hs]) cH he
    rw[hc,←hs,Nat.min_self,beq_self_eq_true,Bool.and_true,←e1];exact⟨h1,h2⟩
   ·have:c=false:=by rw[hc];simp[hs]
    rw[this]
    exact⟨SeqAt.RcAt.lists_lengths p1.isList p2.isList (by rw[e1,e2];simpa using hs) cH,SeqAt.RcNeAt.lists_lengths p1.isList p2.isList (by rw[e1,e2];simpa using hs) cH⟩
  | @tup p' xs' l' hO' h' hl' hr'=>
   cases q2
   obtain⟨ba,v2,p2,_⟩:=I.tuple (cN.of (K:=X.K) h')
   cases e
   exact⟨.list_tuple p1.isList p2 cH,.list_tuple p1.isList p2 cH⟩
  |aE=>cases q2;cases e;exact⟨.list_none p1.isList cH,.list_none p1.isList cH⟩
  |bl b=>cases q2;cases e;exact⟨.list_bool b p1.isList cH,.list_bool b p1.isList cH⟩
  |int b=>obtain⟨t,rfl⟩:=q2;cases e;exact⟨.list_int b t p1.isList cH,.list_int b t p1.isList cH⟩
  |str b=>obtain⟨t,rfl⟩:=q2;cases e;exact⟨.list_str b t p1.isList cH,.list_str b t p1.isList cH⟩
  |_=>cases e
 | @tup p xs l hO h hl hr=>
  cases q1
  obtain⟨ay,v1,p1,_⟩:=I.tuple (cN.of (K:=X.K) h)
  cases r2 with
  | @tup p' xs' l' hO' h' hl' hr'=>
   cases q2
   obtain⟨ba,v2,p2,_⟩:=I.tuple (cN.of (K:=X.K) h')
   obtain⟨g,hg,hc⟩:=oq e
   have e1:ay.toArray.size=l.length:=by rw[NX,←v1.length,hl]
   have e2:ba.toArray.size=l'.length:=by rw[NX,←v2.length,hl']
   have he: ∀ j (h1:j < ay.toArray.size) (h2:j < ba.toArray.size),SeqAt.EqAt A.in1 s ay.toArray[j] ba.toArray[j] (g j):=fun j h1 h2=>by
    have j1:j < l.length:=e1▸h1
    have j2:j < l'.length:=e2▸h2
    obtain⟨u1,a1,a2⟩:=v1.get (i:=j) (x:=xs[j]) (NQ _)
    obtain⟨u2,b1,b2⟩:=v2.get (i:=j) (x:=xs'[j]) (NQ _)
    have a3:ay.toArray[j]=u1:=by
     have:=(NY.mp a1).2
     simpa using this
    have b3:ba.toArray[j]=u2:=by
     have:=(NY.mp b1).2
     simpa using this
    rw[a3,b3]
    exact GL I hB k A.in1 l[j] l'[j] _ _ _ _ _ (hr j _ _ (NQ j1) (NQ _)) (hr' j _ _ (NQ j2) (NQ _)) a2 b2 (hg j _ _ (NQ j1) (NQ j2)) hu1
   have h1:=SeqAt.RcAt.tuples (A:=A) (e:=g) p1 p2 cH he
   have h2:=SeqAt.RcNeAt.tuples (A:=A) (e:=g) p1 p2 cH he
   rw[hc,←e1,←e2];exact⟨h1,h2⟩
  | @lst p' xs' l' hO' h' hl' hr'=>
   cases q2
   obtain⟨ba,v2,p2,_⟩:=I.list (bM.of (K:=X.K) h')
   cases e
   exact⟨.tuple_list p1 p2.isList cH,.tuple_list p1 p2.isList cH⟩
  |aE=>cases q2;cases e;exact⟨.tuple_none p1 cH,.tuple_none p1 cH⟩
  |bl b=>cases q2;cases e;exact⟨.tuple_bool b p1 cH,.tuple_bool b p1 cH⟩
  |int b=>obtain⟨t,rfl⟩:=q2;cases e;exact⟨.tuple_int b t p1 cH,.tuple_int b t p1 cH⟩
  |str b=>obtain⟨t,rfl⟩:=q2;cases e;exact⟨.tuple_str b t p1 cH,.tuple_str b t p1 cH⟩
  |_=>cases e
 |aE=>
  cases r2 with
  |lst a h' b c=>cases q1;cases q2;obtain⟨ba,v2,p2,_⟩:=I.list (bM.of (K:=X.K) h');cases e;exact⟨.none_list p2.isList cH,.none_list p2.isList cH⟩
  |tup a h' b c=>cases q1;cases q2;obtain⟨ba,v2,p2,_⟩:=I.tuple (cN.of (K:=X.K) h');cases e;exact⟨.none_tuple p2 cH,.none_tuple p2 cH⟩
  |_=>first|exact absurd ⟨rfl,rfl⟩ f|cases e
 |bl b=>
  cases r2 with
  |lst a h' _ c=>cases q1;cases q2;obtain⟨ba,v2,p2,_⟩:=I.list (bM.of (K:=X.K) h');cases e;exact⟨.bool_list b p2.isList cH,.bool_list b p2.isList cH⟩
  |tup a h' _ c=>cases q1;cases q2;obtain⟨ba,v2,p2,_⟩:=I.tuple (cN.of (K:=X.K) h');cases e;exact⟨.bool_tuple b p2 cH,.bool_tuple b p2 cH⟩
  |_=>first|exact absurd ⟨rfl,rfl⟩ f|cases e
 |int b=>
  cases r2 with
  |lst a h' _ c=>obtain⟨t,rfl⟩:=q1;cases q2;obtain⟨ba,v2,p2,_⟩:=I.list (bM.of (K:=X.K) h');cases e;exact⟨.int_list b t p2.isList cH,.int_list b t p2.isList cH⟩
  |tup a h' _ c=>obtain⟨t,rfl⟩:=q1;cases q2;obtain⟨ba,v2,p2,_⟩:=I.tuple (cN.of (K:=X.K) h');cases e;exact⟨.int_tuple b t p2 cH,.int_tuple b t p2 cH⟩
  |_=>first|exact absurd ⟨rfl,rfl⟩ f|cases e
 |str b=>
  cases r2 with
  |lst a h' _ c=>obtain⟨t,rfl⟩:=q1;cases q2;obtain⟨ba,v2,p2,_⟩:=I.list (bM.of (K:=X.K) h');cases e;exact⟨.str_list b t p2.isList cH,.str_list b t p2.isList cH⟩
  |tup a h' _ c=>obtain⟨t,rfl⟩:=q1;cases q2;obtain⟨ba,v2,p2,_⟩:=I.tuple (cN.of (K:=X.K) h');cases e;exact⟨.str_tuple b t p2 cH,.str_tuple b t p2 cH⟩
  |_=>first|exact absurd ⟨rfl,rfl⟩ f|cases e
 |_=>cases z<;>cases e
def HK (neg:Bool):R2:=fun x y H Q=> ∃ (B:Addr) (O:Addr→Prop) (a b:PV) (c:Bool),O B∧Rep B O H a x∧Rep B O H b y∧wV 20 a b=some c∧Q (.bl (xor neg c)) H
theorem rQ (hU:X.A.units+64 < cLine):du X (compareOp .Eq) (HK false):=by
 intro pZ s σ H x y v u Q I rx ry h
 obtain⟨B,O,a,b,c,hB,r1,r2,e,q⟩:=h
 exact(Gq I hB 19 X.A a b x y v u c r1 r2 rx ry e (by lia)).1 _ _ _ _ (iZ I q (by cases c<;>rfl))
theorem BQ (hU:X.A.units+64 < cLine):du X (compareOp .NotEq) (HK true):=by
 intro pZ s σ H x y v u Q I rx ry h
 obtain⟨B,O,a,b,c,hB,r1,r2,e,q⟩:=h
 exact(Gq I hB 19 X.A a b x y v u c r1 r2 rx ry e (by lia)).2 _ _ _ _ (iZ I q (by cases c<;>rfl))
end
def cC (neg:Bool) (y z:PV):M PV:=(M.bO (wV 20 y z)).bind fun c=>.ret (.bl (xor neg c))
theorem qj (neg:Bool):kT (HK neg) (cC neg):=fun φ G O H n R Q y z x x' pr dm ok r1 r2 w q=>by
 unfold cC at w
 cases e:wV 20 y z with
 |none=>rw[e] at w;exact w.elim
 |some c=>rw[e] at w;exact⟨G.B,G.bY,y,z,c,G.pB,r1.low pr,r2.low pr,e,q.sc ok (.bl _) w⟩
def wC (C:Int→Int→Prop) [∀ i j,Decidable (C i j)] (f:Int→Int→PV):PV→PV→M PV
 | .int i,.int j=>if C i j then .ret (f i j) else .fail
 |_,_=>.fail
theorem BK {C:Int→Int→Prop} [∀ i j,Decidable (C i j)] {f:Int→Int→PV} {g:Int→Int→V} (hf: ∀ B O H i j,Rep B O H (f i j) (g i j)):kT (rI C g) (wC C f):=fun φ G O H n R Q y z x x' pr dm ok r1 r2 w q=>by
 cases y<;>cases z<;>first|exact w.elim|skip
 rename_i i j
 rw[r1.bI,r2.bI]
 unfold wC at w
 dsimp only at w
 by_cases hc:C i j
 ·rw[OG hc] at w;exact⟨i,j,rfl,rfl,hc,q.sc ok (hf _ _ _ _ _) w⟩
 ·rw[OH hc] at w;exact w.elim
def wD (f:Int→Int→Bool):PV→PV→M PV
 | .int i,.int j=>.ret (.bl (f i j))
 |_,_=>.fail
theorem rL {f:Int→Int→Bool}:kT (wc fun i j=>.bl (f i j)) (wD f):=fun φ G O H n R Q y z x x' pr dm ok r1 r2 w q=>by
 cases y<;>cases z<;>first|exact w.elim|skip
 rename_i i j
 rw[r1.bI,r2.bI]
 exact⟨i,j,rfl,rfl,q.sc ok (.bl _) w⟩
def r8:=wD fun i j=>decide (i < j)
def Av:=wD fun i j=>decide (j < i)
def Nb:=wD fun i j=>decide (j≤i)
theorem ym:kT (wc fun i j=>.bl (decide (i < j))) r8:=rL
theorem Gy:kT (wc fun i j=>.bl (decide (j < i))) Av:=rL
theorem Gz:kT (wc fun i j=>.bl (decide (j≤i))) Nb:=rL
def zd:PV→PV→M PV
 | .int i,.int j=>.ret (.int (i - j))
 |_,_=>.fail
theorem Ia:kT (wc fun i j=>.int (i - j)) zd:=fun φ G O H n R Q y z x x' pr dm ok r1 r2 w q=>by
 cases y<;>cases z<;>first|exact w.elim|skip
 rename_i i j
 rw[r1.bI,r2.bI]
 exact⟨i,j,rfl,rfl,q.sc ok (.int _) w⟩
instance (i j:Int):Decidable (lU i j):=by unfold lU;infer_instance
instance (i j:Int):Decidable (DB i j):=by unfold DB;infer_instance
instance (i j:Int):Decidable (J0 i j):=by unfold J0;infer_instance
def uy:=wC (fun _ j=>0 < j) fun i j=>.int (i % j)
def Bm:=wC DB fun i j=>.int (i ^ j.toNat)
theorem Ie:kT (rI (fun _ j=>0 < j) fun i j=>.int (i % j)) uy:=BK fun _ _ _ _ _=>.int _
theorem Ib:kT (rI DB fun i j=>.int (i ^ j.toNat)) Bm:=BK fun _ _ _ _ _=>.int _
def Gx (K:Frag):R2:=fun x y H Q=>(wc fun i j=>.int (i+j)) x y H Q∨(∃ i j,x= .str i∧y= .str j∧i.length+j.length≤sizeLine∧Q (.str (i++j)) H)∨HL x y H Q∨Gw K x y H Q∨
 (∃ a b ys,x= .ref a∧y= .ref b∧H a=some (.tup [])∧H b=some (.tup ys)∧Q (.ref b) H)
theorem BY {X:Cx}:du X (binaryOp .Add) (fun x y H Q=> ∃ a b ys,x= .ref a∧y= .ref b∧H a=some (.tup [])∧H b=some (.tup ys)∧Q (.ref b) H):=by
 intro pZ s σ H x y v u Q I rx ry h
 obtain⟨a,b,ys,rfl,rfl,ha,hb,q⟩:=h
 cases rx
 cases ry
 obtain⟨ay,r1,p1,_⟩:=I.tuple (cN.of (K:=X.K) ha)
 obtain⟨mC,r2,p2,_⟩:=I.tuple (cN.of (K:=X.K) hb)
 cases r1
 obtain⟨⟨cls,dd,data,sl⟩,ho,hc,n,hd⟩:=id p1
 obtain⟨⟨cls2,dd2,data2,sl2⟩,ho2,hc2,n2,hd2⟩:=id p2
 simp only at hc hd hc2 hd2
 subst hc hd hc2 hd2
 exact concat_meets ⟨_,ho,rfl⟩ ⟨_,ho2,rfl⟩ noFill_tuple_add seq_tuple_add PySem.F.slot_tuple_add PySem.F.entry_tuple_add (PySem.F.args_tuple_add_2 _ _)
   (tuple_addW0 a b _ mC.toArray n n2 dd dd2 sl sl2 rfl) ⟨ho,ho2,⟨.ref b,H,I,rfl,q⟩⟩
theorem yr {X:Cx}:du X (binaryOp .Add) (Gx X.K):=gk.or (wt.or (wq.or (ED.or BY)))
def cu:PV→PV→M PV
 | .int i,.int j=>.ret (.int (i+j))
 | .str i,.str j=>if i.length+j.length≤100000 then .ret (.str (i++j)) else .fail
 | .lst a,.lst b=>if a.length+b.length≤100000 then .ret (.lst (a++b)) else .fail
 | .tup a,.tup b=>if a.length+b.length≤100000 then .ret (.tup (a++b)) else .fail
 |_,_=>.fail
theorem BM {K:Frag}:kT (Gx K) cu:=fun φ G O H n R Q y z x x' pr dm ok r1 r2 w q=>by
 have hB:O G.B:=pr _ G.pB
 cases y<;>cases z<;>first|exact w.elim|skip
 ·rename_i i j
  rw[r1.bI,r2.bI]
  exact .inl ⟨i,j,rfl,rfl,q.sc ok (.int _) w⟩
 ·rename_i i j
  rw[r1.fi,r2.fi]
  unfold cu at w
  dsimp only at w
  by_cases hc:i.length+j.length≤100000
  ·rw[OG hc] at w;exact .inr (.inl ⟨i,j,rfl,rfl,Od hc dB,q.sc ok (.str _) w⟩)
  ·rw[OH hc] at w;exact w.elim
 ·rename_i i j
  obtain⟨a,xs,rfl,h1,e1⟩:=r1.il
  obtain⟨b,ys,rfl,h2,e2⟩:=r2.il
  unfold cu at w
  dsimp only at w
  by_cases hc:i.length+j.length≤100000
  ·rw[OG hc] at w
   by_cases hn:i=[]
   ·subst hn
    rw[e1.nil_inv] at h1
    cases r2 with
    |full r2=>exact .inr (.inr (.inr (.inr ⟨a,b,ys,rfl,rfl,h1,h2,q.sc ok r2 w⟩)))
   ·refine .inr (.inr (.inr (.inl ⟨a,b,xs,ys,rfl,rfl,cN.of h1,cN.of h2,fun z=>hn ?_,Od (by rw[←e1.1,←e2.1];exact hc) dB,fun hz=>?_,fun _ p hp=>q.tup ok dm hp hB (e1.append e2) w⟩)))
    ·subst z;exact Ow e1.1
    ·subst hz
     have:j=[]:=Ow e2.1
     subst this
     rw[List.append_nil] at w
     cases r1 with
     |full r1=>exact q.sc ok r1 w
  ·rw[OH hc] at w;exact w.elim
 ·rename_i i j
  obtain⟨a,xs,rfl,h1,e1⟩:=r1.d9
  obtain⟨b,ys,rfl,h2,e2⟩:=r2.d9
  unfold cu at w
  dsimp only at w
  by_cases hc:i.length+j.length≤100000
  ·rw[OG hc] at w
   exact .inr (.inr (.inl ⟨a,b,xs,ys,rfl,rfl,h1,h2,Od (by rw[←e1.1,←e2.1];exact hc) dB,fun p hp=>q.lst ok dm hp hB (e1.append e2) w⟩))
  ·rw[OH hc] at w;exact w.elim
def k7 (i:Str) (k:Int):Str:=⟨(List.replicate k.toNat i.cps).foldl (· ++ ·) #[]⟩
def Gs:R2:=fun x y H Q=> ∃ i k,x= .str i∧y= .int k∧(1 < k∧k < 1000∧0 < i.length∧i.length < 1000∧(k7 i k).length≤100000)∧Q (.str (k7 i k)) H
def Be:R2:=fun x y H Q=>rI lU (fun i j=>.int (i * j)) x y H Q∨Gs x y H Q∨K3 x y H Q
theorem Ey {X:Cx}:du X (binaryOp .Mult) Gs:=by
 intro pZ s σ H x y v u Q I rx ry h
 obtain⟨i,k,rfl,rfl,⟨h1,h2,h3,h4,h5⟩,q⟩:=h
 obtain⟨t,rfl⟩:=rx
 obtain⟨t',rfl⟩:=ry
 have e1: ¬ k < -(2 ^ 63:Int):=by
  have:(2:Int) ^ 63=9223372036854775808:=by decide
  lia
 have e2: ¬ k ≥ 2 ^ 63:=by
  have:(2:Int) ^ 63=9223372036854775808:=by decide
  lia
 have hz:(i.length * k.toNat)≤1000000:=Od (Nat.mul_le_mul (Nat.le_of_lt h4) (by lia:k.toNat≤1000)) (by decide)
 have bP:(k==1||i.length==0)=false:=by
  simp only[Bool.or_eq_false_iff,beq_eq_false_iff_ne]
  exact⟨by lia,by lia⟩
 refine PySem.P.mul_str (by rw[Oh e1,Oh e2];rfl) (fun _ _ hgt=>?_) (fun _ _=>?_) ?_
 ·have:(i.length:Int)≤(2 ^ 63 - 1) / k:=by
   rw[Int.le_ediv_iff_mul_le (by lia)]
   have:(i.length:Int) * k≤1000 * 1000:=Int.mul_le_mul (by lia) (by lia) (by lia) (by lia)
   have e:(2:Int) ^ 63 - 1=9223372036854775807:=by decide
   lia
  lia
 ·have hs:sizeLine=16777216:=Ox
  show decide (i.length * k.toNat > sizeLine)=false
  exact Oh (by lia)
 ·rw[OH (by lia),OH (by rw[bP];simp)]
  exact⟨Od h5 dB,⟨.str (k7 i k),H,I.tok _,⟨_,rfl⟩,q⟩⟩
theorem EA {X:Cx}:du X (binaryOp .Mult) Be:=ll.or (Ey.or Ii)
def zG:PV→PV→M PV
 | .int i,.int j=>if lU i j then .ret (.int (i * j)) else .fail
 | .str i,.int k=>if 1 < k∧k < 1000∧0 < i.length∧i.length < 1000∧(k7 i k).length≤100000 then .ret (.str (k7 i k)) else .fail
 | .lst l,.int k=>if -1000 < k∧k < 1000∧l.length * k.toNat≤100000 then .ret (.lst (List.replicate k.toNat l).flatten) else .fail
 |_,_=>.fail
theorem aJ.rep {B:Addr} {O:Addr→Prop} {H:Hp} {l:List PV} {xs:List V} (h:aJ B O H l xs): ∀ k:Nat,aJ B O H (List.replicate k l).flatten (List.replicate k xs).flatten
 |0=>.nil
 |k+1=>by rw[List.replicate_succ,List.replicate_succ,List.flatten_cons,List.flatten_cons];exact h.append (aJ.rep h k)
theorem Ic:kT Be zG:=fun φ G O H n R Q y z x x' pr dm ok r1 r2 w q=>by
 have hB:O G.B:=pr _ G.pB
 cases y<;>cases z<;>first|exact w.elim|skip
 ·rename_i i j
  rw[r1.bI,r2.bI]
  unfold zG at w
  dsimp only at w
  by_cases hc:lU i j
  ·rw[OG hc] at w;exact .inl ⟨i,j,rfl,rfl,hc,q.sc ok (.int _) w⟩
  ·rw[OH hc] at w;exact w.elim
 ·rename_i i k
  rw[r1.fi,r2.bI]
  unfold zG at w
  dsimp only at w
  by_cases hc:1 < k∧k < 1000∧0 < i.length∧i.length < 1000∧(k7 i k).length≤100000
  ·rw[OG hc] at w;exact .inr (.inl ⟨i,k,rfl,rfl,hc,q.sc ok (.str _) w⟩)
  ·rw[OH hc] at w;exact w.elim
 ·rename_i l k
  obtain⟨a,xs,rfl,h1,e1⟩:=r1.d9
  rw[r2.bI]
  unfold zG at w
  dsimp only at w
  by_cases hc: -1000 < k∧k < 1000∧l.length * k.toNat≤100000
  ·rw[OG hc] at w
   have e:(2:Int) ^ 63=9223372036854775808:=by decide
   exact .inr (.inr ⟨a,k,xs,rfl,rfl,h1,by lia,by lia,Od (by rw[←e1.1];exact hc.2.2) dB,fun p hp=>q.lst ok dm hp hB (e1.rep _) w⟩)
  ·rw[OH hc] at w;exact w.elim
theorem bE.og {G:Bg φ} {O:Addr→Prop} {H:Hp}: ∀ {l:List PV} {xs:List V},aJ G.B O H l xs→l.all aQ=true→xs=l.map toV
 |[],xs,h,_=>h.nil_inv
 |y::l,xs,h,f=>by
  obtain⟨x,r,rfl,h1,h2⟩:=h.cons_inv
  rw[List.all_cons,Ov] at f
  rw[N1,eR h1 f.1,bE.og h2 f.2]
def HJ (K:Frag) (neg:Bool):R2:=fun x y H Q=>MO K neg x y H Q∨∃ i j,x= .str i∧y= .str j∧Q (.bl (xor neg (!(Builtin.Str.occurrences j i 0 j.length 1).isEmpty))) H
theorem BU {X:Cx}:du X (compareOp .In) (HJ X.K false):=by
 intro pZ s σ H x y v u Q I rx ry h
 rcases h with h|⟨i,j,h1,h2,q⟩
 ·exact zD pZ s σ H x y v u Q I rx ry h
 ·exact zC pZ s σ H x y v u Q I rx ry ⟨i,j,h1,h2,by simpa using q⟩
theorem qk {X:Cx}:du X (compareOp .NotIn) (HJ X.K true):=by
 intro pZ s σ H x y v u Q I rx ry h
 rcases h with h|⟨i,j,h1,h2,q⟩
 ·exact rO pZ s σ H x y v u Q I rx ry h
 ·exact rN pZ s σ H x y v u Q I rx ry ⟨i,j,h1,h2,by simpa using q⟩
def mB (y:PV) (l:List PV):Bool:=l.any fun z=>tF (toV z) (toV y)
def o5 (neg:Bool):PV→PV→M PV
 | .str i,.str j=>.ret (.bl (xor neg (!(Builtin.Str.occurrences j i 0 j.length 1).isEmpty)))
 |y,.lst l=>if aQ y&&l.all aQ then .ret (.bl (xor neg (mB y l))) else .fail
 |y,.tup l=>if aQ y&&l.all aQ then .ret (.bl (xor neg (mB y l))) else .fail
 |_,_=>.fail
theorem yG (y:PV) (l:List PV):Mn (toV y) (l.map toV)=mB y l:=by unfold Mn mB;rw[List.any_map];rfl
theorem yn {K:Frag} (neg:Bool):kT (HJ K neg) (o5 neg):=fun φ G O H n R Q y z x x' pr dm ok r1 r2 w q=>by
 cases z with
 |lst l=>
  have w':(if(aQ y&&l.all aQ)=true then M.ret (.bl (xor neg (mB y l))) else M.fail:M PV).wp n R:=by cases y<;>exact w
  by_cases hc:(aQ y&&l.all aQ)=true
  ·rw[OG hc] at w'
   rw[Ov] at hc
   obtain⟨p,xs,rfl,h1,e1⟩:=r2.d9
   have e2:=bE.og e1 hc.2
   rw[qE r1 hc.1]
   refine .inl ⟨p,xs,rfl,.inl (bM.of h1),hc.1,?_,?_⟩
   ·rw[e2,List.all_map];exact hc.2
   ·rw[e2,yG];cases neg<;>simpa using q.sc ok (.bl _) w'
  ·rw[OH hc] at w';exact w'.elim
 |tup l=>
  have w':(if(aQ y&&l.all aQ)=true then M.ret (.bl (xor neg (mB y l))) else M.fail:M PV).wp n R:=by cases y<;>exact w
  by_cases hc:(aQ y&&l.all aQ)=true
  ·rw[OG hc] at w'
   rw[Ov] at hc
   obtain⟨p,xs,rfl,h1,e1⟩:=r2.il
   have e2:=bE.og e1 hc.2
   rw[qE r1 hc.1]
   refine .inl ⟨p,xs,rfl,.inr (cN.of h1),hc.1,?_,?_⟩
   ·rw[e2,List.all_map];exact hc.2
   ·rw[e2,yG];cases neg<;>simpa using q.sc ok (.bl _) w'
  ·rw[OH hc] at w';exact w'.elim
 |str j=>
  cases y<;>first|exact w.elim|skip
  rename_i i
  rw[r1.fi,r2.fi]
  exact .inr ⟨i,j,rfl,rfl,q.sc ok (.bl _) w⟩
 |_=>cases y<;>exact w.elim
def Kd:PV→Bool
 | .aE=>true
 |_=>false
def iW (neg:Bool) (y z:PV):M PV:=match z with| .aE=>.ret (.bl (xor neg (Kd y)))|_=>.fail
theorem yD {G:Bg φ} {O:Addr→Prop} {H:Hp} {y:PV} {x:V} (r:bE G O H y x):decide (x= .aE)=Kd y:=by
 cases r with
 |full h=>cases h<;>rfl
 |top _ _ _=>rfl
 |vO _ _ _=>rfl
theorem BL:kT (fun x y H Q=>y= .aE∧Q (.bl (decide (x= .aE))) H) (iW false):=fun φ G O H n R Q y z x x' pr dm ok r1 r2 w q=>by
 cases z<;>first|exact w.elim|skip
 have w':R (.bl (xor false (Kd y))) n:=w
 exact⟨r2.GA,q.sc ok (y:=.bl (Kd y)) (by rw[yD r1];exact .bl _) (by simpa using w')⟩
theorem yj:kT (fun x y H Q=>y= .aE∧Q (.bl (!decide (x= .aE))) H) (iW true):=fun φ G O H n R Q y z x x' pr dm ok r1 r2 w q=>by
 cases z<;>first|exact w.elim|skip
 refine⟨r2.GA,q.sc ok (y:=.bl (!Kd y)) (by rw[yD r1];exact .bl _) ?_⟩
 have w':R (.bl (xor true (Kd y))) n:=w
 simpa using w'
def NJ (i j:Str):Bool:=!decide (j.cps.toList < i.cps.toList)
def K4:R2:=fun x y H Q=>(wc fun i j=>.bl (decide (i≤j))) x y H Q∨∃ i j,x= .str i∧y= .str j∧Q (.bl (!decide (j.cps.toList < i.cps.toList))) H
theorem gh {X:Cx}:du X (compareOp .LtE) K4:=Lh.or zB
def h9:PV→PV→M PV
 | .int i,.int j=>.ret (.bl (decide (i≤j)))
 | .str i,.str j=>.ret (.bl (NJ i j))
 |_,_=>.fail
theorem gf:kT K4 h9:=fun φ G O H n R Q y z x x' pr dm ok r1 r2 w q=>by
 cases y<;>cases z<;>first|exact w.elim|skip
 ·rename_i i j
  rw[r1.bI,r2.bI]
  exact .inl ⟨i,j,rfl,rfl,q.sc ok (.bl _) w⟩
 ·rename_i i j
  rw[r1.fi,r2.fi]
  exact .inr ⟨i,j,rfl,rfl,q.sc ok (.bl _) w⟩
theorem vk {B:Addr} {O:Addr→Prop} {H:Hp} {l:List PV} {xs:List V} (h:aJ B O H l xs) {i:Int} {y:PV} (e:j3 l i=some y): ∃ x,j3 xs i=some x∧Rep B O H y x:=by
 unfold j3 at e ⊢
 rw[←h.1]
 cases q:Cm l.length i with
 |none=>rw[q] at e;cases e
 |some j=>rw[q] at e;exact h.at e
def az:PV→PV→M PV
 | .lst l,.int i=>.bO (j3 l i)
 | .tup l,.int i=>.bO (j3 l i)
 | .str z,.int i=>if z.length≤100000 then(M.bO (j3 z.cps.toList i)).bind fun c=>.ret (.str ⟨#[c]⟩) else .fail
 |_,_=>.fail
theorem Lg {K:Frag}:kT (Nv K) az:=fun φ G O H n R Q y z x x' pr dm ok r1 r2 w q=>by
 cases y<;>cases z<;>first|exact w.elim|skip
 ·rename_i s i
  rw[r1.fi,r2.bI]
  unfold az at w
  dsimp only at w
  by_cases hc:s.length≤100000
  ·rw[OG hc] at w
   cases e:j3 s.cps.toList i with
   |none=>rw[e] at w;exact w.elim
   |some c=>rw[e] at w;exact .inr (.inr ⟨s,i,c,rfl,rfl,Od hc dB,e,q.sc ok (.str _) w⟩)
  ·rw[OH hc] at w;exact w.elim
 ·rename_i l i
  obtain⟨p,xs,rfl,h1,e1⟩:=r1.il
  rw[r2.bI]
  unfold az at w
  dsimp only at w
  cases e:j3 l i with
  |none=>rw[e] at w;exact w.elim
  |some y=>
   rw[e] at w
   obtain⟨v,a,b⟩:=vk e1 e
   exact .inr (.inl ⟨p,xs,i,v,rfl,rfl,cN.of h1,a,q.sc ok b w⟩)
 ·rename_i l i
  obtain⟨p,xs,rfl,h1,e1⟩:=r1.d9
  rw[r2.bI]
  unfold az at w
  dsimp only at w
  cases e:j3 l i with
  |none=>rw[e] at w;exact w.elim
  |some y=>
   rw[e] at w
   obtain⟨v,a,b⟩:=vk e1 e
   exact .inl ⟨p,xs,i,v,rfl,rfl,bM.of h1,a,q.sc ok b w⟩
end
section
variable {φ:cM}
section
variable {X:Cx} {e:Expr} {es:List Expr} {me:ae→M PV} {ml:ae→M (List PV)}
theorem BA.mono {t t':TA} (h:BA X es t) (f: ∀ σ H Q,t' σ H Q→t σ H Q):BA X es t':=⟨fun pos pZ s σ H Q I q=>h.out pos pZ s σ H Q I (f σ H Q q)⟩
def aa (me:ae→M PV) (ml:ae→M (List PV)):ae→M (List PV):=fun ρ=>(me ρ).bind fun y=>(ml ρ).bind fun l=>.ret (y::l)
theorem fH:AV φ X [] (fun _=>.ret []):=BA.mono ⟨dY⟩ fun σ H Q ⟨G,O,ρ,n,R,s,w,q⟩=>q [] [] H n (Ext.refl _ _) s.ok .nil w
theorem aR (h:EV φ X e me) (t:AV φ X es ml) (hs:isStar e=false:=by rfl):AV φ X (e::es) (aa me ml):=BA.mono ⟨Lf h.out t.out hs⟩ fun σ H Q bt=>by
 obtain⟨G,O,ρ,n,R,s,w,q⟩:=bt
 unfold aa at w
 rw[M.wZ] at w
 refine⟨G,O,ρ,n,_,s,w,fun y x H1 n1 e1 a9 r1 w1=>?_⟩
 rw[M.wZ] at w1
 exact⟨G,O,ρ,n1,_,s.ext e1 a9,w1,fun l xs H2 n2 e2 nF r2 w2=>q (y::l) (x::xs) H2 n2 (e1.trans e2) nF (.cons (r1.ext s.B e2) r2) w2⟩
theorem dU.nil {G:Bg φ} {O:Addr→Prop} {H:Hp}:dU G O H [] []:=⟨rfl,fun i y x a=>by simp at a⟩
theorem dU.cons {G:Bg φ} {O:Addr→Prop} {H:Hp} {y:PV} {x:V} {l:List PV} {xs:List V} (h:bE G O H y x) (t:dU G O H l xs):dU G O H (y::l) (x::xs):=⟨by simp[t.1],fun i y' x' a b=>by
 cases i with
 |zero=>simp at a b;subst a b;exact h
 |succ i=>simp at a b;exact t.2 i y' x' a b⟩
theorem dU.nil_inv {G:Bg φ} {O:Addr→Prop} {H:Hp} {xs:List V} (h:dU G O H [] xs):xs=[]:=Ow h.1.symm
theorem dU.cons_inv {G:Bg φ} {O:Addr→Prop} {H:Hp} {y:PV} {l:List PV} {xs:List V} (h:dU G O H (y::l) xs): ∃ x r,xs=x::r∧bE G O H y x∧dU G O H l r:=by
 cases xs with
 |nil=>have:=h.1;simp at this
 |cons x r=>exact⟨x,r,rfl,h.2 0 y x rfl rfl,by simpa using h.1,fun i y' x' a b=>h.2 (i+1) y' x' (by simpa using a) (by simpa using b)⟩
theorem dU.one {G:Bg φ} {O:Addr→Prop} {H:Hp} {y:PV} {xs:List V} (h:dU G O H [y] xs): ∃ x,xs=[x]∧bE G O H y x:=by
 obtain⟨x,r,rfl,a,b⟩:=h.cons_inv
 rw[b.nil_inv];exact⟨x,rfl,a⟩
theorem dU.two {G:Bg φ} {O:Addr→Prop} {H:Hp} {y z:PV} {xs:List V} (h:dU G O H [y,z] xs): ∃ x x',xs=[x,x']∧bE G O H y x∧bE G O H z x':=by
 obtain⟨x,r,rfl,a,b⟩:=h.cons_inv
 obtain⟨x',rfl,c⟩:=b.one
 exact⟨x,x',rfl,a,c⟩
theorem tm:AB φ X [] (fun _=>.ret []):=BA.mono ⟨dY⟩ fun σ H Q ⟨G,O,ρ,n,R,s,w,q⟩=>q [] [] H n (Ext.refl _ _) s.ok .nil w
theorem kP (h:EB φ X e me) (t:AB φ X es ml) (hs:isStar e=false:=by rfl):AB φ X (e::es) (aa me ml):=BA.mono ⟨Lf h.out t.out hs⟩ fun σ H Q bt=>by
 obtain⟨G,O,ρ,n,R,s,w,q⟩:=bt
 unfold aa at w
 rw[M.wZ] at w
 refine⟨G,O,ρ,n,_,s,w,fun y x H1 n1 e1 a9 r1 w1=>?_⟩
 rw[M.wZ] at w1
 exact⟨G,O,ρ,n1,_,s.ext e1 a9,w1,fun l xs H2 n2 e2 nF r2 w2=>q (y::l) (x::xs) H2 n2 (e1.trans e2) nF (.cons (r1.ext s.B e2) r2) w2⟩
def aS (l:List PV):M PV:=if l.length≤100000 then .ret (.tup l) else .fail
def aO (l:List PV):M (List PV):=if l.length≤100000 then .ret l else .fail
theorem CJ {k:Nat} {pos:Pos} (h:AV φ X es ml):EV φ X (.Tuple es k pos) (fun ρ=>(ml ρ).bind aS):=BE.mono ⟨wk h.out⟩ fun σ H Q bt=>by
 obtain⟨G,O,ρ,n,R,s,w,q⟩:=bt
 rw[M.wZ] at w
 refine⟨G,O,ρ,n,_,s,w,fun l xs H1 n1 e1 a9 r1 w1=>?_⟩
 unfold aS at w1
 by_cases hc:l.length≤100000
 ·rw[OG hc] at w1
  refine⟨Od (by rw[←r1.1];exact hc) dB,fun p hp=>?_⟩
  have q':lR G O H1 R Q:=fun y x H' n' e o r h=>q y x H' n' (e1.trans e) o r h
  exact q'.tup a9 (s.ext e1 a9).dm hp s.B r1 w1
 ·rw[OH hc] at w1;exact w1.elim
theorem CU {pos:Pos} (h:AV φ X es ml):EF φ X (.List es pos) (fun ρ=>(ml ρ).bind aO):=BE.mono ⟨wm h.out⟩ fun σ H Q bt=>by
 obtain⟨G,O,ρ,n,R,s,w,q⟩:=bt
 rw[M.wZ] at w
 refine⟨G,O,ρ,n,_,s,w,fun l xs H1 n1 e1 a9 r1 w1=>?_⟩
 unfold aO at w1
 by_cases hc:l.length≤100000
 ·rw[OG hc] at w1
  refine⟨Od (by rw[←r1.1];exact hc) dB,fun p hp=>?_⟩
  have e2:=Ext.new (B:=G.B) hp (.lst xs)
  refine q l p xs _ n1 (e1.trans e2) (Bg.new a9 hp _) ?_ ar ((r1.grow fun q z=>by
   rcases z with z|z
   ·exact .inl z
   ·subst z;exact .inr hp).ext (.inl s.B) e2) w1
  cases hh:H p with
  |none=>rfl
  |some o=>
   by_cases pb:p=G.B
   ·subst pb;obtain⟨o',g⟩:=G.CZ _ _ _ a9 G.pB;rw[hp] at g;cases g
   ·obtain⟨_,this⟩:=(e1 p o pb hh).there;rw[hp] at this;cases this
 ·rw[OH hc] at w1;exact w1.elim
theorem eN {G:Bg φ} {H H1:Hp} {n:Nat} (e1:Ext G.B H H1) (a9:G.ok H1 n) {p:Addr} (hp:H1 p=none):H p=none:=by
 cases hh:H p with
 |none=>rfl
 |some o=>
  by_cases pb:p=G.B
  ·subst pb;obtain⟨o',g⟩:=G.CZ _ _ _ a9 G.pB;rw[hp] at g;cases g
  ·obtain⟨_,this⟩:=(e1 p o pb hh).there;rw[hp] at this;cases this
def mr (r:List V→Hp→VK→Prop) (op:List PV→M PV):Prop:= ∀ (φ:cM) (G:Bg φ) (O:Addr→Prop) (H:Hp) (n:Nat) (R:PV→Nat→Prop) (Q:VK) (l:List PV) (xs:List V),
 (∀ p,G.bY p→O p)→(∀ p,O p→∃ o,H p=some o)→G.ok H n→dU G O H l xs→(op l).wp n R→lR G O H R Q→r xs H Q
theorem cZ {e:Expr} {r:List V→Hp→VK→Prop} {op:List PV→M PV} (h:BE X e (J7 r (J6 φ ml))) (hv:mr r op):EV φ X e (fun ρ=>(ml ρ).bind op):=BE.mono h fun σ H Q bt=>by
 obtain⟨G,O,ρ,n,R,s,w,q⟩:=bt
 rw[M.wZ] at w
 exact⟨G,O,ρ,n,_,s,w,fun l xs H1 n1 e1 a9 r1 w1=>hv φ G O H1 n1 R Q l xs s.pr (s.ext e1 a9).dm a9 r1 w1 fun y x H' n' e o r h=>q y x H' n' (e1.trans e) o r h⟩
def dA:List PV→M PV
 |[.str z]=>if z.length≤100000 then .ret (.int z.length) else .fail
 |[.lst l]=>.ret (.int l.length)
 |[.tup l]=>.ret (.int l.length)
 |[.tD l]=>.ret (.int l.length)
 |[.cL l]=>.ret (.int l.length)
 |_=>.fail
def Gv (K:Frag):List V→Hp→VK→Prop:=fun xs H Q=>(∃ x n,xs=[x]∧L9 K x H n∧Q (.int n) H)∨∃ a kvs,xs=[.ref a]∧Rd H a (.dK kvs)∧Q (.int kvs.length) H
theorem xm:fc X (.builtin "len") (Gv X.K):=by
 intro pZ s σ H xs us Q I r h
 rcases h with h|⟨a,kvs,rfl,h,q⟩
 ·exact Dc pZ s σ H xs us Q I r h
 ·obtain⟨u,rfl,rx⟩:=vals1 r
  cases rx
  exact LJ I h fun t s' I'=>⟨.int kvs.length,H,I',⟨_,rfl⟩,q⟩
theorem Ju {K:Frag}:mr (Gv K) dA:=fun φ G O H n R Q l xs pr dm ok r w q=>by
 match l,r,w with
 |[.str z],r,w=>
  obtain⟨x,ex,r1⟩:=r.one;subst ex;clear r;have r:=r1;clear r1
  rw[r.fi]
  unfold dA at w
  dsimp only at w
  by_cases hc:z.length≤100000
  ·rw[OG hc] at w;exact .inl ⟨_,_,rfl,⟨Od hc dB,rfl⟩,q.sc ok (.int _) w⟩
  ·rw[OH hc] at w;exact w.elim
 |[.lst z],r,w=>
  obtain⟨x,ex,r1⟩:=r.one;subst ex;clear r;have r:=r1;clear r1
  obtain⟨p,xs,rfl,h,e⟩:=r.d9
  exact .inl ⟨_,_,rfl,.inl ⟨xs,bM.of h,rfl⟩,q.sc ok (y:=.int z.length) (by rw[e.1];exact .int _) w⟩
 |[.tup z],r,w=>
  obtain⟨x,ex,r1⟩:=r.one;subst ex;clear r;have r:=r1;clear r1
  obtain⟨p,xs,rfl,h,e⟩:=r.il
  exact .inl ⟨_,_,rfl,.inr ⟨xs,cN.of h,rfl⟩,q.sc ok (y:=.int z.length) (by rw[e.1];exact .int _) w⟩
 |[.tD z],r,w=>
  obtain⟨x,ex,r1⟩:=r.one;subst ex;clear r;have r:=r1;clear r1
  obtain⟨p,o,rfl,h⟩:=r.KR
  exact .inl ⟨_,_,rfl,.inl ⟨_,.inl (.inr ⟨o,h⟩),rfl⟩,q.sc ok (y:=.int z.length) (by rw[NT];exact .int _) w⟩
 |[.cL z],r,w=>
  obtain⟨x,ex,r1⟩:=r.one;subst ex;clear r;have r:=r1;clear r1
  obtain⟨p,ks,rfl,h,e⟩:=r.yP
  have e1:z.length=ks.length:=by simpa using congrArg List.length e.1
  exact .inr ⟨p,ks,rfl,h,q.sc ok (y:=.int z.length) (by rw[e1];exact .int _) w⟩
def hM:List PV→Option (List Bool)
 |[]=>some []
 | .bl b::r=>(hM r).map (b:: ·)
 |_=>none
theorem yU {B:Addr} {O:Addr→Prop} {H:Hp}: ∀ {l:List PV} {xs:List V} {bs:List Bool},aJ B O H l xs→hM l=some bs→xs=bs.map V.bl
 |[],xs,bs,h,e=>by simp[hM] at e;subst e;exact h.nil_inv
 |y::l,xs,bs,h,e=>by
  cases y<;>simp[hM] at e
  obtain⟨bs',e1,rfl⟩:=e
  obtain⟨x,r,rfl,h1,h2⟩:=h.cons_inv
  cases h1
  rw[N1,yU h2 e1]
def kO:List PV→M PV
 |[.lst l]=>(M.bO (hM l)).bind fun bs=>.ret (.bl (bs.all id))
 |_=>.fail
theorem Jw {K:Frag}:mr (fun xs H Q=> ∃ (p:Addr) (bs:List Bool),xs=[.ref p]∧bM K H p (bs.map V.bl)∧Q (.bl (bs.all id)) H) kO:=fun φ G O H n R Q l xs pr dm ok r w q=>by
 match l,r,w with
 |[.lst z],r,w=>
  obtain⟨x,ex,r1⟩:=r.one;subst ex;clear r;have r:=r1;clear r1
  obtain⟨p,xs,rfl,h,e⟩:=r.d9
  unfold kO at w
  dsimp only at w
  cases eb:hM z with
  |none=>rw[eb] at w;exact w.elim
  |some bs=>rw[eb] at w;rw[yU e eb] at h;exact⟨p,bs,rfl,bM.of h,q.sc ok (.bl _) w⟩
def qo:List PV→M PV
 |[.int i,.int j]=>.ret (.int (if j > i then j else i))
 |_=>.fail
def nK:List PV→M PV
 |[.int i,.int j]=>.ret (.int (if j < i then j else i))
 |_=>.fail
theorem Fy:mr (fun xs H Q=> ∃ i j,xs=[.int i,.int j]∧Q (.int (if j > i then j else i)) H) qo:=fun φ G O H n R Q l xs pr dm ok r w q=>by
 match l,r,w with
 |[.int i,.int j],r,w=>obtain⟨x,x',ex,r1,r'⟩:=r.two;subst ex;clear r;have r:=r1;clear r1;rw[r.bI,r'.bI];exact⟨i,j,rfl,q.sc ok (.int _) w⟩
theorem yR:mr (fun xs H Q=> ∃ i j,xs=[.int i,.int j]∧Q (.int (if j < i then j else i)) H) nK:=fun φ G O H n R Q l xs pr dm ok r w q=>by
 match l,r,w with
 |[.int i,.int j],r,w=>obtain⟨x,x',ex,r1,r'⟩:=r.two;subst ex;clear r;have r:=r1;clear r1;rw[r.bI,r'.bI];exact⟨i,j,rfl,q.sc ok (.int _) w⟩
def wK:List PV→M PV
 |[.int i]=>.ret (.int i)
 |[.bl k]=>.ret (.int (if k then 1 else 0))
 |_=>.fail
theorem Jv:mr (fun xs H Q=>(∃ i,xs=[.int i]∧Q (.int i) H)∨∃ k,xs=[.bl k]∧Q (.int (if k then 1 else 0)) H) wK:=fun φ G O H n R Q l xs pr dm ok r w q=>by
 match l,r,w with
 |[.int i],r,w=>obtain⟨x,ex,r1⟩:=r.one;subst ex;clear r;have r:=r1;clear r1;rw[r.bI];exact .inl ⟨i,rfl,q.sc ok (.int _) w⟩
 |[.bl i],r,w=>obtain⟨x,ex,r1⟩:=r.one;subst ex;clear r;have r:=r1;clear r1;rw[r.Np];exact .inr ⟨i,rfl,q.sc ok (.int _) w⟩
def mW:List PV→M PV
 |[.lst l]=>.ret (.tup l)
 |[.tup l]=>.ret (.tup l)
 |_=>.fail
theorem C2 {K:Frag}:mr (fun xs H Q=> ∃ p ys,xs=[.ref p]∧((bM K H p ys∧∀ l,H l=none→Q (.ref l) (upd H l (.tup ys)))∨(cN K H p ys∧Q (.ref p) H))) mW:=fun φ G O H n R Q l xs pr dm ok r w q=>by
 match l,r,w with
 |[.lst z],r,w=>
  obtain⟨x,ex,r1⟩:=r.one;subst ex;clear r;have r:=r1;clear r1
  obtain⟨p,xs,rfl,h,e⟩:=r.d9
  exact⟨p,xs,rfl,.inl ⟨bM.of h,fun l hl=>q.tup ok dm hl (pr _ G.pB) e w⟩⟩
 |[.tup z],r,w=>
  obtain⟨x,ex,r1⟩:=r.one;subst ex;clear r;have r:=r1;clear r1
  obtain⟨p,xs,rfl,h,e⟩:=r.il
  cases r with
  |full r=>exact⟨p,xs,rfl,.inr ⟨cN.of h,q.sc ok r w⟩⟩
end
end
section
variable {φ:cM}
def vU (φ:cM) (f:List PV→M PV):Sp:=fun vs H Q _=> ∃ (G:Bg φ) (O:Addr→Prop) (l:List PV) (n:Nat) (R:PV→Nat→Prop),(∀ p,G.bY p→O p)∧(∀ p,O p→∃ o,H p=some o)∧G.ok H n∧aJ G.B O H l vs∧(f l).wp n R∧lR G O H R Q
section
variable {X:Cx} {e:Expr} {es:List Expr} {ml:ae→M (List PV)} {f:List PV→M PV}
theorem yL (h:BE X e (tN (vU φ f) [] E0 (Mi φ ml))):EV φ X e (fun ρ=>(ml ρ).bind f):=BE.mono h fun σ H Q bt=>by
 obtain⟨G,O,ρ,n,R,s,w,q⟩:=bt
 rw[M.wZ] at w
 refine⟨G,O,ρ,n,_,s,w,fun l xs H1 n1 e1 a9 r1 w1=>?_⟩
 show vU φ f (xs++[]) H1 Q E0
 rw[List.append_nil]
 exact⟨G,O,l,n1,R,s.pr,(s.ext e1 a9).dm,a9,r1,w1,fun y x H' n' e o r h=>q y x H' n' (e1.trans e) o r h⟩
def l6 (y:PV):M PV:=if aQ y=true then .ret y else .fail
theorem CL (h:BE X e (tN (vU φ f) [] E0 (J6 φ ml))):EV φ X e (fun ρ=>(ml ρ).bind fun l=>(f l).bind l6):=BE.mono h fun σ H Q bt=>by
 obtain⟨G,O,ρ,n,R,s,w,q⟩:=bt
 rw[M.wZ] at w
 refine⟨G,O,ρ,n,_,s,w,fun l xs H1 n1 e1 a9 r1 w1=>?_⟩
 show vU φ f (xs++[]) H1 Q E0
 rw[List.append_nil]
 rw[M.wZ] at w1
 refine⟨G,G.bY,l,n1,_,fun p h=>h,fun p h=>G.CZ _ _ _ a9 h,a9,⟨r1.1,fun i y x a b=>(r1.2 i y x a b).low s.pr⟩,w1,fun y x H' n' e o r h=>?_⟩
 unfold l6 at h
 by_cases hf:aQ y=true
 ·rw[OG hf] at h
  refine q y x H' n' (e1.trans e) o ?_ h
  rw[eR r hf]
  cases y<;>first|exact .aE|exact .bl _|exact .int _|exact .str _|(simp[aQ,toV,cE] at hf)
 ·rw[OH hf] at h;exact h.elim
def Ny (r:V→Option Int→Option Int→Hp→VK→Prop) (op:PV→Option Int→Option Int→M PV):Prop:= ∀ (φ:cM) (G:Bg φ) (O:Addr→Prop) (H:Hp) (n:Nat) (R:PV→Nat→Prop) (Q:VK) (y:PV) (lo hi:Option Int) (x:V),
 (∀ p,G.bY p→O p)→(∀ p,O p→∃ o,H p=some o)→G.ok H n→bE G O H y x→(op y lo hi).wp n R→lR G O H R Q→r x lo hi H Q
def LX (G:Bg φ) (H:Hp) (R:Option Int→Nat→Prop) (Q:Option Int→Hp→Prop):Prop:= ∀ (o:Option Int) (H':Hp) (n':Nat),Ext G.B H H'→G.ok H' n'→R o n'→Q o H'
def MB (φ:cM) (m:ae→M (Option Int)):TO:=fun σ H Q=> ∃ (G:Bg φ) (O:Addr→Prop) (ρ:ae) (n:Nat) (R:Option Int→Nat→Prop),ES G O H σ ρ n∧(m ρ).wp n R∧LX G H R Q
def OV (φ:cM) (X:Cx) (e:Option Expr) (m:ae→M (Option Int)):Prop:=BO X e (MB φ m)
theorem BO.mono {e:Option Expr} {t t':TO} (h:BO X e t) (f: ∀ σ H Q,t' σ H Q→t σ H Q):BO X e t':=⟨fun pZ s σ H Q I q=>h.out pZ s σ H Q I (f σ H Q q)⟩
theorem yk:OV φ X none (fun _=>.ret none):=BO.mono ⟨mK⟩ fun σ H Q ⟨G,O,ρ,n,R,s,w,q⟩=>q none H n (Ext.refl _ _) s.ok w
def uL:PV→M Int
 | .int i=>.ret i
 |_=>.fail
theorem mM {m:ae→M PV} (h:EB φ X e m):OV φ X (some e) (fun ρ=>(m ρ).bind fun y=>(uL y).bind fun i=>.ret (some i)):=BO.mono ⟨mJ h.out⟩ fun σ H Q bt=>by
 obtain⟨G,O,ρ,n,R,s,w,q⟩:=bt
 rw[M.wZ] at w
 refine⟨G,O,ρ,n,_,s,w,fun y x H1 n1 e1 a9 r1 w1=>?_⟩
 cases y<;>first|exact w1.elim|skip
 rename_i i
 rw[r1.bI]
 exact⟨i,rfl,q _ _ _ e1 a9 w1⟩
def Gn (op:PV→Option Int→Option Int→M PV) (me:ae→M PV) (ml mh:ae→M (Option Int)):ae→M PV:=fun ρ=>(me ρ).bind fun y=>(ml ρ).bind fun lo=>(mh ρ).bind fun hi=>op y lo hi
theorem om {r:V→Option Int→Option Int→Hp→VK→Prop} {op:PV→Option Int→Option Int→M PV} {me:ae→M PV} {ml mh:ae→M (Option Int)} (h:BE X e (ME r (qT φ me) (MB φ ml) (MB φ mh))) (hv:Ny r op):EV φ X e (Gn op me ml mh):=BE.mono h fun σ H Q bt=>by
 obtain⟨G,O,ρ,n,R,s,w,q⟩:=bt
 unfold Gn at w
 rw[M.wZ] at w
 refine⟨G,O,ρ,n,_,s,w,fun y x H1 n1 e1 a9 r1 w1=>?_⟩
 rw[M.wZ] at w1
 refine⟨G,O,ρ,n1,_,s.ext e1 a9,w1,fun lo H2 n2 e2 nF w2=>?_⟩
 rw[M.wZ] at w2
 refine⟨G,O,ρ,n2,_,s.ext (e1.trans e2) nF,w2,fun hi H3 n3 e3 ok3 w3=>?_⟩
 exact hv φ G O H3 n3 R Q y lo hi x s.pr (s.ext (e1.trans (e2.trans e3)) ok3).dm ok3 (r1.ext s.B (e2.trans e3)) w3 fun y x H' n' e o r h=>q y x H' n' (e1.trans (e2.trans (e3.trans e))) o r h
def mF (l:List PV) (lo hi:Option Int):List PV:=(l.drop (HT.cb l.length 0 lo)).take (HT.cb l.length l.length hi - HT.cb l.length 0 lo)
theorem u9 {B:Addr} {O:Addr→Prop} {H:Hp} {l:List PV} {xs:List V} (h:aJ B O H l xs) (lo hi:Option Int):aJ B O H (mF l lo hi) (kJ xs lo hi):=by
 unfold mF kJ
 rw[←h.1]
 exact(h.drop _).take _
theorem xc (l:List PV) (lo hi:Option Int) (h:HT.cb l.length 0 lo=0∧HT.cb l.length l.length hi=l.length):mF l lo hi=l:=by
 unfold mF
 rw[h.1,h.2]
 simp
def K1 (K:Frag):V→Option Int→Option Int→Hp→VK→Prop:=fun x lo hi H Q=>KZ K x lo hi H Q∨KW K x lo hi H Q
theorem MJ:Aw X (K1 X.K):=mH.or HC
def fC (x:Str):List PV:=x.cps.toList.map fun c=>.str ⟨#[c]⟩
def bo (lo:Int) (n:Nat):List PV:=(List.range n).map fun i=>.int (lo+(i:Nat))
inductive eZ (K:Frag) (G:Bg φ) (O:Addr→Prop) (c:Bool) (H:Hp):List PV→It→Prop where
 |lst {p:Addr} {xs:List V} {l:List PV} (np: ¬ G.bY p) (hp:c=true→¬ O p) (h:H p=some (.lst xs)) (r:aJ G.B O H l xs):eZ K G O c H l (Mt K p)
 |tup {p:Addr} {xs:List V} {l:List PV} (hp: ¬ O p) (h:H p=some (.tup xs)) (r:aJ G.B O H l xs):eZ K G O c H l (Ms K p)
 |txt (x:Str):eZ K G O c H (fC x) (Mr x)
 |vD (lo:Int) (n:Nat):eZ K G O c H (bo lo n) (Ma lo n)
theorem IT {K:Frag} {H:Hp} {p:Addr} {xs:List V} (h:H p=some (.lst xs)) {i:Nat} (hi:i < xs.length):(Mt K p).go i H:=⟨xs,xs[i],bM.of h,by simp[hi]⟩
theorem IS {K:Frag} {H:Hp} {p:Addr} {xs:List V} (h:H p=some (.tup xs)) {i:Nat} (hi:i < xs.length):(Ms K p).go i H:=⟨xs,xs[i],cN.of h,by simp[hi]⟩
theorem eZ.go {K:Frag} {G:Bg φ} {O:Addr→Prop} {c:Bool} {H:Hp} {l:List PV} {J:It} (t:eZ K G O c H l J) {i:Nat} {y:PV} (hi:l[i]?=some y):J.go i H∧∀ x H2,J.Aq i H x H2→H2=H∧Rep G.B O H y x:=by
 have hl:i < l.length:=(NY.mp hi).1
 cases t with
 |lst np hp h r=>
  refine⟨IT h (r.1▸hl),fun x H2 z=>?_⟩
  obtain⟨e,z⟩:=z
  exact⟨e,r.2 i y x hi (z _ (bM.of h))⟩
 |tup hp h r=>
  refine⟨IS h (r.1▸hl),fun x H2 z=>?_⟩
  obtain⟨e,z⟩:=z
  exact⟨e,r.2 i y x hi (z _ (cN.of h))⟩
 |txt z=>
  unfold fC at hi hl
  refine⟨by show i < z.cps.size;simpa using hl,fun x H2 q=>?_⟩
  obtain⟨e,c',hc,rfl⟩:=q
  refine⟨e,?_⟩
  rw[Oc] at hi
  have:z.cps.toList[i]?=some c':=by simpa using hc
  rw[this] at hi
  cases hi
  exact .str _
 |vD lo n=>
  unfold bo at hi hl
  have hn:i < n:=by simpa using hl
  refine⟨hn,fun x H2 q=>?_⟩
  obtain⟨e,rfl⟩:=q
  refine⟨e,?_⟩
  rw[Oc,List.getElem?_range hn] at hi
  cases hi
  exact .int _
theorem eZ.stop {K:Frag} {G:Bg φ} {O:Addr→Prop} {c:Bool} {H:Hp} {l:List PV} {J:It} (t:eZ K G O c H l J):J.stop l.length H:=by
 cases t with
 |lst np hp h r=>exact⟨_,bM.of h,Nat.le_of_eq r.1.symm⟩
 |tup hp h r=>exact⟨_,cN.of h,Nat.le_of_eq r.1.symm⟩
 |txt z=>show (fC z).length=z.cps.size;simp[fC]
 |vD lo n=>show n≤(bo lo n).length;simp[bo]
theorem eZ.cp {K:Frag} {G:Bg φ} {O O':Addr→Prop} {c:Bool} {H H':Hp} {l:List PV} {J:It} (t:eZ K G O c H l J) (k: ∀ p o,¬ O p→H p=some o→eX H' p o∧¬ O' p) (k2:c=true∨∀ p xs,¬ G.bY p→H p=some (.lst xs)→H' p=some (.lst xs)) (hc: ∀ p,c=true→¬ O p→¬ O' p):eZ K G O' c H' l J:=by
 cases t with
 |lst np hp h r=>
  refine .lst np (fun z=>hc _ z (hp z)) ?_ (r.cp k)
  rcases k2 with z|z
  ·exact(k _ _ (hp z) h).1
  ·exact z _ _ np h
 |tup hp h r=>exact .tup (k _ _ hp h).2 (k _ _ hp h).1 (r.cp k)
 |txt z=>exact .txt z
 |vD lo n=>exact .vD lo n
theorem eZ.keep {K:Frag} {G:Bg φ} {O O':Addr→Prop} {c:Bool} {H H':Hp} {l:List PV} {J:It} (t:eZ K G O c H l J) (k: ∀ p o,¬ O p→H p=some o→H' p=some o∧¬ O' p) (k2:c=true∨∀ p xs,¬ G.bY p→H p=some (.lst xs)→H' p=some (.lst xs)) (hc: ∀ p,c=true→¬ O p→¬ O' p):eZ K G O' c H' l J:=t.cp (fun p o n q=>⟨.of (k p o n q).1,(k p o n q).2⟩) k2 hc
def Hm (φ:cM) (K:Frag) (c:Bool) (m:ae→M (List PV)):TI:=fun σ H Q=> ∃ (G:Bg φ) (O:Addr→Prop) (ρ:ae) (n:Nat) (R:List PV→Nat→Prop),ES G O H σ ρ n∧(m ρ).wp n R∧
 ∀ (l:List PV) (J:It) (H':Hp) (n':Nat),Ext G.B H H'→G.ok H' n'→eZ K G O c H' l J→R l n'→Q J H'
def IV (φ:cM) (X:Cx) (c:Bool) (tg iter:Expr) (m:ae→M (List PV)):Prop:=BI X tg iter (Hm φ X.K c m)
def aH:PV→M (List PV)
 | .lst l=>.ret l
 | .tup l=>.ret l
 | .str x=>.ret (fC x)
 |_=>.fail
theorem Bq {tg l:Expr} {tl:TE} (hl:PE X l tl):PI X tg l (fun σ H R=>tl σ H fun x H1=>(∃ a,x= .ref a∧(∃ xs,bM X.K H1 a xs)∧R (Mt X.K a) H1)∨(∃ a,x= .ref a∧(∃ xs,cN X.K H1 a xs)∧R (Ms X.K a) H1)∨∃ z,x= .str z∧R (Mr z) H1):=by
 intro pZ s σ H R I h
 refine bh (hl pZ s σ H _ I h) fun v s1 ⟨x,H1,I1,r1,q1⟩=>?_
 rcases q1 with⟨a,e,⟨xs,hq⟩,q⟩|⟨a,e,⟨xs,hq⟩,q⟩|⟨z,e,q⟩
 ·subst e
  cases r1
  obtain⟨ay,rv,p,hz⟩:=I1.list hq
  refine wpAny_pyIter_list p.isList ?_
  refine⟨s1.heap.objs.size,[s1.heap.objs.size],_,_,H1,rfl,I1.kept (t':=s1.toks) fun b o e=>NU _ e,y9 a _,⟨_,N6 _ rfl,rfl,rfl⟩,fun b hb=>?_,q⟩
  have e:b=s1.heap.objs.size:=by simpa using hb
  subst e
  exact I1.n9 (NZ _) (I1.a7.fresh (NZ _))
 ·subst e
  cases r1
  obtain⟨ay,rv,p,hz⟩:=I1.tuple hq
  refine wpAny_pyIter_tuple (show s1.heap.IsTuple a ay.toArray from p) ?_
  refine⟨s1.heap.objs.size,[s1.heap.objs.size],_,_,H1,rfl,I1.kept (t':=s1.toks) fun b o e=>NU _ e,vK a _,⟨_,N6 _ rfl,rfl,rfl⟩,fun b hb=>?_,q⟩
  have e:b=s1.heap.objs.size:=by simpa using hb
  subst e
  exact I1.n9 (NZ _) (I1.a7.fresh (NZ _))
 ·subst e
  obtain⟨t,rfl⟩:=r1
  have fin: ∀ (o:Obj) (ty:String),o.cls= .type ty→o.data= .fields #[.str z t,.int (0:Nat) 0]→Turn X.prog X.w X.K tg (Mr z) [s1.heap.objs.size] s1.heap.objs.size (fun i h=>h.IsStrIter s1.heap.objs.size ty z t i)→o.isFreed=false→
    L3 X pZ σ tg R (.ref s1.heap.objs.size) {s1 with heap:=s1.heap.push o}:=fun o ty h1 h2 T hfr=>by
   refine⟨s1.heap.objs.size,[s1.heap.objs.size],_,_,H1,rfl,I1.kept (t':=s1.toks) fun b o e=>NU _ e,T,⟨_,N6 _ hfr,h1,h2⟩,fun b hb=>?_,q⟩
   have e:b=s1.heap.objs.size:=by simpa using hb
   subst e
   exact I1.n9 (NZ _) (I1.a7.fresh (NZ _))
  cases ha:z.cps.all (· < 128)
  ·exact wpAny_pyIter_wide ha (fin _ _ rfl rfl (p3 _ z t (by decide) (fun A hA=>Walks.strWide hA _ z t) fun _ _ _ _ _ st h=>wpAny_pyIter_striter_wide st h) rfl)
  ·exact wpAny_pyIter_ascii ha (fin _ _ rfl rfl (p3 _ z t (by decide) (fun A hA=>Walks.strAscii hA _ z t) fun _ _ _ _ _ st h=>wpAny_pyIter_striter_ascii st h) rfl)
theorem BI.mono {tg iter:Expr} {t t':TI} (h:BI X tg iter t) (f: ∀ σ H Q,t' σ H Q→t σ H Q):BI X tg iter t':=⟨fun pZ s σ H Q I q=>h.out pZ s σ H Q I (f σ H Q q)⟩
theorem Lx {tg:Expr} {m:ae→M PV} (h:EB φ X e m):IV φ X false tg e (fun ρ=>(m ρ).bind aH):=BI.mono ⟨Bq h.out⟩ fun σ H Q bt=>by
 obtain⟨G,O,ρ,n,R,s,w,q⟩:=bt
 rw[M.wZ] at w
 refine⟨G,O,ρ,n,_,s,w,fun y x H1 n1 e1 a9 r1 w1=>?_⟩
 cases y<;>first|exact w1.elim|skip
 ·rw[r1.fi]
  exact .inr (.inr ⟨_,rfl,q _ _ _ _ e1 a9 (.txt _) w1⟩)
 ·cases r1 with
  |full r1=>cases r1 with
   |tup a b c d=>exact .inr (.inl ⟨_,rfl,⟨_,cN.of b⟩,q _ _ _ _ e1 a9 (.tup a b ⟨c,d⟩) w1⟩)
 ·cases r1 with
  |full r1=>cases r1 with
   |lst a b c d=>exact .inl ⟨_,rfl,⟨_,bM.of b⟩,q _ _ _ _ e1 a9 (.lst (fun z=>a (s.pr _ z)) (fun z=>by cases z) b ⟨c,d⟩) w1⟩
  |top a b c=>exact .inl ⟨_,rfl,⟨_,bM.of b⟩,q _ _ _ _ e1 a9 (.lst a (fun z=>by cases z) b c) w1⟩
theorem M7 {tg:Expr} {m:ae→M PV} (h:EV φ X e m):IV φ X true tg e (fun ρ=>(m ρ).bind aH):=BI.mono ⟨Bq h.out⟩ fun σ H Q bt=>by
 obtain⟨G,O,ρ,n,R,s,w,q⟩:=bt
 rw[M.wZ] at w
 refine⟨G,O,ρ,n,_,s,w,fun y x H1 n1 e1 a9 r1 w1=>?_⟩
 cases r1 with
 |str z=>exact .inr (.inr ⟨_,rfl,q _ _ _ _ e1 a9 (.txt _) w1⟩)
 |tup a b c d=>exact .inr (.inl ⟨_,rfl,⟨_,cN.of b⟩,q _ _ _ _ e1 a9 (.tup a b ⟨c,d⟩) w1⟩)
 |lst a b c d=>exact .inl ⟨_,rfl,⟨_,bM.of b⟩,q _ _ _ _ e1 a9 (.lst (fun z=>a (s.pr _ z)) (fun _=>a) b ⟨c,d⟩) w1⟩
 |_=>exact w1.elim
def bN:List PV→M (List PV)
 |[.int j]=>if -1000000≤j∧j≤100000 then .ret (bo 0 j.toNat) else .fail
 |_=>.fail
theorem yA {c:Bool} {tg:Expr} (h:BI X tg e (Cq (J6 φ ml))):IV φ X c tg e (fun ρ=>(ml ρ).bind bN):=BI.mono h fun σ H Q bt=>by
 obtain⟨G,O,ρ,n,R,s,w,q⟩:=bt
 rw[M.wZ] at w
 refine⟨G,O,ρ,n,_,s,w,fun l xs H1 n1 e1 a9 r1 w1=>?_⟩
 match l,r1,w1 with
 |[.int j],r1,w1=>
  obtain⟨x,rfl,r2⟩:=r1.one
  rw[r2.bI]
  unfold bN at w1
  dsimp only at w1
  by_cases hc: -1000000≤j∧j≤100000
  ·rw[OG hc] at w1
   have e62:(2:Int) ^ 62=4611686018427387904:=by decide
   exact⟨j,rfl,by lia,by lia,q _ _ _ _ e1 a9 (.vD 0 j.toNat) w1⟩
  ·rw[OH hc] at w1;exact w1.elim
def t7:List PV→M (List PV)
 |[.int i,.int j]=>if -1000000≤i∧i≤10000000∧-1000000≤j∧j≤10000000∧j - i≤100000 then .ret (bo i (j - i).toNat) else .fail
 |_=>.fail
theorem E9 {c:Bool} {tg:Expr} (h:BI X tg e (Cp (J6 φ ml))):IV φ X c tg e (fun ρ=>(ml ρ).bind t7):=BI.mono h fun σ H Q bt=>by
 obtain⟨G,O,ρ,n,R,s,w,q⟩:=bt
 rw[M.wZ] at w
 refine⟨G,O,ρ,n,_,s,w,fun l xs H1 n1 e1 a9 r1 w1=>?_⟩
 match l,r1,w1 with
 |[.int i,.int j],r1,w1=>
  obtain⟨x,x',rfl,r2,r3⟩:=r1.two
  rw[r2.bI,r3.bI]
  unfold t7 at w1
  dsimp only at w1
  by_cases hc: -1000000≤i∧i≤10000000∧-1000000≤j∧j≤10000000∧j - i≤100000
  ·rw[OG hc] at w1
   have e62:(2:Int) ^ 62=4611686018427387904:=by decide
   exact⟨i,j,rfl,⟨by lia,by lia,by lia,by lia⟩,q _ _ _ _ e1 a9 (.vD i (j - i).toNat) w1⟩
  ·rw[OH hc] at w1;exact w1.elim
def DQ (φ:cM) (b:PV→ae→M ae):TG:=fun v σ H Q=> ∃ (G:Bg φ) (O:Addr→Prop) (ρ:ae) (n:Nat) (R:ae→Nat→Prop) (y:PV),ES G O H σ ρ n∧Rep G.B O H y v∧(b y ρ).wp n R∧
 ∀ (σ':St) (ρ':ae) (n':Nat),ES G O H σ' ρ' n'→R ρ' n'→Q σ' H
def GV (φ:cM) (X:Cx) (tg:Expr) (b:PV→ae→M ae):Prop:=BG X tg (DQ φ b)
theorem j7.set {G:Bg φ} {O:Addr→Prop} {H:Hp} {σ:St} {ρ:ae} (h:j7 G O H σ ρ) (k:Nat) {t:Ent} {x:V} (r:lT G O H t (some x)):j7 G O H (σ.set k (some x)) (ρ.set k t):=by
 refine⟨by simp[h.1],fun i e he=>?_⟩
 by_cases hk:k=i
 ·subst hk
  have hl:k < ρ.length:=by have:=(NY.mp he).1;simpa using this
  rw[OI hl] at he
  cases he
  rw[OI (h.1▸hl)]
  exact r
 ·rw[Ot hk] at he ⊢
  exact h.2 i e he
theorem ES.set {G:Bg φ} {O:Addr→Prop} {H:Hp} {σ:St} {ρ:ae} {n:Nat} (s:ES G O H σ ρ n) (k:Nat) {t:Ent} {x:V} (r:lT G O H t (some x)):ES G O H (σ.set k (some x)) (ρ.set k t) n:=⟨s.er.set k r,s.ok,s.pr,s.dm⟩
def aA (k:Nat) (y:PV) (ρ:ae):M ae:=.ret (ρ.set k (.val y))
theorem BG.mono {tg:Expr} {t t':TG} (h:BG X tg t) (f: ∀ v σ H Q,t' v σ H Q→t v σ H Q):BG X tg t':=⟨fun pZ s σ H v u Q I r q=>h.out pZ s σ H v u Q I r (f v σ H Q q)⟩
theorem sk {tg:Expr} {k:Nat} (h:BG X tg (cJ k)):GV φ X tg (aA k):=BG.mono h fun v σ H Q ⟨G,O,ρ,n,R,y,s,r,w,q⟩=>q _ _ n (s.set k (t:=.val y) ⟨v,rfl,r⟩) w
def sP:List Nat→List PV→ae→ae
 |k::ks,y::l,ρ=>sP ks l (ρ.set k (.val y))
 |_,_,ρ=>ρ
def de (ks:List Nat) (y:PV) (ρ:ae):M ae:=match y with
 | .tup l=>if l.length=ks.length then .ret (sP ks l ρ) else .fail
 |_=>.fail
def d6:List Nat→Dv
 |[]=>I0
 |k::ks=>Cz (cJ k) (d6 ks)
theorem qB {G:Bg φ} {O:Addr→Prop} {H:Hp} {n:Nat}: ∀ (ks:List Nat) (l:List PV) (xs:List V) (σ:St) (ρ:ae) (Q:St→Hp→Prop),l.length=ks.length→aJ G.B O H l xs→ES G O H σ ρ n→(∀ σ',ES G O H σ' (sP ks l ρ) n→Q σ' H)→d6 ks xs σ H Q
 |[],l,xs,σ,ρ,Q,hl,r,s,q=>by
  have e:l=[]:=Ow hl
  subst e
  rw[r.nil_inv]
  exact⟨rfl,q σ s⟩
 |k::ks,l,xs,σ,ρ,Q,hl,r,s,q=>by
  cases l with
  |nil=>simp at hl
  |cons y l=>
   obtain⟨x,t,rfl,r1,r2⟩:=r.cons_inv
   exact⟨x,t,rfl,qB ks l t _ _ Q (by simpa using hl) r2 (s.set k (t:=.val y) ⟨x,rfl,r1⟩) q⟩
theorem IX {tg:Expr} {ks:List Nat} (h:BG X tg (wO X.K ks.length (d6 ks))):GV φ X tg (de ks):=BG.mono h fun v σ H Q bt=>by
 obtain⟨G,O,ρ,n,R,y,s,r,w,q⟩:=bt
 unfold de at w
 cases r with
 | @tup p xs l a b c d=>
  dsimp only at w
  by_cases hc:l.length=ks.length
  ·rw[OG hc] at w
   exact⟨p,xs,rfl,cN.of b,by rw[←c];exact hc,qB ks l xs σ ρ Q hc ⟨c,d⟩ s fun σ' s'=>q σ' _ n s' w⟩
  ·rw[OH hc] at w;exact w.elim
 |_=>exact w.elim
def pQ (bd:PV→ae→M ae) (tt:ae→M Bool) (te:ae→M PV):List PV→ae→M (List PV)
 |[],_=>.ret []
 |y::r,ρ=>(bd y ρ).bind fun ρ1=>(tt ρ1).bind fun ok=>if ok=true then(te ρ1).bind fun z=>(pQ bd tt te r ρ1).bind fun l=>.ret (z::l) else pQ bd tt te r ρ1
def c9 (js:List (Option Nat)) (ρ:ae):ae:=js.map fun o=>match o with|some j=>(ρ[j]?).getD .un|none=>.un
theorem oG {G:Bg φ} {O:Addr→Prop} {H:Hp} {σ:St} {ρ:ae} (h:j7 G O H σ ρ) (js:List (Option Nat)):j7 G O H (fk js σ) (c9 js ρ):=by
 refine⟨by simp[fk,c9],fun i e he=>?_⟩
 unfold c9 at he
 unfold fk
 rw[Oc] at he ⊢
 cases q:js[i]? with
 |none=>rw[q] at he;cases he
 |some o=>
  rw[q] at he
  simp only[Option.map_some,Option.some.injEq] at he ⊢
  subst he
  cases o with
  |none=>trivial
  |some j=>
   dsimp only
   cases q2:ρ[j]? with
   |none=>rw[Option.getD_none];trivial
   |some t=>
    have:=h.2 j t q2
    rw[Option.getD_some]
    simpa using this
def cF:ae→M Bool:=fun _=>.ret true
theorem Ge.mono {ifs:List Expr} {t t':TT} (h:Ge X ifs t) (f: ∀ σ H Q,t' σ H Q→t σ H Q):Ge X ifs t':=⟨fun pZ s σ H Q I q=>h.out pZ s σ H Q I (f σ H Q q)⟩
def Nt (φ:cM) (X:Cx) (ifs:List Expr) (m:ae→M Bool):Prop:=Ge X ifs (xT φ m)
theorem AO:Nt φ X [] cF:=Ge.mono ⟨Eg⟩ fun σ H Q ⟨G,O,ρ,n,R,s,w,q⟩=>q true H n (Ext.refl _ _) s.ok w
theorem AN {c:Expr} {m:ae→M Bool} (h:TV φ X c m):Nt φ X [c] m:=⟨Ef h.out⟩
def bf (js:List (Option Nat)) (mi:ae→M (List PV)) (bd:PV→ae→M ae) (tt:ae→M Bool) (te:ae→M PV):ae→M (List PV):=fun ρ=>(mi ρ).bind fun l=>if l.length≤100000 then pQ bd tt te l (c9 js ρ) else .fail
def Bg.with (G:Bg φ) (D:Addr) (hD:D≠G.B):Bg φ where
 B:=G.B
 bY:=fun p=>G.bY p∨p=D
 ok:=fun H n=>G.ok H n∧∃ ys,H D=some (.lst ys)
 pB:=.inl G.pB
 keep:=fun H H' n k h=>⟨G.keep H H' n (fun p o z=>k p o (z.imp .inl id)) h.1,by obtain⟨ys,e⟩:=h.2;exact⟨ys,k D _ (.inl (.inr rfl)) e⟩⟩
 tp:=fun e he=>.inl (G.tp e he)
 tab:=fun H n h=>G.tab H n h.1
 vN:=fun H H' n h h1 h2=>⟨G.vN H H' n h.1 h1 h2,by
  obtain⟨ys,e⟩:=h.2
  refine⟨ys,h2 D _ (fun z=>?_) e⟩
  obtain⟨q,hq,rfl⟩:=N4.mp z
  obtain⟨ps,e2,_⟩:=G.tab H n h.1 q hq
  rw[e] at e2;cases e2⟩
 CZ:=fun H n p h z=>by
  rcases z with z|z
  ·exact G.CZ H n p h.1 z
  ·subst z;obtain⟨ys,e⟩:=h.2;exact⟨_,e⟩
 dr:=fun H n m Q E h h0 h1 q=>G.dr H n m Q E h.1 h0 h1 fun d H' d0 d1 e o=>q d H' d0 d1 e ⟨o,by
  obtain⟨ys,e2⟩:=h.2
  exact⟨ys,e D _ hD e2⟩⟩
theorem GD {K:Frag} {js:List (Option Nat)} {mi:ae→M (List PV)} {bd:PV→ae→M ae} {tt:ae→M Bool} {te:ae→M PV}: ∀ σ H Q,Gi φ (bf js mi bd tt te) σ H Q→As js (Hm φ K false mi) (DQ φ bd) (xT φ tt) (o4 φ te) σ H Q:=fun σ H Q bt=>by
 obtain⟨G,O,ρ,n,R,s,w,q⟩:=bt
 unfold bf at w
 rw[M.wZ] at w
 refine⟨G,O,ρ,n,_,s,w,fun l J H1 n1 e1 a9 it w1=>fun D hD=>?_⟩
 by_cases hl:l.length≤100000
 case neg=>rw[OH hl] at w1;exact w1.elim
 rw[OG hl] at w1
 have s1:=s.ext e1 a9
 have nD: ¬ O D:=fun z=>by obtain⟨o,g⟩:=s1.dm D z;rw[hD] at g;cases g
 have pD: ¬ G.bY D:=fun z=>nD (s.pr _ z)
 have hBD:D≠G.B:=fun z=>pD (z▸G.pB)
 have bP: ∀ p o,H1 p=some o→p≠D:=fun p o hp z=>by subst z;rw[hD] at hp;cases hp
 let O':Addr→Prop:=fun p=>O p∨p=D
 let G':Bg φ:=G.with D hBD
 have k0: ∀ p o,¬ O p→H1 p=some o→upd H1 D (HO.lst []) p=some o∧¬ O' p:=fun p o np hp=>⟨by rw[ag (bP p o hp)];exact hp,fun z=>by
  rcases z with z|z
  ·exact np z
  ·exact bP p o hp z⟩
 have kD: ∀ (H5:Hp) (o:HO) p u,¬ O' p→H5 p=some u→upd H5 D o p=some u∧¬ O' p:=fun H5 o p u np hp=>⟨by rw[ag (fun z=>np (.inr z))];exact hp,np⟩
 refine⟨fun i m σ' H'=>m=l.length - i∧i≤l.length∧∃ (ys:List V) (zs:List PV) (ρ':ae) (n':Nat),ys.length≤i∧H' D=some (.lst ys)∧aJ G.B O' H' zs ys∧ES G' O' H' σ' ρ' n'∧Ext G.B H1 H'∧eZ K G' O' false H' l J∧
  (pQ bd tt te (l.drop i) ρ').wp n' (fun t k=>R (zs++t) k),⟨l.length,by simp,Ol _,[],[],c9 js ρ,n1,NZ _,ar,.nil,?_,Ext.new hD _,?_,?_⟩,?_⟩
 ·have er:=oG s1.er js
  refine⟨⟨er.1,fun i e he=>?_⟩,⟨Bg.new a9 hD _,[],ar⟩,fun p z=>?_,fun p z=>?_⟩
  ·have r1:=er.2 i e he
   cases e with
   |un=>trivial
   |val y=>obtain⟨x,hx,rr⟩:=r1;exact⟨x,hx,rr.keep k0⟩
   |own t=>
    obtain⟨p,xs,hx,hp,np,hh,rr⟩:=r1
    exact⟨p,xs,hx,.inl hp,fun z=>by
     rcases z with z|z
     ·exact np z
     ·exact bP p _ hh z,by rw[ag (bP p _ hh)];exact hh,rr.keep k0⟩
   |bp t=>
    obtain⟨p,xs,hx,hp,np,hh,rr⟩:=r1
    exact⟨p,xs,hx,.inl hp,fun z=>by
     rcases z with z|z
     ·exact np z
     ·exact bP p _ hh z,by rw[ag (bP p _ hh)];exact hh,rr.keep k0⟩
  ·rcases z with z|z
   ·exact .inl (s.pr p z)
   ·exact .inr z
  ·rcases z with z|z
   ·obtain⟨o,g⟩:=s1.dm p z;exact⟨o,by rw[ag (bP p o g)];exact g⟩
   ·subst z;exact⟨_,ar⟩
 ·cases it with
  |lst np hp h r=>
   exact .lst (fun z=>by
    rcases z with z|z
    ·exact np z
    ·exact bP _ _ h z) (fun z=>by cases z) (by rw[ag (bP _ _ h)];exact h) (r.keep k0)
  |tup hp h r=>exact .tup (k0 _ _ hp h).2 (k0 _ _ hp h).1 (r.keep k0)
  |txt z=>exact .txt z
  |vD lo n=>exact .vD lo n
 ·simpa using w1
 ·rintro i m σ' H' ⟨rfl,hi,ys,zs,ρ',n',hy,hDy,rz,s',ex,it',w'⟩
  by_cases cU:i < l.length
  ·have hget:l[i]?=some l[i]:=NQ cU
   have iX:l.drop i=l[i]::l.drop (i+1):=List.drop_eq_getElem_cons cU
   rw[iX] at w'
   unfold pQ at w'
   obtain⟨g1,g2⟩:=it'.go hget
   refine .inr ⟨g1,fun x H2 yl=>?_⟩
   obtain⟨eH,rx⟩:=g2 x H2 yl
   subst eH
   rw[M.wZ] at w'
   refine⟨G',O',ρ',n',_,l[i],s',rx,w',fun σ2 ρ2 n2 s2 w2=>?_⟩
   rw[M.wZ] at w2
   refine⟨G',O',ρ2,n2,_,s2,w2,fun ok H4 n4 e4 ok4 w4=>?_⟩
   have D4:H4 D=some (.lst ys):=e4 D _ hBD hDy
   have it4:eZ K G' O' false H4 l J:=it'.cp (fun p o np hp=>⟨e4 p o (fun z=>np (.inl (z▸s.B))) hp,np⟩) (.inr fun p xs np hp=>e4 p _ (fun z=>np (z▸G'.pB)) hp) fun p z=>by cases z
   cases ok with
   |true=>
    simp only[if_true] at w4 ⊢
    rw[M.wZ] at w4
    refine⟨G',O',ρ2,n4,_,s2.ext e4 ok4,w4,fun z x5 H5 n5 e5 ok5 r5 w5=>?_⟩
    have D5:H5 D=some (.lst ys):=e5 D _ hBD D4
    rw[M.wZ] at w5
    have s5:=s2.ext (e4.trans e5) ok5
    have it5:eZ K G' O' false H5 l J:=it4.cp (fun p o np hp=>⟨e5 p o (fun z=>np (.inl (z▸s.B))) hp,np⟩) (.inr fun p xs np hp=>e5 p _ (fun z=>np (z▸G'.pB)) hp) fun p z=>by cases z
    refine⟨ys,D5,by rw[Ox];lia,l.length - (i+1),by lia,rfl,cU,ys++[x5],zs++[z],ρ2,n5,by simp;lia,ar,?_,?_,?_,?_,?_⟩
    ·exact((rz.ext (.inl s.B) (e4.trans e5)).append (.cons r5 .nil)).keep (kD H5 _)
    ·refine⟨⟨s5.er.1,fun j e he=>?_⟩,⟨G.keep H5 _ _ (fun p o hp hpo=>by
      have hpd:p≠D:=fun z=>by
       rcases hp with hp|hp
       ·exact pD (z▸hp)
       ·rw[z,D5] at hpo;cases hpo;exact hp
      rw[ag hpd];exact hpo) ok5.1,_,ar⟩,s5.pr,fun p hp=>?_⟩
     ·have r1:=s5.er.2 j e he
      cases e with
      |un=>trivial
      |val y=>obtain⟨x,hx,rr⟩:=r1;exact⟨x,hx,rr.keep (kD H5 _)⟩
      |own t=>
       obtain⟨p,xs,hx,hp,np,hh,rr⟩:=r1
       exact⟨p,xs,hx,hp,np,by rw[ag (fun z=>np (.inr z))];exact hh,rr.keep (kD H5 _)⟩
      |bp t=>
       obtain⟨p,xs,hx,hp,np,hh,rr⟩:=r1
       exact⟨p,xs,hx,hp,np,by rw[ag (fun z=>np (.inr z))];exact hh,rr.keep (kD H5 _)⟩
     ·by_cases hpd:p=D
      ·subst hpd;exact⟨_,ar⟩
      ·obtain⟨o,g⟩:=s5.dm p hp;exact⟨o,by rw[ag hpd];exact g⟩
    ·intro p o np hp
     exact((ex.trans (e4.trans e5)) p o np hp).to fun u e=>.of (by rw[ag (bP p o hp)];exact e)
    ·exact it5.keep (kD H5 _) (.inr fun p xs np hp=>by rw[ag (fun z=>np (.inr z))];exact hp) fun p z=>by cases z
    ·refine M.wp_mono w5 fun t k' hk=>?_
     have hk':R (zs++z::t) k':=hk
     simpa using hk'
   |false=>
    exact⟨l.length - (i+1),by lia,rfl,cU,ys,zs,ρ2,n4,by lia,D4,rz.ext (.inl s.B) e4,s2.ext e4 ok4,ex.trans e4,it4,w4⟩
  ·have e:i=l.length:=by lia
   subst e
   refine .inl ⟨it'.stop,?_⟩
   rw[List.drop_length] at w'
   have w2:R (zs++[]) n':=w'
   rw[List.append_nil] at w2
   exact q zs D ys H' n' (e1.trans ex) s'.ok.1 (eN e1 a9 hD) hDy rz w2
theorem GN {js:List (Option Nat)} {mi:ae→M (List PV)} {bd:PV→ae→M ae} {tt:ae→M Bool} {te:ae→M PV} (h:BE X e (As js (Hm φ X.K false mi) (DQ φ bd) (xT φ tt) (o4 φ te))):EF φ X e (bf js mi bd tt te):=BE.mono h GD
end
end
section
variable {φ:cM}
inductive Fl where
 |nx (ρ:ae)|rt (y:PV)|bk (ρ:ae)|ct (ρ:ae)
def Ent.GF:Ent→Bool
 | .own _=>true
 | .bp _=>true
 |_=>false
def Ent.freeze:Ent→Ent
 | .own l=>.val (.lst l)
 | .bp l=>.val (.cL l)
 |e=>e
def dh (ρ:ae) (σ:St) (i:Nat) (p:Addr):Prop:= ∃ t,ρ[i]?=some t∧t.GF=true∧σ[i]?=some (some (.ref p))
set_option genInjectivity false in
structure SI (G:Bg φ) (O0:Addr→Prop) (H0:Hp) (O:Addr→Prop) (H:Hp) (σ:St) (ρ:ae) (n:Nat):Prop where
 es:ES G O H σ ρ n
 p0: ∀ p,G.bY p→O0 p
 sub: ∀ p,O0 p→O p
 ext:Ext G.B H0 H
 gr: ∀ p,O p→O0 p∨H0 p=none
 d0: ∀ p,O0 p→∃ o,H0 p=some o
 fr: ∀ i p,dh ρ σ i p→H0 p=none
 dj: ∀ i j p,dh ρ σ i p→dh ρ σ j p→i=j
section
variable {G:Bg φ} {O0 O:Addr→Prop} {H0 H H':Hp} {σ:St} {ρ:ae} {n n':Nat}
theorem SI.to (s:SI G O0 H0 O H σ ρ n) (x:Ext G.B H H') (ok:G.ok H' n'):SI G O0 H0 O H' σ ρ n':=⟨s.es.ext x ok,s.p0,s.sub,s.ext.trans x,s.gr,s.d0,s.fr,s.dj⟩
theorem rK {t:Ent} (ht:t.GF=false) {k:Nat} {o:Option V} {i:Nat} {p:Addr} (h:dh (ρ.set k t) (σ.set k o) i p):dh ρ σ i p:=by
 obtain⟨e,h1,h2,h3⟩:=h
 by_cases hk:k=i
 ·subst hk
  rw[List.getElem?_set] at h1
  split at h1
  ·split at h1
   ·cases h1;rw[ht] at h2;cases h2
   ·cases h1
  ·exact⟨e,h1,h2,by rw[Ot (by lia)] at h3;exact h3⟩
 ·rw[Ot hk] at h1 h3
  exact⟨e,h1,h2,h3⟩
theorem SI.A5 (s:SI G O0 H0 O H σ ρ n) (k:Nat) {y:PV} {x:V} (r:Rep G.B O H y x):SI G O0 H0 O H (σ.set k (some x)) (ρ.set k (.val y)) n:=
 ⟨s.es.set k (t:=.val y) ⟨x,rfl,r⟩,s.p0,s.sub,s.ext,s.gr,s.d0,fun i p h=>s.fr i p (rK rfl h),fun i j p h h'=>s.dj i j p (rK rfl h) (rK rfl h')⟩
theorem eo (s:ES G O H σ ρ n) {i:Nat} {p:Addr} (h:dh ρ σ i p):O p∧¬ G.bY p∧∃ o,H p=some o:=by
 obtain⟨t,h1,h2,h3⟩:=h
 have r:=s.er.2 i t h1
 rw[h3] at r
 cases t with
 |own l=>obtain⟨q,xs,e,a,b,c,_⟩:=r;cases e;exact⟨a,b,_,c⟩
 |bp l=>obtain⟨q,xs,e,a,b,c,_⟩:=r;cases e;exact⟨a,b,_,c⟩
 |_=>cases h2
theorem uf (s:ES G O H σ ρ n) {i:Nat} {p:Addr} {o:HO} (h:dh ρ σ i p) (e:H p=some o): ¬ JP o:=by
 obtain⟨t,h1,h2,h3⟩:=h
 have r:=s.er.2 i t h1
 rw[h3] at r
 cases t with
 |own l=>obtain⟨q,xs,e',a,b,c,_⟩:=r;cases e';rw[c] at e;cases e;exact id
 |bp l=>obtain⟨q,xs,e',a,b,c,_⟩:=r;cases e';rw[c] at e;cases e;exact id
 |_=>cases h2
theorem SI.MK (s:SI G O0 H0 O H σ ρ n) (k:Nat) {l:List PV} {p:Addr} {xs:List V} (x:Ext G.B H H') (ok:G.ok H' n') (hp:H p=none) (hp':H' p=some (.lst xs)) (r:aJ G.B (fun q=>O q∨q=p) H' l xs):
  SI G O0 H0 (fun q=>O q∨q=p) H' (σ.set k (some (.ref p))) (ρ.set k (.own l)) n':=by
 have nO: ¬ O p:=fun z=>by obtain⟨o,g⟩:=s.es.dm p z;rw[hp] at g;cases g
 have np: ¬ G.bY p:=fun z=>nO (s.es.pr p z)
 have h0:H0 p=none:=by
  cases e:H0 p with
  |none=>rfl
  |some o=>obtain⟨_,this⟩:=(s.ext p o (fun z=>np (z▸G.pB)) e).there;rw[hp] at this;cases this
 have hB:O G.B:=s.es.B
 have gw: ∀ q,(O q∨q=p)→O q∨H q=none:=fun q z=>by
  rcases z with z|z
  ·exact .inl z
  ·subst z;exact .inr hp
 have s':=s.es.ext x ok
 have es:ES G (fun q=>O q∨q=p) H' σ ρ n':=by
  refine⟨⟨s.es.er.1,fun i e he=>?_⟩,ok,fun q z=>.inl (s.es.pr q z),fun q z=>?_⟩
  ·have r1:=s.es.er.2 i e he
   cases e with
   |un=>trivial
   |val y=>obtain⟨v,hv,rr⟩:=r1;exact⟨v,hv,(rr.grow gw).ext (.inl hB) x⟩
   |own t=>
    obtain⟨q,ys,hv,hq,nq,hh,rr⟩:=r1
    exact⟨q,ys,hv,.inl hq,nq,x q _ (fun z=>nq (z▸G.pB)) hh,(rr.grow gw).ext (.inl hB) x⟩
   |bp t=>
    obtain⟨q,ys,hv,hq,nq,hh,rr⟩:=r1
    exact⟨q,ys,hv,.inl hq,nq,x q _ (fun z=>nq (z▸G.pB)) hh,⟨rr.1,fun i a b c d=>((rr.2 i a b c d).grow gw).ext (.inl hB) x⟩⟩
  ·rcases z with z|z
   ·exact s'.dm q z
   ·subst z;exact⟨_,hp'⟩
 have ow: ∀ i q,dh (ρ.set k (.own l)) (σ.set k (some (.ref p))) i q→(i=k∧q=p)∨(i≠k∧dh ρ σ i q):=fun i q h=>by
  obtain⟨t,h1,h2,h3⟩:=h
  by_cases hk:k=i
  ·subst hk
   rw[List.getElem?_set] at h3
   split at h3
   ·split at h3
    ·cases h3;exact .inl ⟨rfl,rfl⟩
    ·cases h3
   ·rename_i hh;exact absurd rfl hh
  ·rw[Ot hk] at h1 h3
   exact .inr ⟨fun z=>hk z.symm,t,h1,h2,h3⟩
 refine⟨es.set k (t:=.own l) ⟨p,xs,rfl,.inr rfl,np,hp',r⟩,s.p0,fun q z=>.inl (s.sub q z),s.ext.trans x,fun q z=>?_,s.d0,fun i q h=>?_,fun i j q h h'=>?_⟩
 ·rcases z with z|z
  ·exact s.gr q z
  ·subst z;exact .inr h0
 ·rcases ow i q h with⟨_,rfl⟩|⟨_,h⟩
  ·exact h0
  ·exact s.fr i q h
 ·rcases ow i q h with⟨rfl,rfl⟩|⟨n1,h1⟩
  ·rcases ow j q h' with⟨rfl,_⟩|⟨n2,h2⟩
   ·rfl
   ·obtain⟨_,_,o,g⟩:=eo s.es h2;rw[hp] at g;cases g
  ·rcases ow j q h' with⟨rfl,rfl⟩|⟨n2,h2⟩
   ·obtain⟨_,_,o,g⟩:=eo s.es h1;rw[hp] at g;cases g
   ·exact s.dj i j q h1 h2
theorem SI.put (s:SI G O0 H0 O H σ ρ n) {k:Nat} {l l':List PV} {p:Addr} {xs':List V} (hk:ρ[k]?=some (.own l)) (hp:σ[k]?=some (some (.ref p))) (r:aJ G.B O H l' xs'):SI G O0 H0 O (upd H p (.lst xs')) σ (ρ.set k (.own l')) n:=by
 have ho:dh ρ σ k p:=⟨_,hk,rfl,hp⟩
 obtain⟨hO,np,o,hh⟩:=eo s.es ho
 have Lj:=uf s.es ho hh
 have kp: ∀ q u,¬ O q→H q=some u→upd H p (.lst xs') q=some u∧¬ O q:=fun q u nq hq=>⟨by
  have bP:q≠p:=fun z=>nq (z▸hO)
  rw[ag bP];exact hq,nq⟩
 have ow: ∀ i q,dh (ρ.set k (.own l')) σ i q→dh ρ σ i q:=fun i q h=>by
  obtain⟨t,h1,h2,h3⟩:=h
  by_cases e:k=i
  ·subst e;exact⟨_,hk,rfl,h3⟩
  ·rw[Ot e] at h1;exact⟨t,h1,h2,h3⟩
 refine⟨⟨⟨by simp[s.es.er.1],fun i e he=>?_⟩,G.keep H _ _ (fun q u hq hu=>by
   have bP:q≠p:=fun z=>by
    rcases hq with hq|hq
    ·exact np (z▸hq)
    ·rw[z,hh] at hu;cases hu;exact Lj hq
   rw[ag bP];exact hu) s.es.ok,s.es.pr,fun q hq=>?_⟩,s.p0,s.sub,fun q u nb hq=>?_,s.gr,s.d0,fun i q h=>s.fr i q (ow i q h),fun i j q h h'=>s.dj i j q (ow i q h) (ow j q h')⟩
 ·by_cases e1:k=i
  ·subst e1
   have hl:k < ρ.length:=(NY.mp hk).1
   rw[OI hl] at he
   cases he
   rw[hp]
   exact⟨p,xs',rfl,hO,np,ar,r.keep kp⟩
  ·rw[Ot e1] at he
   have r1:=s.es.er.2 i e he
   cases e with
   |un=>trivial
   |val y=>obtain⟨v,hv,rr⟩:=r1;exact⟨v,hv,rr.keep kp⟩
   |own t=>
    obtain⟨q,ys,hv,hq,nq,hh',rr⟩:=r1
    have bP:q≠p:=fun z=>by
     subst z
     exact e1 (s.dj k i q ho ⟨_,he,rfl,dw s.es.er he hv⟩)
    exact⟨q,ys,hv,hq,nq,by rw[ag bP];exact hh',rr.keep kp⟩
   |bp t=>
    obtain⟨q,ys,hv,hq,nq,hh',rr⟩:=r1
    have bP:q≠p:=fun z=>by
     subst z
     exact e1 (s.dj k i q ho ⟨_,he,rfl,dw s.es.er he hv⟩)
    exact⟨q,ys,hv,hq,nq,by rw[ag bP];exact hh',rr.keep kp⟩
 ·by_cases e1:q=p
  ·subst e1;exact⟨_,ar⟩
  ·obtain⟨u,g⟩:=s.es.dm q hq;exact⟨u,by rw[ag e1];exact g⟩
 ·have bP:q≠p:=fun z=>by subst z;rw[s.fr k q ho] at hq;cases hq
  exact(s.ext q u nb hq).to fun v e=>.of (by rw[ag bP];exact e)
theorem SI.frozen (s:SI G O0 H0 O H σ ρ n):ES G O0 H σ (ρ.map Ent.freeze) n:=by
 refine⟨⟨by simp[s.es.er.1],fun i e he=>?_⟩,s.es.ok,s.p0,fun p h=>s.es.dm p (s.sub p h)⟩
 rw[Oc] at he
 cases q:ρ[i]? with
 |none=>rw[q] at he;cases he
 |some t=>
  rw[q] at he
  cases he
  have r1:=s.es.er.2 i t q
  cases t with
  |un=>trivial
  |val y=>obtain⟨v,hv,rr⟩:=r1;exact⟨v,hv,rr.less s.sub⟩
  |own t=>
   obtain⟨p,ys,hv,hq,nq,hh',rr⟩:=r1
   have h0:=s.fr i p ⟨_,q,rfl,dw s.es.er q hv⟩
   exact⟨_,hv,.lst (fun z=>by obtain⟨o,g⟩:=s.d0 p z;rw[h0] at g;cases g) hh' rr.1 (rr.less s.sub).2⟩
  |bp t=>
   obtain⟨p,ys,hv,hq,nq,hh',rr⟩:=r1
   have h0:=s.fr i p ⟨_,q,rfl,dw s.es.er q hv⟩
   exact⟨_,hv,.cL (fun z=>by obtain⟨o,g⟩:=s.d0 p z;rw[h0] at g;cases g) (.inl hh') rr.1 fun i a b c d=>(rr.2 i a b c d).less s.sub⟩
theorem SI.eF (s:SI G O0 H0 O H σ ρ n):SI G O0 H0 O0 H σ (ρ.map Ent.freeze) n:=by
 have no: ∀ i p,¬ dh (ρ.map Ent.freeze) σ i p:=fun i p h=>by
  obtain⟨t,h1,h2,_⟩:=h
  rw[Oc] at h1
  cases q:ρ[i]? with
  |none=>rw[q] at h1;cases h1
  |some e=>rw[q] at h1;cases h1;cases e<;>cases h2
 exact⟨s.frozen,s.p0,fun p h=>h,s.ext,fun p h=>.inl h,s.d0,fun i p h=>(no i p h).elim,fun i j p h=>(no i p h).elim⟩
def hide (O0 O:Addr→Prop) (H:Hp):Hp:=fun p=>by
 classical exact if O p∧¬ O0 p then none else H p
theorem sg {p:Addr} (h:O p) (h': ¬ O0 p):hide O0 O H p=none:=by unfold hide;rw[OG ⟨h,h'⟩]
theorem eQ {p:Addr} (h: ¬ (O p∧¬ O0 p)):hide O0 O H p=H p:=by unfold hide;rw[OH h]
theorem SI.now (s:SI G O0 H0 O H σ ρ n):SI G O0 (hide O0 O H) O H σ ρ n:=by
 refine⟨s.es,s.p0,s.sub,fun p o nb h=>?_,fun p h=>?_,fun p h=>?_,fun i p h=>?_,s.dj⟩
 ·by_cases c:O p∧¬ O0 p
  ·rw[sg c.1 c.2] at h;cases h
  ·rw[eQ c] at h;exact .of h
 ·by_cases c:O0 p
  ·exact .inl c
  ·exact .inr (sg h c)
 ·rw[eQ (fun z=>z.2 h)];exact s.es.dm p (s.sub p h)
 ·have h1:=eo s.es h
  have h0:=s.fr i p h
  exact sg h1.1 (fun z=>by obtain⟨o,g⟩:=s.d0 p z;rw[h0] at g;cases g)
theorem SI.base (s:SI G O0 H0 O H σ ρ n):Ext G.B H0 (hide O0 O H):=fun p o nb h=>by
 have c: ¬ (O p∧¬ O0 p):=fun z=>by
  rcases s.gr p z.1 with w|w
  ·exact z.2 w
  ·rw[w] at h;cases h
 exact(s.ext p o nb h).to fun v e=>.of (by rw[eQ c];exact e)
theorem SI.back {H1:Hp} {O':Addr→Prop} {σ':St} {ρ':ae} (s:SI G O0 H0 O H σ ρ n) (x:SI G O0 (hide O0 O H) O' H1 σ' ρ' n'):SI G O0 H0 O' H1 σ' ρ' n':=by
 have none0: ∀ p,¬ G.bY p→hide O0 O H p=none→H0 p=none:=fun p np h=>by
  cases e:H0 p with
  |none=>rfl
  |some o=>obtain⟨_,this⟩:=(s.base p o (fun z=>np (z▸G.pB)) e).there;rw[h] at this;cases this
 refine⟨x.es,x.p0,x.sub,s.base.trans x.ext,fun p h=>?_,s.d0,fun i p h=>none0 p (eo x.es h).2.1 (x.fr i p h),x.dj⟩
 by_cases c:O0 p
 ·exact .inl c
 ·rcases x.gr p h with w|w
  ·exact .inl w
  ·exact .inr (none0 p (fun z=>c (s.p0 p z)) w)
theorem SI.walk {K:Frag} {H1:Hp} {O':Addr→Prop} {σ':St} {ρ':ae} {l:List PV} {J:It} (s:SI G O0 H0 O H σ ρ n) (x:SI G O0 (hide O0 O H) O' H1 σ' ρ' n') (it:eZ K G O true H l J):eZ K G O' true H1 l J:=by
 have k: ∀ p o,¬ O p→H p=some o→eX H1 p o∧¬ O' p:=fun p o np hp=>by
  have e:hide O0 O H p=some o:=by rw[eQ (fun z=>np z.1)];exact hp
  refine⟨x.ext p o (fun z=>np (z▸s.es.B)) e,fun z=>?_⟩
  rcases x.gr p z with w|w
  ·exact np (s.sub p w)
  ·rw[w] at e;cases e
 cases it with
 |lst np hp h r=>exact .lst np (fun _=>(k _ _ (hp rfl) h).2) (k _ _ (hp rfl) h).1 (r.cp k)
 |tup hp h r=>exact .tup (k _ _ hp h).2 (k _ _ hp h).1 (r.cp k)
 |txt z=>exact .txt z
 |vD lo n=>exact .vD lo n
end
def oZ (G:Bg φ) (O0:Addr→Prop) (H0:Hp) (D:Ends) (n:Nat):Fl→Prop
 | .nx ρ=> ∀ O σ H,SI G O0 H0 O H σ ρ n→D.nx σ H
 | .bk ρ=> ∀ O σ H,SI G O0 H0 O H σ ρ n→D.bk σ H
 | .ct ρ=> ∀ O σ H,SI G O0 H0 O H σ ρ n→D.ct σ H
 | .rt y=> ∀ x H,Ext G.B H0 H→G.ok H n→Rep G.B O0 H y x→D.rt x H
def Gh (φ:cM) (m:ae→M Fl):TS:=fun D σ H=> ∃ (G:Bg φ) (O0:Addr→Prop) (H0:Hp) (O:Addr→Prop) (ρ:ae) (n:Nat),SI G O0 H0 O H σ ρ n∧(m ρ).wp n fun f n'=>oZ G O0 H0 D n' f
def SV (φ:cM) (X:Cx) (st:Stmt) (m:ae→M Fl):Prop:=BS X st (Gh φ m)
def Dw (φ:cM) (X:Cx) (sts:List Stmt) (m:ae→M Fl):Prop:=DC X sts (Gh φ m)
section
variable {X:Cx} {st:Stmt} {sts:List Stmt}
theorem BS.mono {t t':TS} (h:BS X st t) (f: ∀ D σ H,t' D σ H→t D σ H):BS X st t':=⟨fun pZ s σ H D I q=>h.out pZ s σ H D I (f D σ H q)⟩
theorem DC.mono {t t':TS} (h:DC X sts t) (f: ∀ D σ H,t' D σ H→t D σ H):DC X sts t':=⟨fun pZ s σ H D I q=>h.out pZ s σ H D I (f D σ H q)⟩
def au (m1 m2:ae→M Fl):ae→M Fl:=fun ρ=>(m1 ρ).bind fun f=>match f with| .nx ρ'=>m2 ρ'|o=>.ret o
theorem HB:Dw φ X [] (fun ρ=>.ret (.nx ρ)):=DC.mono ⟨rG⟩ fun D σ H ⟨G,O0,H0,O,ρ,n,s,w⟩=>w O σ H s
theorem qV {m:ae→M Fl} (h:SV φ X st m):Dw φ X [st] m:=⟨f9 h.out⟩
theorem ji {m1 m2:ae→M Fl} (h:SV φ X st m1) (h':Dw φ X sts m2):Dw φ X (st::sts) (au m1 m2):=DC.mono ⟨bX h.out h'.out⟩ fun D σ H bt=>by
 obtain⟨G,O0,H0,O,ρ,n,s,w⟩:=bt
 unfold au at w
 rw[M.wZ] at w
 refine⟨G,O0,H0,O,ρ,n,s,M.wp_mono w fun f n' h=>?_⟩
 cases f with
 |nx ρ'=>exact fun O' σ' H' s'=>⟨G,O0,H0,O',ρ',n',s',h⟩
 |rt y=>exact h
 |bk ρ'=>exact h
 |ct ρ'=>exact h
def ax (k:Nat) (m:ae→M PV):ae→M Fl:=fun ρ=>(m ρ).bind fun y=>.ret (.nx (ρ.set k (.val y)))
theorem jx {k:Nat} {m:ae→M PV} (h:BS X st (hW (o4 φ m) (cJ k))):SV φ X st (ax k m):=BS.mono h fun D σ H bt=>by
 obtain⟨G,O0,H0,O,ρ,n,s,w⟩:=bt
 unfold ax at w
 rw[M.wZ] at w
 exact⟨G,O,ρ,n,_,s.es,w,fun y x H1 n1 e1 a9 r1 w1=>w1 O _ _ ((s.to e1 a9).A5 k r1)⟩
def h7 (k:Nat) (m:ae→M (List PV)):ae→M Fl:=fun ρ=>(m ρ).bind fun l=>.ret (.nx (ρ.set k (.own l)))
theorem vS {k:Nat} {m:ae→M (List PV)} (h:BS X st (hW (Gi φ m) (cJ k))):SV φ X st (h7 k m):=BS.mono h fun D σ H bt=>by
 obtain⟨G,O0,H0,O,ρ,n,s,w⟩:=bt
 unfold h7 at w
 rw[M.wZ] at w
 exact⟨G,O,ρ,n,_,s.es,w,fun l p xs H1 n1 e1 a9 hp hp' r1 w1=>w1 _ _ _ (s.MK k e1 a9 hp hp' r1)⟩
theorem xx {k:Nat} {js:List (Option Nat)} {mi:ae→M (List PV)} {bd:PV→ae→M ae} {tt:ae→M Bool} {te:ae→M PV} (h:BS X st (hW (As js (Hm φ X.K false mi) (DQ φ bd) (xT φ tt) (o4 φ te)) (cJ k))):BS X st (hW (Gi φ (bf js mi bd tt te)) (cJ k)):=
 BS.mono h fun D σ H q=>GD σ H _ q
def aG (m:ae→M (List PV)):ae→M PV:=fun ρ=>(m ρ).bind fun l=>.ret (.lst l)
theorem Ds {k:Nat} {m:ae→M (List PV)} (h:BS X st (hW (Gi φ m) (cJ k))):BS X st (hW (o4 φ (aG m)) (cJ k)):=BS.mono h fun D σ H bt=>by
 obtain⟨G,O,ρ,n,R,s,w,q⟩:=bt
 unfold aG at w
 rw[M.wZ] at w
 refine⟨G,O,ρ,n,_,s,w,fun l p xs H' n' a b c d e f=>q (.lst l) _ H' n' a b (.lst (fun z=>?_) d e.1 (e.less fun q z=>.inl z).2) f⟩
 obtain⟨o,g⟩:=s.dm p z
 rw[c] at g;cases g
def AG (ks:List Nat) (m:ae→M PV):ae→M Fl:=fun ρ=>(m ρ).bind fun y=>(de ks y ρ).bind fun ρ'=>.ret (.nx ρ')
theorem qA {G:Bg φ} {O0 O:Addr→Prop} {H0 H:Hp} {n:Nat}: ∀ (ks:List Nat) (l:List PV) (xs:List V) (σ:St) (ρ:ae) (Q:St→Hp→Prop),l.length=ks.length→aJ G.B O H l xs→SI G O0 H0 O H σ ρ n→(∀ σ',SI G O0 H0 O H σ' (sP ks l ρ) n→Q σ' H)→d6 ks xs σ H Q
 |[],l,xs,σ,ρ,Q,hl,r,s,q=>by
  have e:l=[]:=Ow hl
  subst e
  rw[r.nil_inv]
  exact⟨rfl,q σ s⟩
 |k::ks,l,xs,σ,ρ,Q,hl,r,s,q=>by
  cases l with
  |nil=>simp at hl
  |cons y l=>
   obtain⟨x,t,rfl,r1,r2⟩:=r.cons_inv
   exact⟨x,t,rfl,qA ks l t _ _ Q (by simpa using hl) r2 (s.A5 k r1) q⟩
theorem AM {K:Frag} {G:Bg φ} {O0 O:Addr→Prop} {H0 H:Hp} {n:Nat} {ks:List Nat} {y:PV} {x:V} {σ:St} {ρ:ae} {R:ae→Nat→Prop} {Q:St→Hp→Prop} (s:SI G O0 H0 O H σ ρ n) (r:Rep G.B O H y x) (w:(de ks y ρ).wp n R) (q: ∀ σ' ρ',SI G O0 H0 O H σ' ρ' n→R ρ' n→Q σ' H):wO K ks.length (d6 ks) x σ H Q:=by
 unfold de at w
 cases r with
 | @tup p xs l a b c d=>
  dsimp only at w
  by_cases hc:l.length=ks.length
  ·rw[OG hc] at w
   exact⟨p,xs,rfl,cN.of b,by rw[←c];exact hc,qA ks l xs σ ρ Q hc ⟨c,d⟩ s fun σ' s'=>q σ' _ s' w⟩
  ·rw[OH hc] at w;exact w.elim
 |_=>exact w.elim
theorem AW {ks:List Nat} {m:ae→M PV} (h:BS X st (hW (o4 φ m) (wO X.K ks.length (d6 ks)))):SV φ X st (AG ks m):=BS.mono h fun D σ H bt=>by
 obtain⟨G,O0,H0,O,ρ,n,s,w⟩:=bt
 unfold AG at w
 rw[M.wZ] at w
 refine⟨G,O,ρ,n,_,s.es,w,fun y x H1 n1 e1 a9 r1 w1=>?_⟩
 rw[M.wZ] at w1
 exact AM (s.to e1 a9) r1 w1 fun σ' ρ' s' h=>h O σ' H1 s'
def Es (i j:Nat) (m:ae→M (List PV)):ae→M Fl:=fun ρ=>(m ρ).bind fun l=>match l with|[y,z]=>.ret (.nx ((ρ.set i (.val y)).set j (.val z)))|_=>.fail
theorem Hu {i j:Nat} {m:ae→M (List PV)} (h:BS X st (Hq i j (Mi φ m))):SV φ X st (Es i j m):=BS.mono h fun D σ H bt=>by
 obtain⟨G,O0,H0,O,ρ,n,s,w⟩:=bt
 unfold Es at w
 rw[M.wZ] at w
 refine⟨G,O,ρ,n,_,s.es,w,fun l xs H1 n1 e1 a9 r1 w1=>?_⟩
 match l,r1,w1 with
 |[y,z],r1,w1=>
  obtain⟨x,t,rfl,h1,h2⟩:=r1.cons_inv
  obtain⟨x',t',rfl,h3,h4⟩:=h2.cons_inv
  rw[h4.nil_inv]
  exact⟨x,x',rfl,w1 O _ _ (((s.to e1 a9).A5 i h1).A5 j h3)⟩
def aV (m:ae→M PV):ae→M Fl:=fun ρ=>(m (ρ.map Ent.freeze)).bind fun y=>.ret (.rt y)
theorem qU {m:ae→M PV} (h:BS X st (Ho (o4 φ m))):SV φ X st (aV m):=BS.mono h fun D σ H bt=>by
 obtain⟨G,O0,H0,O,ρ,n,s,w⟩:=bt
 unfold aV at w
 rw[M.wZ] at w
 exact⟨G,O0,_,n,_,s.frozen,w,fun y x H1 n1 e1 a9 r1 w1=>w1 x H1 (s.ext.trans e1) a9 r1⟩
def dO (mc:ae→M Bool) (ma mb:ae→M Fl):ae→M Fl:=fun ρ=>(mc ρ).bind fun b=>if b=true then ma ρ else mb ρ
theorem KL {mc:ae→M Bool} {ma mb:ae→M Fl} (h:BS X st (Hr (xT φ mc) (Gh φ ma) (Gh φ mb))):SV φ X st (dO mc ma mb):=BS.mono h fun D σ H bt=>by
 obtain⟨G,O0,H0,O,ρ,n,s,w⟩:=bt
 unfold dO at w
 rw[M.wZ] at w
 refine⟨G,O,ρ,n,_,s.es,w,fun b H1 n1 e1 a9 w1=>?_⟩
 cases b with
 |true=>exact⟨G,O0,H0,O,ρ,n1,s.to e1 a9,w1⟩
 |false=>exact⟨G,O0,H0,O,ρ,n1,s.to e1 a9,w1⟩
def dR (k:Nat) (m:ae→M PV):ae→M Fl:=fun ρ=>match ρ[k]? with|some (.own l)=>(m ρ).bind fun y=>if l.length < 100000 then .ret (.nx (ρ.set k (.own (l++[y])))) else .fail|_=>.fail
theorem Hz {k:Nat} {m:ae→M PV} (h:BS X st (xU (KI X.K "list" yc (mX k) (kc (o4 φ m) vQ)))):SV φ X st (dR k m):=BS.mono h fun D σ H bt=>by
 obtain⟨G,O0,H0,O,ρ,n,s,w⟩:=bt
 unfold dR at w
 cases hk:ρ[k]? with
 |none=>simp only[hk] at w;exact w.elim
 |some t=>
  cases t with
  |own l=>
   simp only[hk] at w
   obtain⟨p,xs,hx,hO,np,hh,rr⟩:=s.es.er.2 k _ hk
   have hs:=dw s.es.er hk hx
   have npB:p≠G.B:=fun z=>np (z▸G.pB)
   rw[M.wZ] at w
   refine⟨_,hs,.inl ⟨rfl,xs,bM.of hh⟩,G,O,ρ,n,_,s.es,w,fun y x H1 n1 e1 a9 r1 w1=>?_⟩
   by_cases hc:l.length < 100000
   ·rw[OG hc] at w1
    have s1:=s.to e1 a9
    have big:=dB
    refine⟨p,xs,x,rfl,rfl,e1 p _ npB hh,by rw[←rr.1];lia,w1 O _ _ (s1.put hk hs ((rr.ext s.es.B e1).append (.cons r1 .nil)))⟩
   ·rw[OH hc] at w1;exact w1.elim
  |_=>simp only[hk] at w;exact w.elim
def CC (m:ae→M Fl):ae→M Fl:=fun ρ=>m (ρ.map Ent.freeze)
theorem Hv {m:ae→M Fl} (h:SV φ X st m):SV φ X st (CC m):=BS.mono h fun D σ H ⟨G,O0,H0,O,ρ,n,s,w⟩=>⟨G,O0,H0,O0,_,n,s.eF,w⟩
def Mh (φ:cM) (b:PV→ae→M ae):TG:=fun v σ H Q=> ∃ (G:Bg φ) (O0:Addr→Prop) (H0:Hp) (O:Addr→Prop) (ρ:ae) (n:Nat) (R:ae→Nat→Prop) (y:PV),SI G O0 H0 O H σ ρ n∧Rep G.B O H y v∧(b y ρ).wp n R∧
 ∀ (σ':St) (ρ':ae) (n':Nat),SI G O0 H0 O H σ' ρ' n'→R ρ' n'→Q σ' H
def GS (φ:cM) (X:Cx) (tg:Expr) (b:PV→ae→M ae):Prop:=BG X tg (Mh φ b)
theorem Fc {tg:Expr} {k:Nat} (h:BG X tg (cJ k)):GS φ X tg (aA k):=BG.mono h fun v σ H Q ⟨G,O0,H0,O,ρ,n,R,y,s,r,w,q⟩=>q _ _ n (s.A5 k r) w
theorem IY {tg:Expr} {ks:List Nat} (h:BG X tg (wO X.K ks.length (d6 ks))):GS φ X tg (de ks):=BG.mono h fun v σ H Q ⟨G,O0,H0,O,ρ,n,R,y,s,r,w,q⟩=>AM s r w fun σ' ρ' s' h=>q σ' ρ' n s' h
def bD (bd:PV→ae→M ae) (mb:ae→M Fl):List PV→ae→M Fl
 |[],ρ=>.ret (.nx ρ)
 |y::r,ρ=>(bd y ρ).bind fun ρ1=>(mb ρ1).bind fun f=>match f with
  | .nx ρ2=>bD bd mb r ρ2
  | .ct ρ2=>bD bd mb r ρ2
  | .bk ρ2=>.ret (.nx ρ2)
  | .rt v=>.ret (.rt v)
def aP (mi:ae→M (List PV)) (bd:PV→ae→M ae) (mb:ae→M Fl):ae→M Fl:=fun ρ=>(mi ρ).bind fun l=>bD bd mb l ρ
theorem Hw {mi:ae→M (List PV)} {bd:PV→ae→M ae} {mb:ae→M Fl} (h:BS X st (zc (Hm φ X.K true mi) (Mh φ bd) (Gh φ mb))):SV φ X st (aP mi bd mb):=BS.mono h fun D σ H bt=>by
 obtain⟨G,O0,H0,O,ρ,n,s,w⟩:=bt
 unfold aP at w
 rw[M.wZ] at w
 refine⟨G,O,ρ,n,_,s.es,w,fun l J H1 n1 e1 a9 it w1=>?_⟩
 have s1:=s.to e1 a9
 refine⟨fun i m σ' H'=>m=l.length - i∧i≤l.length∧∃ (O':Addr→Prop) (ρ':ae) (n':Nat),SI G O0 (hide O0 O H1) O' H' σ' ρ' n'∧(bD bd mb (l.drop i) ρ').wp n' (fun f n'=>oZ G O0 H0 D n' f),
  ⟨l.length,by simp,Ol _,O,ρ,n1,s1.now,by simpa using w1⟩,?_⟩
 rintro i m σ' H' ⟨rfl,hi,O',ρ',n',s',w'⟩
 have it':=s1.walk s' it
 by_cases cU:i < l.length
 ·have hget:l[i]?=some l[i]:=NQ cU
  have iX:l.drop i=l[i]::l.drop (i+1):=List.drop_eq_getElem_cons cU
  rw[iX] at w'
  unfold bD at w'
  obtain⟨g1,g2⟩:=it'.go hget
  refine .inr ⟨g1,fun σ2 H2=> ∃ (O':Addr→Prop) (ρ':ae) (n':Nat),SI G O0 (hide O0 O H1) O' H2 σ2 ρ' n'∧(bD bd mb (l.drop (i+1)) ρ').wp n' (fun f n'=>oZ G O0 H0 D n' f),fun σ2 H2 hh=>⟨l.length - (i+1),by lia,rfl,cU,hh⟩,fun x H2 yl=>?_⟩
  obtain⟨eH,rx⟩:=g2 x H2 yl
  subst eH
  rw[M.wZ] at w'
  refine⟨G,O0,_,O',ρ',n',_,l[i],s',rx,w',fun σ2 ρ2 n2 s2 w2=>?_⟩
  rw[M.wZ] at w2
  refine⟨G,O0,_,O',ρ2,n2,s2,M.wp_mono w2 fun f n3 w3=>?_⟩
  cases f with
  |nx ρ3=>exact fun O3 σ3 H3 s3=>⟨O3,ρ3,n3,s3,w3⟩
  |ct ρ3=>exact fun O3 σ3 H3 s3=>⟨O3,ρ3,n3,s3,w3⟩
  |bk ρ3=>exact fun O3 σ3 H3 s3=>w3 O3 σ3 H3 (s1.back s3)
  |rt y=>exact fun x3 H3 e3 ok3 r3=>w3 x3 H3 (s1.base.trans e3) ok3 r3
 ·have e:i=l.length:=by lia
  subst e
  rw[List.drop_length] at w'
  exact .inl ⟨it'.stop,w' O' σ' H' (s1.back s')⟩
def y6 (mt:ae→M Bool) (mb:ae→M Fl):Nat→ae→M Fl
 |0,_=>.fail
 |k+1,ρ=>(mt ρ).bind fun b=>if b=true then(mb ρ).bind fun f=>(match f with
  | .nx ρ2=>y6 mt mb k ρ2
  | .ct ρ2=>y6 mt mb k ρ2
  | .bk ρ2=>.ret (.nx ρ2)
  | .rt v=>.ret (.rt v)) else .ret (.nx ρ)
theorem AU {mt:ae→M Bool} {mb:ae→M Fl} (fuel:Nat) (h:BS X st (vP (xT φ mt) (Gh φ mb))):SV φ X st (y6 mt mb fuel):=BS.mono h fun D σ H bt=>by
 obtain⟨G,O0,H0,O,ρ,n,s,w⟩:=bt
 refine⟨fun m σ' H'=> ∃ (O':Addr→Prop) (ρ':ae) (n':Nat),SI G O0 H0 O' H' σ' ρ' n'∧(y6 mt mb m ρ').wp n' (fun f n'=>oZ G O0 H0 D n' f),⟨fuel,O,ρ,n,s,w⟩,?_⟩
 rintro m σ' H' ⟨O',ρ',n',s',w'⟩
 cases m with
 |zero=>exact w'.elim
 |succ k=>
  unfold y6 at w'
  rw[M.wZ] at w'
  refine⟨G,O',ρ',n',_,s'.es,w',fun b H1 n1 e1 a9 w1=>?_⟩
  cases b with
  |true=>
   simp only[if_true] at w1 ⊢
   rw[M.wZ] at w1
   refine⟨fun σ2 H2=> ∃ (O':Addr→Prop) (ρ':ae) (n':Nat),SI G O0 H0 O' H2 σ2 ρ' n'∧(y6 mt mb k ρ').wp n' (fun f n'=>oZ G O0 H0 D n' f),fun σ2 H2 hh=>⟨k,by lia,hh⟩,G,O0,H0,O',ρ',n1,s'.to e1 a9,M.wp_mono w1 fun f n3 w3=>?_⟩
   cases f with
   |nx ρ3=>exact fun O3 σ3 H3 s3=>⟨O3,ρ3,n3,s3,w3⟩
   |ct ρ3=>exact fun O3 σ3 H3 s3=>⟨O3,ρ3,n3,s3,w3⟩
   |bk ρ3=>exact fun O3 σ3 H3 s3=>w3 O3 σ3 H3 s3
   |rt y=>exact fun x3 H3 e3 ok3 r3=>w3 x3 H3 e3 ok3 r3
  |false=>
   simp only[OA,if_false] at w1 ⊢
   exact w1 O' σ' H1 (s'.to e1 a9)
end
def bu:Fl→M PV
 | .nx _=>.ret .aE
 | .rt y=>.ret y
 |_=>.fail
def fS (k:Nat) (l:List PV):ae:=l.map val++List.replicate (k - l.length) .un
def gE (a k:Nat) (m:ae→M Fl) (l:List PV):M PV:=if l.length=a then(m (fS k l)).bind bu else .fail
theorem jh {N:List Str} {vs:List V} {i:Nat} {x:V} (h:vs[i]?=some x):(start N vs)[i]?=some (some x):=by
 unfold start
 have hi:i < vs.length:=(NY.mp h).1
 rw[Oy (by simpa using hi),Oc,h]
 rfl
section
variable {P:Program} {w:World} {K:Frag} {mg:Str→Option Value} {base:Heap}
theorem Lz {x qual:Str} {st:Stmt} {f:Addr} {fd:FuncData} {N ps:List Str} {k:Nat} {m:ae→M Fl} (F:DJ K x qual st f fd) (S:aB N ps (ao st)) (hN:ps.length≤N.length)
  (hb: ∀ (dP:Value) (A:Around) (outer:List Env) (s:Shared) (H:Hp) (E:XK),cx k (A.deeper (envOfC qual (ao st) s.heap.objs.size f dP))→Dw φ (fP ig P w K mg base N qual (ao st) f dP A outer s H E).ql (bg st) m):
  cP P w K mg base ig (k+1) f fd ps (vU φ (gE ps.length N.length m)):=by
 refine F.ok S (fun vs H Q E h=>?_) (fun dP A outer s H vs Q E hr h=>⟨_,(hb dP A outer s H E hr).out,?_⟩)
 ·obtain⟨G,O,l,n,R,_,_,_,r,w,_⟩:=h
  unfold gE at w
  by_cases hc:l.length=ps.length
  ·rw[←r.1,hc]
  ·rw[OH hc] at w;exact w.elim
 ·obtain⟨G,O,l,n,R,pr,dm,ok,r,w,q⟩:=h
  unfold gE at w
  by_cases hc:l.length=ps.length
  ·rw[OG hc,M.wZ] at w
   refine⟨G,O,H,O,fS N.length l,n,⟨⟨⟨?_,fun i e he=>?_⟩,ok,pr,dm⟩,pr,fun p h=>h,Ext.refl _ _,fun p h=>.inl h,dm,fun i p h=>?_,fun i j p h=>?_⟩,M.wp_mono w fun f n' h=>?_⟩
   ·unfold start fS;simp[r.1]
   ·unfold fS at he
    by_cases hi:i < l.length
    ·rw[Oy (by simpa using hi),Oc,NQ hi] at he
     cases he
     obtain⟨x,hx,rr⟩:=r.at (NQ hi)
     exact⟨x,by rw[jh hx];rfl,rr⟩
    ·rw[List.getElem?_append_right (by simpa using hi),List.getElem?_replicate] at he
     split at he
     ·cases he;trivial
     ·cases he
   all_goals try (
    obtain⟨t,h1,h2,_⟩:=h
    exfalso
    unfold fS at h1
    by_cases hi:i < l.length
    ·rw[Oy (by simpa using hi),Oc,NQ hi] at h1
     cases h1;cases h2
    ·rw[List.getElem?_append_right (by simpa using hi),List.getElem?_replicate] at h1
     split at h1
     ·cases h1;cases h2
     ·cases h1)
   cases f with
   |nx ρ=>exact fun O' σ' H' s'=>q .aE .aE H' n' s'.ext s'.es.ok .aE h
   |rt y=>exact fun x' H' e' ok' r'=>q y x' H' n' e' ok' r' h
   |bk ρ=>exact h.elim
   |ct ρ=>exact h.elim
  ·rw[OH hc] at w;exact w.elim
end
end
section
variable {φ:cM}
section
variable {X:Cx} {e a b:Expr} {ma mb:ae→M PV}
def Nz (K:Frag) (T:String) (r:V→List V→Hp→VK→Prop) (op:PV→List PV→M PV):Prop:= ∀ (φ:cM) (G:Bg φ) (O:Addr→Prop) (H0 H:Hp) (n:Nat) (R:PV→Nat→Prop) (Q:VK) (y:PV) (x:V) (l:List PV) (xs:List V),
 (∀ p,G.bY p→O p)→(∀ p,O p→∃ o,H p=some o)→G.ok H n→bE G O H y x→dU G O H l xs→(op y l).wp n R→lR G O H R Q→r x xs H Q
def tyP:PV→String
 | .str _=>"str"
 | .lst _=>"list"
 | .cL _=>"dict"
 |_=>""
def Mp (T:String) (op:PV→List PV→M PV) (mo:ae→M PV) (ml:ae→M (List PV)):ae→M PV:=fun ρ=>(mo ρ).bind fun y=>if tyP y=T then(ml ρ).bind fun l=>op y l else .fail
theorem LC {T:String} {r:V→List V→Hp→VK→Prop} {op:PV→List PV→M PV} {mo:ae→M PV} {ml:ae→M (List PV)} (h:BE X e (KI X.K T r (qT φ mo) (J6 φ ml))) (hv:Nz X.K T r op) (hT:T≠"":=by decide):EV φ X e (Mp T op mo ml):=BE.mono h fun σ H Q bt=>by
 obtain⟨G,O,ρ,n,R,s,w,q⟩:=bt
 unfold Mp at w
 rw[M.wZ] at w
 refine⟨G,O,ρ,n,_,s,w,fun y x H1 n1 e1 a9 r1 w1=>?_⟩
 by_cases hc:tyP y=T
 ·rw[OG hc] at w1
  have ty:MA X.K T x H1:=by
   subst hc
   cases y<;>first|exact absurd rfl hT|skip
   ·rw[r1.fi];rfl
   ·obtain⟨p,xs,rfl,hh,_⟩:=r1.d9;exact .inl ⟨rfl,xs,bM.of hh⟩
   ·obtain⟨p,ks,rfl,hh,_⟩:=r1.yP;exact .inr (.inr (.inl ⟨rfl,.inl ⟨ks,hh⟩⟩))
  refine⟨ty,?_⟩
  rw[M.wZ] at w1
  refine⟨G,O,ρ,n1,_,s.ext e1 a9,w1,fun l xs H2 n2 e2 nF r2 w2=>?_⟩
  exact hv φ G O H1 H2 n2 R Q y x l xs s.pr (s.ext (e1.trans e2) nF).dm nF (r1.ext s.B e2) r2 w2 fun y x H' n' e o r h=>q y x H' n' (e1.trans (e2.trans e)) o r h
 ·rw[OH hc] at w1;exact w1.elim
def strsOf:List PV→Option (List Str)
 |[]=>some []
 | .str b::r=>(strsOf r).map (b:: ·)
 |_=>none
theorem tO {B:Addr} {O:Addr→Prop} {H:Hp}: ∀ {l:List PV} {xs:List V} {bs:List Str},aJ B O H l xs→strsOf l=some bs→xs=bs.map V.str
 |[],xs,bs,h,e=>by simp[strsOf] at e;subst e;exact h.nil_inv
 |y::l,xs,bs,h,e=>by
  cases y<;>simp[strsOf] at e
  obtain⟨bs',e1,rfl⟩:=e
  obtain⟨x,r,rfl,h1,h2⟩:=h.cons_inv
  cases h1
  rw[N1,tO h2 e1]
def qw:PV→List PV→M PV
 | .str sep,[.lst l]=>(M.bO (strsOf l)).bind fun ys=>if(ys.map (·.length)).sum+ys.length * sep.length≤16777216 then .ret (.str (Txt.join sep ys)) else .fail
 |_,_=>.fail
theorem zR {y:PV} {l:List PV} {n:Nat} {R:PV→Nat→Prop} (w:(qw y l).wp n R): ∃ sep m,y= .str sep∧l=[.lst m]:=by
 unfold qw at w
 split at w
 ·exact⟨_,_,rfl,rfl⟩
 ·exact w.elim
theorem EL {K:Frag}:Nz K "str" (fun x xs H Q=> ∃ (sep:Str) (p:Addr) (ys:List Str),x= .str sep∧xs=[.ref p]∧bM K H p (ys.map V.str)∧(ys.map (·.length)).sum+ys.length * sep.length≤16777216∧Q (.str (Txt.join sep ys)) H) qw:=fun φ G O H0 H n R Q y x l xs pr dm ok r1 r2 w q=>by
 obtain⟨sep,l,rfl,rfl⟩:=zR w
 ·rw[r1.fi]
  obtain⟨x2,ex,r3⟩:=r2.one
  subst ex
  obtain⟨p,xs,ep,hh,rr⟩:=r3.d9
  subst ep
  unfold qw at w
  dsimp only at w
  cases es:strsOf l with
  |none=>rw[es] at w;exact w.elim
  |some ys=>
   rw[es] at w
   replace w:(if(ys.map (·.length)).sum+ys.length * sep.length≤16777216 then M.ret (.str (Txt.join sep ys)) else .fail:M PV).wp n R:=w
   by_cases hc:(ys.map (·.length)).sum+ys.length * sep.length≤16777216
   ·rw[OG hc] at w
    rw[tO rr es] at hh
    exact⟨sep,p,ys,rfl,rfl,bM.of hh,hc,q.sc ok (.str _) w⟩
   ·rw[OH hc] at w;exact w.elim
def nH:PV→M PV
 | .int i=>.ret (.int (-i))
 |_=>.fail
theorem Jh (h:BE X e (MD (rU fun i=>.int (-i)) (qT φ ma))):EV φ X e (fun ρ=>(ma ρ).bind nH):=BE.mono h fun σ H Q bt=>by
 obtain⟨G,O,ρ,n,R,s,w,q⟩:=bt
 rw[M.wZ] at w
 refine⟨G,O,ρ,n,_,s,w,fun y x H1 n1 e1 a9 r1 w1=>?_⟩
 cases y<;>first|exact w1.elim|skip
 rw[r1.bI]
 exact⟨_,rfl,q _ _ _ _ e1 a9 (.int _) w1⟩
def sL (ma mb:ae→M PV):ae→M (List PV):=fun ρ=>(ma ρ).bind fun x=>(mb ρ).bind fun y=>match x,y with| .lst a,.lst b=>if a.length+b.length≤100000 then .ret (a++b) else .fail|_,_=>.fail
theorem CV (h:BE X e (DR HL (qT φ ma) (qT φ mb))):EF φ X e (sL ma mb):=BE.mono h fun σ H Q bt=>by
 obtain⟨G,O,ρ,n,R,s,w,q⟩:=bt
 unfold sL at w
 rw[M.wZ] at w
 refine⟨G,O,ρ,n,_,s,w,fun y x H1 n1 e1 a9 r1 w1=>?_⟩
 rw[M.wZ] at w1
 refine⟨G,O,ρ,n1,_,s.ext e1 a9,w1,fun y' x' H2 n2 e2 nF r2 w2=>?_⟩
 replace r1:=r1.ext s.B e2
 cases y<;>cases y'<;>first|exact w2.elim|skip
 rename_i i j
 obtain⟨a,xs,rfl,h1,q1⟩:=r1.d9
 obtain⟨b,ys,rfl,h2,q2⟩:=r2.d9
 dsimp only at w2
 by_cases hc:i.length+j.length≤100000
 ·rw[OG hc] at w2
  have q':y1 G O H2 R Q:=fun l p xs H' n' e o hp a b h=>q l p xs H' n' (e1.trans (e2.trans e)) o (eN (e1.trans e2) nF hp) a b h
  exact⟨a,b,xs,ys,rfl,rfl,h1,h2,Od (by rw[←q1.1,←q2.1];exact hc) dB,fun p hp=>q'.mk nF hp s.B (q1.append q2) w2⟩
 ·rw[OH hc] at w2;exact w2.elim
end
end
section
variable {φ:cM}
section
variable {X:Cx} {e a b o:Expr} {es:List Expr} {pos p:Pos} {x:Str} {id T:String} {r:List V→Hp→VK→Prop} {t:TA} {st:Stmt}
theorem bv (i:Nat) {x:Str} {pos:Pos} (hN:X.N[i]?=some x:=by rfl) (hv:Kh X.env.scope x:=by first|exact Or.inl rfl|exact Or.inr (Or.inl rfl)|exact Or.inr (Or.inr rfl)) (hd:(x==("__debug__":Str))=false:=by decide)
  (hcd:(x==("__classdict__":Str))=false:=by decide):BE X (.Name x pos) (mX i):=⟨Bw hN hv hd hcd⟩
theorem eU (hc:fc X (.builtin id) r) (hg:Gl X x) (hm:X.mg x=none) (hv:bootBuiltins x=some (.builtin id)) (ha:BA X (e::es) t) (hn:x≠"__name__":=by decide) (mE:(x==("__debug__":Str))=false:=by decide)
  (he:starEach (e::es) X.env=(false,eval e X.env)::starEach es X.env:=by rfl) (jP:(backTo pos (starEach es X.env)).any (·.1)=false:=by rfl):BE X (.Call (.Name x p) (e::es) [] pos) (J7 r t):=⟨ue hc hg hm hv ha.out hn mE he jP⟩
theorem lO (hc:fc X (.type T) r) (hg:Gl X x) (hm:X.mg x=none) (hv:bootBuiltins x=some (.type T)) (ha:BA X (e::es) t) (hn:x≠"__name__":=by decide) (mE:(x==("__debug__":Str))=false:=by decide)
  (he:starEach (e::es) X.env=(false,eval e X.env)::starEach es X.env:=by rfl) (jP:(backTo pos (starEach es X.env)).any (·.1)=false:=by rfl):BE X (.Call (.Name x p) (e::es) [] pos) (J7 r t):=⟨zw hc hg hm hv ha.out hn mE he jP⟩
theorem mS {CX:Ap} {k:Nat} {f:Addr} {fd:FuncData} {ps:List Str} {sp:Sp} {ds:List Value} {dvs:List V} {E:XK} (F:cP X.prog X.w X.K X.mg X.base CX k f fd ps sp) (hr:cx k X.A) (hg:Gl X x) (hm:X.mg x=some (.ref f)) (hk:keepIn X.K (.ref f)=true) (hb:Binds X.K fd ps ds) (hd:Vals dvs ds) (hx:Passes CX X E)
  (ha:BA X (e::es) t) (mE:(x==("__debug__":Str))=false:=by decide) (he:starEach (e::es) X.env=(false,eval e X.env)::starEach es X.env:=by rfl) (jP:(backTo pos (starEach es X.env)).any (·.1)=false:=by rfl):
  BE X (.Call (.Name x p) (e::es) [] pos) (tN sp dvs E t):=⟨Er F hr hg hm hk hb hd hx ha.out mE he jP⟩
theorem sS:BA X [] vQ:=⟨dY⟩
theorem mT {te:TE} (ha:BE X e te) (hr:BA X es t) (hs:starEach (e::es) X.env=(false,eval e X.env)::starEach es X.env:=by rfl):BA X (e::es) (kc te t):=⟨cn ha.out hr.out hs⟩
theorem Dn {apos lJ:Pos} {name:Str} {to:TE} {r:V→List V→Hp→VK→Prop} (pa:PlainAttrs T) (slot:Slot T name id) (hty:typeOf (.builtin id)=pure (.type "method_descriptor")) (hm:Nu X id r) (ho:BE X o to) (ha:BA X (e::es) t)
  (hbase:attributeBase o name X.env (eval o X.env)=eval o X.env:=by rfl)
  (hfew:((backTo lJ (starEach (e::es) X.env)).all (fun x=>!x.1)&&(backToKw lJ (keywordEach [] X.env)).all (fun x=>x.1.isSome)
   &&decide ((e::es).length+([]:List Keyword).length+(if([]:List Keyword).isEmpty then 0 else 1) < 30))=true:=by rfl)
  (hline:(apos.endLine==lJ.line)=true:=by rfl) (hs:starEach (e::es) X.env=(false,eval e X.env)::starEach es X.env:=by rfl) (hplain:(backTo lJ (starEach es X.env)).any (·.1)=false:=by rfl):
  BE X (.Call (.Attribute o name apos) (e::es) [] lJ) (KI X.K T r to t):=⟨Ld pa slot hty hm ho.out ha.out hbase hfew hline hs hplain⟩
theorem GU {elt target iter:Expr} {ifs:List Expr} {scope:Scope} {N:List Str} {js:List (Option Nat)} {wi:TI} {g:TG} {tt:TT} {te:TE} (L:bb X scope N js) (hc:X.calm=true) (hi:BI X target iter wi)
  (hg: ∀ s₀ H₀ ex pn,BG (fg X scope N s₀ H₀ ex pn) target g) (ht: ∀ s₀ H₀ ex pn,Ge (fg X scope N s₀ H₀ ex pn) ifs tt) (he: ∀ s₀ H₀ ex pn,BE (fg X scope N s₀ H₀ ex pn) elt te)
  (hs: ∀ x,foldedSetIterable iter X.env x=pure x:=by intro _;rfl):BE X (.ListComp elt [⟨target,iter,ifs,0⟩] scope pos) (As js wi g tt te):=⟨Lc L hc hi.out (fun a b c d=>(hg a b c d).out) (fun a b c d=>(ht a b c d).out) (fun a b c d=>(he a b c d).out) hs⟩
theorem GP {elt target iter:Expr} {ifs:List Expr} {scope:Scope} {N:List Str} {js:List (Option Nat)} {spos py:Pos} {y:Str} {k:Nat} {wi:TI} {g:TG} {tt:TT} {te:TE} (hN:X.N.Nodup) (hk:X.N[k]?=some y) (hy:Loc X.env.scope y) (L:bb X scope N js) (hc:X.calm=true) (hi:BI X target iter wi)
  (hg: ∀ s₀ H₀ ex pn,BG (fg X scope N s₀ H₀ ex pn) target g) (ht: ∀ s₀ H₀ ex pn,Ge (fg X scope N s₀ H₀ ex pn) ifs tt) (he: ∀ s₀ H₀ ex pn,BE (fg X scope N s₀ H₀ ex pn) elt te)
  (hsw:swapsWith (.ListComp elt [⟨target,iter,ifs,0⟩] scope pos) (some (.Name y py)) spos.line X.env=pure true:=by rfl)
  (hs: ∀ x,foldedSetIterable iter X.env x=pure x:=by intro _;rfl) (hf:X.fn y=true∨X.env.scope.names.lookup y=some .local:=by first|exact .inl rfl|exact .inr rfl|assumption):
  BS X (.Assign [.Name y py] (.ListComp elt [⟨target,iter,ifs,0⟩] scope pos) spos) (hW (As js wi g tt te) (cJ k)):=⟨K9 hN hk hy L hc hi.out (fun a b c d=>(hg a b c d).out) (fun a b c d=>(ht a b c d).out) (fun a b c d=>(he a b c d).out) hsw hs hf⟩
theorem jY {i:Nat} {te:TE} {pos':Pos} (hN:X.N.Nodup) (hi:X.N[i]?=some x) (hx:Loc X.env.scope x) (he:BE X e te) (hs:swapsWith e (some (.Name x pos')) pos.line X.env=pure false:=by rfl) (hf:X.fn x=true∨X.env.scope.names.lookup x=some .local:=by first|exact .inl rfl|exact .inr rfl|assumption):
  BS X (.Assign [.Name x pos'] e pos) (hW te (cJ i)):=⟨iH hN hi hx he.out hs hf⟩
theorem Dh {tg:Expr} {te:TE} {g:TG} (he:BE X e te) (hg:BG X tg g) (hs:swapsWithSole [tg] e pos.line X.env=pure false:=by rfl) (hw:swappedStores [tg] e X.env=pure none:=by rfl)
  (h1:(assignEach [tg] X.env).map (·.2)=[assign tg X.env]:=by rfl):BS X (.Assign [tg] e pos) (hW te g):=⟨wg he.out hg.out hs hw h1⟩
theorem JB {i j:Nat} {x y:Str} {ta:TA} {px py pt:Pos} {kt k2 pt2} (hc:X.calm=true) (hN:X.N.Nodup) (hi:X.N[i]?=some x) (hj:X.N[j]?=some y) (hij:i≠j)
  (hx:X.env.scope.names.lookup x=some .local) (hy:X.env.scope.names.lookup y=some .local) (ha:BA X [a,b] ta)
  (hw:swappedStores [.Tuple [.Name x px,.Name y py] kt pt] (.Tuple [a,b] k2 pt2) X.env=pure (some [x,y]))
  (hs:swapsWithSole [.Tuple [.Name x px,.Name y py] kt pt] (.Tuple [a,b] k2 pt2) pos.line X.env=pure false:=by rfl):
  BS X (.Assign [.Tuple [.Name x px,.Name y py] kt pt] (.Tuple [a,b] k2 pt2) pos) (Hq i j ta):=⟨HR hc hN hi hj hij hx hy ha.out hw hs⟩
theorem sN {te:TE} (he:BE X e te):BS X (.Return (some e) pos) (Ho te):=⟨rH he.out⟩
theorem LR {c:Expr} {ss tt:List Stmt} {tc:TT} {t u:TS} (hc:BT X c tc) (ha:DC X ss t) (hb:DC X tt u):BS X (.If c ss tt pos) (Hr tc t u):=⟨Bl hc.out ha.out hb.out⟩
theorem Dg {tg iter:Expr} {body:List Stmt} {wi:TI} {g:TG} {tb:TS} (hp:PassesOwn (model X.prog X.w) X.A X.env X.xe) (hc:X.calm=true) (hi:BI X tg iter wi) (hg:BG X tg g) (hb:DC X body tb)
  (hs: ∀ x,foldedSetIterable iter X.env x=pure x:=by intro _;rfl):BS X (.For tg iter body [] pos) (zc wi g tb):=⟨rJ hp hc hi.out hg.out hb.out hs⟩
theorem Df {c:Expr} {body:List Stmt} {tc:TT} {tb:TS} (hp:PassesOwn (model X.prog X.w) X.A X.env X.xe) (hc:BT X c tc) (hb:DC X body tb):BS X (.While c body [] pos) (vP tc tb):=⟨Bk hp hc.out hb.out⟩
theorem yT {te:TE} (he:BE X e te) (hs:swapsWith e none pos.line X.env=pure false:=by rfl):BS X (.Expr e pos) (xU te):=⟨Ei he.out hs⟩
theorem qN {tg:Expr} {ta:TA} (hg:Gl X "range") (hm:X.mg "range"=none) (ha:BA X [a] ta) (hs:starEach [a] X.env=[(false,eval a X.env)]:=by rfl):BI X tg (.Call (.Name "range" p) [a] [] pos) (Cq ta):=⟨zt hg hm ha.out hs⟩
theorem Aj {tg:Expr} {ta:TA} (hg:Gl X "range") (hm:X.mg "range"=none) (ha:BA X [a,b] ta) (hs:starEach [a,b] X.env=[(false,eval a X.env),(false,eval b X.env)]:=by rfl) (hs2:starEach [b] X.env=[(false,eval b X.env)]:=by rfl):
  BI X tg (.Call (.Name "range" p) [a,b] [] pos) (Cp ta):=⟨zr hg hm ha.out hs hs2⟩
theorem oN {r:V→Option Int→Option Int→Hp→VK→Prop} {te:TE} {tl th:TO} {lo hi:Option Expr} {p2:Pos} (hr:Aw X r) (he:BE X e te) (hl:BO X lo tl) (hu:BO X hi th):BE X (.Subscript e (.Slice lo hi none p2) pos) (ME r te tl th):=⟨kl hr he.out hl.out hu.out⟩
theorem LU {op:UnaryOp} {r:V→Hp→VK→Prop} {ta:TE} (ho:Mq X (unaryOp op) r) (ha:BE X a ta):BE X (.UnaryOp op a pos) (MD r ta):=⟨La ho ha.out⟩
theorem GR {op:Operator} {r:R2} {ta tb:TE} (ho:du X (binaryOp op) r) (ha:BE X a ta) (hb:BE X b tb):BE X (.BinOp a op b pos) (DR r ta tb):=⟨bz ho ha.out hb.out⟩
theorem fw {i:Nat} (hN:X.N.Nodup) (hi:X.N[i]?=some x) (hx:Loc X.env.scope x) (hf:X.fn x=true∨X.env.scope.names.lookup x=some .local:=by first|exact .inl rfl|exact .inr rfl|assumption):BG X (.Name x pos) (cJ i):=⟨mL hN hi hx hf⟩
theorem yW:G6 X [] I0:=⟨yf⟩
theorem kL {t:TG} {u:Dv} (h1:BG X e t) (h2:G6 X es u)
  (hs:(assignEach (e::es) X.env).map (·.2)=assign e X.env::(assignEach es X.env).map (·.2):=by rfl):G6 X (e::es) (Cz t u):=⟨nC h1.out h2.out hs⟩
theorem Dl {k:Nat} {t:Dv} {n:Nat} (hc:X.calm=true) (h:G6 X es t)
  (hn:(assignEach es X.env).length=n:=by rfl) (hst:(assignEach es X.env).findIdx? (·.1)=none:=by rfl):BG X (.Tuple es k pos) (wO X.K n t):=⟨Bu hc h.out hn hst⟩
end
section
variable {P:Program} {w:World} {K:Frag} {mg:Str→Option Value} {base:Heap}
theorem Je {x qual:Str} {st:Stmt} {f:Addr} {fd:FuncData} {N ps:List Str} {k:Nat} {m:ae→M Fl} {body:List Stmt} {sc:Scope} {Ff:List PV→M PV} (hF:Ff=gE ps.length N.length m) (F:DJ K x qual st f fd) (S:aB N ps (ao st)) (hN:ps.length≤N.length) (eb:bg st=body) (es:ao st=sc)
  (hb: ∀ (dP:Value) (A:Around) (outer:List Env) (s:Shared) (H:Hp) (E:XK),cx k (A.deeper (envOfC qual sc s.heap.objs.size f dP))→Dw φ (fP ig P w K mg base N qual sc f dP A outer s H E).ql body m):
  cP P w K mg base ig (k+1) f fd ps (vU φ Ff):=by
 subst hF eb es
 exact Lz F S hN hb
end
end
section
open PySem.AutoSeq1 (wpAny_loadPart')
theorem lq:fillsNumberSlot (.type "tuple") "mul"=pure false:=
 PySem.fillsNumberSlot_seq (id:="tuple.__mul__") (r:=some (.builtin "tuple.__rmul__")) F.slot_tuple_mul.lookup (by decide +kernel) F.slot_tuple_rmul.lookup (by decide +kernel)
theorem rF:seqRepeat? (.type "tuple")=pure (some (.builtin "tuple.__mul__")):=by
 unfold seqRepeat?
 rw[PySem.seqSlot_of (T:="tuple") (name:="__mul__") (id:="tuple.__mul__") F.slot_tuple_mul.lookup (by decide +kernel),PySem.seqSlot_of (T:="tuple") (name:="__rmul__") (id:="tuple.__rmul__") F.slot_tuple_rmul.lookup (by decide +kernel)]
 rfl
theorem nY (a:Int) (t:Tok) (l:Addr) (items:Array Value) (n:Nat) (dd:Option Addr) (sl:Array (Option Value)):
  Meets (Builtin.«int.__rmul__» ⟨[.int a t,.ref l],[]⟩) (fun _ R s=>s.heap.get? l=some {cls:=.type "tuple",dict:=dd,data:=.seq items n,slots:=sl}∧R (.ok (.ret Value.notImplemented)) s):=
 .of_wp fun prog w A R s h=>by obtain⟨hp,g,d,tk,os⟩:=s;obtain⟨hl,h⟩:=h;wp_walk using wpAny_loadPart' hl;exact⟨_,rfl,h⟩
theorem vM (l:Addr) (items:Array Value) (n:Nat) (dd:Option Addr) (sl:Array (Option Value)) (x:Int) (u:Tok) (hc0: ¬(decide (x < -(2 ^ 63))||decide (x ≥ 2 ^ 63))=true) (hc1: ¬(items.isEmpty||x==1)=true) (hc2: ¬(decide (x≤0)||items.isEmpty)=true) (hc3: ¬((items.size:Int) * x > (2 ^ 63 - 1) / 8)) (hc4: ¬Builtin.Tuple.tupleTooMany (items.size * x)=true) (hc5: ¬ (List.foldl (fun x1 x2=>x1++x2) #[] (List.replicate x.toNat items)).size > sizeLine):
  Meets (Builtin.«tuple.__mul__» ⟨[.ref l,.int x u],[]⟩) (fun _ R s=>s.heap.get? l=some {cls:=.type "tuple",dict:=dd,data:=.seq items n,slots:=sl}∧R (.ok (.ret (Value.ref s.heap.objs.size))) {s with heap:=s.heap.push {cls:=Value.type "tuple",data:=Data.seq ((List.replicate x.toNat items).foldl (· ++ ·) #[])},toks:=s.toks}):=
 .of_wp fun prog w A R s h=>by
  obtain⟨hp,g,d,tk,os⟩:=s;obtain⟨hl,h⟩:=h
  have f1:=AutoSeq1.idx_int
  wp_walk using wpAny_loadPart' hl
  refine wpAny_ite_false (Oh hc0) ?_
  wp_walk using wpAny_loadPart' hl
  refine wpAny_ite_false (Oh hc3) ?_
  wp_walk using wpAny_loadPart' hl
  exact⟨_,rfl,h⟩
def Gr:R2:=fun x y H Q=> ∃ l k xs,x= .ref l∧y= .int k∧H l=some (.tup xs)∧xs≠[]∧1 < k∧k < 1000∧xs.length * k.toNat≤100000∧∀ p,H p=none→Q (.ref p) (upd H p (.tup (List.replicate k.toNat xs).flatten))
theorem Ex {X:Cx}:du X (binaryOp .Mult) Gr:=by
 intro pZ s σ H x y v u Q I rx ry h
 obtain⟨l,k,xs,rfl,rfl,hH,bP,h1,h2,hz,q⟩:=h
 cases rx
 obtain⟨t,rfl⟩:=ry
 obtain⟨ay,r,p,_⟩:=I.tuple (cN.of (K:=X.K) hH)
 obtain⟨⟨cls,dd,data,sl⟩,ho,hc,n,hd⟩:=id p
 simp only at hc hd
 subst hc hd
 have hlen:=r.length
 have hie:ay≠[]:=fun z=>bP (r.mO.mp z)
 have hnew:List.foldl (fun x1 x2=>x1++x2) #[] (List.replicate k.toNat ay.toArray)=(List.replicate k.toNat ay).flatten.toArray:=by
  have:=foldl_rep ay k.toNat []
  rw[List.nil_append] at this
  exact this
 have e63:(2:Int) ^ 63=9223372036854775808:=by decide
 have hsz:(ay.length:Int) * k≤100000:=by
  have e:(k.toNat:Int)=k:=by lia
  have:((ay.length * k.toNat:Nat):Int)≤100000:=by
   rw[←hlen]
   exact Int.ofNat_le.mpr hz
  rw[Int.natCast_mul,e] at this
  exact this
 have hs:sizeLine=16777216:=Ox
 have hfl:(List.replicate k.toNat xs).flatten.length≤sizeLine:=by rw[len_rep,Nat.mul_comm];lia
 refine wpAny_binaryOp_repeat_ref (T:="tuple") (U:="int") (by decide) ⟨_,ho,rfl⟩ (fun s'=>typeIs_int s' k t) lq F.fills_int_mul F.slot_int_rmul rF F.slot_int_index.lookup
  (call_meets F.slot_int_rmul (typeIs_int s k t) F.entry_int_rmul (F.args_int_rmul_2 _ _) (nY k t l ay.toArray n dd sl)
   ⟨ho,rfl,⟨_,ho,rfl⟩,call_meets F.slot_tuple_mul ⟨_,ho,rfl⟩ F.entry_tuple_mul (F.args_tuple_mul_2 _ _) (vM l ay.toArray n dd sl k t ?_ ?_ ?_ ?_ ?_ ?_) ⟨ho,?_⟩⟩)
 ·simp;lia
 ·simp[hie];lia
 ·simp[hie];lia
 ·simp only[NX];lia
 ·unfold Builtin.Tuple.tupleTooMany;simp only[NX,decide_eq_true_eq];lia
 ·rw[hnew,NX,len_rep,Nat.mul_comm,←hlen];lia
 ·rw[hnew]
  refine⟨.ref s.heap.objs.size,_,I.laid (t':=s.toks) (o:=.tup (List.replicate k.toNat xs).flatten) (fun b ob q=>NU _ q) (NZ _) ?_,rfl,q _ (I.a7.fresh (NZ _))⟩
  exact⟨hfl,_,r.rep k.toNat,IsTup.new _ _⟩
def Gu:R2:=fun x y H Q=>Be x y H Q∨Gr x y H Q
theorem Ez {X:Cx}:du X (binaryOp .Mult) Gu:=EA.or Ex
def jo (y z:PV):M PV:=match y,z with
 | .tup l,.int k=>if 0 < l.length∧1 < k∧k < 1000∧l.length * k.toNat≤100000 then .ret (.tup (List.replicate k.toNat l).flatten) else .fail
 |y,z=>zG y z
theorem Eu:kT Gu jo:=fun φ G O H n R Q y z x x' pr dm ok r1 r2 w q=>by
 have hB:O G.B:=pr _ G.pB
 cases y with
 |tup l=>
  cases z<;>first|exact w.elim|skip
  rename_i k
  obtain⟨a,xs,rfl,h1,e1⟩:=r1.il
  rw[r2.bI]
  unfold jo at w
  dsimp only at w
  by_cases hc:0 < l.length∧1 < k∧k < 1000∧l.length * k.toNat≤100000
  ·rw[OG hc] at w
   refine .inr ⟨a,k,xs,rfl,rfl,h1,fun z=>?_,hc.2.1,hc.2.2.1,by rw[←e1.1];exact hc.2.2.2,fun p hp=>q.tup ok dm hp hB (e1.rep _) w⟩
   subst z
   have:=e1.1
   simp at this
   have:=hc.1
   simp_all
  ·rw[OH hc] at w;exact w.elim
 |_=>exact .inl (Ic φ G O H n R Q _ z x x' pr dm ok r1 r2 w q)
end
def l8:List PV→M PV:=fun l=>match l with|[.br,.int m]=>.draw m fun d=>.ret (.int d)|_=>.fail
theorem Ab {φ:cM} {P:Program} {w:World} {K:Frag} {mg:Str→Option Value} {base:Heap} {k:Nat} {f:Addr} {fd:FuncData} {ps:List Str} (F:cP P w K mg base ig k f fd ps φ.sp):cP P w K mg base ig k f fd ps (vU φ l8):=by
 refine F.imp fun vs H Q E h=>?_
 obtain⟨G,O,l,n,R,pr,dm,ok,r,w,q⟩:=h
 match l,r,w with
 |[.br,.int m],r,w=>
  obtain⟨x,t,rfl,r1,r2⟩:=r.cons_inv
  obtain⟨x',t',rfl,r3,r4⟩:=r2.cons_inv
  rw[r4.nil_inv]
  cases r1
  cases r3
  obtain⟨h0,h1,n',rfl,h⟩:=w
  exact G.dr H n' m Q E ok h0 h1 fun d H' d0 d1 e o=>q (.int d) _ H' n' e o (.int d) (h d d0 d1)
set_option genInjectivity false in
structure Gen {α:Type} (m:M α) (c:Nat) (Pr:α→Prop):Prop where
 h: ∀ n,c≤n→m.wp n fun y n'=>n≤n'+c∧Pr y
theorem Gen.ret {α:Type} {y:α} {Pr:α→Prop} (h:Pr y):Gen (.ret y) 0 Pr:=⟨fun n _=>⟨NZ _,h⟩⟩
theorem Gen.bind {α β:Type} {m:M α} {f:α→M β} {c d:Nat} {Pr:α→Prop} {Rr:β→Prop} (h:Gen m c Pr) (k: ∀ y,Pr y→Gen (f y) d Rr):Gen (m.bind f) (c+d) Rr:=⟨fun n hn=>by
 rw[M.wZ]
 refine M.wp_mono (h.h n (by lia)) fun y n1 ⟨h1,h2⟩=>?_
 exact M.wp_mono ((k y h2).h n1 (by lia)) fun z n2 ⟨h3,h4⟩=>⟨by lia,h4⟩⟩
theorem Gen.mono {α:Type} {m:M α} {c d:Nat} {Pr Rr:α→Prop} (h:Gen m c Pr) (hc:c≤d) (k: ∀ y,Pr y→Rr y):Gen m d Rr:=⟨fun n hn=>M.wp_mono (h.h n (by lia)) fun y n1 ⟨h1,h2⟩=>⟨by lia,k y h2⟩⟩
theorem Gen.le {α:Type} {m:M α} {c d:Nat} {Pr:α→Prop} (h:Gen m c Pr) (hc:c≤d):Gen m d Pr:=h.mono hc fun _ z=>z
theorem Gen.draw {m:Int} (h0:0 < m) (h1:m < 1073741824):Gen (l8 [.br,.int m]) 1 fun y=> ∃ d,y= .int d∧0≤d∧d < m:=⟨fun n hn=>by
 obtain⟨n',rfl⟩: ∃ n',n=n'+1:=⟨n - 1,by lia⟩
 exact⟨h0,h1,n',rfl,fun d d0 d1=>⟨NZ _,d,rfl,d0,d1⟩⟩⟩
theorem Gen.eq {α:Type} {m:M α} {y:α} {Pr:α→Prop} (e:m= .ret y) (h:Pr y):Gen m 0 Pr:=e▸Gen.ret h
theorem Gen.lc {k:Nat} {te:ae→M PV} {c:Nat} {Pr:PV→Prop} {ρ:ae}: ∀ (l:List PV) (ρ':ae),(∀ e,ρ'.set k e=ρ.set k e)→(∀ y∈l,Gen (te (ρ.set k (.val y))) c Pr)→Gen (pQ (aA k) cF te l ρ') (l.length * c) (fun zs=>zs.length=l.length∧∀ z∈zs,Pr z)
 |[],ρ',_,_=>Gen.le (Gen.ret ⟨rfl,fun z hz=>by simp at hz⟩) (by simp)
 |y::l,ρ',hρ,h=>by
  unfold pQ
  simp only[aA,cF,M.rZ,if_true]
  rw[hρ]
  refine Gen.le (Gen.bind (h y NS) fun z hz=>Gen.bind (Gen.lc (ρ:=ρ) l _ (fun e=>by rw[List.set_set]) fun y' hy=>h y' (NV _ hy)) fun zs hzs=>Gen.ret ?_) (Nat.le_of_eq ?_)
  ·refine⟨by simp[hzs.1],fun u hu=>?_⟩
   rcases N2.mp hu with rfl|hu
   ·exact hz
   ·exact hzs.2 u hu
  ·simp only[N5,Nat.succ_mul]
   lia
theorem kz {k:Nat} {te:ae→M PV} {f:PV→PV} {ρ:ae}: ∀ (l:List PV) (ρ':ae),(∀ e,ρ'.set k e=ρ.set k e)→(∀ y∈l,te (ρ.set k (.val y))= .ret (f y))→pQ (aA k) cF te l ρ'= .ret (l.map f)
 |[],ρ',_,_=>rfl
 |y::l,ρ',hρ,h=>by
  unfold pQ
  simp only[aA,cF,M.rZ,if_true]
  rw[hρ,h y NS,kz (f:=f) (ρ:=ρ) l _ (fun e=>by rw[List.set_set]) fun y' hy=>h y' (NV _ hy)]
  rfl
theorem bU {k:Nat} {tt:ae→M Bool} {te:ae→M PV} {p:PV→Bool} {f:PV→PV} {ρ:ae}: ∀ (l:List PV) (ρ':ae),(∀ e,ρ'.set k e=ρ.set k e)→(∀ y∈l,tt (ρ.set k (.val y))= .ret (p y))→(∀ y∈l,p y=true→te (ρ.set k (.val y))= .ret (f y))→pQ (aA k) tt te l ρ'= .ret ((l.filter p).map f)
 |[],ρ',_,_,_=>rfl
 |y::l,ρ',hρ,h,h'=>by
  unfold pQ
  simp only[aA,M.rZ]
  have ih:=bU (p:=p) (f:=f) (ρ:=ρ) l (ρ.set k (.val y)) (fun e=>by rw[List.set_set]) (fun y' hy=>h y' (NV _ hy)) (fun y' hy=>h' y' (NV _ hy))
  rw[hρ,h y NS,M.rZ]
  cases hp:p y with
  |true=>
   simp only[if_true]
   rw[h' y NS hp,M.rZ,ih,List.filter_cons_of_pos hp]
   rfl
  |false=>
   simp only[OA,if_false]
   rw[ih,List.filter_cons_of_neg (by simp[hp])]
section
variable {φ:cM}
def KY:V→Option Int→Option Int→Hp→VK→Prop:=fun x lo hi H Q=> ∃ z,x= .str z∧z.length≤100000∧Q (.str (Txt.slice z lo hi)) H
theorem part_of {v:Value} {o:Option Int} (p:IsPart v o): ∃ l:Option (Int×Tok),v=PySem.partValue l∧l.map (·.1)=o:=by
 cases p with
 |none=>exact⟨none,rfl,rfl⟩
 |int i t=>exact⟨some (i,t),rfl,rfl⟩
theorem HD {X:Cx}:Aw X KY:=by
 intro pZ s σ H x v vl vu lo hi sl Q I rx hs pl pu h
 obtain⟨z,rfl,hz,q⟩:=h
 obtain⟨t,rfl⟩:=rx
 obtain⟨l,rfl,hl⟩:=part_of pl
 obtain⟨u,rfl,hu⟩:=part_of pu
 refine⟨"str",_,F.slot_str_getitem.lookup,typeIs_str _ _ _,wpAny_getItem_str_slice (l:=l) (u:=u) (st:=none) hs rfl ?_⟩
 subst hl hu
 exact(post_val_or_str ⟨Od (Txt.slice_le z _ _) (Od hz dB),fun t' k=>⟨.str (Txt.slice z _ _),H,I.tok _,⟨_,rfl⟩,q⟩⟩)
section
open HT
variable {prog:Program} {w:World} {A:Around} {E:Value→Shared→Prop} {s:Shared}
theorem jr {t sl:Addr} {items:Array Value} {vl vu:Value} {lo hi:Option Int} {Q:Value→Shared→Prop} (ht:IsTup s.heap t items) (hs:s.heap.IsSliceOf sl vl vu .none) (pl:IsPart vl lo) (pu:IsPart vu hi)
  (hw:cb items.size 0 lo=0∧cb items.size items.size hi=items.size) (h:Q (.ref t) s):wpAny (model prog w) A (getItem (.ref t) (.ref sl)) Q E s:=by
 obtain⟨os,hos,hcs,hds⟩:=id hs
 have hTs:s.TypeIs (.ref sl) "slice":=⟨os,hos,hcs⟩
 unfold getItem
 try with_reducible refine wpAny_holding ?_
 first|refine NR (NW ?_)|skip
 refine NR (wpAny_sequenceKey ht.typeIs (by decide) ?_)
 refine NR (wpAny_callSpecial?_slot (name:=Str.ofString "__getitem__") ht.typeIs PyProof.Rows.slot_tuple_getitem
  (wpAny_call_entry PyProof.Rows.slot_tuple_getitem ht.typeIs entry_tuple_getitem ?_ (args_tuple_getitem _ _)))
 show wpAny _ _ (Builtin.Tuple.tupleItemsOf (.ref t) >>= _) _ _ s
 refine NR (tupleItemsOf_ ht ?_)
 refine NR (wpAny_typeOf hTs ?_)
 rw[OG (by decide)]
 refine NR (fL hs pl pu ?_)
 have hyes:((((cb items.size 0 lo:Nat):Int)==0&&(1:Int)==1&&(cb items.size items.size hi - cb items.size 0 lo)==items.size)=true):=by
  rw[hw.1,hw.2];simp
 show wpAny _ _ (if(((cb items.size 0 lo:Nat):Int)==0&&(1:Int)==1&&(cb items.size items.size hi - cb items.size 0 lo)==items.size)=true then _ else _) _ _ s
 rw[OG hyes]
 refine NR (m:=Builtin.Tuple.tupleIsExact _) (NR (wpAny_typeOf ht.typeIs (NW ?_)))
 rw[OG (by decide)]
 refine NR (wpAny_rule ?_)
 exact NW ⟨_,rfl,NW h⟩
end
def KU:V→Option Int→Option Int→Hp→VK→Prop:=fun x lo hi H Q=> ∃ a xs,x= .ref a∧H a=some (.tup xs)∧(HT.cb xs.length 0 lo=0∧HT.cb xs.length xs.length hi=xs.length)∧Q (.ref a) H
theorem D6 {X:Cx}:Aw X KU:=by
 intro pZ s σ H x v vl vu lo hi sl Q I rx hs pl pu h
 obtain⟨a,xs,rfl,hx,hw,q⟩:=h
 cases rx
 obtain⟨ay,r,ht,hz⟩:=I.tuple (cN.of (K:=X.K) hx)
 have hlen:ay.toArray.size=xs.length:=by rw[NX];exact r.length.symm
 exact⟨"tuple",_,PyProof.Rows.slot_tuple_getitem.lookup,ht.typeIs,jr ht hs pl pu (by rw[hlen];exact hw) ⟨.ref a,H,I,rfl,q⟩⟩
def K0 (K:Frag):V→Option Int→Option Int→Hp→VK→Prop:=fun x lo hi H Q=>K1 K x lo hi H Q∨KU x lo hi H Q∨KY x lo hi H Q
theorem HE {X:Cx}:Aw X (K0 X.K):=MJ.or (D6.or HD)
def D7:PV→Option Int→Option Int→M PV
 | .lst l,lo,hi=>.ret (.lst (mF l lo hi))
 | .tup l,lo,hi=>.ret (.tup (mF l lo hi))
 | .str z,lo,hi=>if z.length≤100000 then .ret (.str (Txt.slice z lo hi)) else .fail
 |_,_,_=>.fail
theorem HA {K:Frag}:Ny (K0 K) D7:=fun φ G O H n R Q y lo hi x pr dm ok r w q=>by
 cases y<;>first|exact w.elim|skip
 ·rename_i z
  rw[r.fi]
  unfold D7 at w
  dsimp only at w
  by_cases hc:z.length≤100000
  ·rw[OG hc] at w;exact .inr (.inr ⟨z,rfl,hc,q.sc ok (.str _) w⟩)
  ·rw[OH hc] at w;exact w.elim
 ·rename_i l
  obtain⟨p,xs,rfl,h,e⟩:=r.il
  replace w:R (.tup (mF l lo hi)) n:=w
  by_cases hc:HT.cb l.length 0 lo=0∧HT.cb l.length l.length hi=l.length
  ·rw[xc l lo hi hc] at w
   cases r with
   |full r=>exact .inr (.inl ⟨p,xs,rfl,h,by rw[←e.1];exact hc,q.sc ok r w⟩)
  ·exact .inl (.inr ⟨p,xs,rfl,cN.of h,by rw[←e.1];exact hc,fun p' hp=>q.tup ok dm hp (pr _ G.pB) (u9 e lo hi) w⟩)
 ·rename_i l
  obtain⟨p,xs,rfl,h,e⟩:=r.d9
  exact .inl (.inl ⟨p,xs,rfl,bM.of h,fun p' hp=>q.lst ok dm hp (pr _ G.pB) (u9 e lo hi) w⟩)
end
section
variable {X:Cx}
theorem Ea {k:Key} {u:Value} (r:RelV (kV k) u):kC k u=true∧u.scannable=true:=by
 cases k with
 |inl i=>obtain⟨t,rfl⟩:=r;exact⟨qv i t,rfl⟩
 |inr x=>obtain⟨t,rfl⟩:=r;exact⟨qu x t,rfl⟩
end
theorem sx {env:Env} (elt gens scope pos):eval (.SetComp elt gens scope pos) env=
  comprehension (.SetComp elt gens scope pos) scope env (firstIterPos gens pos) (newSet (.type "set")) (firstAsync gens) (firstIter gens env):=rfl
theorem AJ (elt target iter:Expr) (ifs:List Expr) (scope:Scope) (pos:Pos) (it acc:Value) (env:Env):compTurn (.SetComp elt [⟨target,iter,ifs,0⟩] scope pos) 0 it acc env=(standAt iter.pos >>= fun _=>pyNext it >>= fun r=>match r with
  |none=>pure (.done .next)
  |some v=>letOwnedTupleGo target it v >>= fun _=>assign target env v >>= fun _=>(forIn ifs true fun c r=>if r=true then do let ok ←isTrue c env (eval c env);pure (ForInStep.yield ok) else pure (ForInStep.yield r)) >>= fun ok=>
   if ok=true then(eval elt env >>= fun x=>standAt elt.pos >>= fun _=>call (.builtin "set.add") [acc,x] >>= fun _=>pure ()) >>= fun _=>again (.compLoop (.SetComp elt [⟨target,iter,ifs,0⟩] scope pos) 0 it acc env)
   else again (.compLoop (.SetComp elt [⟨target,iter,ifs,0⟩] scope pos) 0 it acc env)):=rfl
theorem ze {prog:Program} {w:World} {A:Around} {R:Result→Shared→Prop} {s:Shared} {elt target iter:Expr} {ifs:List Expr} {scope:Scope} {pos:Pos} {it acc:Value} {env:Env}
  (one:codeAny (model prog w) A (.compLoop (.SetComp elt [⟨target,iter,ifs,0⟩] scope pos) 0 it acc env) R s)
  (two:wpAny (model prog w) A (pyIter it) (fun j s'=>codeAny (model prog w) A (.compLoop (.SetComp elt [⟨target,iter,ifs,0⟩] scope pos) 0 j acc env) R s') (notedBy (model prog w) A env fun x s'=>R (.error x) s') s):
  codeAny (model prog w) A (.compStart (.SetComp elt [⟨target,iter,ifs,0⟩] scope pos) 0 it acc env) R s:=
 codeAny_of_tree (wpAny_notedAt (pos:=theWindowsPlace) (m:=compStart (.SetComp elt [⟨target,iter,ifs,0⟩] scope pos) 0 it acc env) (by
  have again_at: ∀ (j:Value) (s':Shared),codeAny (model prog w) A (.compLoop (.SetComp elt [⟨target,iter,ifs,0⟩] scope pos) 0 j acc env) R s'→(Code.compLoop (.SetComp elt [⟨target,iter,ifs,0⟩] scope pos) 0 j acc env).quiet=true∧codeAny (model prog w) A (.compLoop (.SetComp elt [⟨target,iter,ifs,0⟩] scope pos) 0 j acc env) R s':=fun _ _ q=>⟨rfl,q⟩
  unfold compStart
  change wpAny _ _ (ask >>= _) _ _ s
  apply NR
  apply wpAny_askSetting
  apply wpAny_ite
  split
  ·exact NW (again_at it s one)
  ·apply NR
   apply wpAny_rule
   apply NR
   apply wpAny_standAt
   apply NR
   exact wpAny_mono two (fun j s' q=>NW (again_at j s' q)) fun _ _ q=>q))
theorem xf {prog:Program} {w:World} {A:Around} {R:Result→Shared→Prop} {s:Shared} {elt target iter:Expr} {ifs:List Expr} {scope:Scope} {pos:Pos} {it acc:Value} {env:Env} (I:Nat→Shared→Prop)
  (turn: ∀ n s,I n s→wpAny (model prog w) A (pyNext it) (fun r s₁=>match r with
   |none=>R (.ok .next) s₁
   |some v=>wpAny (model prog w) A (letOwnedTupleGo target it v) (fun _ s₁'=>wpAny (model prog w) A (assign target env v) (fun _ s₂=>
     wpAny (model prog w) A (forIn ifs true fun c r=>if r=true then do let ok ←isTrue c env (eval c env);pure (ForInStep.yield ok) else pure (ForInStep.yield r)) (fun ok s₃=>
      if ok=true then wpAny (model prog w) A (eval elt env) (fun x s₄=>
       wpAny (model prog w) A (call (.builtin "set.add") [acc,x]) (fun _ s₅=> ∃ m,m < n∧I m s₅) (fun _ _=>False) s₄) (fun _ _=>False) s₃
      else ∃ m,m < n∧I m s₃) (fun _ _=>False) s₂) (fun _ _=>False) s₁') (fun _ _=>False) s₁) (fun _ _=>False) s)
  (n:Nat) (h:I n s):
  codeAny (model prog w) A (.compLoop (.SetComp elt [⟨target,iter,ifs,0⟩] scope pos) 0 it acc env) R s:=by
 refine codeAny_loop rfl I (fun n s hI=>?_) n h
 show wpAny _ A ((compTurn (.SetComp elt [⟨target,iter,ifs,0⟩] scope pos) 0 it acc env).onRaise (fun x=>do noteFrame x env;theTreesLotGoes x)) _ _ s
 refine wpAny_noted ?_
 refine wpAny_mono (E:=fun _ _=>False) ?_ (fun _ _ q=>q) fun _ _ q=>q.elim
 rw[AJ]
 refine NR (wpAny_standAt (NR (bh (turn n s hI) fun r s₁ h₁=>?_)))
 cases r with
 |none=>exact NW h₁
 |some v=>
  refine NR (bh h₁ fun _ s₁' h₁'=>?_)
  refine NR (bh h₁' fun _ s₂ h₂=>NR (bh h₂ fun ok s₃ h₃=>?_))
  cases ok with
  |false=>exact NW ⟨rfl,h₃⟩
  |true=>exact NR (NR (bh h₃ fun x s₄ h₄=>NR (wpAny_standAt (NR (bh h₄ fun _ s₅ h₅=>NW (NW ⟨rfl,h₅⟩))))))
section
variable {φ:cM}
section
variable {X:Cx} {e:Expr} {pos:Pos}
def keyOf:PV→Key
 | .int i=>.inl i
 | .str x=>.inr x
 |_=>.inl 0
def E8:PV→M PV
 | .int i=>.ret (.int i)
 | .str x=>.ret (.str x)
 |_=>.fail
def se (ks:List Key) (k:Key):Bool:=ks.any fun k'=>decide (k'=k)
def dk (zs:List PV):List Key:=zs.foldl (fun ks z=>if se ks (keyOf z)=true then ks else ks++[keyOf z]) []
theorem yN (zs:List PV) (z:PV):dk (zs++[z])=if se (dk zs) (keyOf z)=true then dk zs else dk zs++[keyOf z]:=by unfold dk;rw[List.foldl_append];rfl
theorem oC: ∀ (zs:List PV) (ks:List Key),(zs.foldl (fun ks z=>if se ks (keyOf z)=true then ks else ks++[keyOf z]) ks).length≤ks.length+zs.length
 |[],ks=>by simp
 |z::zs,ks=>by
  rw[List.foldl_cons]
  have h:=oC zs (if se ks (keyOf z)=true then ks else ks++[keyOf z])
  have:(if se ks (keyOf z)=true then ks else ks++[keyOf z]).length≤ks.length+1:=by split<;>simp
  simp only[N5]
  lia
theorem Js (zs:List PV):(dk zs).length≤zs.length:=by have:=oC zs [];simpa[dk] using this
theorem Nk (zs:List PV) (z:PV):(fun k'=>se (dk zs) k'||decide (k'=keyOf z))=fun k'=>se (dk (zs++[z])) k':=by
 funext k'
 rw[yN]
 by_cases h:se (dk zs) (keyOf z)=true
 ·rw[OG h]
  by_cases e:k'=keyOf z
  ·subst e;simp[h]
  ·simp[e]
 ·rw[OH h]
  unfold se
  rw[List.any_append]
  by_cases e:k'=keyOf z
  ·subst e;simp
  ·have e': ¬ keyOf z=k':=fun z=>e z.symm
   simp[e,e']
theorem Nj (zs:List PV) (z:PV):(if se (dk zs) (keyOf z)=true then(dk zs).length else(dk zs).length+1)=(dk (zs++[z])).length:=by
 rw[yN]
 by_cases h:se (dk zs) (keyOf z)=true
 ·rw[OG h,OG h]
 ·rw[OH h,OH h];simp
theorem E7 {B:Addr} {O:Addr→Prop} {H:Hp} {z:PV} {x:V} {α:Type} {f:PV→M α} {n:Nat} {R:α→Nat→Prop} (r:Rep B O H z x) (w:((E8 z).bind f).wp n R):x=kV (keyOf z)∧(f z).wp n R:=by
 cases r<;>first|exact⟨rfl,w⟩|exact w.elim
def B5 (js:List (Option Nat)) (mi:ae→M (List PV)) (bd:PV→ae→M ae) (tt:ae→M Bool) (te:ae→M PV):ae→M (List PV):=fun ρ=>(mi ρ).bind fun l=>if l.length≤4000 then pQ bd tt (fun ρ=>(te ρ).bind E8) l (c9 js ρ) else .fail
def Bg.Kv (G:Bg φ) (D:Addr) (hD:D≠G.B):Bg φ where
 B:=G.B
 bY:=fun p=>G.bY p∨p=D
 ok:=fun H n=>G.ok H n∧∃ o,H D=some o
 pB:=.inl G.pB
 keep:=fun H H' n k h=>⟨G.keep H H' n (fun p o z=>k p o (z.imp .inl id)) h.1,by obtain⟨o,e⟩:=h.2;exact⟨o,k D _ (.inl (.inr rfl)) e⟩⟩
 tp:=fun e he=>.inl (G.tp e he)
 tab:=fun H n h=>G.tab H n h.1
 vN:=fun H H' n h h1 h2=>⟨G.vN H H' n h.1 h1 h2,by
  obtain⟨o,e⟩:=h.2
  by_cases z:D∈φ.tabs.map (·.1)
  ·obtain⟨q,hq,e3⟩:=N4.mp z
   obtain⟨ps,e2,_⟩:=h1 q hq
   exact⟨_,e3▸e2⟩
  ·exact⟨o,h2 D _ z e⟩⟩
 CZ:=fun H n p h z=>by
  rcases z with z|z
  ·exact G.CZ H n p h.1 z
  ·subst z;exact h.2
 dr:=fun H n m Q E h h0 h1 q=>G.dr H n m Q E h.1 h0 h1 fun d H' d0 d1 e o=>q d H' d0 d1 e ⟨o,by
  obtain⟨u,e2⟩:=h.2
  exact(e D u hD e2).there⟩
end
end
section
variable {prog:Program} {w:World} {A:Around} {E:Value→Shared→Prop} {s:Shared}
theorem Ip {it t:Addr} {i:Nat} {items:Array Value} {x:Value} {Q:Value→Shared→Prop} (ht:s.heap.IsTupleIter it t i) (hl:s.heap.IsTuple t items) (hx:items[i]?=some x)
  (q: ∀ h',h'.IsTupleIter it t (i+1)→Heap.SameBut it s.heap h'→Q x {s with heap:=h'}):wpAny (model prog w) A (Builtin.SmallTypes.nextOf (.ref it)) Q E s:=by
 have key:wpAny (model prog w) A (callSpecial? (.ref it) (Str.ofString "__next__")) (fun r s'=> ∃ v,r=some v∧Q v s') E s:=by
  obtain⟨o,ho,hc,hd⟩:=id ht
  obtain⟨ol,hol,_,nl,hdl⟩:=hl
  refine wpAny_callSpecial?_slot ht.typeIs F.slot_tuple_iterator_next (wpAny_call_entry F.slot_tuple_iterator_next ht.typeIs F.entry_tuple_iterator_next ?_ (F.args_tuple_iterator_next_1 _))
  change wpAny _ _ (field (.ref it) 0 >>= _) _ _ s
  apply NR
  apply wpAny_field ho hd (x:=.ref t) rfl
  change wpAny _ _ (if(Value.ref t==Value.none)=true then _ else _) _ _ s
  rw[OH (fun z:(Value.ref t==Value.none)=true=>Bool.false_ne_true z)]
  change wpAny _ _ (field (.ref it) 1 >>= _) _ _ s
  apply NR
  apply wpAny_field ho hd (x:=.int i 0) rfl
  change wpAny _ _ (seqItems? (.ref t) >>= _) _ _ s
  apply NR
  apply wpAny_seqItems hol hdl
  simp only[Int.toNat_natCast,hx]
  apply NR
  refine wpAny_setField ho hd (by simp) (NW ⟨x,rfl,x,rfl,q _ ⟨_,Heap.get?_update_self _ ho (Obj.isFreed_of_fields (Obj.data_mapFields hd _)),?_,?_⟩ (Heap.SameBut.update ..)⟩)
  ·exact(Obj.cls_mapFields ..).trans hc
  ·rw[Obj.data_mapFields hd]
   simp[rawInt]
 unfold Builtin.SmallTypes.nextOf
 exact NR (wpAny_mono key (fun r s' bt=>by obtain⟨v,e,h⟩:=bt;subst e;exact NW h) fun _ _ h=>h)
theorem nG {it t:Addr} {i:Nat} {items:Array Value} {Q:Value→Shared→Prop} (hh:A.handled=none) (ht:s.heap.IsTupleIter it t i) (hl:s.heap.IsTuple t items) (hx:items[i]?=none)
  (q: ∀ h' e,Heap.ExtBut it s.heap h'→(∃ o,h'.get? e=some o∧o.cls= .type "StopIteration")→E (.ref e) {s with heap:=h'}):wpAny (model prog w) A (Builtin.SmallTypes.nextOf (.ref it)) Q E s:=by
 have key: ∀ Q':Option Value→Shared→Prop,wpAny (model prog w) A (callSpecial? (.ref it) (Str.ofString "__next__")) Q' E s:=by
  intro Q'
  obtain⟨o,ho,hc,hd⟩:=id ht
  obtain⟨ol,hol,_,nl,hdl⟩:=hl
  refine wpAny_callSpecial?_slot ht.typeIs F.slot_tuple_iterator_next (wpAny_call_entry F.slot_tuple_iterator_next ht.typeIs F.entry_tuple_iterator_next ?_ (F.args_tuple_iterator_next_1 _))
  change wpAny _ _ (field (.ref it) 0 >>= _) _ _ s
  apply NR
  apply wpAny_field ho hd (x:=.ref t) rfl
  change wpAny _ _ (if(Value.ref t==Value.none)=true then _ else _) _ _ s
  rw[OH (fun z:(Value.ref t==Value.none)=true=>Bool.false_ne_true z)]
  change wpAny _ _ (field (.ref it) 1 >>= _) _ _ s
  apply NR
  apply wpAny_field ho hd (x:=.int i 0) rfl
  change wpAny _ _ (seqItems? (.ref t) >>= _) _ _ s
  apply NR
  apply wpAny_seqItems hol hdl
  simp only[Int.toNat_natCast,hx]
  apply NR
  apply wpAny_rule
  apply NR
  apply wpAny_setField ho hd (by simp)
  change wpAny _ _ (newExc (.type "StopIteration") [] >>= _) _ _ _
  apply NR
  simp only[newExc,newTuple]
  apply NR
  refine wpAny_newObj_type ?_ (by size_fits)
  apply NR
  refine wpAny_of_eq (a:=Value.none) (by first|rfl|(simp only[firstArgMember];rfl)) ?_
  refine wpAny_newObj_type ?_ (by size_fits)
  simp only[raiseNew]
  apply NR
  apply wpAny_handled
  rw[show A.in1.handled=none from hh]
  refine NR (NW (wpAny_throw ?_))
  exact q _ _ (((Heap.SameBut.update ..).extBut.push _).push _) ⟨_,N6 _ rfl,rfl⟩
 unfold Builtin.SmallTypes.nextOf
 exact NR (key _)
end
section
variable {X:Cx} {pZ:List (Addr×Obj)} {σ:St} {H:Hp} {s:Shared} {h':Heap}
theorem Inv.xP {t':Nat} {wr:List Addr} {T:Addr} {o:HO} (I:Inv X pZ σ H s) (hf: ∀ b∈wr,cD X pZ H b) (k: ∀ b u,b∉wr→s.heap.get? b=some u→h'.get? b=some u) (hT:s.heap.objs.size≤T)
  (new:bS X.prog X.w (upd H T o) h' T o):Inv X pZ σ (upd H T o) {s with heap:=h',toks:=t'}:=by
 have nT:H T=none:=I.a7.fresh hT
 have neT: ∀ b u,s.heap.get? b=some u→b≠T:=fun b u e z=>absurd (Of (N9 e) (z▸hT)) (Nat.lt_irrefl _)
 have neH: ∀ b u,H b=some u→b≠T:=fun b u e z=>by rw[z,nT] at e;cases e
 have nw: ∀ b u,H b=some u→b∉wr:=fun b u e z=>by rw[(hf b z).1] at e;cases e
 refine I.step (g':=s.gens) (d':=s.drawn) (ch:=wr) (fun b hb=>⟨(hf b hb).2.2.2.1,(hf b hb).2.1,(hf b hb).2.2.2.2.1,(hf b hb).2.2.2.2.2⟩) (fun b u _ _ hc e _=>k b u hc e) (fun b u _ _ hc e _=>⟨u.slots,k b u hc e⟩)
  (fun b u _ e n=>by rw[ag (neT b u e)];exact n) (fun b u hc e=>⟨u,k b u hc e⟩) (fun b xs e=>by rw[ag (neH b _ e)];exact e) (fun b ob u e=>by rw[ag (neH b _ e)];exact e) (fun b ps e=>⟨#[],by rw[ag (neH b _ e),e];simp⟩) (fun m hm=>?_) (fun b u e=>?_) I.bare
 ·obtain⟨ob,es,ep,ho,r⟩:=hm
  exact⟨ob,es,ep,k _ ob (fun z=>(hf _ z).2.1 rfl) ho,r⟩
 ·by_cases hb:b=T
  ·subst hb;rw[ar] at e;cases e;exact new
  ·rw[ag hb] at e
   refine(I.a7 b u e).mY (fun c v hc q=>k c v ?_ q) (fun c q=>by rw[ag (neH c _ q)];exact q) fun c xs q=>by rw[ag (neH c _ q)];exact q
   rcases hc with z|z
   ·rw[z];exact nw b u e
   ·exact nw c _ z
theorem Inv.xQ {t':Nat} {wr:List Addr} (I:Inv X pZ σ H s) (hf: ∀ b∈wr,cD X pZ H b) (k: ∀ b u,b∉wr→s.heap.get? b=some u→h'.get? b=some u):Inv X pZ σ H {s with heap:=h',toks:=t'}:=by
 have nw: ∀ b u,H b=some u→b∉wr:=fun b u e z=>by rw[(hf b z).1] at e;cases e
 refine I.step (g':=s.gens) (d':=s.drawn) (ch:=wr) (fun b hb=>⟨(hf b hb).2.2.2.1,(hf b hb).2.1,(hf b hb).2.2.2.2.1,(hf b hb).2.2.2.2.2⟩) (fun b u _ _ hc e _=>k b u hc e) (fun b u _ _ hc e _=>⟨u.slots,k b u hc e⟩)
  (fun b u _ e n=>n) (fun b u hc e=>⟨u,k b u hc e⟩) (fun b xs e=>e) (fun b ob u e=>e) (fun b ps e=>⟨#[],by rw[e];simp⟩) (fun m hm=>?_) (fun b u e=>?_) I.bare
 ·obtain⟨ob,es,ep,ho,r⟩:=hm
  exact⟨ob,es,ep,k _ ob (fun z=>(hf _ z).2.1 rfl) ho,r⟩
 ·refine(I.a7 b u e).mY (fun c v hc q=>k c v ?_ q) (fun c q=>q) fun c xs q=>q
  rcases hc with z|z
  ·rw[z];exact nw b u e
  ·exact nw c _ z
end
def GY (K:Frag) (a:Addr):It:=
 ⟨fun i H=> ∃ xs x,bM K H a xs∧xs[i]?=some x,fun i H y H'=> ∃ T,y= .ref T∧H T=none∧∀ xs x,bM K H a xs→xs[i]?=some x→H'=upd H T (.tup [.int i,x]),fun i H=> ∃ xs,bM K H a xs∧xs.length≤i⟩
theorem yh {P:Program} {w:World} {H:Hp} {h:Heap} {T:Addr} {x y:V} {u v:Value} (hT:h.get? T=some {cls:=.type "tuple",data:=.seq #[u,v]}) (ru:RelV x u) (rv:RelV y v):bS P w H h T (.tup [x,y]):=
 ⟨by show 2≤sizeLine;decide,[u,v],.cons ru (.cons rv .nil),_,hT,rfl,_,rfl⟩
theorem za {P:Program} {w:World} {K:Frag} {elts:List Expr} {kk:Nat} {pos:Pos} (a e it:Addr) (bP:e≠it):Turn P w K (.Tuple elts kk pos) (GY K a) [e,it] e (fun i h=>(∃ old,IsEnum h e it i old)∧h.IsListIter it a i) where
 mem:=by simp
 obj:=fun i h st b hb=>by
  obtain⟨⟨old,he⟩,o,ho,hc,hd⟩:=st
  have hb':b=e∨b=it:=by simpa using hb
  rcases hb' with rfl|rfl
  ·exact⟨_,he,fun v z=>by cases z⟩
  ·exact⟨o,ho,fun v z=>by rw[hd] at z;cases z⟩
 keep:=fun i h h' st k=>by
  obtain⟨⟨old,he⟩,o,ho,hc,hd⟩:=st
  exact⟨⟨old,k e (by simp) _ he⟩,o,k it (by simp) _ ho,hc,hd⟩
 item:=by
  intro X hP hw hK hc i pZ s σ H E I hf st hg
  subst hP hw hK
  obtain⟨xs,x,hq,hx⟩:=hg
  obtain⟨ay,rv,p,hz⟩:=I.list hq
  obtain⟨u,hu,ru⟩:=rv.get hx
  obtain⟨⟨old,he⟩,hit⟩:=st
  refine wpAny_pyNext_enum_item he hit p.isList (x:=u) (by simpa using hu) bP fun h1 ho hit1 hT hsz k1=>?_
  refine⟨_,rfl,wpAny_letOwnedTupleGo_enum (s:={s with heap:=h1,toks:=s.toks+1}) ho fun h2 he2 s2=>?_⟩
  have lt: ∀ b o,s.heap.get? b=some o→b≠s.heap.objs.size:=fun b o q=>Oo (N9 q)
  have neT:s.heap.objs.size≠e:=fun z=>lt e _ he z.symm
  have hT2:h2.get? s.heap.objs.size=some {cls:=.type "tuple",data:=.seq #[.int i s.toks,u]}:=(s2.2 _ neT).trans hT
  have I2:=I.xP (t':=s.toks+1) (h':=h2) (wr:=[e,it]) (T:=s.heap.objs.size) (o:=.tup [.int i,x]) hf (fun b o hb q=>by
   have hb':b≠e∧b≠it:=by simpa using hb
   exact(s2.2 b hb'.1).trans (k1 b o hb'.1 hb'.2 q)) (NZ _) (yh hT2 ⟨_,rfl⟩ ru)
  refine⟨.ref s.heap.objs.size,_,I2,rfl,⟨_,rfl,I.a7.fresh (NZ _),fun ys y hy hyx=>?_⟩,⟨⟨_,by simpa using he2⟩,hit1.at fun o q=>(s2.2 it bP.symm).trans q⟩,fun b hb=>?_⟩
  ·rw[I.uE hy hq,hx] at hyx
   cases hyx
   rfl
  ·have cU:b≠s.heap.objs.size:=by
    have hb':b=e∨b=it:=by simpa using hb
    rcases hb' with rfl|rfl
    ·exact fun z=>neT z.symm
    ·obtain⟨o,ho',_⟩:=hit
     exact lt _ _ ho'
   rw[ag cU]
   exact(hf b hb).1
 done:=by
  intro X hP hw hK hc i pZ s σ H E I hf st hg
  subst hP hw hK
  obtain⟨xs,hq,hx⟩:=hg
  obtain⟨ay,rv,p,hz⟩:=I.list hq
  have hl:=rv.length
  obtain⟨⟨old,he⟩,hit⟩:=st
  refine wpAny_pyNext_enum_end (I.ok.hd hc) he hit p.isList (by simp;lia) fun h1 k1=>⟨rfl,I.xQ (t':=s.toks) hf fun b o hb q=>k1 b o (fun z=>hb (by simp[z])) q⟩
 self:=fun _ _ _ _ _ st h=>by
  obtain⟨⟨old,he⟩,_⟩:=st
  exact wpAny_pyIter_enum he h
def NO (a b:Addr):It:=
 ⟨fun i H=> ∃ xs ys x y,H a=some (.tup xs)∧H b=some (.tup ys)∧xs[i]?=some x∧ys[i]?=some y,fun i H r H'=> ∃ T,r= .ref T∧H T=none∧∀ xs ys x y,H a=some (.tup xs)→H b=some (.tup ys)→xs[i]?=some x→ys[i]?=some y→H'=upd H T (.tup [x,y]),fun i H=> ∃ xs ys,H a=some (.tup xs)∧H b=some (.tup ys)∧(xs.length≤i∨ys.length≤i)⟩
section
variable {X:Cx} {e e2:Expr} {t1 t2:TE} {elts:List Expr} {kk:Nat} {tpos pos p:Pos} {x:Str}
def GG (K:Frag) (ta:TA):TI:=fun σ H R=>ta σ H fun vs H1=> ∃ a xs,vs=[.ref a]∧bM K H1 a xs∧R (GY K a) H1
theorem Fp {pZ:List (Addr×Obj)} {σ:St} {H:Hp} {s:Shared} {R:It→Hp→Prop} {a:Addr} {xs:List V} (I:Inv X pZ σ H s) (ha:bM X.K H a xs) (q:R (GY X.K a) H):
  wpAny (model X.prog X.w) X.A (call (.type "enumerate") [.ref a]) (fun v s1=>wpAny (model X.prog X.w) X.A (pyIter v) (L3 X pZ σ (.Tuple elts kk tpos) R) X.xe s1) X.xe s:=by
 obtain⟨ay,rv,p1,hz⟩:=I.list ha
 refine call_enumerate_list p1.isList fun h1 he hit hsz k1=>?_
 have I1:Inv X pZ σ H {s with heap:=h1}:=I.kept (t':=s.toks) k1
 refine wpAny_pyIter_enum (s:={s with heap:=h1}) he ?_
 refine⟨_,[s.heap.objs.size+1,s.heap.objs.size],_,GY X.K a,H,rfl,I1,za a _ _ (Nat.succ_ne_self _),⟨⟨_,he⟩,hit⟩,fun c hc=>?_,q⟩
 have hle:s.heap.objs.size≤c:=by
  rcases N2.mp hc with h|hc
  ·rw[h];exact Nat.le_succ _
  ·rw[Om.mp hc];exact NZ _
 exact I.n9 hle (I.a7.fresh hle)
theorem El (hg:Gl X x) (hm:X.mg x=none) (hv:bootBuiltins x=some (.type "enumerate")) {ta:TA} (ha:PA X [e] ta) (hn:x≠"__name__":=by decide) (mE:(x==("__debug__":Str))=false:=by decide)
  (he:starEach [e] X.env=(false,eval e X.env)::starEach [] X.env:=by rfl) (jP:(backTo pos (starEach [] X.env)).any (·.1)=false:=by rfl):PI X (.Tuple elts kk tpos) (.Call (.Name x p) [e] [] pos) (GG X.K ta):=by
 intro pZ s σ H R I h
 refine wpAny_Call_Name_kw (gz I hg hm hv ?_ hn mE)
 refine PyProof.Rows.callWith_type1 (bh (ha pos pZ s σ H _ I h) fun us s1 ⟨vs,H1,I1,r1,q1⟩=>?_) he jP
 obtain⟨a,xs,rfl,h1,q⟩:=q1
 obtain⟨u,rfl,ru⟩:=r1.one
 cases ru
 exact Fp I1 h1 q
end
section
variable {φ:cM}
def Mz (l1 l2:List PV):List PV:=List.zipWith (fun x y=>PV.tup [x,y]) l1 l2
inductive NP (G:Bg φ) (O:Addr→Prop) (H:Hp):List PV→It→Prop where
 |zip {a b:Addr} {xs ys:List V} {l1 l2:List PV} (na: ¬ O a) (ha:H a=some (.tup xs)) (ra:aJ G.B O H l1 xs) (nb: ¬ O b) (hb:H b=some (.tup ys)) (rb:aJ G.B O H l2 ys):NP G O H (Mz l1 l2) (NO a b)
end
section
variable {φ:cM}
section
variable {X:Cx} {e:Expr}
def A2 (a b c:Int):Prop:=0 < c∧c < 1000000000∧-1000000000000 < a∧a < 1000000000000∧-1000000000000 < b∧b < 1000000000000
end
end
section
variable {φ:cM}
instance (a b c:Int):Decidable (A2 a b c):=by unfold A2;infer_instance
end
theorem lr {i j:Int} (h0:0≤j) (h1:j < 2 ^ 63):lU i j:=by
 have e:(2:Int) ^ 63=9223372036854775808:=by decide
 have e2:(2:Int) ^ 64=18446744073709551616:=by decide
 rw[e] at h1
 exact .inr ⟨by rw[e2];lia,by rw[e2];lia⟩
theorem gn {i j:Int} (h0:0≤i) (h1:i < 2 ^ 63):lU i j:=by
 have e:(2:Int) ^ 63=9223372036854775808:=by decide
 have e2:(2:Int) ^ 64=18446744073709551616:=by decide
 rw[e] at h1
 exact .inl ⟨by rw[e2];lia,by rw[e2];lia⟩
theorem j4 (x:Int) (ns:List Int):j3 ((x::ns).map V.int) 0=some (.int x):=(yX (j:=0) rfl:j3 ((x::ns).map V.int) ((0:Nat):Int)=some (.int x))
theorem C8 (ns:List Int):kJ (ns.map V.int) none (some 63)=(ns.take 63).map V.int:=by
 unfold kJ
 rw[HT.ki]
 have e:HT.cb (ns.map V.int).length (ns.map V.int).length (some 63)=min 63 (ns.map V.int).length:=HT.jj _ _ 63
 rw[e,List.drop_zero,Nat.sub_zero,NT,←List.map_take]
 congr 1
 rw[List.take_eq_take_iff]
 lia
theorem CF {K:Frag} {a:Addr} {xs:List V} {g:TG} {tb:TS} {D:Ends} {σ:St} {H:Hp} (Pv:Nat→L2.St→Hp→Prop) (h0:Pv 0 σ H) (hl: ∀ i σ H,i≤xs.length→Pv i σ H→bM K H a xs)
  (hs: ∀ i x σ H T,xs[i]?=some x→H T=none→Pv i σ H→g (.ref T) σ (upd H T (.tup [.int i,x])) fun σ2 H2=>tb {D with nx:=Pv (i+1),ct:=Pv (i+1),bk:=D.nx} σ2 H2) (hd: ∀ σ H,Pv xs.length σ H→D.nx σ H):
  ∃ W:Nat→Nat→L2.St→Hp→Prop,(∃ m,W 0 m σ H)∧∀ i m σ H,W i m σ H→
   ((GY K a).stop i H∧D.nx σ H)∨((GY K a).go i H∧∃ N:L2.St→Hp→Prop,(∀ σ' H',N σ' H'→∃ m',m' < m∧W (i+1) m' σ' H')∧∀ x H',(GY K a).Aq i H x H'→g x σ H' fun σ2 H2=>tb {D with nx:=N,ct:=N,bk:=D.nx} σ2 H2):=by
 refine⟨fun i m σ H=>m=xs.length - i∧i≤xs.length∧Pv i σ H,⟨xs.length,by simp,Ol _,h0⟩,?_⟩
 rintro i m σ H ⟨rfl,hi,p⟩
 have q:=hl i σ H hi p
 by_cases cU:i < xs.length
 ·refine .inr ⟨⟨xs,xs[i],q,by simp[cU]⟩,Pv (i+1),fun σ' H' p'=>⟨xs.length - (i+1),by lia,rfl,cU,p'⟩,fun x H' y=>?_⟩
  obtain⟨T,rfl,hT,y⟩:=y
  rw[y xs xs[i] q (by simp[cU])]
  exact hs i _ σ H T (by simp[cU]) hT p
 ·have e:i=xs.length:=by lia
  subst e
  exact .inl ⟨⟨xs,q,NZ _⟩,hd σ H p⟩
section
variable {X:Cx} {x:Str} {p pos tpos:Pos} {e:Expr} {elts:List Expr} {kk:Nat}
theorem Br {ta:TA} (hg:Gl X x) (hm:X.mg x=none) (hv:bootBuiltins x=some (.type "enumerate")) (ha:PA X [e] ta) (hn:x≠"__name__":=by decide) (mE:(x==("__debug__":Str))=false:=by decide)
  (he:starEach [e] X.env=(false,eval e X.env)::starEach [] X.env:=by rfl) (jP:(backTo pos (starEach [] X.env)).any (·.1)=false:=by rfl):PI X (.Tuple elts kk tpos) (.Call (.Name x p) [e] [] pos) (GG X.K ta):=El hg hm hv ha hn mE he jP
end
theorem zf (t:SetTable) (n:Nat):(t.orStandIn n).led=t.led∧(t.plain=false→(t.orStandIn n).plain=false):=by
 unfold SetTable.orStandIn
 split
 ·exact⟨rfl,id⟩
 ·exact⟨rfl,fun _=>rfl⟩
theorem E2 (t:SetTable) (es:Array (Int×Value)) (h:Int) (x:Value):(layNew t es h x).2.1.led=t.led∧(t.plain=false→(layNew t es h x).2.1.plain=false):=by
 unfold layNew
 split
 ·exact zf _ _
 ·exact⟨rfl,fun _=>rfl⟩
theorem zo (t:SetTable) (es:Array (Int×Value)) (n:Nat):(relayAll t es n).2.1.led=t.led∧(t.plain=false→(relayAll t es n).2.1.plain=false):=by
 unfold relayAll
 split
 ·rename_i t' order e
  have e':t'.led=t.led∧t'.plain=t.plain:=by
   unfold SetTable.relaid SetTable.laid at e
   cases hl:SetTable.layClean (SetTable.sizeAbove n - 1) (es.map (·.1)) with
   |none=>rw[hl] at e;cases e
   |some ow=>rw[hl] at e;cases e;exact⟨rfl,rfl⟩
  dsimp only
  split
  ·exact⟨e'.1,fun h=>e'.2.trans h⟩
  ·exact⟨rfl,fun _=>rfl⟩
 ·exact⟨rfl,fun _=>rfl⟩
def meet (l:List Str) (z:Str):List Str:=if l.any (· ==z) then l else l++[z]
def met (zs:List Str):List Str:=zs.foldl meet []
theorem a8:Slot "set_iterator" "__next__" "set_iterator.__next__":=by
 refine .of (owner:="set_iterator") (n:="__next__") ?_ (by decide +kernel) (by decide +kernel) (by decide +kernel) ?_ ?_
 ·rw[typeLookup_type,builtinLookup_eq_fast]
  kernel_rfl
 ·first|exact .inl (by decide +kernel)|exact .inr (by decide +kernel)
 ·rw[isSubtype_type]
  kernel_rfl
theorem c5:entryFor table "set_iterator.__next__"=some Builtin.«set_iterator.__next__»:=by
 first|exact entryFor_of_fast (by kernel_rfl)|exact entryFor_of_tree (by kernel_rfl)
theorem dF (a:Value):argsOk "set_iterator.__next__" ⟨[a],[]⟩:=by
 unfold argsOk
 kernel_rfl
theorem oB:entryFor table "set.__iter__"=some Builtin.«frozenset.__iter__»:=by
 exact entryFor_alias (id':="frozenset.__iter__") (by kernel_rfl) rfl (by decide +kernel) (by kernel_rfl)
abbrev jn (first:Value) (i:Nat) (D:Addr) (n ep:Nat):Obj:={cls:=.type "set_iterator",data:=.fields #[first,.int i 0,.ref D,.int n 0,.int ep 0]}
section
variable {prog:Program} {w:World} {A:Around} {E:Value→Shared→Prop} {s:Shared} {I D T:Addr} {o:Obj} {es:Array (Int×Value)} {ep i slot nx:Nat} {t:SetTable} {x:Value} {Q:Option Value→Shared→Prop}
theorem tT (hI:s.heap.get? I=some (jn (.int slot 0) i D es.size ep)) (hD:s.heap.get? D=some o) (hd:o.data= .set es ep t) (hf:t.fits es.size=true)
  (hN: ∀ {Q':Option (Value×Nat)→Shared→Prop} {E':Value→Shared→Prop},Q' (some (x,nx)) s→wpAny (model prog w) A.in1 (setNext D slot i ep) Q' E' s)
  (hQ: ∀ h',h'.get? I=some (jn (.int nx 0) (i+1) D es.size ep)→Heap.SameBut I s.heap h'→Q (some x) {s with heap:=h'}):wpAny (model prog w) A (pyNext (.ref I)) Q E s:=by
 have hT:s.TypeIs (.ref I) "set_iterator":=⟨_,hI,rfl⟩
 unfold pyNext
 refine NR (wpAny_attempt (wpAny_callSpecial?_slot (name:=Str.ofString "__next__") hT a8 (wpAny_call_entry a8 hT c5 ?_ (dF _))))
 unfold Builtin.«set_iterator.__next__» slotArgs fieldsOf
 show wpAny _ _ (pure (Value.ref I,([]:List Value)) >>= _) _ _ s
 refine NR (NW ?_)
 show wpAny _ _ ((load I >>= _) >>= _) _ _ s
 refine NR (NR (wpAny_load hI (NW ?_)))
 show wpAny _ _ (setEntries D >>= _) _ _ s
 refine NR (PySem.wpAny_setEntries_of hD hd hf ?_)
 dsimp only
 rw[OH (by simp)]
 show wpAny _ _ (setNext D ((slot:Nat):Int).toNat ((i:Nat):Int).toNat ((ep:Nat):Int).toNat >>= _) _ _ s
 simp only[Int.toNat_natCast]
 refine NR (hN ?_)
 show wpAny _ _ (setField (.ref I) 0 (rawInt nx) >>= _) _ _ s
 refine NR (wpAny_setField_rec hI (by simp) fun h1 g1 b1=>?_)
 show wpAny _ _ (setField (.ref I) 1 (rawInt (i+1)) >>= _) _ _ _
 refine NR (wpAny_setField_rec g1 (by simp) fun h2 g2 b2=>?_)
 exact NW ⟨x,rfl,NW (hQ h2 g2 (b1.trans b2))⟩
theorem xY (hh:A.handled=none) (hI:s.heap.get? I=some (jn (.int slot 0) i D es.size ep)) (hD:s.heap.get? D=some o) (hd:o.data= .set es ep t) (hf:t.fits es.size=true)
  (hN: ∀ {Q':Option (Value×Nat)→Shared→Prop} {E':Value→Shared→Prop},Q' none s→wpAny (model prog w) A.in1 (setNext D slot i ep) Q' E' s)
  (hQ: ∀ h',Heap.ExtBut I s.heap h'→Q none {s with heap:=h'}):wpAny (model prog w) A (pyNext (.ref I)) Q E s:=by
 have hT:s.TypeIs (.ref I) "set_iterator":=⟨_,hI,rfl⟩
 unfold pyNext
 refine NR (wpAny_attempt (wpAny_callSpecial?_slot (name:=Str.ofString "__next__") hT a8 (wpAny_call_entry a8 hT c5 ?_ (dF _))))
 unfold Builtin.«set_iterator.__next__» slotArgs fieldsOf
 show wpAny _ _ (pure (Value.ref I,([]:List Value)) >>= _) _ _ s
 refine NR (NW ?_)
 show wpAny _ _ ((load I >>= _) >>= _) _ _ s
 refine NR (NR (wpAny_load hI (NW ?_)))
 show wpAny _ _ (setEntries D >>= _) _ _ s
 refine NR (PySem.wpAny_setEntries_of hD hd hf ?_)
 dsimp only
 rw[OH (by simp)]
 show wpAny _ _ (setNext D ((slot:Nat):Int).toNat ((i:Nat):Int).toNat ((ep:Nat):Int).toNat >>= _) _ _ s
 simp only[Int.toNat_natCast]
 refine NR (hN ?_)
 show wpAny _ _ (setField (.ref I) 2 Value.none >>= _) _ _ s
 refine NR (wpAny_setField_rec hI (by simp) fun h1 g1 b1=>?_)
 show wpAny _ _ (newExc (.type "StopIteration") [] >>= _) _ _ _
 refine NR ?_
 simp only[newExc,newTuple]
 refine NR (wpAny_newObj_type ?_ (by size_fits))
 refine NR (m:=firstArgMember _ _) (wpAny_of_eq (a:=Value.none) (by first|rfl|(simp only[firstArgMember];rfl)) ?_)
 refine wpAny_newObj_type ?_ (by size_fits)
 simp only[raiseNew]
 refine NR (wpAny_handled ?_)
 rw[show A.in1.handled=none from hh]
 refine NR (NW (wpAny_throw ?_))
 refine NR (wpAny_isInstance (T:="StopIteration") (b:=true) ⟨_,N6 _ rfl,rfl⟩ isSubtype_stop ?_)
 exact NW (hQ _ ((b1.extBut.push _).push _))
theorem zj {places:Array Value} {j m:Nat} {oT:Obj} (hI:s.heap.get? I=some (jn (.ref T) i D es.size ep)) (hD:s.heap.get? D=some o) (hd:o.data= .set es ep t) (hf:t.fits es.size=true) (hT0:s.heap.get? T=some oT) (hTd:oT.data= .seq places m) (hp:places[i]?=some (.int (j:Nat) 0)) (hx:es[j]?.map (·.2)=some x)
  (hQ: ∀ h',h'.get? I=some (jn (.ref T) (i+1) D es.size ep)→Heap.SameBut I s.heap h'→Q (some x) {s with heap:=h'}):wpAny (model prog w) A (pyNext (.ref I)) Q E s:=by
 have hT:s.TypeIs (.ref I) "set_iterator":=⟨_,hI,rfl⟩
 unfold pyNext
 refine NR (wpAny_attempt (wpAny_callSpecial?_slot (name:=Str.ofString "__next__") hT a8 (wpAny_call_entry a8 hT c5 ?_ (dF _))))
 unfold Builtin.«set_iterator.__next__» slotArgs fieldsOf
 show wpAny _ _ (pure (Value.ref I,([]:List Value)) >>= _) _ _ s
 refine NR (NW ?_)
 show wpAny _ _ ((load I >>= _) >>= _) _ _ s
 refine NR (NR (wpAny_load hI (NW ?_)))
 show wpAny _ _ (setEntries D >>= _) _ _ s
 refine NR (PySem.wpAny_setEntries_of hD hd hf ?_)
 dsimp only
 rw[OH (by simp)]
 show wpAny _ _ (seqItems? (.ref T) >>= _) _ _ s
 refine NR (wpAny_seqItems hT0 hTd ?_)
 simp only[Int.toNat_natCast,hp]
 show wpAny _ _ (setNextDrawn D _ _ >>= _) _ _ s
 refine NR ?_
 unfold setNextDrawn
 refine NR (PySem.wpAny_setState_of hD hd hf ?_)
 cases hj:es[j]? with
 |none=>rw[hj] at hx;cases hx
 |some e=>
  rw[hj] at hx
  cases hx
  simp only[Int.toNat_natCast,bne_self_eq_false,OA,if_false,hj]
  refine NW ?_
  show wpAny _ _ (setField (.ref I) 1 (rawInt (i+1)) >>= _) _ _ _
  refine NR (wpAny_setField_rec hI (by simp) fun h2 g2 b2=>?_)
  exact NW ⟨e.2,rfl,NW (hQ h2 g2 b2)⟩
theorem A4 {places:Array Value} {m:Nat} {oT:Obj} (hh:A.handled=none) (hI:s.heap.get? I=some (jn (.ref T) i D es.size ep)) (hD:s.heap.get? D=some o) (hd:o.data= .set es ep t) (hf:t.fits es.size=true) (hT0:s.heap.get? T=some oT) (hTd:oT.data= .seq places m) (hp:places[i]?=none)
  (hQ: ∀ h',Heap.ExtBut I s.heap h'→Q none {s with heap:=h'}):wpAny (model prog w) A (pyNext (.ref I)) Q E s:=by
 have hT:s.TypeIs (.ref I) "set_iterator":=⟨_,hI,rfl⟩
 unfold pyNext
 refine NR (wpAny_attempt (wpAny_callSpecial?_slot (name:=Str.ofString "__next__") hT a8 (wpAny_call_entry a8 hT c5 ?_ (dF _))))
 unfold Builtin.«set_iterator.__next__» slotArgs fieldsOf
 show wpAny _ _ (pure (Value.ref I,([]:List Value)) >>= _) _ _ s
 refine NR (NW ?_)
 show wpAny _ _ ((load I >>= _) >>= _) _ _ s
 refine NR (NR (wpAny_load hI (NW ?_)))
 show wpAny _ _ (setEntries D >>= _) _ _ s
 refine NR (PySem.wpAny_setEntries_of hD hd hf ?_)
 dsimp only
 rw[OH (by simp)]
 show wpAny _ _ (seqItems? (.ref T) >>= _) _ _ s
 refine NR (wpAny_seqItems hT0 hTd ?_)
 simp only[Int.toNat_natCast,hp]
 show wpAny _ _ (setField (.ref I) 0 (rawInt 0) >>= _) _ _ s
 refine NR (wpAny_setField_rec hI (by simp) fun h0 g0 b0=>?_)
 show wpAny _ _ (setField (.ref I) 2 Value.none >>= _) _ _ _
 refine NR (wpAny_setField_rec g0 (by simp) fun h1 g1 b1=>?_)
 show wpAny _ _ (newExc (.type "StopIteration") [] >>= _) _ _ _
 refine NR ?_
 simp only[newExc,newTuple]
 refine NR (wpAny_newObj_type ?_ (by size_fits))
 refine NR (m:=firstArgMember _ _) (wpAny_of_eq (a:=Value.none) (by first|rfl|(simp only[firstArgMember];rfl)) ?_)
 refine wpAny_newObj_type ?_ (by size_fits)
 simp only[raiseNew]
 refine NR (wpAny_handled ?_)
 rw[show A.in1.handled=none from hh]
 refine NR (NW (wpAny_throw ?_))
 refine NR (wpAny_isInstance (T:="StopIteration") (b:=true) ⟨_,N6 _ rfl,rfl⟩ isSubtype_stop ?_)
 exact NW (hQ _ (((b0.trans b1).extBut.push _).push _))
end
theorem jt:Slot "set_iterator" "__iter__" "set_iterator.__iter__":=by
 refine .of (owner:="set_iterator") (n:="__iter__") ?_ (by decide +kernel) (by decide +kernel) (by decide +kernel) ?_ ?_
 ·rw[typeLookup_type,builtinLookup_eq_fast]
  kernel_rfl
 ·first|exact .inl (by decide +kernel)|exact .inr (by decide +kernel)
 ·rw[isSubtype_type]
  kernel_rfl
theorem oA:entryFor table "set_iterator.__iter__"=some Builtin.«dict_keyiterator.__iter__»:=by
 exact entryFor_alias (id':="dict_keyiterator.__iter__") (by kernel_rfl) rfl (by decide +kernel) (by kernel_rfl)
theorem pU (a:Value):argsOk "set_iterator.__iter__" ⟨[a],[]⟩:=by
 unfold argsOk
 kernel_rfl
theorem jR {α:Type}: ∀ (l:List α) (i:Nat) (x:α),l[i]?=some x→(x::l.eraseIdx i).Perm l
 |[],i,x,h=>by simp at h
 |y::l,0,x,h=>by simp at h;subst h;exact .rfl
 |y::l,i+1,x,h=>by
  simp only[N7] at h
  exact(List.Perm.swap y x _).trans ((jR l i x h).cons y)
theorem qf {α:Type} (next:Nat→Nat): ∀ (n k:Nat) (l:List α) (out:Array α),l.length=n→(pickOrder.go next n k l out).toList.Perm (out.toList++l)
 |0,k,l,out,h=>by
  have:l=[]:=Ow h
  subst this
  simp[pickOrder.go]
 |n+1,k,l,out,h=>by
  unfold pickOrder.go
  have hl:next k % l.length < l.length:=Nat.mod_lt _ (by lia)
  have e:l[next k % l.length]?=some l[next k % l.length]:=NQ hl
  rw[e]
  dsimp only
  refine(qf next n (k+1) (l.eraseIdx (next k % l.length)) _ (by rw[List.length_eraseIdx];split<;>lia)).trans ?_
  rw[Array.toList_push,List.append_assoc]
  exact(jR l _ _ e).append_left _
section
variable {prog:Program} {w:World} {A:Around} {E:Value→Shared→Prop}
theorem DM {n:Nat} {Q:Nat→Shared→Prop} {s:Shared} (hn:0 < n) (h: ∀ (j:Nat) d',j < n→Q j {s with drawn:=d'}):wpAny (model prog w) A (choose .order n) Q E s:=fun Γ p hΓ=>by
 unfold choose
 rw[Sem.wp_choose]
 exact⟨by lia,h _ _ (Nat.mod_lt _ hn)⟩
theorem qG {α:Type}: ∀ (n:Nat) (l:List α) (s:Shared) (Q:List α→Shared→Prop),l.length=n→(∀ (ys:List α) d',ys.Perm l→Q ys {s with drawn:=d'})→wpAny (model prog w) A (drawOrder n l) Q E s
 |0,l,s,Q,hl,h=>by
  have:l=[]:=Ow hl
  subst this
  exact NW (h [] s.drawn .rfl)
 |n+1,[],s,Q,hl,h=>by cases hl
 |n+1,y::l,s,Q,hl,h=>by
  unfold drawOrder
  refine NR (DM (by simp) fun j d' hj=>?_)
  have e:(y::l)[j]?=some (y::l)[j]:=NQ hj
  rw[e]
  dsimp only
  refine NR (qG n _ _ _ (by rw[List.length_eraseIdx];split<;>lia) fun ys d2 hp=>?_)
  exact NW (h _ d2 ((hp.cons _).trans (jR _ _ _ e)))
theorem m9 {s:Shared} {I D:Addr} {first:Value} {i n ep:Nat} {Q:Value→Shared→Prop} (hI:s.heap.get? I=some (jn first i D n ep)) (h:Q (.ref I) s):wpAny (model prog w) A (pyIter (.ref I)) Q E s:=by
 have hT:s.TypeIs (.ref I) "set_iterator":=⟨_,hI,rfl⟩
 refine wpAny_pyIter_slot hT jt (wpAny_call_entry jt hT oA ?_ (pU _))
 show wpAny _ _ (ret (.ref I)) _ _ s
 exact NW ⟨_,rfl,"set_iterator",_,hT,a8.lookup,h⟩
theorem Ky {I D T:Addr} {o oT:Obj} {es:Array (Int×Value)} {ep m:Nat} {t:SetTable} {ps:List Nat} (hh:A.handled=none) (hID:I≠D) (hIT:I≠T) (hd:o.data= .set es ep t) (hf:t.fits es.size=true) (hTd:oT.data= .seq (ps.map fun (j:Nat)=>rawInt j).toArray m) (hps: ∀ j∈ps,j < es.size):
  Walks prog w A I [I,D,T] [I] ps.length (fun i v=>(ps.map fun j=>(es[j]?.map (·.2)).getD .none)[i]?=some v) (fun i h=>h.get? I=some (jn (.ref T) i D es.size ep)∧h.get? D=some o∧h.get? T=some oT) where
 sub:=fun c hc=>by simp at hc;simp[hc]
 frame:=fun i h h' st k=>⟨k I (by simp) _ st.1,k D (by simp) _ st.2.1,k T (by simp) _ st.2.2⟩
 item:=fun i s Q E hi st hQ=>by
  have hj:=hps ps[i] (OB hi)
  refine zj (x:=(es[ps[i]]).2) (j:=ps[i]) st.1 st.2.1 hd hf st.2.2 hTd ?_ ?_ fun h' g sb=>?_
  ·simp[NQ hi,rawInt]
  ·rw[Oj hj];rfl
  ·refine hQ _ h' s.toks ?_ ⟨g,(sb.2 D hID.symm).trans st.2.1,(sb.2 T hIT.symm).trans st.2.2⟩ fun c u hc e=>(sb.2 c fun z=>hc (by simp[z])).trans e
   simp[NQ hi,Oj hj]
 done:=fun s Q E st hQ=>by
  refine A4 hh st.1 st.2.1 hd hf st.2.2 hTd (by simp) fun h' eb=>?_
  exact hQ h' s.toks fun c u hc e=>eb c u (fun z=>hc (by simp[z])) e
 self:=fun i s Q E st hQ=>m9 st.1 hQ
end
section
variable {prog:Program} {w:World} {A:Around} {E:Value→Shared→Prop} {s:Shared} {I D:Addr} {o:Obj} {es:Array (Int×Value)} {ep:Nat} {t:SetTable}
theorem jf {Q:Bool→Shared→Prop} (h:Q (w.params.followText "set-order") s):wpAny (model prog w) A setsByText Q E s:=by
 unfold setsByText
 exact NR (wpAny_askSetting (NW h))
theorem nextT {slot i:Nat} (hb:w.params.followText "set-order"=true) (hD:s.heap.get? D=some o) (hd:o.data= .set es ep t) (hf:t.fits es.size=true) {Q:Option (Value×Nat)→Shared→Prop} (h:Q (((pickOrder (w.params.setOrder D ep) es)[i]?).map fun e=>(e.2,slot)) s):wpAny (model prog w) A (setNext D slot i ep) Q E s:=by
 unfold setNext
 refine NR (PySem.wpAny_setState_of hD hd hf ?_)
 dsimp only
 refine NR (jf ?_)
 rw[hb,OG rfl,OH (by simp)]
 refine NR ?_
 unfold setWalk
 refine NR (PySem.wpAny_setState_of hD hd hf ?_)
 dsimp only
 refine NR (jf ?_)
 rw[hb,OG rfl]
 refine NR (wpAny_askSetting (NW ?_))
 exact NW h
theorem qg (next:Nat→Nat) (es:Array (Int×Value)):(pickOrder next es).toList.Perm es.toList:=by
 have:=qf next es.size 0 es.toList #[] (by simp)
 simpa[pickOrder] using this
theorem lj (next:Nat→Nat) (es:Array (Int×Value)):(pickOrder next es).size=es.size:=by
 have:=(qg next es).length_eq
 simpa using this
theorem Kw (hh:A.handled=none) (hID:I≠D) (hb:w.params.followText "set-order"=true) (hd:o.data= .set es ep t) (hf:t.fits es.size=true):
  Walks prog w A I [I,D] [I] es.size (fun i v=>((pickOrder (w.params.setOrder D ep) es).toList.map (·.2))[i]?=some v) (fun i h=>h.get? I=some (jn (.int (0:Nat) 0) i D es.size ep)∧h.get? D=some o) where
 sub:=fun c hc=>by simp at hc;simp[hc]
 frame:=fun i h h' st k=>⟨k I (by simp) _ st.1,k D (by simp) _ st.2⟩
 item:=fun i s Q E hi st hQ=>by
  have hz:=lj (w.params.setOrder D ep) es
  have e:(pickOrder (w.params.setOrder D ep) es)[i]?=some (pickOrder (w.params.setOrder D ep) es)[i]:=Oj (by lia)
  refine tT (x:=(pickOrder (w.params.setOrder D ep) es)[i].2) (nx:=0) st.1 st.2 hd hf (fun {Q' E'} h=>nextT hb st.2 hd hf (by rw[e];exact h)) fun h' g sb=>?_
  refine hQ _ h' s.toks ?_ ⟨g,(sb.2 D hID.symm).trans st.2⟩ fun c u hc e=>(sb.2 c fun z=>hc (by simp[z])).trans e
  rw[Oc,Array.getElem?_toList,e]
  rfl
 done:=fun s Q E st hQ=>by
  have hz:=lj (w.params.setOrder D ep) es
  refine xY hh st.1 st.2 hd hf (fun {Q' E'} h=>nextT hb st.2 hd hf (by rw[Array.getElem?_eq_none (by lia)];exact h)) fun h' eb=>?_
  exact hQ h' s.toks fun c u hc e=>eb c u (fun z=>hc (by simp[z])) e
 self:=fun i s Q E st hQ=>m9 st.1 hQ
def G2 (prog:Program) (w:World) (A:Around) (es:Array (Int×Value)) (D I:Addr) (h:Heap) (z:Nat):Prop:=
 ∃ (out:List Value) (fp:List Addr) (Sx:Nat→Heap→Prop),out.Perm (es.toList.map (·.2))∧Walks prog w A I fp [I] out.length (fun i v=>out[i]?=some v) Sx∧Sx 0 h∧∀ c∈fp,c=D∨z≤c
end
abbrev FF (w:World):Bool:=w.params.followText "set-order"
theorem ng:typeLookup (.type "set") "__len__"=pure (some (.builtin "set.__len__")):=by
 rw[typeLookup_type,builtinLookup_eq_fast]
 kernel_rfl
theorem Inv.Lv {X:Cx} {pZ:List (Addr×Obj)} {σ:St} {H:Hp} {s:Shared} {h':Heap} {t':Nat} {d':Drawn} (I:Inv X pZ σ H s) (k: ∀ b u,s.heap.get? b=some u→h'.get? b=some u):Inv X pZ σ H {s with heap:=h',drawn:=d',toks:=t'}:=by
 refine I.step (g':=s.gens) (ch:=[]) (fun _ z=>nomatch z) (fun b u _ _ _ e _=>k b u e) (fun b u _ _ _ e _=>⟨u.slots,k b u e⟩) (fun b u _ e n=>n) (fun b u _ e=>⟨u,k b u e⟩) (fun b xs e=>e) (fun b ob u e=>e) (fun b ps e=>⟨#[],by rw[e];simp⟩) (fun m hm=>?_) (I.a7.kept k) I.bare
 obtain⟨ob,es,ep,ho,r⟩:=hm
 exact⟨ob,es,ep,k _ ob ho,r⟩
mutual
def toD:PV→Option PyData
 | .aE=>some .none
 | .bl b=>some (.bool b)
 | .int i=>some (.int i)
 | .str x=>some (.str x)
 | .tup l=>(o8 l).map .tuple
 | .lst l=>(o8 l).map .list
 |_=>none
def o8:List PV→Option (List PyData)
 |[]=>some []
 |y::l=>(toD y).bind fun d=>(o8 l).map (d:: ·)
end
theorem k8 {h:Heap}: ∀ (l:List PV) (xs:List V) (ay:List Value) (ds:List PyData),l.length=xs.length→(∀ (i:Nat) (y:PV) (x:V),l[i]?=some y→xs[i]?=some x→∀ v d,RelV x v→toD y=some d→∃ as,Reads h v d as)→Vals xs ay→o8 l=some ds→∃ as,ReadsAll h ay ds as
 |[],[],_,ds,_,_,.nil,e=>by
  simp only[o8] at e
  cases e
  exact⟨_,.nil⟩
 |y::l,x::xs,_,ds,hl,ih,.cons r rs,e=>by
  simp only[o8] at e
  cases e1:toD y with
  |none=>rw[e1] at e;cases e
  |some d=>
   rw[e1] at e
   cases e2:o8 l with
   |none=>rw[e2] at e;cases e
   |some dl=>
    rw[e2] at e
    cases e
    obtain⟨as,r1⟩:=ih 0 y x rfl rfl _ d r e1
    obtain⟨bs,r2⟩:=k8 l xs _ dl (by simpa using hl) (fun i y' x' hy hx=>ih (i+1) y' x' hy hx) rs e2
    exact⟨_,.cons r1 r2⟩
 |[],_::_,_,_,hl,_,_,_=>by cases hl
 |_::_,[],_,_,hl,_,_,_=>by cases hl
theorem A9 {P:Program} {w:World} {B:Addr} {O:Addr→Prop} {H:Hp} {h:Heap} (ok:jd P w H h) {y:PV} {x:V} (r:Rep B O H y x): ∀ v d,RelV x v→toD y=some d→∃ as,Reads h v d as:=by
 induction r with
 |aE=>
  intro v d rv e
  simp only[toD] at e
  cases e
  cases rv
  exact⟨_,.none⟩
 |bl b=>
  intro v d rv e
  simp only[toD] at e
  cases e
  cases rv
  exact⟨_,.bool b⟩
 |int i=>
  intro v d rv e
  simp only[toD] at e
  cases e
  obtain⟨t,rfl⟩:=rv
  exact⟨_,.int i t⟩
 |str z=>
  intro v d rv e
  simp only[toD] at e
  cases e
  obtain⟨t,rfl⟩:=rv
  exact⟨_,.str z t⟩
 |tup hO hp hl hr ih=>
  intro v d rv e
  simp only[toD] at e
  obtain⟨ds,e1,rfl⟩:=Og.mp e
  cases rv
  obtain⟨_,ay,rs,o,ho,hc,n,hd⟩:=ok _ _ hp
  obtain⟨as,ra⟩:=k8 _ _ ay ds hl ih rs e1
  exact⟨_,.tuple ho hc hd (by simpa using ra)⟩
 |lst hO hp hl hr ih=>
  intro v d rv e
  simp only[toD] at e
  obtain⟨ds,e1,rfl⟩:=Og.mp e
  cases rv
  obtain⟨_,ay,n,rs,ho⟩:=ok _ _ hp
  obtain⟨as,ra⟩:=k8 _ _ ay ds hl ih rs e1
  exact⟨_,.list ho rfl rfl (by simpa using ra)⟩
 |cL hO hp hk hr ih=>
  intro v d rv e
  simp only[toD] at e
  cases e
 |tD hO hp=>
  intro v d rv e
  simp only[toD] at e
  cases e
 |br=>
  intro v d rv e
  simp only[toD] at e
  cases e
section
variable {X:Cx}
def ir (d:PyData):Prop:=d.showable=true∧d.hasDict=false∧d.shown.length≤1000000∧d.depth≤40
def HI:List V→Hp→VK→Prop:=fun xs H Q=> ∃ (B:Addr) (O:Addr→Prop) (l:List PV) (x:V) (d:PyData),xs=[x]∧Rep B O H (.tup l) x∧toD (.tup l)=some d∧ir d∧Q (.str d.shown) H
theorem xj (hg:X.A.guards=some []) (hu:X.A.units+64 < cLine):fc X (.builtin "repr") HI:=by
 intro pZ s σ H xs us Q I r h
 obtain⟨B,O,l,x,d,rfl,rp,hd,⟨h1,h2,h3,h4⟩,q⟩:=h
 obtain⟨u,rfl,rx⟩:=vals1 r
 obtain⟨as,rd⟩:=A9 I.a7 rp u d rx hd
 simp only[toD] at hd
 obtain⟨ds,e1,rfl⟩:=Og.mp hd
 have hz:(PyData.tuple ds).shown.length≤sizeLine:=by rw[Ox];lia
 have rd0:=rd
 cases rd with
 |tuple g1 g2 g3 g4=>
  rename_i a o vs n
  have hz':(tupleText (PyData.shownAll ds)).length≤sizeLine:=by simpa only[PyData.shown] using hz
  obtain⟨bs,hb,hk⟩:=ReprAllK.of_readsAll (prog:=X.prog) (w:=X.w) g4 (by simpa[PyData.showable] using h1) (fun hx=>absurd hx (by simpa[PyData.hasDict] using h2)) (fun t ht=>Od (tupleText_mem_le ht) hz')
  have hna:a∉bs:=not_mem_of_deeper rd0 (by simp only[PyData.depth];lia) hb
  simp only[PyData.depth] at h4
  refine call_repr_slot (by lia) ⟨o,g1,g2⟩ PySem.F.slot_tuple_repr ?_
  refine call_tuple_reprK (h₀:=s.heap) g1 g2 g3 hna hk (g:=[]) (by first|exact hg|simpa[Around.in1] using hg) (fun b _=>Clear.nil b) (by show X.A.units+1+_ < cLine;lia) (fun _ _ e=>e) (fun h' u tk k=>⟨_,_,rfl,?_⟩) hz'
  exact⟨.str _,H,I.kept k,⟨_,rfl⟩,by simpa only[PyData.shown] using q⟩
end
instance (d:PyData):Decidable (ir d):=by unfold ir;infer_instance
section
open PySem.W (KasT kas_rev kas_asc kas_desc kas_tail3 kas_descPart kas_count kas_place kas_bin kas_sort)
section
variable (r:Nat→Int)
def runK {α:Type}:KasT α→α
 | .ret a=>a
 | .ask i j k=>runK (k (decide (r i < r j)))
theorem run_bind {α β:Type} (f:α→KasT β): ∀ t:KasT α,runK r (t.bind f)=runK r (f (runK r t))
 | .ret a=>rfl
 | .ask i j k=>run_bind f (k (decide (r i < r j)))
theorem x9 {α:Type} {c:Prop} [Decidable c] (a b:KasT α):runK r (if c then a else b)=if c then runK r a else runK r b:=by split<;>rfl
def kg (p:Array Nat) (k:Nat):Int:=r (p.getD k 0)
def vF (p:Array Nat) (m:Nat):Prop:= ∀ i j,i < j→j < m→kg r p i < kg r p j
def DH (p:Array Nat):Prop:= ∀ i j,i < p.size→j < p.size→i≠j→kg r p i≠kg r p j
variable {r}
theorem AE {p:Array Nat} {n:Nat} (h1:1≤n) (h:vF r p n) (h':kg r p (n - 1) < kg r p n):vF r p (n+1):=fun i j hij hj=>by
 by_cases e:j=n
 ·subst e
  by_cases e2:i=j - 1
  ·subst e2;exact h'
  ·exact Int.lt_trans (h i (j - 1) (by lia) (by lia)) h'
 ·exact h i j hij (by lia)
theorem xy {p:Array Nat} (u:DH r p): ∀ (f n:Nat),1≤n→n+f≤p.size→vF r p n→∃ m,runK r (kas_asc p f n)=m∧n≤m∧m≤n+f∧vF r p m∧(m < n+f→kg r p m < kg r p (m - 1))
 |0,n,h1,hz,h=>⟨n,rfl,by lia,by lia,h,fun z=>by lia⟩
 |f+1,n,h1,hz,h=>by
  unfold kas_asc
  show ∃ m,runK r (if decide (r (p.getD n 0) < r (p.getD (n - 1) 0))=true then KasT.ret n else kas_asc p f (n+1))=m∧_
  by_cases c:r (p.getD n 0) < r (p.getD (n - 1) 0)
  ·rw[OG (by simpa using c)]
   exact⟨n,rfl,by lia,by lia,h,fun _=>c⟩
  ·rw[OH (by simpa using c)]
   have ne:=u (n - 1) n (by lia) (by lia) (by lia)
   have lt:kg r p (n - 1) < kg r p n:=by
    have: ¬ kg r p n < kg r p (n - 1):=c
    lia
   obtain⟨m,e,a1,a2,a3,a4⟩:=xy u f (n+1) (by lia) (by lia) (AE h1 h lt)
   exact⟨m,e,by lia,by lia,a3,fun z=>a4 (by lia)⟩
def Mc (r:Nat→Int) (p:Array Nat) (m:Nat):Prop:= ∀ i j,i < j→j < m→kg r p j < kg r p i
theorem uV {p:Array Nat} {n:Nat} (h1:1≤n) (h:Mc r p n) (h':kg r p n < kg r p (n - 1)):Mc r p (n+1):=fun i j hij hj=>by
 by_cases e:j=n
 ·subst e
  by_cases e2:i=j - 1
  ·subst e2;exact h'
  ·exact Int.lt_trans h' (h i (j - 1) (by lia) (by lia))
 ·exact h i j hij (by lia)
theorem yO {p:Array Nat} (u:DH r p): ∀ (f n:Nat),1≤n→n+f≤p.size→Mc r p n→∃ m,runK r (kas_desc f p n 0)=(p,m,0)∧n≤m∧m≤n+f∧Mc r p m
 |0,n,h1,hz,h=>⟨n,rfl,by lia,by lia,h⟩
 |f+1,n,h1,hz,h=>by
  unfold kas_desc
  by_cases c:r (p.getD n 0) < r (p.getD (n - 1) 0)
  ·obtain⟨m,e,a1,a2,a3⟩:=yO u f (n+1) (by lia) (by lia) (uV h1 h c)
   refine⟨m,?_,by lia,by lia,a3⟩
   show runK r (if decide (r (p.getD n 0) < r (p.getD (n - 1) 0))=true then _ else _)=_
   rw[OG (by simpa using c),OH (by lia)]
   exact e
  ·have ne:=u (n - 1) n (by lia) (by lia) (by lia)
   have lt:r (p.getD (n - 1) 0) < r (p.getD n 0):=by
    have n1: ¬ kg r p n < kg r p (n - 1):=c
    have n2:kg r p (n - 1) < kg r p n:=by lia
    exact n2
   refine⟨n,?_,by lia,by lia,h⟩
   show runK r (if decide (r (p.getD n 0) < r (p.getD (n - 1) 0))=true then _ else _)=_
   rw[OH (by simpa using c)]
   show runK r (if decide (r (p.getD (n - 1) 0) < r (p.getD n 0))=true then _ else _)=_
   rw[OG (by simpa using lt)]
   rfl
theorem HH {p:Array Nat} {m k:Nat} (hm:m≤p.size):(kas_rev p 0 m).getD k 0=if k < m then p.getD (m - 1 - k) 0 else p.getD k 0:=by
 have e:=getElem?_mirror_all (xs:=p) (i:=0) (j:=m) hm k
 unfold kas_rev
 rw[Oe,e]
 by_cases c:k < m
 ·rw[OG ⟨Ol _,c⟩,OG c,Oe]
  congr 2
  lia
 ·rw[OH (fun z=>c z.2),OH c,Oe]
theorem rE {p:Array Nat} {m:Nat} (hm:m≤p.size) (k:Nat):kg r (kas_rev p 0 m) k=if k < m then kg r p (m - 1 - k) else kg r p k:=by
 unfold kg
 rw[HH hm]
 by_cases c:k < m
 ·rw[OG c,OG c]
 ·rw[OH c,OH c]
theorem ya {p:Array Nat} {m:Nat} (hm:m≤p.size) (u:DH r p):DH r (kas_rev p 0 m):=fun i j hi hj ne=>by
 have hz:(kas_rev p 0 m).size=p.size:=mirror_size _ _ _ _
 rw[hz] at hi hj
 rw[rE hm,rE hm]
 split<;>split
 ·exact u _ _ (by lia) (by lia) (by lia)
 ·exact u _ _ (by lia) (by lia) (by lia)
 ·exact u _ _ (by lia) (by lia) (by lia)
 ·exact u _ _ hi hj ne
theorem D9 {p:Array Nat} {m:Nat} (hm:m≤p.size) (h:Mc r p m):vF r (kas_rev p 0 m) m:=fun i j hij hj=>by
 rw[rE hm,rE hm,OG (by lia),OG hj]
 exact h (m - 1 - j) (m - 1 - i) (by lia) (by lia)
theorem count_is {p:Array Nat} (u:DH r p) (h2:1≤p.size): ∃ m p',runK r (kas_count p.size p)=(m,p')∧1≤m∧m≤p.size∧p'.size=p.size∧p'.Perm p∧DH r p'∧vF r p' m:=by
 unfold kas_count
 rw[run_bind]
 obtain⟨n,e,a1,a2,a3,a4⟩:=xy u (p.size - 1) 1 (by lia) (by lia) (fun i j hij hj=>by lia)
 rw[e]
 by_cases c1:n=p.size
 ·rw[OG (by simpa using c1)]
  exact⟨n,p,rfl,a1,by lia,rfl,.refl _,u,a3⟩
 ·rw[OH (by simpa using c1)]
  by_cases c2:n > 1
  ·rw[OG c2]
   have lt:r (p.getD 0 0) < r (p.getD (n - 1) 0):=a3 0 (n - 1) (by lia) (by lia)
   refine⟨n,p,?_,a1,by lia,rfl,.refl _,u,a3⟩
   show runK r (if decide (r (p.getD 0 0) < r (p.getD (n - 1) 0))=true then _ else _)=_
   rw[OG (by simpa using lt)]
   rfl
  ·rw[OH c2]
   have en:n=1:=by lia
   subst en
   have lt:=a4 (by lia)
   unfold kas_descPart
   rw[run_bind]
   obtain⟨m,e2,b1,b2,b3⟩:=yO u (p.size - (1+1)) (1+1) (by lia) (by lia) (uV (NZ 1) (fun i j hij hj=>by lia) lt)
   rw[e2]
   rw[OH (by show ¬ (0 > 0);lia)]
   unfold kas_tail3
   rw[run_bind]
   have hz:(kas_rev p 0 m).size=p.size:=mirror_size _ _ _ _
   obtain⟨m',e3,d1,d2,d3,d4⟩:=xy (ya (m:=m) (by lia) u) (p.size - m) m (by lia) (by rw[hz];lia) (D9 (by lia) b3)
   rw[e3]
   exact⟨m',kas_rev p 0 m,rfl,by lia,by lia,hz,mirror_perm _ _ _ _,ya (by lia) u,d3⟩
theorem nv {p:Array Nat} {k:Nat} (u:DH r p) (hk:k < p.size) (h:vF r p k): ∀ (f l q:Nat),q≤l+f→q≤k→l≤q→(∀ i,i < l→kg r p i < kg r p k)→(∀ i,q≤i→i < k→kg r p k < kg r p i)→∃ m,runK r (kas_place p k f l q)=m∧m≤k∧(∀ i,i < m→kg r p i < kg r p k)∧∀ i,m≤i→i < k→kg r p k < kg r p i
 |0,l,q,hf,hq,hl,lo,hi=>⟨l,rfl,by lia,lo,fun i h1 h2=>hi i (by lia) h2⟩
 |f+1,l,q,hf,hq,hl,lo,hi=>by
  unfold kas_place
  rw[x9]
  by_cases c:l ≥ q
  ·rw[OG c]
   exact⟨l,rfl,by lia,lo,fun i h1 h2=>hi i (by lia) h2⟩
  ·rw[OH c]
   show ∃ m,runK r (if decide (r (p.getD k 0) < r (p.getD ((l+q) / 2) 0))=true then _ else _)=m∧_
   have hmid:(l+q) / 2 < q:=by lia
   by_cases d:r (p.getD k 0) < r (p.getD ((l+q) / 2) 0)
   ·rw[OG (by simpa using d)]
    refine nv u hk h f l ((l+q) / 2) (by lia) (by lia) (by lia) lo fun i h1 h2=>?_
    by_cases e:i=(l+q) / 2
    ·subst e;exact d
    ·exact Int.lt_trans d (h _ i (by lia) h2)
   ·rw[OH (by simpa using d)]
    have ne:=u ((l+q) / 2) k (by lia) hk (by lia)
    have lt:kg r p ((l+q) / 2) < kg r p k:=by
     have d': ¬ kg r p k < kg r p ((l+q) / 2):=d
     lia
    refine nv u hk h f ((l+q) / 2+1) q (by lia) hq (by lia) (fun i h1=>?_) hi
    by_cases e:i=(l+q) / 2
    ·subst e;exact lt
    ·exact Int.lt_trans (h i _ (by lia) (by lia)) lt
theorem JA {p:Array Nat} {k l i:Nat} (hk:k < p.size) (hl:l≤k):kg r (bubble p k (k - l)) i=if i=l then kg r p k else if l < i∧i≤k then kg r p (i - 1) else kg r p i:=by
 have e:=getElem?_bubble (xs:=p) hk (k - l) (by lia) i
 unfold kg
 rw[Oe,e,show k - (k - l)=l by lia]
 by_cases c1:i=l
 ·rw[OG c1,OG c1,Oe]
 ·rw[OH c1,OH c1]
  by_cases c2:l < i∧i≤k
  ·rw[OG c2,OG c2,Oe]
  ·rw[OH c2,OH c2,Oe]
theorem Di: ∀ (f:Nat) (p:Array Nat) (k:Nat),k+f=p.size→DH r p→vF r p k→∃ p',runK r (kas_bin f p k)=p'∧p'.size=p.size∧p'.Perm p∧vF r p' p.size
 |0,p,k,hz,u,h=>⟨p,rfl,rfl,.refl _,by rw[←hz];exact h⟩
 |f+1,p,k,hz,u,h=>by
  unfold kas_bin
  rw[run_bind]
  obtain⟨l,e,a1,a2,a3⟩:=nv u (show k < p.size by lia) h k 0 k (by lia) (NZ _) (Ol _) (fun i hi=>by lia) (fun i h1 h2=>by lia)
  rw[e]
  have hb:(bubble p k (k - l)).size=p.size:=bubble_size _ _ _
  have at_:=fun i=>JA (r:=r) (p:=p) (k:=k) (l:=l) (i:=i) (by lia) a1
  have u':DH r (bubble p k (k - l)):=fun i j hi hj ne=>by
   rw[hb] at hi hj
   rw[at_ i,at_ j]
   repeat' split
   all_goals first|(exfalso;lia)|exact u _ _ (by lia) (by lia) (by lia)
  have h':vF r (bubble p k (k - l)) (k+1):=fun i j hij hj=>by
   rw[at_ i,at_ j]
   repeat' split
   all_goals first|(exfalso;lia)|exact a2 _ (by lia)|exact a3 _ (by lia) (by lia)|exact h _ _ (by lia) (by lia)
  obtain⟨p',e',b1,b2,b3⟩:=Di f (bubble p k (k - l)) (k+1) (by rw[hb];lia) u' h'
  exact⟨p',e',b1.trans hb,b2.trans (bubble_perm _ _ _),by rw[hb] at b3;exact b3⟩
theorem D0 {n:Nat} (hn:1≤n) (u: ∀ i j,i < n→j < n→i≠j→r i≠r j): ∃ p,runK r (kas_sort n)=p∧p.size=n∧p.Perm (List.toArray (List.range n))∧vF r p n:=by
 have hz:(List.toArray (List.range n)).size=n:=by simp
 have u0:DH r (List.toArray (List.range n)):=fun i j hi hj ne=>by
  rw[hz] at hi hj
  unfold kg
  have e: ∀ k,k < n→(List.toArray (List.range n)).getD k 0=k:=fun k hk=>by
   rw[Oe]
   simp[hk]
  rw[e i hi,e j hj]
  exact u i j hi hj ne
 unfold kas_sort
 rw[run_bind]
 obtain⟨m,p',e,a1,a2,a3,a4,a5,a6⟩:=count_is u0 (by rw[hz];exact hn)
 rw[hz] at e a2 a3
 rw[e]
 dsimp only
 rw[x9]
 by_cases c:m < n
 ·rw[OG c,Nat.max_eq_left a1]
  obtain⟨p2,e2,b1,b2,b3⟩:=Di (n - m) p' m (by lia) a5 a6
  rw[a3] at b1 b3
  exact⟨p2,e2,b1,b2.trans a4,b3⟩
 ·rw[OH c]
  have:m=n:=by lia
  subst this
  exact⟨p',rfl,a3,a4,a6⟩
end
end
def DL (h:Heap) (mg:Str→Option Value):Prop:= ∃ bm ob,mg "__builtins__"=some (.ref bm)∧bm≠builtinsNs∧h.get? bm=some ob∧ob.cls= .type "module"∧ob.dict=some builtinsNs∧ob.data= .plain
abbrev uU:Obj:={cls:=.none,data:=.fields #[]}
theorem zV {P:Program} {w:World} {K:Frag} {mg mb:Str→Option Value} {CX:Ap} {k:Nat} {fa a:Addr} {tbs:List Addr} {fd:FuncData} {x:Str} {sp:Sp} {s:Shared} {vs:List Value} {ns:List Int}
  (KX:K.In s.heap) (hns:s.heap.Ns mainGlobals mg) (hbn:s.heap.Ns builtinsNs mb) (hbb: ∀ x:Str,x≠"__name__"→mb x=bootBuiltins x) (hlim:s.heap.NoLimit) (hbm:DL s.heap mg) (hg:s.gens= #[])
  (ha:s.heap.get? a=some {cls:=.type "list",data:=.seq vs.toArray}) (hi:IntsAre vs ns) (hl:ns.length≤sizeLine) (hr:cx k callerA)
  (ht: ∀ tb∈tbs,isCodeTable s.heap tb∧s.heap.get? tb=some uU∧K.lookup tb=none)
  (F: ∀ base:Heap,K.In base→base.Ns mainGlobals mg→DL base mg→cP P w K mg base CX k fa fd [x] sp) (hbind: ∀ (s:Shared) (u:Value),BindsTo s fd ⟨[u],[]⟩ [(x,u)])
  (hsp: ∀ H:Hp,(∀ tb∈tbs,H tb=some (.mx #[]))→bM K H a (ns.map V.int)→sp [.ref a] H (fun v _=>v= .bl true) fun _ _ _=>False)
  (hCX: ∀ H e s',CX [] H s (fun _ _ _=>False) e s'→False):
  codeAny (model P w) callerA (.call (.ref fa) ⟨[.ref a],[]⟩) (fun r s'=>r= .ok (.ret (.bool true))∧OldK s.heap s'.heap∧s'.os=s.os∧AllBare s'.gens) s:=by
 have hta:a∉tbs:=fun z=>by
  have gt:=(ht a z).2.1
  rw[ha] at gt
  cases gt
 let so:HO:=.eF {cls:=.type "list",data:=.seq vs.toArray} (.lst (ns.map V.int))
 let H:Hp:=fun b=>if b∈tbs then some (.mx #[]) else if b=a∧K.lookup a=none then some so else none
 have Ht: ∀ tb∈tbs,H tb=some (.mx #[]):=fun tb z=>OG z
 have cases_: ∀ b u,H b=some u→(b∈tbs∧u= .mx #[])∨(b=a∧K.lookup a=none∧u=so):=fun b u e=>by
  by_cases c1:b∈tbs
  ·rw[Ht b c1] at e
   cases e
   exact .inl ⟨c1,rfl⟩
  ·by_cases c2:b=a∧K.lookup a=none
   ·rw[show H b=some so from(OH c1).trans (OG c2)] at e
    cases e
    exact .inr ⟨c2.1,c2.2,rfl⟩
   ·rw[show H b=none from(OH c1).trans (OH c2)] at e
    cases e
 have a7:jd P w H s.heap:=fun b u e=>by
  rcases cases_ b u e with⟨z,rfl⟩|⟨rfl,_,rfl⟩
  ·exact(ht b z).2.1
  ·exact⟨ha,by rw[NT];exact hl,vs,_,jg hi,ha⟩
 have free': ∀ {b:Addr} {o:Obj},s.heap.get? b=some o→o≠uU→o≠{cls:=.type "list",data:=.seq vs.toArray}→H b=none:=fun {b o} e n1 n2=>by
  cases q:H b with
  |none=>rfl
  |some u=>
   rcases cases_ b u q with⟨z,_⟩|⟨rfl,_,_⟩
   ·rw[(ht b z).2.1] at e;cases e;exact(n1 rfl).elim
   ·rw[ha] at e;cases e;exact(n2 rfl).elim
 have free: ∀ {b:Addr} {o:Obj} {es:Array DictEntry} {ep:Nat},s.heap.get? b=some o→o.data= .dict es ep→H b=none:=fun {b o es ep} e d=>free' e (fun z=>by rw[z] at d;cases d) (fun z=>by rw[z] at d;cases d)
 have nsK: ∀ {b:Addr} {m:Str→Option Value},s.heap.Ns b m→(sj s.heap H).Ns b m:=fun {b m} ⟨o,es,ep,e,d,r⟩=>⟨o,es,ep,n8 e (free e d),d,r⟩
 have hKb:K.In (sj s.heap H):=fun b o e=>n8 (KX b o e) (by
  cases q:H b with
  |none=>rfl
  |some u=>
   rcases cases_ b u q with⟨z,_⟩|⟨rfl,hk,_⟩
   ·rw[(ht b z).2.2] at e;cases e
   ·rw[hk] at e;cases e)
 have hBI:DL (sj s.heap H) mg:=by
  obtain⟨bm,ob,b1,b2,b3,b4,b5,b6⟩:=hbm
  exact⟨bm,ob,b1,b2,n8 b3 (free' b3 (fun z=>by rw[z] at b6;cases b6) (fun z=>by rw[z] at b6;cases b6)),b4,b5,b6⟩
 have md:Mod K mg (sj s.heap H):=⟨hKb,nsK hns,⟨mb,nsK hbn,hbb⟩,let ⟨mc,h1,h2⟩:=hlim;⟨mc,nsK h1,h2⟩⟩
 have e0:Am P w K mg (sj s.heap H) callerA [] s H:=⟨rfl,md,fun b o e=>EH e,Nat.le_of_eq (zU _ _),trivial,fun b hb=>(nomatch (show b∈([]:List Addr) from hb)),a7,.of_eq hg⟩
 have sq:bM K H a (ns.map V.int):=by
  cases hk:K.lookup a with
  |some o=>
   have e:=KX a o hk
   rw[ha] at e
   cases e
   exact .inr ⟨_,vs.toArray,_,hk,rfl,rfl,rfl,by rw[NX,hi.length];exact hl,by simpa using jg hi⟩
  |none=>exact .inl (.inr ⟨_,(OH hta).trans (OG ⟨rfl,hk⟩)⟩)
 refine codeAny_mono ((F _ hKb (nsK hns) hBI).run callerA [] s H ⟨[.ref a],[]⟩ [.ref a] [.ref a] _ _ hr e0 (hbind s (.ref a)) (.cons rfl .nil) (hsp H Ht sq)) fun r s' h=>?_
 match r,h with
 | .error e,h=>exact(hCX H e s' h).elim
 | .ok (.ret u),h=>
  obtain⟨v,H',os,bare,un,hok',r',q⟩:=h
  obtain rfl:v= .bl true:=q
  obtain rfl:u=Value.bool true:=r'
  have kept: ∀ b o,b∉tbs→s.heap.get? b=some o→s'.heap.get? b=some o:=fun b o nb e=>by
   cases qb:H b with
   |none=>exact un.keep b o e qb (fun z=>nomatch (show b∈([]:List Addr) from z)) (fun z=>nomatch z)
   |some u=>
    rcases cases_ b u qb with⟨z,_⟩|⟨rfl,_,rfl⟩
    ·exact absurd z nb
    ·obtain⟨e1,_⟩:=a7 b _ qb
     obtain⟨e2,_⟩:=hok' b _ (un.kH b _ _ qb)
     rw[e] at e1
     cases e1
     exact e2
  have grown: ∀ b∈tbs,∃ more,s'.heap.get? b=some {cls:=.none,data:=.fields (#[]++more)}:=fun b z=>by
   obtain⟨more,et⟩:=un.o9 b #[] (Ht b z)
   exact⟨more,hok' b _ et⟩
  refine⟨rfl,⟨fun b o e=>?_,fun b o e=>?_⟩,os,bare⟩
  ·by_cases nb:b∈tbs
   ·obtain⟨more,gt'⟩:=grown b nb
    rw[(ht b nb).2.1] at e
    cases e
    exact .inr (.inl ⟨(ht b nb).1,rfl,#[],more,rfl,gt'⟩)
   ·exact .inl (kept b o nb e)
  ·by_cases nb:b∈tbs
   ·obtain⟨more,gt'⟩:=grown b nb
    exact⟨_,gt'⟩
   ·exact⟨o,kept b o nb e⟩
theorem y8 {l:PySem.W.OpenLaw} {n k:Nat} {q:Program} {loose:List Str} {XP:(Str→Option Value)→Heap→Prop} {YP:World→Heap→Prop} {d:DefRec} {K:Params→Frag} {CX:World→Ap} {sp:World→List Addr→Sp} {x:Str}
  (hn:l.most=some n) (hn2:n≤sizeLine) (hdf:d.params.defaults=[]) (hr:cx k callerA)
  (hY: ∀ (w:World) (h:Heap),YP w h→(K w.params).In h)
  (F: ∀ (w:World) (mg:Str→Option Value) (fa:Addr) (h:Heap),(K w.params).In h→h.Ns mainGlobals mg→mg d.name=some (.ref fa)→
   ∃ (fd:FuncData) (ts:List (Str×Addr×Addr)),(∀ e∈ts,PySem.W.tabIn (K w.params) e.1=some e.2∧(K w.params).lookup e.2.2=none∧((recsOf q).find? fun r=>r.name==e.1).isSome=true)∧
    (∀ (s:Shared) (u:Value),BindsTo s fd ⟨[u],[]⟩ [(x,u)])∧
    ∀ base:Heap,(K w.params).In base→base.Ns mainGlobals mg→DL base mg→cP l.prog w (K w.params) mg base (CX w) k fa fd [x] (sp w (ts.map (·.2.2))))
  (hsp: ∀ (w:World) (H:Hp) (a:Addr) (ns:List Int) (tbs:List Addr),ns.length≤n→(∀ tb∈tbs,H tb=some (.mx #[]))→bM (K w.params) H a (ns.map V.int)→sp w tbs [.ref a] H (fun v _=>v= .bl true) fun _ _ _=>False)
  (hCX: ∀ (w:World) (H:Hp) (s:Shared) (e:Value) (s':Shared),CX w [] H s (fun _ _ _=>False) e s'→False):
  PySem.W.WalkO q loose XP YP l.row.toRowW d [] (fun f vs=>PySem.call f vs):=by
 refine Att.vi hn hdf fun w s₀ s₁ mg mb fa o pm cd doc a vs ns G Y ho hd hcd hmg hobj hints hlen hg=>?_
 have KX:=hY w _ Y
 obtain⟨fd,ts,hts,hb,hF⟩:=F w mg fa _ KX G.T.g hmg
 refine zV (tbs:=ts.map (·.2.2)) KX G.T.g G.T.b G.T.builtins G.T.nolimit ?_ hg hobj hints (Od hlen hn2) hr (fun tb z=>?_) hF hb (fun H hO hS=>hsp w H a ns _ hlen hO hS) fun H e s'=>hCX w H s₁ e s'
 ·obtain⟨bm,ob,b1,b2,b3,b4,b5,b6⟩:=G.T.bmain
  exact⟨bm,ob,b1,b2,b3,b4,b5,b6⟩
 ·obtain⟨e,he,rfl⟩:=N4.mp z
  obtain⟨h1,h2,h3⟩:=hts e he
  obtain⟨d',h3⟩:=Option.isSome_iff_exists.mp h3
  obtain⟨g1,g2⟩:=PySem.W.tab_of G.T KX h3 h1
  exact⟨(g1.tab g2).isCodeTable,g2,h2⟩
section
open PySem.W (KasT kas_rev kas_asc kas_desc kas_tail3 kas_descPart kas_count kas_place kas_bin kas_sort)
def jc (N:Nat) {α:Type} (V:α→Prop):KasT α→Prop
 | .ret a=>V a
 | .ask i j k=>i < N∧j < N∧∀ b,jc N V (k b)
theorem jc.bind {N:Nat} {α β:Type} {V:α→Prop} {W:β→Prop} {f:α→KasT β}: ∀ {t:KasT α},jc N V t→(∀ a,V a→jc N W (f a))→jc N W (t.bind f)
 | .ret a,h,k=>k a h
 | .ask i j g,h,k=>⟨h.1,h.2.1,fun b=>jc.bind (h.2.2 b) k⟩
theorem jc.ite {N:Nat} {α:Type} {V:α→Prop} {c:Prop} [Decidable c] {a b:KasT α} (h1:jc N V a) (h2:jc N V b):jc N V (if c then a else b):=by
 by_cases h:c
 ·rw[OG h];exact h1
 ·rw[OH h];exact h2
def Bd (N:Nat) (p:Array Nat):Prop:=0 < N∧∀ x∈p.toList,x < N
theorem Bd.at {N:Nat} {p:Array Nat} (h:Bd N p) (k:Nat):p.getD k 0 < N:=by
 rw[Oe]
 cases e:p[k]? with
 |none=>exact h.1
 |some x=>exact h.2 x (Array.mem_toList_iff.mpr (Array.mem_of_getElem? e))
theorem Bd.perm {N:Nat} {p q:Array Nat} (h:Bd N p) (pm:q.Perm p):Bd N q:=⟨h.1,fun x hx=>h.2 x ((Array.perm_iff_toList_perm.mp pm).mem_iff.mp hx)⟩
theorem Bd.rev {N:Nat} {p:Array Nat} (h:Bd N p) (i j:Nat):Bd N (kas_rev p i j):=h.perm (mirror_perm _ _ _ _)
section
variable {N:Nat}
theorem xA {p:Array Nat} (h:Bd N p): ∀ f n,jc N (fun _=>True) (kas_asc p f n)
 |0,_=>trivial
 |f+1,n=>⟨h.at _,h.at _,fun b=>jc.ite trivial (xA h f (n+1))⟩
theorem mR: ∀ (f:Nat) {p:Array Nat} (n q:Nat),Bd N p→jc N (fun r=>Bd N r.1) (kas_desc f p n q)
 |0,_,_,_,h=>h
 |f+1,p,n,q,h=>⟨h.at _,h.at _,fun b=>jc.ite (jc.ite (mR f _ _ (h.rev _ _)) (mR f _ _ h)) ⟨h.at _,h.at _,fun d=>jc.ite h (mR f _ _ h)⟩⟩
theorem tL {p:Array Nat} (h:Bd N p) (n m:Nat):jc N (fun r=>Bd N r.2) (kas_tail3 n m p):=jc.bind (xA (h.rev _ _) _ _) fun a _=>h.rev _ _
theorem mf {p:Array Nat} (h:Bd N p) (n m:Nat):jc N (fun r=>Bd N r.2) (kas_descPart n m p):=jc.bind (mR _ _ _ h) fun r hr=>jc.ite (tL (hr.rev _ _) _ _) (tL hr _ _)
theorem C9 {p:Array Nat} (h:Bd N p) (m:Nat):jc N (fun r=>Bd N r.2) (kas_count m p):=
 jc.bind (xA h _ _) fun n _=>jc.ite h (jc.ite ⟨h.at _,h.at _,fun c=>jc.ite h (mf (h.rev _ _) _ _)⟩ (mf h _ _))
theorem nA {p:Array Nat} (h:Bd N p) (k:Nat): ∀ f l r,jc N (fun _=>True) (kas_place p k f l r)
 |0,_,_=>trivial
 |f+1,l,r=>by
  unfold kas_place
  exact jc.ite trivial ⟨h.at _,h.at _,fun c=>jc.ite (nA h k f _ _) (nA h k f _ _)⟩
theorem Dj: ∀ (f:Nat) {p:Array Nat} (k:Nat),Bd N p→jc N (Bd N) (kas_bin f p k)
 |0,_,_,h=>h
 |f+1,p,k,h=>jc.bind (nA h _ _ _ _) fun l _=>Dj f (k+1) (h.perm (bubble_perm _ _ _))
theorem D1 (hN:0 < N):jc N (Bd N) (kas_sort N):=by
 have h:Bd N (List.toArray (List.range N)):=⟨hN,fun x hx=>by simpa using hx⟩
 exact jc.bind (C9 h _) fun r hr=>jc.ite (Dj _ _ hr) hr
theorem wp_run {α:Type} {V:α→Prop} {r:Nat→Int} {cmp:Nat→Nat→(Bool→Shared→Prop)→Shared→Prop} {Q:α→Shared→Prop} {s:Shared} (hc: ∀ i j C,i < N→j < N→C (decide (r i < r j)) s→cmp i j C s): ∀ (t:KasT α),jc N V t→Q (runK r t) s→t.kasWp cmp Q s
 | .ret a,_,h=>h
 | .ask i j k,hi,h=>hc i j _ hi.1 hi.2.1 (wp_run hc (k (decide (r i < r j))) (hi.2.2 _) h)
end
theorem IK {prog:Program} {w:World} {A:Around} {E:Value→Shared→Prop} {s:Shared} {Q:Bool→Shared→Prop} {x y:Addr} {ox oy:Obj} {nx ny:Nat} {a b c d:Int} {ta tb tc td:Tok} (hx:s.heap.get? x=some ox) (dx:ox.data= .seq #[.int a ta,.int b tb] nx) (hy:s.heap.get? y=some oy) (dy:oy.data= .seq #[.int c tc,.int d td] ny)
  (hb:0≤b∧b < 1000000) (hd:0≤d∧d < 1000000) (h:Q (decide (a * 1000000+b < c * 1000000+d)) s):wpAny (model prog w) A (keyLt' (tuples' true) (.ref x) (.ref y)) Q E s:=by
 refine PySem.W.kat_lt hx dx hy dy ?_
 show PySem.W.KatLex prog w A true false Q [(.int a ta,.int c tc),(.int b tb,.int d td)] 0 s
 refine PySem.W.kat_cons (wpAny_eqBool_int ?_)
 by_cases e1:a=c
 ·subst e1
  have z:(a==a)=true:=by simp
  rw[z]
  refine PySem.W.kat_yes (PySem.W.kat_cons (wpAny_eqBool_int ?_))
  by_cases e2:b=d
  ·subst e2
   have z:(b==b)=true:=by simp
   rw[z]
   refine PySem.W.kat_yes (PySem.W.kat_nil ?_)
   have q:decide (a * 1000000+b < a * 1000000+b)=false:=by simp
   rw[q] at h
   exact h
  ·have z:(b==d)=false:=by simpa using e2
   rw[z]
   refine PySem.W.kat_no ?_
   show wpAny (model prog w) A (oneLt' false (.int b tb) (.int d td)) Q _ s
   refine PySem.W.kat_one _ _ ?_
   have q:decide (a * 1000000+b < a * 1000000+d)=decide (b < d):=decide_eq_decide.mpr ⟨fun z=>by lia,fun z=>by lia⟩
   rw[q] at h
   exact lt_int h
 ·have z:(a==c)=false:=by simpa using e1
  rw[z]
  refine PySem.W.kat_no ?_
  show wpAny (model prog w) A (oneLt' true (.int a ta) (.int c tc)) Q _ s
  refine oneLt_int ?_
  have q:decide (a * 1000000+b < c * 1000000+d)=decide (a < c):=decide_eq_decide.mpr ⟨fun z=>by lia,fun z=>by lia⟩
  rw[q] at h
  exact h
end
section
open PySem.W (kla_fn kla_obj CodeHd tabObj)
theorem E5 {CX:Ap} {P:Program} {w:World} {K:Frag} {mg:Str→Option Value} {base:Heap} {f c:Addr} {name qual:Str} {params:Arguments} {body:Expr} {scope:Scope} {pm ctv:Value} {oc:Obj} {fs:Array Value} {tq:Tok} {N ps:List Str} {k:Nat}
  {A:Around} {outer:List Env} {s:Shared} {H:Hp} {args:Args} {us:List Value} {vs:List V} {Q:VK} {E:XK} {tE:TE}
  (S:aB N ps scope) (hr:cx (k+1) A) (e0:Am P w K mg base A outer s H) (hf:s.heap.get? f=some (kla_obj name qual params body scope [] pm c ctv))
  (hc:s.heap.get? c=some oc) (hoc:oc.data= .fields fs) (hfs:fs[1]?=some (.str qual tq))
  (hb:BindsTo s (kla_fn name qual params body scope [] pm (.ref c) ctv) args (ps.zip us)) (hl:vs.length=ps.length) (r:Vals vs us)
  (fO:PE (fP CX P w K mg base N qual scope f (.ref c) A outer s H E) body tE) (hq:tE (start N vs) H Q):
  codeAny (model P w) A (.call (.ref f) args) (CR CX outer P w H s Q E) s:=by
 have lim:s.heap.NoLimit:=e0.mod.nolimit.keeps fun b o e=>(e0.bs b o e).1
 have hkind: ∀ y∈ps.zip us,scope.names.lookup y.1=some .local∨(scope.names.lookup y.1=some .cell∧((cellsFrom (s.heap.objs.size+1) scope.names []).lookup y.1).isSome=true):=fun bt hy=>by
  obtain⟨n,v⟩:=bt
  rcases S.par n (List.of_mem_zip hy).1 with q|q
  ·exact .inl q
  ·exact .inr ⟨q,PySem.W.cellsFrom_some _ _ _ (.inl q)⟩
 refine PySem.W.kla_callFunE hr.depth hf rfl S.co S.gen rfl ⟨c,oc,fs,tq,rfl,hc,hoc,hfs⟩ (hb _ _ _ _ ?_)
 refine wpAny_newFunctionEnv_cells S.kind hkind fun env he s1 x=>?_
 subst he
 refine⟨lim.keeps x.toInCall.keep,PySem.W.kla_codeExpr ?_⟩
 have I:Inv (fP CX P w K mg base N qual scope f (.ref c) A outer s H E) [] (start N vs) H s1:=qy S hr.hd e0 hl r x
 refine wpAny_mono (fO [] s1 (start N vs) H _ I hq) (fun u s' hs=>?_) fun e s' hs=>hs
 obtain⟨v,H',J,rv,q⟩:=hs
 exact⟨v,H',J.os,J.bare,J.base,J.a7,rv,q⟩
theorem uI {X:Cx} {A:Around} {pZ:List (Addr×Obj)} {σ:St} {f c:Addr} {name qual:Str} {params:Arguments} {body:Expr} {scope:Scope} {pm ctv:Value} {oc:Obj} {fs:Array Value} {tq:Tok} {N ps:List Str} {k:Nat}
  {s:Shared} {H:Hp} {us:List Value} {vs:List V} {Q:VK} {tE:TE}
  (S:aB N ps scope) (hr:cx (k+1) A) (hA:A.frames=X.A.frames) (I:Inv X pZ σ H s) (hf:s.heap.get? f=some (kla_obj name qual params body scope [] pm c ctv))
  (hc:s.heap.get? c=some oc) (hoc:oc.data= .fields fs) (hfs:fs[1]?=some (.str qual tq))
  (hb:BindsTo s (kla_fn name qual params body scope [] pm (.ref c) ctv) ⟨us,[]⟩ (ps.zip us)) (hl:vs.length=ps.length) (r:Vals vs us)
  (fO:PE (fP ig X.prog X.w X.K X.mg X.base N qual scope f (.ref c) A X.stack s H E0).ql body tE) (hq:tE (start N vs) H Q):
  wpAny (model X.prog X.w) A (call (.ref f) us) (EP X pZ σ Q) (fun _ _=>False) s:=by
 have e0:Am X.prog X.w X.K X.mg X.base A X.stack s H:=⟨hA.trans I.sy.frames,I.sy.mod,I.sy.bs,I.sy.DG,I.sy.lG,I.sy.GI,I.sy.a7,I.sy.bare⟩
 refine wpAny_call (codeAny_mono (E5 S hr e0 hf hc hoc hfs hb hl r fO.ql hq) fun r s' h=>?_)
 cases r with
 |error e=>exact h
 |ok fl=>
  cases fl with
  |ret u=>exact I.after h
  |next=>exact False.elim h
  |brk=>exact False.elim h
  |cont=>exact False.elim h
end
section
open PySem.W (kas_sort kas_ask KatTups)
theorem Inv.Na {X:Cx} {pZ:List (Addr×Obj)} {σ:St} {H:Hp} {s:Shared} {h':Heap} {D:Addr} {o:HO} {t':Nat} (I:Inv X pZ σ H s) (fp:cD X pZ H D) (k: ∀ b u,b≠D→s.heap.get? b=some u→h'.get? b=some u) (new:bS X.prog X.w (upd H D o) h' D o):
  Inv X pZ σ (upd H D o) {s with heap:=h',toks:=t'}:=by
 obtain⟨hn,hL,hF,h1,h2,h3⟩:=fp
 have nD: ∀ b u,H b=some u→b≠D:=fun b u e z=>by rw[z,hn] at e;cases e
 refine I.step (g':=s.gens) (d':=s.drawn) (ch:=[D]) (fun b hb=>?_) (fun b u _ _ hc e _=>k b u (fun z=>hc (by simp[z])) e) (fun b u _ _ hc e _=>⟨u.slots,k b u (fun z=>hc (by simp[z])) e⟩) (fun b u hc _ n=>by rw[ag (fun z=>hc (by simp[z]))];exact n)
  (fun b u hc e=>⟨u,k b u (fun z=>hc (by simp[z])) e⟩) (fun b xs e=>by rw[ag (nD b _ e)];exact e) (fun b ob u e=>by rw[ag (nD b _ e)];exact e) (fun b ps e=>⟨#[],by rw[ag (nD b _ e),e];simp⟩) (fun m hm=>?_) (fun b u e=>?_) I.bare
 ·have e:b=D:=by simpa using hb
  subst e
  exact⟨h1,hL,h2,h3⟩
 ·obtain⟨ob,es,ep,ho,r⟩:=hm
  exact⟨ob,es,ep,k _ ob (Ne.symm hL) ho,r⟩
 ·by_cases z:b=D
  ·subst z
   rw[ar] at e
   cases e
   exact new
  ·rw[ag z] at e
   refine(I.a7 b u e).mY (fun c v hc q=>k c v ?_ q) (fun c q=>?_) fun c xs q=>?_
   ·rcases hc with y|y
    ·rw[y];exact z
    ·exact nD c _ y
   ·rw[ag (nD c _ q)];exact q
   ·rw[ag (nD c _ q)];exact q
def rk (kf:Nat→Int×Int) (i:Nat):Int:=(kf i).1 * 1000000+(kf i).2
theorem pY: ∀ {Ts:List Addr} {us:List Value},Vals (Ts.map V.ref) us→us=Ts.map Value.ref
 |[],us,h=>by cases h;rfl
 |T::Ts,us,h=>by
  cases h with
  |cons r t=>cases r;rw[pY t];rfl
theorem km {P:Program} {w:World} {H:Hp} {h:Heap} {T:Addr} {a b:Int} (hk:jd P w H h) (e:H T=some (.tup [.int a,.int b])): ∃ o n ta tb,h.get? T=some o∧o.cls= .type "tuple"∧o.data= .seq #[.int a ta,.int b tb] n:=by
 obtain⟨_,ay,rv,o,ho,hc,n,hd⟩:=hk T _ e
 cases rv with
 |cons r1 t=>
  cases t with
  |cons r2 t=>
   cases t
   obtain⟨ta,rfl⟩:=r1
   obtain⟨tb,rfl⟩:=r2
   exact⟨o,n,ta,tb,ho,hc,hd⟩
theorem xR {h:Heap}: ∀ (Ts:List Addr),(∀ T∈Ts,∃ o n a b ta tb,h.get? T=some o∧o.cls= .type "tuple"∧o.data= .seq #[.int a ta,.int b tb] n)→∃ fs,KatTups h (Ts.map Value.ref) fs∧fs.length=Ts.length∧∀ v∈fs,∃ i t,v=Value.int i t
 |[],_=>⟨[],PySem.W.KatTups.nil,rfl,fun v hv=>nomatch hv⟩
 |T::Ts,k=>by
  obtain⟨o,n,a,b,ta,tb,h1,h2,h3⟩:=k T NS
  obtain⟨fs,g1,g2,g3⟩:=xR Ts fun T' h'=>k T' (NV _ h')
  refine⟨.int a ta::fs,PySem.W.KatTups.cons h1 h2 h3 rfl g1,by simp[g2],fun v hv=>?_⟩
  rcases N2.mp hv with rfl|hv
  ·exact⟨a,ta,rfl⟩
  ·exact g3 v hv
section
variable {X:Cx} {A:Around} {E:Value→Shared→Prop} {pZ:List (Addr×Obj)} {σ:St} {H:Hp} {s:Shared} {f D:Addr} {ay:List Value} {xs:List V} {kf:Nat→Int×Int} {P:PySem.Fin→Shared→Prop}
theorem p9 {kS:Addr} {Ts:List Addr} {e1:Nat} {st:SortSt} {p:Array Nat} {H1:Hp} (I:Inv X ((D,seqObj "list" #[] e1)::pZ) σ H1 s) (fp:cD X pZ H1 D) (hk:H1 kS=some (.lst (Ts.map V.ref))) (rv:Vals xs ay) (h64:xs.length < 64) (hTs:Ts.length=xs.length)
  (hz:p.size=xs.length) (har:(arrOf st).map (·.2)=List.toArray (p.toList.map fun i=>ay.getD i Value.none)) (hin: ∀ i∈p.toList,i < xs.length) (hf:failedOf st=none)
  (h: ∀ s',Inv X pZ σ (upd (upd H1 kS (.lst [])) D (.lst (p.toList.map fun i=>xs.getD i .aE))) s'→P (.done (.ret .none)) s'):
  wpAny (model X.prog X.w) A (ksk_tail D false e1 (.ref kS) st) P E s:=by
 obtain⟨_,ba,n',r1,r2,ho⟩:=I.jq hk
 have hl:=rv.length
 unfold ksk_tail
 try dsimp only
 rw[har]
 refine NR (listUpdate_at ho rfl ?_ (by rw[NX,Ox];simp at r2;lia) (Ol _))
 have I1:=I.zM (t':=s.toks) (f:=fun _=>(#[]:Array Value)) (ba:=[]) (ys:=[]) hk ho rfl .nil (Ol _)
 have hD:=(I1.pin _ (Ob _ NS)).1
 refine NR (wpAny_letGo ?_)
 refine NR (seqEpoch_at hD rfl ?_)
 refine NR (listUpdate_at hD rfl ?_ (Ol _) (by simp only[OA,if_false,NX,NT,Ou];rw[hz,Ox];lia))
 rw[hf]
 simp only[bne_self_eq_false,OA,if_false]
 have neD:kS≠D:=fun z=>by rw[z,fp.1] at hk;cases hk
 have fp1:cD X pZ (upd H1 kS (.lst [])) D:=⟨by rw[ag (Ne.symm neD)];exact fp.1,fp.2⟩
 have I2:Inv X pZ σ (upd H1 kS (.lst [])) {s with heap:=s.heap.update kS (Obj.mapSeq fun _=>(#[]:Array Value))}:=I1.jk fun q hq=>I1.pin q (Ob _ (NV _ hq))
 refine NW (h _ (I2.Na (t':=s.toks) fp1 (fun b u hb e=>(Heap.get?_update_other _ _ (Ne.symm hb)).trans e) ?_))
 have g:=get?_update_seq hD fun _=>List.toArray (p.toList.map fun i=>ay.getD i Value.none)
 refine⟨by rw[NT,Ou,hz,Ox];lia,p.toList.map fun i=>ay.getD i Value.none,_,?_,g⟩
 have go: ∀ l:List Nat,(∀ i∈l,i < xs.length)→Vals (l.map fun i=>xs.getD i V.aE) (l.map fun i=>ay.getD i Value.none):=fun l=>by
  induction l with
  |nil=>intro _;exact .nil
  |cons i l ih=>
   intro hl'
   refine .cons ?_ (ih fun j hj=>hl' j (NV _ hj))
   have hi:=hl' i NS
   obtain⟨u,hu,ru⟩:=rv.get (NQ hi)
   show RelV (xs.getD i V.aE) (ay.getD i Value.none)
   rw[Oa,Oa,hu,NQ hi]
   exact ru
 exact go _ hin
theorem vV {n0:Nat} (I:Inv X pZ σ H s) (fp:cD X pZ H D) (ho:s.heap.get? D=some (seqObj "list" ay.toArray n0)) (rv:Vals xs ay) (h64:xs.length < 64)
  (kE: ∀ (d8:List (Addr×Obj)) (H1:Hp) (s1:Shared) (i:Nat) (u:Value),ay[i]?=some u→dS H H1→Inv X d8 σ H1 s1→wpAny (model X.prog X.w) A (call (.ref f) [u]) (EP X d8 σ fun v H2=> ∃ T,v= .ref T∧H1 T=none∧H2=upd H1 T (.tup [.int (kf i).1,.int (kf i).2])) (fun _ _=>False) s1)
  (hb: ∀ i,i < xs.length→0≤(kf i).2∧(kf i).2 < 1000000) (bP: ∀ i j,i < xs.length→j < xs.length→i≠j→rk kf i≠rk kf j)
  (h: ∀ (H':Hp) (p:Array Nat) (s':Shared),Inv X pZ σ H' s'→H' D=some (.lst (p.toList.map fun i=>xs.getD i .aE))→dS H H'→p.size=xs.length→p.Perm (List.toArray (List.range xs.length))→vF (rk kf) p xs.length→P (.done (.ret .none)) s'):
  wpAny (model X.prog X.w) A (Builtin.«list.sort» ⟨[.ref D],[(Str.ofString "key",.ref f)]⟩) P E s:=by
 have hl:=rv.length
 have hzL:ay.length≤sizeLine:=by rw[Ox];lia
 rw[ksk_t1]
 unfold ksk_tree
 refine NR (listItems_at ho rfl ?_)
 refine NR (listUpdate_at ho rfl ?_ (by rw[NX];exact hzL) (Ol _))
 obtain⟨e1,ho1⟩: ∃ e1,(s.heap.update D (Obj.mapSeq fun _=>(#[]:Array Value))).get? D=some (seqObj "list" #[] e1):=⟨_,get?_update_seq ho fun _=> #[]⟩
 refine NR (seqEpoch_at ho1 rfl ?_)
 refine NR (wpAny_newTuple ?_ hzL)
 refine NR (wpAny_newList ?_ (Ol _))
 refine wpAny_holding ?_
 have I1:Inv X pZ σ H {s with heap:=s.heap.update D (Obj.mapSeq fun _=>(#[]:Array Value))}:=I.turned (t':=s.toks) (fun b u hb' e=>(Heap.get?_update_other _ _ (Ne.symm hb')).trans e) fp.1 fp.2.1 fp.2.2.2.1 fp.2.2.2.2.1 fp.2.2.2.2.2
 have I2:Inv X ((D,seqObj "list" #[] e1)::pZ) σ H {s with heap:=s.heap.update D (Obj.mapSeq fun _=>(#[]:Array Value))}:=I1.jk fun q hq=>by
  rcases N2.mp hq with rfl|hq
  ·exact⟨ho1,fp.1,fp.2.1,fp.2.2.1,fun v z=>by cases z⟩
  ·exact I1.pin q (Ob _ hq)
 have I3:Inv X ((D,seqObj "list" #[] e1)::pZ) σ H {s with heap:=(s.heap.update D (Obj.mapSeq fun _=>(#[]:Array Value))).push (seqObj "tuple" ay.toArray 0)}:=I2.kept (t':=s.toks) fun b u e=>NU _ e
 have hkn:H ((s.heap.update D (Obj.mapSeq fun _=>(#[]:Array Value))).push (seqObj "tuple" ay.toArray 0)).objs.size=none:=I3.fresh
 have I4:=I3.Ca (t':=s.toks) (ys:=[]) (ay:=[]) .nil (Ol _)
 generalize hks:((s.heap.update D (Obj.mapSeq fun _=>(#[]:Array Value))).push (seqObj "tuple" ay.toArray 0)).objs.size=kS at *
 have hDk: ∀ (H1:Hp),H1 D=none→H1 kS≠none→kS≠D:=fun H1 a b z=>b (z▸a)
 unfold ksk_rest
 refine NR (wpAny_rule ?_)
 rw[List.forIn_toArray]
 refine NR (ksk_fold (fun i s'=> ∃ (Hi:Hp) (Ts:List Addr),Inv X ((D,seqObj "list" #[] e1)::pZ) σ Hi s'∧Hi kS=some (.lst (Ts.map V.ref))∧Ts.length=i∧(∀ j T,Ts[j]?=some T→Hi T=some (.tup [.int (kf j).1,.int (kf j).2]))∧dS H Hi) ay 0 _ ?_ (fun j x s' hx hJ=>?_) fun s' hJ=>?_)
 ·refine⟨_,[],I4,ar,rfl,fun j T e=>by simp at e,fun b o e=>?_⟩
  rw[ag (aD e hkn)]
  exact e
 ·obtain⟨Hi,Ts,J,hk,hT,tt,sm⟩:=hJ
  rw[Nat.zero_add] at hT
  refine NR (wpAny_attempt (wpAny_mono (kE _ Hi s' j x hx sm J) (fun k s'' hk'=>?_) fun _ _ hF=>hF.elim))
  obtain⟨v,H2,J2,rk',T,rfl,hTn,rfl⟩:=hk'
  cases rk'
  have nT:kS≠T:=aD hk hTn
  have hk2:upd Hi T (.tup [.int (kf j).1,.int (kf j).2]) kS=some (.lst (Ts.map V.ref)):=by rw[ag nT];exact hk
  obtain⟨_,ba,n',r1,r2,hob⟩:=J2.jq hk2
  have hjl:j < ay.length:=(NY.mp hx).1
  have hs':ba.length=j:=by rw[←r2,NT,hT]
  try dsimp only
  refine NR (listUpdate_at hob rfl ?_ (by rw[NX,Ox];lia) (Od (Nat.le_of_eq (Array.size_push ..)) (by rw[NX,Ox];lia)))
  have J3:=J2.zM (t':=s''.toks) (f:=(·.push (Value.ref T))) (ba:=ba++[.ref T]) (ys:=Ts.map V.ref++[.ref T]) hk2 hob (by simp) (r1.append (show Vals [V.ref T] [Value.ref T] from .cons rfl .nil)) (by rw[Oi,NT,List.length_singleton,Ox];lia)
  refine NW ⟨rfl,_,Ts++[T],J3,by rw[ar];simp,by simp[hT],fun i T' e=>?_,fun b o e=>?_⟩
  ·by_cases c:i < Ts.length
   ·rw[Oy c] at e
    have g:=tt i T' e
    have n1:T'≠kS:=fun z=>by rw[z,hk] at g;cases g
    rw[ag n1,ag (aD g hTn)]
    exact g
   ·rw[List.getElem?_append_right (by lia)] at e
    have hi:i=Ts.length:=by
     by_cases z:i - Ts.length=0
     ·lia
     ·rw[List.getElem?_eq_none (by simp;lia)] at e;cases e
    subst hi
    simp at e
    subst e
    rw[ag (Ne.symm nT),ar,hT]
  ·have g:=sm b o e
   have n1:b≠kS:=aD e hkn
   rw[ag n1,ag (aD g hTn)]
   exact g
 ·obtain⟨Hi,Ts,J,hk,hT,tt,sm⟩:=hJ
  rw[Nat.zero_add] at hT
  have hTx:Ts.length=xs.length:=by lia
  obtain⟨_,ba,n',r1,r2,hob⟩:=J.jq hk
  have hks':=pY r1
  subst hks'
  have fpD:cD X pZ Hi D:=⟨(J.pin _ (Ob _ NS)).2.1,fp.2⟩
  have hkD:kS≠D:=fun z=>by rw[z,fpD.1] at hk;cases hk
  have fin: ∀ (p:Array Nat) (s'':Shared),p.size=xs.length→p.Perm (List.toArray (List.range xs.length))→vF (rk kf) p xs.length→Inv X pZ σ (upd (upd Hi kS (.lst [])) D (.lst (p.toList.map fun i=>xs.getD i .aE))) s''→P (.done (.ret .none)) s'':=fun p s'' hz hp hu J'=>by
   refine h _ p s'' J' ar (fun b o e=>?_) hz hp hu
   rw[ag (aD e fp.1),ag (aD e hkn)]
   exact sm b o e
  have inP: ∀ p:Array Nat,p.Perm (List.toArray (List.range xs.length))→∀ i∈p.toList,i < xs.length:=fun p hp i hi=>by
   have:=(Array.perm_iff_toList_perm.mp hp).mem_iff.mp hi
   simpa using this
  have hkl:(Ts.map Value.ref).length=ay.length:=by simp[hT]
  try dsimp only
  refine NR (listItems_at hob rfl ?_)
  unfold ksk_end
  try dsimp only
  simp only[OA,if_false]
  by_cases h2:ay.toArray.size < 2
  ·rw[OG h2,OG h2]
   refine NR (NW ?_)
   rw[StateT.run_pure]
   refine NR (NW ?_)
   try dsimp only
   rw[NX] at h2
   have hz:(List.toArray (List.range xs.length)).size=xs.length:=by simp
   refine p9 (p:=List.toArray (List.range xs.length)) J fpD hk rv h64 hTx hz ?_ (inP _ (Array.Perm.refl _)) rfl fun s'' J'=>fin _ s'' hz (Array.Perm.refl _) (fun i j hij hj=>by lia) J'
   have hmap:=PySem.W.kat_snds (ks:=Ts.map Value.ref) (vs:=ay) hkl (st:=SortSt.mk' general' ((Ts.map Value.ref).toArray.zip ay.toArray) #[] 7 none) (p:=List.toArray (List.range xs.length)) (by
    have e:=PySem.W.kas_range ((Ts.map Value.ref).toArray.zip ay.toArray)
    rw[show ((Ts.map Value.ref).toArray.zip ay.toArray).size=xs.length by simp[hT];lia] at e
    exact e.symm)
   exact hmap
  ·rw[OH h2,OH h2]
   rw[NX] at h2
   obtain⟨fs,kt,hfl,hfi⟩:=xR (h:=s'.heap) Ts fun T hT'=>by
    obtain⟨i,hi,e⟩:=List.getElem_of_mem hT'
    obtain⟨o,n,ta,tb,g1,g2,g3⟩:=km J.a7 (tt i T (NY.mpr ⟨hi,e⟩))
    exact⟨o,n,_,_,ta,tb,g1,g2,g3⟩
   refine NR (PySem.W.kat_kind (T:=Value.type "int") kt (by lia) (fun v hv=>?_) rfl ?_)
   ·obtain⟨i,t,rfl⟩:=hfi v hv
    exact PySem.W.Looks.now
   ·obtain⟨p,ep,hz,hp,hu⟩:=D0 (r:=rk kf) (n:=xs.length) (by lia) bP
    refine NR (wpAny_mono (PySem.W.kat_run (vs:=ay) (ks:=Ts.map Value.ref) (Q:=fun st' s''=> ∃ p':Array Nat,arrOf st'=p'.map (PySem.W.kas_item ((Ts.map Value.ref).toArray.zip ay.toArray))∧failedOf st'=none∧p'=p∧s''=s') (G:=fun p' s''=>p'=p∧s''=s')
     hkl (by lia) (by lia) (fun p' st' s'' a1 a2 a3 a4=>⟨p',a2,a3,a4.1,a4.2⟩) ?_) ?_ fun _ _ e=>e)
    ·rw[show ay.length=xs.length from hl.symm]
     refine wp_run (N:=xs.length) (V:=Bd xs.length) (r:=rk kf) (fun i j C hi hj hC=>?_) _ (D1 (by lia)) ⟨ep,rfl⟩
     have hi':i < Ts.length:=by lia
     have hj':j < Ts.length:=by lia
     obtain⟨oi,ni,ai,bi,g1,g2,g3⟩:=km J.a7 (tt i _ (NQ hi'))
     obtain⟨oj,nj,aj,bj,k1,k2,k3⟩:=km J.a7 (tt j _ (NQ hj'))
     unfold PySem.W.kas_ask
     rw[Oa,Oa,Oc,Oc,NQ hi',NQ hj']
     exact IK g1 g3 k1 k3 (hb i hi) (hb j hj) hC
    ·rintro⟨⟨⟩,st'⟩ s'' ⟨p',har,hf,rfl,rfl⟩
     try dsimp only
     exact p9 J fpD hk rv h64 hTx hz (PySem.W.kat_snds hkl har) (inP _ hp) hf fun s3 J'=>fin _ s3 hz hp hu J'
end
end
section
open PySem.W (kla_fn kla_obj CodeHd tabObj)
theorem qX {X:Cx} {pZ:List (Addr×Obj)} {σ:St} {H:Hp} {s:Shared} {f l:Addr} {T:String} {o:Obj} {n0:Nat} {ay:List Value} {xs:List V} {kf:Nat→Int×Int} {Q:VK}
  (I:Inv X pZ σ H s) (hT:T="list"∨T="tuple") (ho:s.heap.get? l=some o) (hc:o.cls= .type T) (hd:o.data= .seq ay.toArray n0) (rv:Vals xs ay) (h64:xs.length < 64)
  (kE: ∀ (d8:List (Addr×Obj)) (H1:Hp) (s1:Shared) (i:Nat) (u:Value),ay[i]?=some u→dS H H1→Inv X d8 σ H1 s1→wpAny (model X.prog X.w) X.A.in1.in1 (call (.ref f) [u]) (EP X d8 σ fun v H2=> ∃ T,v= .ref T∧H1 T=none∧H2=upd H1 T (.tup [.int (kf i).1,.int (kf i).2])) (fun _ _=>False) s1)
  (hb: ∀ i,i < xs.length→0≤(kf i).2∧(kf i).2 < 1000000) (bP: ∀ i j,i < xs.length→j < xs.length→i≠j→rk kf i≠rk kf j)
  (hq: ∀ (D:Addr) (H':Hp) (p:Array Nat),H D=none→H' D=some (.lst (p.toList.map fun i=>xs.getD i .aE))→dS H H'→p.size=xs.length→p.Perm (List.toArray (List.range xs.length))→vF (rk kf) p xs.length→Q (.ref D) H'):
  wpAny (model X.prog X.w) X.A (call (.builtin "sorted") [.ref l] [(Str.ofString "key",.ref f)]) (EP X pZ σ Q) X.xe s:=by
 have hl:=rv.length
 refine call_function_entry_kw kind_sorted plain_sorted entry_sorted (ksk_s1 _ _) ?_
 unfold Builtin.«sorted»
 refine NR (m:=checkCount "sorted" 1 1 _) (NW ?_)
 refine NR (wpAny_collect_seq l hT ho hc hd (fun h1 kp=>?_) (by rw[NX,Ox];lia))
 have I1:Inv X pZ σ H {s with heap:=h1}:=I.kept (t':=s.toks) kp
 have fr:H h1.objs.size=none:=I1.fresh
 have fp:cD X pZ H h1.objs.size:=I1.n9 (NZ _) fr
 refine NR (wpAny_newList ?_ (by show ay.length≤_;rw[Ox];lia))
 have I2:Inv X pZ σ H {s with heap:=h1.push (seqObj "list" ay.toArray 0)}:=I1.kept (t':=s.toks) fun b u e=>NU _ e
 have hoL:(h1.push (seqObj "list" ay.toArray 0)).get? h1.objs.size=some (seqObj "list" ay.toArray 0):=N6 _ rfl
 refine NR (wpAny_holding (wpAny_call_entry_kw slot_list_sort ⟨_,hoL,rfl⟩ entry_list_sort ?body (ksk_l1 _ _)))
 case body=>
  show wpAny (model X.prog X.w) X.A.in1.in1 (Builtin.«list.sort» ⟨[.ref h1.objs.size],[(Str.ofString "key",.ref f)]⟩) _ _ {s with heap:=h1.push (seqObj "list" ay.toArray 0)}
  refine vV I2 fp hoL rv h64 kE hb bP fun H' p s' J e1 sm hz hp hu=>⟨_,rfl,NW ⟨_,rfl,.ref h1.objs.size,H',J,rfl,hq _ H' p fr e1 sm hz hp hu⟩⟩
theorem xB {pos:Pos} {a b:Int} {c cv:Value} (l:List Value) (h:TriplesOk l) (hn:codeAmong pos (l++[rawInt a,rawInt b,c])=some cv):codeAmong pos l=some cv∨cv=c:=by
 fun_induction TriplesOk l with
 |case1=>
  simp[codeAmong,rawInt] at hn
  exact .inr hn.2.symm
 |case2 a' t b' u x rest ih=>
  simp only[List.cons_append,codeAmong] at hn ⊢
  split at hn
  ·rename_i hc
   rw[OG hc]
   exact .inl hn
  ·rename_i hc
   rw[OH hc]
   exact ih h hn
 |case3 l h1 h2=>exact h.elim
theorem uH {X:Cx} {pZ:List (Addr×Obj)} {σ:St} {H:Hp} {s:Shared} {c P:Addr} {params:Arguments} {body:Expr} {scope:Scope} {pos:Pos} {E:Value→Shared→Prop} {Q:Value→Shared→Prop}
  (I:Inv X pZ σ H s) (hB:DL X.base X.mg) (hcode:X.env.code= .ref c) (hC:CodeHd X.base c P) (tab:TabAt H (P,X.env.qual++"<lambda>")) (hcl:closureFor scope X.env=pure []) (hdef:defaultsOf params X.env=([],[]))
  (h: ∀ (f c':Addr) (oc:Obj) (fs:Array Value) (tq:Tok) (pm ctv:Value) (H':Hp) (s':Shared),Inv X pZ σ H' s'→H f=none→H' f=some (.eF (kla_obj "<lambda>" (X.env.qual++"<lambda>") params body scope [] pm c' ctv) (.own f))→H' c'=some (.eF oc (.own c'))→oc.data= .fields fs→fs[1]?=some (.str (X.env.qual++"<lambda>") tq)→
   TabAt H' (P,X.env.qual++"<lambda>")→(∀ b o,b≠P→H b=some o→H' b=some o)→Q (.ref f) s'):
  wpAny (model X.prog X.w) X.A (eval (.Lambda params body scope pos) X.env) Q E s:=by
 obtain⟨ps,hP,ht,hrow⟩:=tab
 have gP:s.heap.get? P=some (tabObj ps):=I.a7 P _ hP
 obtain⟨bm,ob,b1,b2,b3,b4,b5,b6⟩:=hB
 have hg:s.heap.Ns mainGlobals X.mg:=I.mod.glob.keeps I.bk
 have hgP:mainGlobals≠P:=fun q=>by
  obtain⟨o,es,ep,e,hd,_⟩:=hg
  rw[q,gP] at e;cases e;cases hd
 have hbP:bm≠P:=fun q=>by
  have e:=I.bk _ _ b3
  rw[q,gP] at e;cases e;cases b4
 have hbG:bm≠mainGlobals:=fun q=>by
  obtain⟨o,es,ep,e,hd,_⟩:=I.mod.glob
  rw[q,e] at b3;cases b3;rw[hd] at b6;cases b6
 have hBA:s.heap.BuiltinsAt X.mg P:=⟨bm,ob,b1,b2,hbG,hbP,I.bk _ _ b3,b4,b5,b6⟩
 refine PySem.W.kla_eval hdef ?_
 cases hf:codeAmong pos ps.toList with
 |none=>
  refine PySem.W.kla_makeFunction (mg:=X.mg) hcl I.ok.glob hg hcode (hC.keeps I.bk) gP ht hf hgP hBA fun c' ctv h' tk hx hge cU hrec htb=>?_
  obtain⟨c2,oc,fs,tq,e2,hoc,hfd,hfs⟩:=hrec
  cases e2
  generalize hko:kla_obj "<lambda>" (X.env.qual++"<lambda>") params body scope [] ((X.mg "__name__").getD .none) c' ctv=ko
  have hkf:ko.isFreed=false:=by rw[←hko];rfl
  have hcn:H c'=none:=I.a7.fresh hge
  have hfn:H h'.objs.size=none:=I.a7.fresh (Od hge (Nat.le_of_lt cU))
  have ncP:c'≠P:=fun z=>by rw[z,hP] at hcn;cases hcn
  have nfP:h'.objs.size≠P:=fun z=>by rw[z,hP] at hfn;cases hfn
  have nfc:h'.objs.size≠c':=Nat.ne_of_gt cU
  let H':Hp:=upd (upd (upd H P (.mx (ps++ #[rawInt pos.line,rawInt pos.col,.ref c']))) c' (.eF oc (.own c'))) h'.objs.size (.eF ko (.own h'.objs.size))
  have at_f:H' h'.objs.size=some (.eF ko (.own h'.objs.size)):=ar
  have at_c:H' c'=some (.eF oc (.own c')):=by
   show upd _ _ _ c'=_
   rw[ag (Ne.symm nfc),ar]
  have at_P:H' P=some (.mx (ps++ #[rawInt pos.line,rawInt pos.col,.ref c'])):=by
   show upd _ _ _ P=_
   rw[ag (Ne.symm nfP),ag (Ne.symm ncP),ar]
  have at_o: ∀ b,b≠h'.objs.size→b≠c'→b≠P→H' b=H b:=fun b n1 n2 n3=>by
   show upd _ _ _ b=_
   rw[ag n1,ag n2,ag n3]
  have dN: ∀ b o,b≠P→H b=some o→H' b=some o:=fun b o nb e=>by
   rw[at_o b (aD e hfn) (aD e hcn) nb]
   exact e
  have kp: ∀ b o,b≠P→s.heap.get? b=some o→(h'.push ko).get? b=some o:=fun b o nb e=>NU _ (hx b o nb e)
  have tbP:(h'.push ko).get? P=some (tabObj (ps++ #[rawInt pos.line,rawInt pos.col,.ref c'])):=NU _ htb
  have un:Un X.fs [] H H' s.heap (h'.push ko):=by
   have nP: ∀ b,H b=none→b≠P:=fun b n z=>by rw[z,hP] at n;cases n
   refine⟨fun b o e n _ _=>kp b o (nP b n) e,fun b o e n _ _=>⟨o.slots,kp b o (nP b n) e⟩,fun b o e n _=>?_,fun b o e _=>?_,fun b xs e=>dN b _ (fun z=>by rw[z,hP] at e;cases e) e,fun b ob u e=>dN b _ (fun z=>by rw[z,hP] at e;cases e) e,fun b qs e=>?_⟩
   ·have lt:=N9 e
    rw[at_o b (Oo (Of lt (Od hge (Nat.le_of_lt cU)))) (Oo (Of lt hge)) (nP b n)]
    exact n
   ·by_cases z:b=P
    ·exact⟨_,z▸tbP⟩
    ·exact⟨o,kp b o z e⟩
   ·by_cases z:b=P
    ·subst z
     rw[hP] at e
     cases e
     exact⟨_,at_P⟩
    ·exact⟨#[],by rw[dN b _ z e];simp⟩
  have a7:jd X.prog X.w H' (h'.push ko):=fun b u e=>by
   by_cases n1:b=h'.objs.size
   ·subst n1
    rw[at_f] at e
    cases e
    exact⟨N6 _ hkf,_,N6 _ hkf⟩
   ·by_cases n2:b=c'
    ·subst n2
     rw[at_c] at e
     cases e
     exact⟨NU _ hoc,_,NU _ hoc⟩
    ·by_cases n3:b=P
     ·subst n3
      rw[at_P] at e
      cases e
      exact tbP
     ·rw[at_o b n1 n2 n3] at e
      refine(I.a7 b u e).mY (fun d v hd q=>kp d v ?_ q) (fun d q=>dN d _ (fun z=>by rw[z,hP] at q;cases q) q) fun d xs q=>dN d _ (fun z=>by rw[z,hP] at q;cases q) q
      rcases hd with z|z
      ·rw[z];exact n3
      ·exact fun y=>by rw[y,hP] at z;cases z
  subst hko
  refine h h'.objs.size c' oc fs tq _ ctv H' _ (I.un (t':=tk) un a7) hfn at_f at_c hfd hfs ⟨_,at_P,?_,fun pos' cv e=>?_⟩ dN
  ·rw[Array.toList_append]
   exact TriplesOk_snoc _ _ _ _ ht
  ·rw[Array.toList_append] at e
   rcases xB _ ht e with e|rfl
   ·obtain⟨c3,o3,f3,t3,rfl,g1,g2,g3⟩:=hrow pos' cv e
    exact⟨c3,o3,f3,t3,rfl,dN _ _ (fun z=>by rw[z,hP] at g1;cases g1) g1,g2,g3⟩
   ·exact⟨c',oc,fs,tq,rfl,at_c,hfd,hfs⟩
 |some cv=>
  obtain⟨c',oc,fs,tq,rfl,g1,hfd,hfs⟩:=hrow pos cv hf
  refine PySem.W.kla_makeFunctionHit (mg:=X.mg) hcl I.ok.glob hg hcode (hC.keeps I.bk) gP ht hf hBA fun ctv h' tk hk hsz=>?_
  have hfn:H h'.objs.size=none:=I.a7.fresh hsz
  have nf: ∀ b u,H b=some u→b≠h'.objs.size:=fun b u e=>aD e hfn
  have J:=I.laid (t':=tk) (h':=h'.push (kla_obj "<lambda>" (X.env.qual++"<lambda>") params body scope [] ((X.mg "__name__").getD .none) c' ctv)) (a:=h'.objs.size) (o:=.eF (kla_obj "<lambda>" (X.env.qual++"<lambda>") params body scope [] ((X.mg "__name__").getD .none) c' ctv) (.own h'.objs.size))
   (fun b u e=>NU _ (hk b u e)) hsz ⟨N6 _ rfl,_,N6 _ rfl⟩
  refine h h'.objs.size c' oc fs tq _ ctv _ _ J hfn ar (by rw[ag (nf _ _ g1)];exact g1) hfd hfs ⟨ps,by rw[ag (nf _ _ hP)];exact hP,ht,fun pos' cv e=>?_⟩ fun b o _ e=>by rw[ag (nf _ _ e)];exact e
  obtain⟨c3,o3,f3,t3,rfl,k1,k2,k3⟩:=hrow pos' cv e
  exact⟨c3,o3,f3,t3,rfl,by rw[ag (nf _ _ k1)];exact k1,k2,k3⟩
end
section
open PySem.W (kla_fn kla_obj CodeHd tabObj)
def GW (e:Addr×Str) (N:List Str) (tE:TE) (Q:VK) (x:V) (H1:Hp):Prop:= ∃ (l:Addr) (xs:List V) (kf:Nat→Int×Int),x= .ref l∧(H1 l=some (.lst xs)∨H1 l=some (.tup xs))∧xs.length < 64∧TabAt H1 e∧
 (∀ i x,xs[i]?=some x→∀ H2,(∀ b o,b≠e.1→H1 b=some o→H2 b=some o)→tE (start N [x]) H2 fun v H3=> ∃ T,v= .ref T∧H2 T=none∧H3=upd H2 T (.tup [.int (kf i).1,.int (kf i).2]))∧
 (∀ i,i < xs.length→0≤(kf i).2∧(kf i).2 < 1000000)∧(∀ i j,i < xs.length→j < xs.length→i≠j→rk kf i≠rk kf j)∧
 ∀ (D:Addr) (H':Hp) (p:Array Nat),H1 D=none→H' D=some (.lst (p.toList.map fun i=>xs.getD i .aE))→(∀ b o,b≠e.1→H1 b=some o→H' b=some o)→TabAt H' e→p.size=xs.length→p.Perm (List.toArray (List.range xs.length))→vF (rk kf) p xs.length→Q (.ref D) H'
def AQ (e:Addr×Str) (N:List Str) (tE ta:TE):TE:=fun σ H Q=>ta σ H (GW e N tE Q)
def JN (e:Addr×Str) (N:List Str) (tE:TE) (Q:VK):List V→Hp→Prop
 |[x],H1=>GW e N tE Q x H1
 |_,_=>False
theorem By {X:Cx} {k:Nat} {c P:Addr} {params:Arguments} {body e:Expr} {scope:Scope} {lpos kpos pos p:Pos} {N:List Str} {y:Str} {tE ta:TE}
  (hr:cx (k+3) X.A) (hB:DL X.base X.mg) (hcode:X.env.code= .ref c) (hC:CodeHd X.base c P) (hcl:closureFor scope X.env=pure []) (hdef:defaultsOf params X.env=([],[])) (S:aB N [y] scope)
  (hbind: ∀ (s:Shared) (pm:Value) (c:Addr) (ctv u:Value),BindsTo s (kla_fn "<lambda>" (X.env.qual++"<lambda>") params body scope [] pm (.ref c) ctv) ⟨[u],[]⟩ [(y,u)])
  (fO: ∀ (f c:Addr) (A:Around) (s:Shared) (H:Hp),PE (fP ig X.prog X.w X.K X.mg X.base N (X.env.qual++"<lambda>") scope f (.ref c) A X.stack s H E0).ql body tE)
  (hg:Gl X "sorted") (hm:X.mg "sorted"=none) (ha:PE X e ta) (hs:starEach [e] X.env=(false,eval e X.env)::starEach [] X.env:=by rfl):
  PE X (.Call (.Name "sorted" p) [e] [⟨some (Str.ofString "key"),.Lambda params body scope lpos,kpos⟩] pos) (AQ (P,X.env.qual++"<lambda>") N tE ta):=by
 intro pZ s σ H Q I h
 refine wpAny_Call_Name_kw (gz I hg hm boot_sorted ?_)
 have hpa:=cn ha dY hs
 refine callWith_kw (bh (hpa pos pZ s σ H (JN (P,X.env.qual++"<lambda>") N tE Q) I h) fun us s1 hu=>?_) (by rw[hs];rfl) (by rw[hs];rfl)
 obtain⟨vs,H1,I1,r,q⟩:=hu
 match vs,r,q with
 |[x],r,q=>
 obtain⟨u,rfl,rx⟩:=vals1 r
 obtain⟨l,xs,kf,rfl,hl,h64,tab,hk,hb,bP,q⟩:=q
 cases rx
 refine kws_cons (uH I1 hB hcode hC tab hcl hdef fun f c' oc fs tq pm ctv H' s' J hfn at_f at_c hfd hfs tab' dN=>kws_nil ?_)
 show wpAny (model X.prog X.w) X.A (call (.builtin "sorted") [.ref l] [(Str.ofString "key",.ref f)]) (EP X pZ σ Q) X.xe s'
 have nl:l≠P:=fun z=>by
  obtain⟨ps,hP,_⟩:=tab
  have hP:H1 P=some (.mx ps):=hP
  rw[z,hP] at hl
  rcases hl with z|z<;>cases z
 have src: ∃ T o n0 ay,(T="list"∨T="tuple")∧s'.heap.get? l=some o∧o.cls= .type T∧o.data= .seq (List.toArray ay) n0∧Vals xs ay:=by
  rcases hl with hl|hl
  ·obtain⟨_,ay,n,rv,ho⟩:=J.a7 l _ (dN l _ nl hl)
   exact⟨"list",_,n,ay,.inl rfl,ho,rfl,rfl,rv⟩
  ·obtain⟨_,ay,rv,o,ho,hc,n,hd⟩:=J.a7 l _ (dN l _ nl hl)
   exact⟨"tuple",o,n,ay,.inr rfl,ho,hc,hd,rv⟩
 obtain⟨T,o,n0,ay,hT,ho,hc,hd,rv⟩:=src
 refine qX J hT ho hc hd rv h64 (fun d8 H2 s2 i u hu sm J2=>?_) hb bP fun D H3 p' hD e1 sm hz hp hu=>?_
 ·have hi:i < xs.length:=by rw[rv.length];exact(NY.mp hu).1
  obtain⟨u',hu',ru⟩:=rv.get (NQ hi)
  rw[hu] at hu'
  cases hu'
  exact uI S hr.in1.in1 rfl J2 (J2.a7 f _ (sm _ _ at_f)).1 (J2.a7 c' _ (sm _ _ at_c)).1 hfd hfs (hbind s2 pm c' ctv u) rfl (show Vals [xs[i]] [u] from .cons ru .nil) (fO f c' _ s2 H2)
   (hk i _ (NQ hi) H2 fun b o nb e=>sm b o (dN b o nb e))
 ·refine q D H3 p' ?_ e1 (fun b o nb e=>sm b o (dN b o nb e)) (tab'.keep (fun ps e=>sm _ _ e) fun b ob u e=>sm _ _ e) hz hp hu
  cases e:H1 D with
  |none=>rfl
  |some o=>
   by_cases z:D=P
   ·obtain⟨ps,hP,_⟩:=tab'
    have hP:H' P=some (.mx ps):=hP
    rw[z,hP] at hD
    cases hD
   ·rw[dN D o z e] at hD
    cases hD
def AR (K:Frag) (i j:Int):TE:=KA (kc (DR (Ec K) (mX 0) (tC (.int i))) (kc (DR (Ec K) (mX 0) (tC (.int j))) vQ))
theorem tM {K:Frag} {i j a b:Int} {N:List Str} {H:Hp} {p:Addr} {ys:List V} (h:H p=some (.tup ys)) (hi:j3 ys i=some (.int a)) (hj:j3 ys j=some (.int b)):
  AR K i j (start N [.ref p]) H fun v H3=> ∃ T,v= .ref T∧H T=none∧H3=upd H T (.tup [.int a,.int b]):=by
 have e0:(start N [V.ref p])[0]?=some (some (.ref p)):=jh rfl
 exact⟨_,e0,p,ys,i,_,rfl,rfl,cN.of h,hi,_,e0,p,ys,j,_,rfl,rfl,cN.of h,hj,by show 2≤sizeLine;rw[Ox];lia,fun T hT=>⟨T,rfl,hT,rfl⟩⟩
def iV:PV→Option (Int×Int)
 | .tup l=>match (l[2]?:Option PV),(l[1]?:Option PV) with
  |some (PV.int m),some (PV.int n)=>some (m,n)
  |_,_=>none
 |_=>none
def vE (y:PV):Int×Int:=(iV y).getD (0,0)
def jG (y:PV):Int:=(vE y).1 * 1000000+(vE y).2
theorem qt {y:PV} {k:Int×Int} (h:iV y=some k): ∃ l,y= .tup l∧l[2]?=some (.int k.1)∧l[1]?=some (.int k.2):=by
 cases y with
 |tup l=>
  simp only[iV] at h
  split at h
  ·rename_i m n e1 e2
   cases h
   exact⟨l,rfl,e1,e2⟩
  ·cases h
 |_=>cases h
def zS (y:PV):List PV→List PV
 |[]=>[y]
 |z::l=>if jG y < jG z then y::z::l else z::zS y l
def aM:List PV→List PV
 |[]=>[]
 |y::l=>zS y (aM l)
def DE (y:PV):Bool:=match iV y with
 |some k=>decide (0≤k.2)&&decide (k.2 < 1000000)
 |none=>false
def J9 (l:List PV):Bool:=decide (l.length < 64)&&l.all DE&&decide (l.map jG).Nodup
theorem mN {y:PV} (h:DE y=true): ∃ k,iV y=some k∧0≤k.2∧k.2 < 1000000:=by
 unfold DE at h
 cases e:iV y with
 |none=>rw[e] at h;cases h
 |some k=>
  rw[e] at h
  simp only[Ov,decide_eq_true_eq] at h
  exact⟨k,rfl,h.1,h.2⟩
theorem lC (y:PV): ∀ l,(zS y l).Perm (y::l)
 |[]=>.refl _
 |z::l=>by
  unfold zS
  split
  ·exact .refl _
  ·exact((lC y l).cons z).trans (.swap _ _ _)
theorem cR: ∀ l,(aM l).Perm l
 |[]=>.refl _
 |y::l=>(lC y _).trans ((cR l).cons y)
abbrev Kj (a b:PV):Prop:=jG a < jG b
theorem yF (y:PV): ∀ l,l.Pairwise Kj→(∀ z∈l,jG y≠jG z)→(zS y l).Pairwise Kj
 |[],_,_=>List.pairwise_singleton _ _
 |z::l,h,n=>by
  have h':=OJ.mp h
  unfold zS
  split
  ·rename_i c
   refine OJ.mpr ⟨fun x hx=>?_,h⟩
   rcases N2.mp hx with rfl|hx
   ·exact c
   ·exact Int.lt_trans c (h'.1 x hx)
  ·rename_i c
   have nz:=n z NS
   refine OJ.mpr ⟨fun x hx=>?_,yF y l h'.2 fun x hx=>n x (NV _ hx)⟩
   rcases N2.mp ((lC y l).mem_iff.mp hx) with rfl|hx
   ·show jG z < jG x
    lia
   ·exact h'.1 x hx
theorem mP: ∀ l,(l.map jG).Nodup→(aM l).Pairwise Kj
 |[],_=>.nil
 |y::l,h=>by
  rw[N1,List.nodup_cons] at h
  refine yF y _ (mP l h.2) fun z hz e=>h.1 ?_
  rw[e]
  exact Oq ((cR l).mem_iff.mp hz)
theorem AF: ∀ (l m:List PV),l.Pairwise Kj→m.Pairwise Kj→l.Perm m→l=m
 |[],m,_,_,p=>(List.nil_perm.mp p).symm
 |a::l,[],_,_,p=>absurd p.length_eq (by simp)
 |a::l,b::m,h1,h2,p=>by
  have h1':=OJ.mp h1
  have h2':=OJ.mp h2
  have ea:a=b:=by
   rcases N2.mp (p.mem_iff.mp NS) with e|ha
   ·exact e
   rcases N2.mp (p.mem_iff.mpr NS) with e|hb
   ·exact e.symm
   have x1:jG a < jG b:=h1'.1 b hb
   have x2:jG b < jG a:=h2'.1 a ha
   lia
  subst ea
  rw[AF l m h1'.2 h2'.2 (List.perm_cons a |>.mp p)]
theorem yB {l m:List PV} (nd:(l.map jG).Nodup) (p:m.Perm l) (u:m.Pairwise Kj):aM l=m:=AF _ _ (mP l nd) u ((cR l).trans p.symm)
theorem BP {l:List PV} {p:Array Nat} {kf:Nat→Int×Int} (nd:(l.map jG).Nodup) (hk: ∀ i,i < l.length→kf i=vE (l.getD i .aE)) (hz:p.size=l.length) (hp:p.Perm (List.toArray (List.range l.length))) (hu:vF (rk kf) p l.length):aM l=p.toList.map fun i=>l.getD i .aE:=by
 have jP:p.toList.Perm (List.range l.length):=Array.perm_iff_toList_perm.mp hp
 have cU: ∀ i∈p.toList,i < l.length:=fun i hi=>by
  have:=jP.mem_iff.mp hi
  simpa using this
 refine yB nd ?_ ?_
 ·have e:(List.range l.length).map (fun i=>l.getD i .aE)=l:=by
   apply List.ext_getElem?
   intro i
   rw[Oc]
   by_cases hi:i < l.length
   ·rw[List.getElem?_range hi,NQ hi]
    simp[hi]
   ·rw[List.getElem?_eq_none (by simpa using hi),List.getElem?_eq_none (by simpa using hi)]
    rfl
  rw[←e]
  have:=jP.map fun i=>l.getD i .aE
  rw[e] at this ⊢
  exact this
 ·rw[List.pairwise_map,List.pairwise_iff_getElem]
  intro i j hi hj hij
  have hj':j < l.length:=by rw[Ou,hz] at hj;exact hj
  have x:=hu i j hij hj'
  unfold kg rk at x
  have gi:p.getD i 0=p.toList[i]:=by
   rw[Oe,Oj (by rw[hz];lia)]
   rfl
  have gj:p.getD j 0=p.toList[j]:=by
   rw[Oe,Oj (by rw[hz];lia)]
   rfl
  rw[gi,gj,hk _ (cU _ (OB hi)),hk _ (cU _ (OB hj))] at x
  exact x
end
section
variable {φ:cM}
def x8:PV→Option (List PV)
 | .lst l=>some l
 | .tup l=>some l
 |_=>none
def qc (y:PV):M (List PV):=match x8 y with
 |some l=>if J9 l then .ret (aM l) else .fail
 |none=>.fail
theorem zg {y:PV} {n:Nat} {R:List PV→Nat→Prop} (w:(qc y).wp n R): ∃ l,x8 y=some l∧l.length < 64∧(∀ z∈l,DE z=true)∧(l.map jG).Nodup∧R (aM l) n:=by
 unfold qc at w
 cases e:x8 y with
 |none=>rw[e] at w;exact w.elim
 |some l=>
  rw[e] at w
  dsimp only at w
  by_cases c:J9 l=true
  ·rw[OG c] at w
   unfold J9 at c
   simp only[Ov,decide_eq_true_eq,List.all_eq_true] at c
   exact⟨l,rfl,c.1.1,c.1.2,c.2,w⟩
  ·rw[OH c] at w;exact w.elim
theorem D8 {G:Bg φ} {O:Addr→Prop} {H:Hp} {y:PV} {x:V} {l:List PV} (r:bE G O H y x) (e:x8 y=some l): ∃ p xs,x= .ref p∧(H p=some (.lst xs)∨H p=some (.tup xs))∧aJ G.B O H l xs:=by
 cases y with
 |lst l'=>
  cases e
  obtain⟨p,xs,rfl,h,r⟩:=r.d9
  exact⟨p,xs,rfl,.inl h,r⟩
 |tup l'=>
  cases e
  obtain⟨p,xs,rfl,h,r⟩:=r.il
  exact⟨p,xs,rfl,.inr h,r⟩
 |_=>cases e
theorem gN {α:Type} {l:List α} {k:Nat} {x:α} (h:l[k]?=some x):j3 l (k:Int)=some x:=by
 have hk:k < l.length:=(NY.mp h).1
 unfold j3 Cm
 rw[OG (by lia),OG (by lia)]
 show l[((k:Nat):Int).toNat]?=_
 rw[Int.toNat_natCast]
 exact h
theorem CT {X:Cx} {e:Expr} {tb:Addr×Str} {N:List Str} {me:ae→M PV} (hin:tb∈φ.tabs) (hun: ∀ q∈φ.tabs,q.1=tb.1→q=tb) (h:BE X e (AQ tb N (AR X.K 2 1) (qT φ me))):EF φ X e (fun ρ=>(me ρ).bind qc):=BE.mono h fun σ H Q bt=>by
 obtain⟨G,O,ρ,n,R,s,w,q⟩:=bt
 rw[M.wZ] at w
 refine⟨G,O,ρ,n,_,s,w,fun y x H1 n1 e1 a9 r1 w1=>?_⟩
 obtain⟨l,hl,h64,a7,nd,hR⟩:=zg w1
 obtain⟨p,xs,rfl,hp,rs⟩:=D8 r1 hl
 have s1:=s.ext e1 a9
 have tab:=G.tab H1 n1 a9 tb hin
 have hlen:l.length=xs.length:=rs.1
 have pO:O tb.1:=s.pr _ (G.tp tb hin)
 obtain⟨ps,hP,_⟩:=id tab
 refine⟨p,xs,fun i=>vE (l.getD i .aE),rfl,hp,by lia,tab,fun i x hx H2 k2=>?_,fun i hi=>?_,fun i j hi hj ne=>?_,fun D H' p' hD hD' kp tab' hz hpm hu=>?_⟩
 ·obtain⟨y,hy,ry⟩:=rs.at' hx
  obtain⟨k,ek,b0,b1⟩:=mN (a7 y (List.mem_of_getElem? hy))
  obtain⟨l',rfl,g2,g1⟩:=qt ek
  obtain⟨q',ys,rfl,hq',r'⟩:=(bE.full ry:bE G O H1 _ _).il
  obtain⟨v2,hv2,rv2⟩:=r'.at g2
  obtain⟨v1,hv1,rv1⟩:=r'.at g1
  cases rv2
  cases rv1
  have ekk:vE (l.getD i .aE)=k:=by
   rw[Oa,hy]
   show (iV _).getD _=k
   rw[Option.getD_some,ek]
   rfl
  dsimp only
  rw[ekk]
  exact tM (k2 _ _ (fun z=>by rw[z,hP] at hq';cases hq') hq') (gN hv2) (gN hv1)
 ·have hi':i < l.length:=by lia
  obtain⟨k,ek,b0,b1⟩:=mN (a7 _ (OB hi'))
  have ekk:vE (l.getD i .aE)=k:=by
   rw[Oa,NQ hi']
   show (iV _).getD _=k
   rw[Option.getD_some,ek]
   rfl
  dsimp only
  rw[ekk]
  exact⟨b0,b1⟩
 ·have hi':i < l.length:=by lia
  have hj':j < l.length:=by lia
  intro z
  have e1: ∀ k,(hk:k < l.length)→rk (fun i=>vE (l.getD i .aE)) k=(l.map jG)[k]'(by simpa using hk):=fun k hk=>by
   rw[List.getElem_map]
   unfold rk jG
   dsimp only
   rw[Oa,NQ hk]
   rfl
  rw[e1 i hi',e1 j hj'] at z
  have pw:=List.pairwise_iff_getElem.mp nd
  rcases Nat.lt_or_gt_of_ne ne with c|c
  ·exact pw i j (by simpa using hi') (by simpa using hj') c z
  ·exact pw j i (by simpa using hj') (by simpa using hi') c z.symm
 ·have kp1: ∀ b o,¬ O b→H1 b=some o→H' b=some o:=fun b o nb eb=>kp b o (fun z=>nb (z▸pO)) eb
  have ext:Ext G.B H1 H':=fun b o nb eb=>by
   by_cases z:b=tb.1
   ·obtain⟨qs,hQ,_⟩:=tab'
    rw[z,hP] at eb
    cases eb
    exact⟨qs,z▸hQ⟩
   ·exact .of (kp b o z eb)
  have ok':G.ok H' n1:=G.vN H1 H' n1 a9 (fun q' hq'=>by
   by_cases z:q'.1=tb.1
   ·rw[hun q' hq' z]
    exact tab'
   ·exact(G.tab H1 n1 a9 q' hq').keep (fun qs eq=>kp _ _ z eq) fun b ob u eq=>kp b _ (fun y=>by rw[y,hP] at eq;cases eq) eq) fun b o nb eb=>kp b o (fun z=>nb (N4.mpr ⟨tb,hin,z.symm⟩)) eb
  have ei:=BP (p:=p') nd (kf:=fun i=>vE (l.getD i .aE)) (fun i _=>rfl) (by lia) (by rw[hlen];exact hpm) (by rw[hlen];exact hu)
  have cU: ∀ i∈p'.toList,i < l.length:=fun i hi=>by
   have:=(Array.perm_iff_toList_perm.mp hpm).mem_iff.mp hi
   simp at this
   lia
  refine q (aM l) D _ H' n1 (e1.trans ext) ok' (eN e1 a9 hD) hD' ?_ hR
  rw[ei]
  have go:aJ G.B O H1 (p'.toList.map fun i=>l.getD i .aE) (p'.toList.map fun i=>xs.getD i .aE):=by
   refine⟨by simp,fun i y x a b=>?_⟩
   rw[Oc] at a b
   cases c:p'.toList[i]? with
   |none=>rw[c] at a;cases a
   |some j=>
    rw[c] at a b
    cases a
    cases b
    have hj:=cU j (List.mem_of_getElem? c)
    obtain⟨x,hx,rx⟩:=rs.at (NQ hj)
    show Rep G.B O H1 (l.getD j .aE) (xs.getD j .aE)
    rw[Oa,Oa,hx,NQ hj]
    exact rx
  exact go.keep (O':=fun q=>O q∨q=D) (H':=H') fun b o nb eb=>⟨kp1 b o nb eb,fun z=>by
   rcases z with z|z
   ·exact nb z
   ·rw[z,hD] at eb;cases eb⟩
end
set_option genInjectivity false in
structure Al (K:Frag) (x qual:Str) (st:Stmt) (f:Addr) (fd:FuncData) (c tb:Addr):Prop where
 ex: ∃ (oc:Value) (od:Option Addr) (kV doc pm:Value) (an:Option Addr) (ct:Value) (osl:Array (Option Value)),
  fd=fnOf x qual (dD st) (bg st) (ao st) .none kV doc pm an (.ref c) ct∧K.lookup f=some ⟨oc,od,.func fd,osl⟩∧codeIn K (.ref c) qual=true
 hd:PySem.W.codeHdIn K c tb=true
section
variable {φ:cM} {P:Program} {w:World} {K:Frag} {mg:Str→Option Value} {base:Heap}
theorem Al.ok {x qual:Str} {st:Stmt} {f c tb:Addr} {fd:FuncData} {N ps:List Str} {k:Nat} {sp:Sp} (F:Al K x qual st f fd c tb) (S:aB N ps (ao st)) (len: ∀ vs H Q E,sp vs H Q E→vs.length=ps.length)
  (fO: ∀ (A:Around) (outer:List Env) (s:Shared) (H:Hp) (vs:List V) (Q:VK) (E:XK),cx k (A.deeper (envOfC qual (ao st) s.heap.objs.size f (.ref c)))→sp vs H Q E→
   ∃ t,vG (fP ig P w K mg base N qual (ao st) f (.ref c) A outer s H E).ql (bg st) t∧t {nx:=fun _ H'=>Q .aE H',rt:=Q} (start N vs) H):cP P w K mg base ig (k+1) f fd ps sp:=by
 obtain⟨oc,od,kV,doc,pm,an,ct,osl,rfl,lk,hcd⟩:=F.ex
 refine GK lk hcd S len fun A outer s H vs Q E hr hsp=>?_
 obtain⟨t,h,q⟩:=fO A outer s H vs Q E hr hsp
 exact⟨t,h.ql,q⟩
theorem Fi {x qual:Str} {st:Stmt} {f c tb:Addr} {fd:FuncData} {N ps:List Str} {k:Nat} {m:ae→M Fl} (F:Al K x qual st f fd c tb) (S:aB N ps (ao st)) (hN:ps.length≤N.length)
  (hb: ∀ (A:Around) (outer:List Env) (s:Shared) (H:Hp) (E:XK),cx k (A.deeper (envOfC qual (ao st) s.heap.objs.size f (.ref c)))→Dw φ (fP ig P w K mg base N qual (ao st) f (.ref c) A outer s H E).ql (bg st) m):
  cP P w K mg base ig (k+1) f fd ps (vU φ (gE ps.length N.length m)):=by
 refine F.ok S (fun vs H Q E h=>?_) (fun A outer s H vs Q E hr h=>⟨_,(hb A outer s H E hr).out,?_⟩)
 ·obtain⟨G,O,l,n,R,_,_,_,r,w,_⟩:=h
  unfold gE at w
  by_cases hc:l.length=ps.length
  ·rw[←r.1,hc]
  ·rw[OH hc] at w;exact w.elim
 ·obtain⟨G,O,l,n,R,pr,dm,ok,r,w,q⟩:=h
  unfold gE at w
  by_cases hc:l.length=ps.length
  ·rw[OG hc,M.wZ] at w
   refine⟨G,O,H,O,fS N.length l,n,⟨⟨⟨?_,fun i e he=>?_⟩,ok,pr,dm⟩,pr,fun p h=>h,Ext.refl _ _,fun p h=>.inl h,dm,fun i p h=>?_,fun i j p h=>?_⟩,M.wp_mono w fun f n' h=>?_⟩
   ·unfold start fS;simp[r.1]
   ·unfold fS at he
    by_cases hi:i < l.length
    ·rw[Oy (by simpa using hi),Oc,NQ hi] at he
     cases he
     obtain⟨x,hx,rr⟩:=r.at (NQ hi)
     exact⟨x,by rw[jh hx];rfl,rr⟩
    ·rw[List.getElem?_append_right (by simpa using hi),List.getElem?_replicate] at he
     split at he
     ·cases he;trivial
     ·cases he
   all_goals try (
    obtain⟨t,h1,h2,_⟩:=h
    exfalso
    unfold fS at h1
    by_cases hi:i < l.length
    ·rw[Oy (by simpa using hi),Oc,NQ hi] at h1
     cases h1;cases h2
    ·rw[List.getElem?_append_right (by simpa using hi),List.getElem?_replicate] at h1
     split at h1
     ·cases h1;cases h2
     ·cases h1)
   cases f with
   |nx ρ=>exact fun O' σ' H' s'=>q .aE .aE H' n' s'.ext s'.es.ok .aE h
   |rt y=>exact fun x' H' e' ok' r'=>q y x' H' n' e' ok' r' h
   |bk ρ=>exact h.elim
   |ct ρ=>exact h.elim
  ·rw[OH hc] at w;exact w.elim
theorem CG {x qual:Str} {st:Stmt} {f c tb:Addr} {fd:FuncData} {N ps:List Str} {k:Nat} {m:ae→M Fl} {body:List Stmt} {sc:Scope} {Ff:List PV→M PV} (hF:Ff=gE ps.length N.length m) (F:Al K x qual st f fd c tb) (S:aB N ps (ao st)) (hN:ps.length≤N.length) (eb:bg st=body) (es:ao st=sc)
  (hb: ∀ (A:Around) (outer:List Env) (s:Shared) (H:Hp) (E:XK),cx k (A.deeper (envOfC qual sc s.heap.objs.size f (.ref c)))→Dw φ (fP ig P w K mg base N qual sc f (.ref c) A outer s H E).ql body m):
  cP P w K mg base ig (k+1) f fd ps (vU φ Ff):=by
 subst hF eb es
 exact Fi F S hN hb
end
def kX (K:Frag) (tbs:List Addr):Sp:=fun vs H Q _=> ∃ (a:Addr) (ns:List Int),vs=[.ref a]∧bM K H a (ns.map V.int)∧ns.length≤63∧(∀ tb∈tbs,H tb=some (.mx #[]))∧∀ H',Q (.bl true) H'
def oV (c dp:Nat) (y:PV):Prop:= ∃ d:PyData,toD y=some d∧d.showable=true∧d.hasDict=false∧d.shown.length≤c∧d.depth≤dp
theorem oV.mono {c c' dp dp':Nat} {y:PV} (h:oV c dp y) (hc:c≤c') (hd:dp≤dp'):oV c' dp' y:=by
 obtain⟨d,h1,h2,h3,h4,h5⟩:=h
 exact⟨d,h1,h2,h3,Od h4 hc,Od h5 hd⟩
theorem D3 {i:Int} (h:i.natAbs < 10 ^ 61):oV 62 0 (.int i):=by
 refine⟨.int i,by simp only[toD],?_,by simp only[PyData.hasDict],?_,by simp only[PyData.depth];lia⟩
 ·simp only[PyData.showable,decide_eq_true_eq]
  by_cases z:i.natAbs=0
  ·rw[z];decide
  ·rw[Nat.log2_lt z]
   exact Of h (by decide +kernel)
 ·simp only[PyData.shown]
  have:=int_text_length_le10 (k:=61) (by decide) h
  show (Str.ofString (toString i)).length≤62
  rw[PySem.ofString_length]
  lia
theorem D2 {x:Str} {k:Nat} (h:x.length≤k) (hc: ∀ c∈x.cps.toList,c < 16 ^ 8):oV (10 * k+2) 0 (.str x):=by
 refine⟨.str x,by simp only[toD],by simp only[PyData.showable],by simp only[PyData.hasDict],?_,by simp only[PyData.depth];lia⟩
 simp only[PyData.shown]
 have:=PySem.StrLaws.reprText_len x hc
 lia
theorem KQ {c dp:Nat}: ∀ (l:List PV),(∀ z∈l,oV c dp z)→∃ ds,o8 l=some ds∧ds.length=l.length∧PyData.showableAll ds=true∧PyData.hasDictAll ds=false∧(∀ t∈PyData.shownAll ds,t.length≤c)∧(PyData.shownAll ds).length=l.length∧PyData.depthAll ds≤dp
 |[],_=>⟨[],by simp only[o8],rfl,by simp only[PyData.showableAll],by simp only[PyData.hasDictAll],(by simp only[PyData.shownAll];exact fun t h=>absurd h N3),(by simp only[PyData.shownAll,List.length_nil]),(by simp only[PyData.depthAll];lia)⟩
 |y::l,h=>by
  obtain⟨d,h1,h2,h3,h4,h5⟩:=h y NS
  obtain⟨ds,g1,g2,g3,g4,g5,g6,g7⟩:=KQ l fun z hz=>h z (NV _ hz)
  refine⟨d::ds,by simp only[o8,h1,g1,Option.bind_some,Option.map_some],by simp[g2],by simp only[PyData.showableAll,h2,g3,Bool.and_self],by simp only[PyData.hasDictAll,h3,g4,Bool.or_self],?_,by simp only[PyData.shownAll,N5,g6],by simp only[PyData.depthAll];lia⟩
  simp only[PyData.shownAll]
  intro t ht
  rcases N2.mp ht with rfl|ht
  ·exact h4
  ·exact g5 t ht
theorem join_le {c:Nat}: ∀ (ts:List Str),(∀ t∈ts,t.length≤c)→(Str.join ", " ts).length≤ts.length * (c+2)
 |[],_=>by show (0:Nat)≤_;lia
 |[x],h=>by
  have:=h x NS
  show x.length≤1 * (c+2)
  lia
 |x::y::r,h=>by
  have ih:=join_le (y::r) fun t ht=>h t (NV _ ht)
  have hx:=h x NS
  show (x++", "++Str.join ", " (y::r)).length≤_
  have e2:((", ":String):Str).length=2:=rfl
  rw[strLen_append,strLen_append,e2,N5,Nat.succ_mul]
  lia
theorem mG {c dp n:Nat} {l:List PV} (h: ∀ z∈l,oV c dp z) (hl:l.length≤n):oV (n * (c+2)+3) (dp+1) (.tup l):=by
 obtain⟨ds,g1,g2,g3,g4,g5,g6,g7⟩:=KQ l h
 refine⟨.tuple ds,by simp only[toD,g1,Option.map_some],by simp only[PyData.showable,g3],by simp only[PyData.hasDict,g4],?_,by simp only[PyData.depth];lia⟩
 simp only[PyData.shown]
 have hj:=join_le _ g5
 rw[g6] at hj
 have hm:l.length * (c+2)≤n * (c+2):=Nat.mul_le_mul_right _ hl
 unfold tupleText
 rw[strLen_append,strLen_append]
 have e1:(("(":String):Str).length=1:=rfl
 have e2:((if(PyData.shownAll ds).length==1 then ",)" else ")":String):Str).length≤2:=by
  by_cases z:((PyData.shownAll ds).length==1)=true
  ·rw[OG z];decide
  ·rw[OH z];decide
 lia
def Mb (K:Frag) (a:Addr) (xs:List V):It:=⟨fun i H=>bM K H a xs∧i < xs.length,fun i H x H'=>H'=H∧xs.reverse[i]?=some x,fun i H=>bM K H a xs∧i=xs.length⟩
theorem AK {P:Program} {w:World} {K:Frag} {tg:Expr} (a it:Addr) (xs:List V):Turn P w K tg (Mb K a xs) [it] it (fun i h=>h.IsRevIter it a ((xs.length:Int) - 1 - i)) where
 mem:=by simp
 obj:=fun i h st b hb=>by
  have e:b=it:=by simpa using hb
  subst e
  obtain⟨o,e,c,d⟩:=st
  exact⟨o,e,fun v z=>by rw[d] at z;cases z⟩
 keep:=fun i h h' st k=>st.at fun o e=>k it (by simp) o e
 item:=by
  intro X hP hw hK hc i pZ s σ H E I hf st hg
  subst hP hw hK
  obtain⟨hq,hi⟩:=hg
  obtain⟨ay,rv,p,hz⟩:=I.list hq
  have hl:=rv.length
  obtain⟨u,hu,ru⟩:=rv.get (NQ (show xs.length - 1 - i < xs.length by lia))
  obtain⟨f0,f1,f2,f3,f4,f5⟩:=hf it (by simp)
  have ei:(xs.length:Int) - 1 - i=((xs.length - 1 - i:Nat):Int):=by lia
  have st2:=st
  rw[ei] at st2
  refine wpAny_pyNext_rev_item st2 p.isList (x:=u) (by simpa using hu) fun h' st' sb=>?_
  have I1:Inv X pZ σ H {s with heap:=h'}:=I.turned (t':=s.toks) (fun b o hb e=>(sb.2 b hb).trans e) f0 f1 f3 f4 f5
  have e2:((xs.length - 1 - i:Nat):Int) - 1=(xs.length:Int) - 1 - ((i+1:Nat):Int):=by lia
  rw[e2] at st'
  obtain⟨o,e,c,d⟩:=id st'
  refine⟨u,rfl,qz (s:={s with heap:=h'}) e c d (by decide) ⟨_,H,I1,ru,⟨rfl,?_⟩,st',fun b hb=>(hf b hb).1⟩⟩
  rw[List.getElem?_reverse hi]
  exact NQ _
 done:=by
  intro X hP hw hK hc i pZ s σ H E I hf st hg
  subst hP hw hK
  obtain⟨hq,rfl⟩:=hg
  obtain⟨f0,f1,f2,f3,f4,f5⟩:=hf it (by simp)
  rw[show (xs.length:Int) - 1 - (xs.length:Int)= -1 by lia] at st
  exact wpAny_pyNext_rev_end (I.ok.hd hc) st fun h' eb=>⟨rfl,I.turned (t':=s.toks) (fun b o hb e=>eb b o hb e) f0 f1 f3 f4 f5⟩
 self:=fun _ _ _ _ _ st h=>wpAny_pyIter_revIter st h
def M9 (K:Frag) (ta:TA):TI:=fun σ H R=>ta σ H fun vs H1=> ∃ a xs,vs=[.ref a]∧bM K H1 a xs∧R (Mb K a xs) H1
section
variable {X:Cx} {x:Str} {p pos:Pos} {e tg:Expr}
theorem HU {ta:TA} (hg:Gl X x) (hm:X.mg x=none) (hv:bootBuiltins x=some (.type "reversed")) (ha:PA X [e] ta) (hn:x≠"__name__":=by decide) (mE:(x==("__debug__":Str))=false:=by decide)
  (he:starEach [e] X.env=(false,eval e X.env)::starEach [] X.env:=by rfl) (jP:(backTo pos (starEach [] X.env)).any (·.1)=false:=by rfl):PI X tg (.Call (.Name x p) [e] [] pos) (M9 X.K ta):=by
 intro pZ s σ H R I h
 refine wpAny_Call_Name_kw (gz I hg hm hv ?_ hn mE)
 refine PyProof.Rows.callWith_type1 (bh (ha pos pZ s σ H _ I h) fun us s1 ⟨vs,H1,I1,r1,q1⟩=>?_) he jP
 obtain⟨a,xs,rfl,hq,q⟩:=q1
 obtain⟨u,rfl,ru⟩:=r1.one
 cases ru
 obtain⟨ay,rv,p,hz⟩:=I1.list hq
 have hl:=rv.length
 refine call_reversed_list p.isList ?_
 have I2:Inv X pZ σ H1 {s1 with heap:=s1.heap.push (revObj a ((ay.toArray.size:Int) - 1))}:=I1.kept (t':=s1.toks) fun b o e=>NU _ e
 have ez:((ay.toArray.size:Nat):Int) - 1=(xs.length:Int) - 1 - ((0:Nat):Int):=by rw[NX];lia
 have st:(s1.heap.push (revObj a ((ay.toArray.size:Int) - 1))).IsRevIter s1.heap.objs.size a ((xs.length:Int) - 1 - ((0:Nat):Int)):=by
  rw[←ez]
  exact⟨_,N6 _ rfl,rfl,rfl⟩
 refine wpAny_pyIter_revIter st ?_
 refine⟨s1.heap.objs.size,[s1.heap.objs.size],_,_,H1,rfl,I2,AK a _ xs,st,fun b hb=>?_,q⟩
 have e:b=s1.heap.objs.size:=by simpa using hb
 subst e
 exact I1.n9 (NZ _) (I1.a7.fresh (NZ _))
end
theorem Fh {K:Frag} {a:Addr} {xs:List V} {g:TG} {tb:TS} {D:Ends} {σ:St} {H:Hp} (Pv:Nat→L2.St→Hp→Prop) (h0:Pv 0 σ H) (hl: ∀ i σ H,i≤xs.length→Pv i σ H→bM K H a xs)
  (hs: ∀ i x σ H,x∈xs→i < xs.length→Pv i σ H→g x σ H fun σ2 H2=>tb {D with nx:=Pv (i+1),ct:=Pv (i+1),bk:=D.nx} σ2 H2) (hd: ∀ σ H,Pv xs.length σ H→D.nx σ H):
  ∃ W:Nat→Nat→L2.St→Hp→Prop,(∃ m,W 0 m σ H)∧∀ i m σ H,W i m σ H→
   ((Mb K a xs).stop i H∧D.nx σ H)∨((Mb K a xs).go i H∧∃ N:L2.St→Hp→Prop,(∀ σ' H',N σ' H'→∃ m',m' < m∧W (i+1) m' σ' H')∧∀ x H',(Mb K a xs).Aq i H x H'→g x σ H' fun σ2 H2=>tb {D with nx:=N,ct:=N,bk:=D.nx} σ2 H2):=by
 refine⟨fun i m σ H=>m=xs.length - i∧i≤xs.length∧Pv i σ H,⟨xs.length,by simp,Ol _,h0⟩,?_⟩
 rintro i m σ H ⟨rfl,hi,p⟩
 have q:=hl i σ H hi p
 by_cases cU:i < xs.length
 ·refine .inr ⟨⟨q,cU⟩,Pv (i+1),fun σ' H' p'=>⟨xs.length - (i+1),by lia,rfl,cU,p'⟩,fun x H' y=>?_⟩
  obtain⟨rfl,y⟩:=y
  exact hs i x σ _ (List.mem_reverse.mp (List.mem_of_getElem? y)) cU p
 ·have e:i=xs.length:=by lia
  subst e
  exact .inl ⟨⟨q,rfl⟩,hd σ H p⟩
set_option genInjectivity false in
structure L0 (H:Hp) (a:Addr) (n:Nat):Prop where
 ex: ∃ (d sd k:Int),H a=some (.lst [.int d,.int sd,.int k])∧0≤d∧0≤sd∧sd < 2305843009213693951∧0≤k∧k≤n
def A0:Sp:=fun vs H Q _=> ∃ (a:Addr) (n:Nat) (m:Int),vs=[.ref a,.int m]∧L0 H a n∧n < 1000000∧0 < m∧m < 1073741824∧
 ∀ (d:Int) (o:HO),0≤d→d < m→L0 (upd H a o) a (n+1)→Q (.int d) (upd H a o)
def qW (K:Frag):Sp:=fun vs H Q _=> ∃ (a:Addr) (ns:List Int),vs=[.ref a]∧bM K H a (ns.map V.int)∧ns.length≤63∧∀ (b:Addr) (H':Hp),dS H H'→L0 H' b 0→Q (.ref b) H'
abbrev wQ (K:Frag) (tabs:List (Addr×Str)):cM:=⟨K,A0,tabs⟩
def qe (K:Frag) (tabs:List (Addr×Str)) (a:Addr):Bg (wQ K tabs) where
 B:=a
 bY:=fun p=>p=a∨p∈tabs.map (·.1)
 ok:=fun H n=>(∃ k,k+n≤1000000∧L0 H a k)∧∀ e∈tabs,TabAt H e
 pB:=.inl rfl
 keep:=fun H H' n k h=>by
  obtain⟨⟨j,hj,b⟩,ht⟩:=h
  obtain⟨d,sd,k',h1,r⟩:=b.ex
  exact⟨⟨j,hj,d,sd,k',k a _ (.inl (.inl rfl)) h1,r⟩,fun e he=>(ht e he).keep (fun ps z=>k _ _ (.inl (.inr (Oq he))) z) fun b ob u z=>k _ _ (.inr trivial) z⟩
 tp:=fun e he=>.inr (Oq he)
 tab:=fun H n h=>h.2
 vN:=fun H H' n h h1 h2=>by
  obtain⟨⟨j,hj,b⟩,ht⟩:=h
  obtain⟨d,sd,k',g1,r⟩:=b.ex
  have no:a∉tabs.map (·.1):=fun z=>by
   obtain⟨e',he',z2⟩:=N4.mp z
   obtain⟨ps,e2,_⟩:=ht e' he'
   rw[z2,g1] at e2;cases e2
  exact⟨⟨j,hj,d,sd,k',h2 a _ no g1,r⟩,h1⟩
 CZ:=fun H n p h z=>by
  obtain⟨⟨j,hj,b⟩,ht⟩:=h
  obtain⟨d,sd,k',g1,r⟩:=b.ex
  rcases z with rfl|z
  ·exact⟨_,g1⟩
  ·obtain⟨e',he',rfl⟩:=N4.mp z
   obtain⟨ps,e3,_⟩:=ht e' he'
   exact⟨_,e3⟩
 dr:=fun H n m Q E ok h0 h1 q=>by
  obtain⟨⟨k,hk,b⟩,ht⟩:=ok
  obtain⟨_,_,_,e1,_⟩:=id b.ex
  exact⟨a,k,m,rfl,b,by lia,h0,h1,fun d o d0 d1 b'=>q d _ d0 d1 (fun p u np hp=>.of (by rw[ag np];exact hp)) ⟨⟨k+1,by lia,b'⟩,fun e he=>(ht e he).keep (fun ps z=>by rw[ag (B3 z e1 (by intro y;cases y))];exact z) fun b ob u z=>by rw[ag (B3 z e1 (by intro y;cases y))];exact z⟩⟩
theorem E3 {tabs:List (Addr×Str)} {P:Program} {w:World} {K:Frag} {mg:Str→Option Value} {base:Heap} {x qual:Str} {st s0:Stmt} {f:Addr} {fd:FuncData} {N:List Str} {k b:Nat} {m:ae→M Fl} {rest:List Stmt} {sc:Scope} (F:DJ K x qual st f fd) (S:aB N ["_law_script"] (ao st)) (eb:bg st=s0::rest) (es:ao st=sc)
  (h0: ∀ (dP:Value) (A:Around) (outer:List Env) (s:Shared) (H:Hp) (E:XK),cx k (A.deeper (envOfC qual sc s.heap.objs.size f dP))→BS (fP ig P w K mg base N qual sc f dP A outer s H E).ql s0 (hW (tN (qW K) [] E0 (kc (mX 0) vQ)) (cJ b)))
  (hb: ∀ (dP:Value) (A:Around) (outer:List Env) (s:Shared) (H:Hp) (E:XK),cx k (A.deeper (envOfC qual sc s.heap.objs.size f dP))→Dw (wQ K tabs) (fP ig P w K mg base N qual sc f dP A outer s H E).ql rest m)
  (hm:(m ((List.replicate N.length un).set b (.val .br))).wp 1000000 fun f _=>f= .rt (.bl true)) (h1:0 < N.length) (hb1:b < N.length) (hb0:b≠0):
  cP P w K mg base ig (k+1) f fd ["_law_script"] (kX K (tabs.map (·.1))):=by
 subst es
 refine F.ok S (fun vs H Q E h=>by obtain⟨a,ns,rfl,_⟩:=h;rfl) (fun dP A outer s H vs Q E hr h=>?_)
 rw[eb]
 refine⟨_,bX (h0 dP A outer s H E hr).out (hb dP A outer s H E hr).out,?_⟩
 obtain⟨a,ns,rfl,hS,h63,ht,q⟩:=h
 refine⟨.ref a,?_,a,ns,rfl,hS,h63,fun b' H' sm br=>?_⟩
 ·exact jh (N:=N) rfl
 ·have hl:(start N [V.ref a]).length=N.length:=by
   unfold start
   simp only[Oi,NT,List.length_replicate,N5,List.length_nil]
   lia
  have pM:(qe K tabs b').ok H' 1000000:=⟨⟨0,by lia,br⟩,fun e he=>⟨#[],sm _ _ (ht _ (Oq he)),trivial,fun pos cv z=>nomatch z⟩⟩
  have no: ∀ i p,¬ dh ((List.replicate N.length un).set b (.val .br)) ((start N [V.ref a]).set b (some (V.ref b'))) i p:=fun i p hh=>by
   obtain⟨t,g1,g2,_⟩:=hh
   by_cases e:b=i
   ·subst e
    rw[OI (by simpa using hb1)] at g1
    cases g1;cases g2
   ·rw[Ot e,List.getElem?_replicate] at g1
    split at g1
    ·cases g1;cases g2
    ·cases g1
  refine⟨qe K tabs b',(qe K tabs b').bY,H',(qe K tabs b').bY,_,1000000,⟨⟨⟨by simp[hl],fun i e he=>?_⟩,pM,fun p z=>z,fun p z=>(qe K tabs b').CZ H' 1000000 p pM z⟩,fun p z=>z,fun p z=>z,Ext.refl _ _,fun p z=>.inl z,fun p z=>(qe K tabs b').CZ H' 1000000 p pM z,fun i p hh=>(no i p hh).elim,fun i j p hh=>(no i p hh).elim⟩,M.wp_mono hm fun f n' hf=>?_⟩
  ·by_cases e1:b=i
   ·subst e1
    rw[OI (by simpa using hb1)] at he
    cases he
    rw[OI (by lia)]
    exact⟨_,rfl,.br⟩
   ·rw[Ot e1,List.getElem?_replicate] at he
    split at he
    ·cases he;trivial
    ·cases he
  ·subst hf
   intro x' H2 _ _ r2
   cases r2
   exact q H2
end L2
namespace HT
open L2
open L2.Ent (val un)
theorem Bb (A:Around) (s:Shared) (a:Int) (t:Tok) (c:Int) (u:Tok) (prog:Program) (w:World) (E:Value→Shared→Prop) (Q:Value→Shared→Prop) (h:Q (.bool (decide (c < a))) s):
  wpAny (model prog w) A (richCompare .Gt (.int a t) (.int c u)) Q E s:=(gt_int h:wpAny (model prog w) A (compareOp .Gt (.int a t) (.int c u)) Q E s)
section
open PySem.SeqAt
open PySem.AutoSeq1 (wpAny_loadPart')
open PySem.MeetsSeq PySem.MeetsSeq2 PySem.MeetsSeq3
theorem o7 (l b:Addr) (items fE:Array Value) (n n2:Nat) (dd dd2:Option Addr) (sl sl2:Array (Option Value)) (ns ms:List Int) (hi:IntsAre items.toList ns) (hj:IntsAre fE.toList ms):
  Meets (Builtin.«tuple.__gt__» ⟨[.ref l,.ref b],[]⟩)
   (fun _ R s=>s.heap.get? l=some {cls:=.type "tuple",dict:=dd,data:=.seq items n,slots:=sl}∧s.heap.get? b=some {cls:=.type "tuple",dict:=dd2,data:=.seq fE n2,slots:=sl2}∧
    R (.ok (.ret (.bool (lexLt ms ns)))) s):=
 .of_wp fun prog w A R s h=>by
  obtain⟨hp,g,d,tk,os⟩:=s;obtain⟨hl,hb,h⟩:=h
  have f2:=AutoSeq1.sub_tuple_tuple
  have z1:items.size=ns.length:=by rw[←hi.length];simp
  have z2:fE.size=ms.length:=by rw[←hj.length];simp
  wp_walk using wpAny_loadPart' hl,wpAny_loadPart' hb,wpAny_forIn_list _ (fun rest b s'=>b.1=none∧s'=⟨hp,g,d,tk,os⟩∧∃ (vs ws:List Value) (ns' ms':List Int),rest=vs.zip ws∧
   IntsAre vs ns'∧IntsAre ws ms'∧ns'.length+fE.size=ms'.length+items.size∧R (.ok (.ret (.bool (lexLt ms' ns')))) ⟨hp,g,d,tk,os⟩) _
  case turn=>
   rintro⟨y,x⟩ rest b s' ⟨hb',rfl,vs,ws,ns',ms',hz,hvi,hwi,hlen,hR⟩
   cases hvi with
   |nil=>rw[List.zip_nil_left] at hz;cases hz
   |cons a t hvi'=>
    cases hwi with
    |nil=>rw[List.zip_nil_right] at hz;cases hz
    |cons c u hwi'=>
     rw[List.zip_cons_cons] at hz
     injection hz with hyx hrest
     injection hyx with hy hx
     subst hy hx
     rw[jO] at hR
     simp only[N5] at hlen
     obtain⟨e,he,hiff⟩:=CO A.in1 ⟨hp,g,d,tk,os⟩ a t c u
     refine NR (he prog w _ _ ?_)
     cases e with
     |true=>
      rw[OG (hiff.mp rfl).symm] at hR
      wp_walk
      exact⟨rfl,rfl,_,_,_,_,hrest,hvi',hwi',by lia,hR⟩
     |false=>
      rw[OH (fun q=>absurd (hiff.mpr q.symm) Bool.false_ne_true)] at hR
      have hri:=Bb A.in1 ⟨hp,g,d,tk,os⟩ a t c u prog w
      wp_walk using hri
      exact⟨_,rfl,by simpa using hR⟩
  case fin=>
   rintro⟨b1,b2⟩ s' ⟨hb',rfl,vs,ws,ns',ms',hz,hvi,hwi,hlen,hR⟩
   simp only at hb'
   subst hb'
   have hv:lexLt ms' ns'=decide (fE.size < items.size):=by
    cases hvi with
    |nil=>
     cases hwi with
     |nil=>
      simp only[List.length_nil] at hlen
      rw[jv]
      exact(Oh (by lia)).symm
     |cons c u hw=>
      simp only[List.length_nil,N5] at hlen
      rw[nQ]
      exact(Oh (by lia)).symm
    |cons a t hv=>
     cases hwi with
     |nil=>
      simp only[List.length_nil,N5] at hlen
      rw[nN]
      exact(decide_eq_true (by lia)).symm
     |cons c u hw=>
      rw[List.zip_cons_cons] at hz
      cases hz
   rw[hv] at hR
   wp_walk
   exact⟨_,rfl,by simpa[Builtin.Tuple.tupleCompareSizes] using hR⟩
  case h=>
   exact⟨rfl,rfl,items.toList,fE.toList,ns,ms,rfl,hi,hj,by lia,h⟩
end
section
variable {prog:Program} {w:World} {A:Around} {E:Value→Shared→Prop} {s:Shared}
theorem wL {l b:Addr} {items fE:Array Value} {ns ms:List Int} {Q:Value→Shared→Prop} (hl:IsTup s.heap l items) (hb:IsTup s.heap b fE) (hi:IntsAre items.toList ns) (hj:IntsAre fE.toList ms)
  (hu:A.units < cLine) (h:Q (.bool (lexLt ms ns)) s):wpAny (model prog w) A (compareOp .Gt (.ref l) (.ref b)) Q E s:=by
 obtain⟨⟨cls,dd,data,sl⟩,ho,hc,n,hd⟩:=id hl
 obtain⟨⟨cls2,dd2,data2,sl2⟩,ho2,hc2,n2,hd2⟩:=id hb
 simp only at hc hd hc2 hd2
 subst hc hd hc2 hd2
 exact richCompare_meets_room (op:=.Gt) ⟨_,ho,rfl⟩ ⟨_,ho2,rfl⟩ PySem.F.slot_tuple_gt PySem.F.entry_tuple_gt (PySem.F.args_tuple_gt_2 _ _) (o7 l b items fE n n2 dd dd2 sl sl2 ns ms hi hj)
  ⟨ho,ho2,show Value.bool (lexLt ms ns)≠Value.notImplemented∧Q (.bool (lexLt ms ns)) s from⟨(fun x=>nomatch x),h⟩⟩ hu
end
end HT
namespace L2
section
open PySem.W (kla_fn kla_obj CodeHd tabObj)
def Bc:List V→Hp→VK→Prop:=fun xs H Q=> ∃ (B:Addr) (O:Addr→Prop) (y:PV) (x:V) (d:PyData),xs=[x]∧Rep B O H y x∧(∀ l,y≠.lst l)∧toD y=some d∧ir d∧Q (.str d.shown) H
theorem xk {X:Cx} (hg:X.A.guards=some []) (hu:X.A.units+64 < cLine):fc X (.builtin "repr") Bc:=by
 intro pZ s σ H xs us Q I r h
 obtain⟨B,O,y,x,d,rfl,rp,nl,hd,hs,q⟩:=h
 cases y with
 |tup l=>exact xj hg hu pZ s σ H [x] us Q I r ⟨B,O,l,x,d,rfl,rp,hd,hs,q⟩
 |lst l=>exact absurd rfl (nl l)
 |aE=>
  obtain⟨u,rfl,rx⟩:=vals1 r
  cases rp
  cases rx
  simp only[toD] at hd
  cases hd
  exact PySem.P.repr_of_none ⟨.str _,H,I.tok _,⟨_,rfl⟩,by simpa only[PyData.shown] using q⟩
 |bl b=>
  obtain⟨u,rfl,rx⟩:=vals1 r
  cases rp
  cases rx
  simp only[toD] at hd
  cases hd
  exact PySem.P.repr_of_bool ⟨.str _,H,I.tok _,⟨_,rfl⟩,by simpa only[PyData.shown] using q⟩
 |int i=>
  obtain⟨u,rfl,rx⟩:=vals1 r
  cases rp
  obtain⟨t,rfl⟩:=rx
  simp only[toD] at hd
  cases hd
  exact PySem.P.repr_of_int (by simpa only[PyData.showable,decide_eq_true_eq] using hs.1) ⟨.str _,H,I.tok _,⟨_,rfl⟩,by simpa only[PyData.shown] using q⟩
 |str z=>
  obtain⟨u,rfl,rx⟩:=vals1 r
  cases rp
  obtain⟨t,rfl⟩:=rx
  simp only[toD] at hd
  cases hd
  have h3:=hs.2.2.1
  simp only[PyData.shown] at h3
  exact PySem.P.repr_of_str ⟨.str _,H,I.tok _,⟨_,rfl⟩,by simpa only[PyData.shown] using q⟩ (by rw[Ox];lia)
 |cL l=>simp only[toD] at hd;cases hd
 |tD l=>simp only[toD] at hd;cases hd
 |br=>simp only[toD] at hd;cases hd
def Ka:PV→Bool
 | .lst _=>false
 |_=>true
def ju:List PV→M PV
 |[y]=>if Ka y then(M.bO (toD y)).bind fun d=>if ir d then .ret (.str d.shown) else .fail else .fail
 |_=>.fail
theorem C3:mr Bc ju:=fun φ G O H n R Q l xs pr dm ok r w q=>by
 match l,r,w with
 |[y],r,w=>
  obtain⟨x,rfl,r1⟩:=r.one
  unfold ju at w
  dsimp only at w
  by_cases c:Ka y=true
  ·rw[OG c] at w
   cases e:toD y with
   |none=>rw[e] at w;exact w.elim
   |some d=>
    rw[e] at w
    have w':(if ir d then M.ret (PV.str d.shown) else .fail).wp n R:=w
    by_cases hs:ir d
    ·rw[OG hs] at w'
     cases r1 with
     |full h=>exact⟨G.B,O,y,x,d,rfl,h,(fun l z=>by rw[z] at c;cases c),e,hs,q.sc ok (.str _) w'⟩
     |top np h r=>cases c
     |vO np h r=>simp only[toD] at e;cases e
    ·rw[OH hs] at w';exact w'.elim
  ·rw[OH c] at w;exact w.elim
theorem A8 {c dp:Nat} {y:PV} (h:oV c dp y) (hl:Ka y=true) (hc:c≤1000000) (hd:dp≤40): ∃ t:Str,ju [y]= .ret (.str t):=by
 obtain⟨d,h1,h2,h3,h4,h5⟩:=h
 refine⟨d.shown,?_⟩
 unfold ju
 dsimp only
 rw[OG hl,h1]
 show (if ir d then M.ret (PV.str d.shown) else .fail)=_
 rw[OG ⟨h2,h3,by lia,by lia⟩]
def bi (kf:Nat→Int×Int):Nat→Option Nat
 |0=>none
 |j+1=>match bi kf j with
  |none=>some j
  |some b=>if rk kf b < rk kf j then some j else some b
theorem vf {kf:Nat→Int×Int}: ∀ {j b:Nat},bi kf j=some b→b < j
 |0,b,h=>by cases h
 |j+1,b,h=>by
  unfold bi at h
  cases e:bi kf j with
  |none=>rw[e] at h;cases h;lia
  |some c=>
   rw[e] at h
   dsimp only at h
   have:=vf e
   by_cases z:rk kf c < rk kf j
   ·rw[OG z] at h;cases h;lia
   ·rw[OH z] at h;cases h;lia
theorem yV {kf:Nat→Int×Int}: ∀ {j:Nat},0 < j→∃ b,bi kf j=some b
 |j+1,_=>by
  unfold bi
  cases e:bi kf j with
  |none=>exact⟨_,rfl⟩
  |some c=>
   dsimp only
   by_cases z:rk kf c < rk kf j
   ·exact⟨_,OG z⟩
   ·exact⟨_,OH z⟩
theorem B7 (a v u:Value):argsOk "max" ⟨[a],[(Str.ofString "key",v),(Str.ofString "default",u)]⟩:=by unfold argsOk;kernel_rfl
theorem KS {m n m' n':Int} (h0:0≤n) (h1:n < 1000000) (h0':0≤n') (h1':n' < 1000000):HT.lexLt [m,n] [m',n']=decide (m * 1000000+n < m' * 1000000+n'):=by
 rw[HT.jO,HT.jO,HT.jv]
 by_cases c:m=m'
 ·subst c
  rw[OG rfl]
  by_cases d:n=n'
  ·subst d
   rw[OG rfl]
   simp
  ·rw[OH d]
   exact decide_eq_decide.mpr ⟨fun z=>by lia,fun z=>by lia⟩
 ·rw[OH c]
  exact decide_eq_decide.mpr ⟨fun z=>by lia,fun z=>by lia⟩
section
variable {X:Cx} {pZ:List (Addr×Obj)} {σ:St} {H:Hp} {s:Shared} {f l It S:Addr} {ay:List Value} {xs:List V} {kf:Nat→Int×Int} {R:Result→Shared→Prop}
def GQ (xs:List V):Option (Nat×Addr)→List V
 |none=>[]
 |some (b,T)=>[xs.getD b .aE,.ref T]
theorem B6 (hh:X.A.handled=none) (hu:X.A.units+64 < cLine) (hl:H l=some (.lst xs)) (rvl:xs.length < 100000) (nl:H It=none) (hSn:H S=none) (hIS:It≠S)
  (kE: ∀ (d8:List (Addr×Obj)) (H1:Hp) (s1:Shared) (i:Nat) (x:V) (u:Value),xs[i]?=some x→RelV x u→dS H H1→Inv X d8 σ H1 s1→wpAny (model X.prog X.w) X.A.in1 (call (.ref f) [u]) (EP X d8 σ fun v H2=> ∃ T,v= .ref T∧H1 T=none∧H2=upd H1 T (.tup [.int (kf i).1,.int (kf i).2])) (fun _ _=>False) s1)
  (hb: ∀ i,i < xs.length→0≤(kf i).2∧(kf i).2 < 1000000)
  (hR: ∀ (H':Hp) (s':Shared) (v:V) (u:Value),Inv X pZ σ H' s'→dS H H'→RelV v u→v=(match bi kf xs.length with|none=>.aE|some b=>xs.getD b .aE)→R (.ok (.ret u)) s'):
  ∀ (r j:Nat) (H1:Hp) (s1:Shared) (o:Option (Nat×Addr)),xs.length - j=r→j≤xs.length→Inv X pZ σ H1 s1→cD X pZ H1 It→dS H H1→s1.heap.IsListIter It l j→H1 S=some (.lst (GQ xs o))→o.map (·.1)=bi kf j→(∀ b T,o=some (b,T)→H1 T=some (.tup [.int (kf b).1,.int (kf b).2]))→
   codeAny (model X.prog X.w) X.A (.builtin "max.loop" ⟨[.ref It,.ref f,.ref S],[(Str.ofString "default",.none)]⟩) R s1:=by
 have hname:(toString "max"++toString ".loop":String)="max.loop":=by decide
 intro r
 induction r with
 |zero=>
  intro j H1 s1 o hr hj I fp sm st hS ho hT
  have ej:j=xs.length:=by lia
  subst ej
  obtain⟨_,ay,n,r1,r2,gS⟩:=I.jq hS
  obtain⟨_,itl,nl',r3,r4,gl⟩:=I.jq (sm _ _ hl)
  obtain⟨f0,f1,f2,f3,f4,f5⟩:=fp
  refine codeAny_builtin PySem.F.entry_max_loop ?_
  rw[Around.under_plainId PySem.F.plain_max_loop _]
  show wpAny _ X.A.in1 (seqItems? (.ref S) >>= _) _ _ _
  refine NR (wpAny_seqItems gS rfl ?_)
  show wpAny _ X.A.in1 (tryCatch (pyNext (.ref It)) _ >>= _) _ _ _
  refine NR (wpAny_tryCatch (wpAny_pyNext_list_end (A:=X.A.in1) hh st (items:=itl.toArray) ⟨_,gl,rfl,nl',rfl⟩ (by simp;lia) fun h' eb=>?_))
  have I1:Inv X pZ σ H1 {s1 with heap:=h'}:=I.turned (t':=s1.toks) (fun b o hb e=>eb b o hb e) f0 f1 f3 f4 f5
  cases o with
  |none=>
   have e0:ay=[]:=by
    cases r1;rfl
   subst e0
   have eb0:bi kf xs.length=none:=ho.symm
   show wpAny _ X.A.in1 (rule _ >>= _) _ _ _
   refine NR (wpAny_rule (NW ?_))
   exact hR H1 _ .aE .none I1 sm rfl (by rw[eb0])
  |some p=>
   obtain⟨b,T⟩:=p
   have eb0:bi kf xs.length=some b:=ho.symm
   obtain⟨_,mC,n2,q1,q2,gS2⟩:=I1.jq hS
   have gSe:h'.get? S=some {cls:=.type "list",data:=.seq ay.toArray n}:=eb S _ (Ne.symm hIS) gS
   cases r1 with
   |cons ra rest=>
    cases rest with
    |cons rb rest=>
     cases rest
     cases rb
     rename_i u
     show wpAny _ X.A.in1 (updateSeq S (fun _=> #[]) >>= _) _ _ _
     refine NR ?_
     refine wpAny_updateSeq gSe rfl (NR (wpAny_letGo (NW ?_)))
     have I2:=I1.zM (t':=s1.toks) (f:=fun _=>(#[]:Array Value)) (ba:=[]) (ys:=[]) hS gSe rfl .nil (Ol _)
     refine hR _ _ _ u I2 (fun b' o' e=>?_) ra (by rw[eb0])
     rw[ag (aD e hSn)]
     exact sm _ _ e
 |succ r ih=>
  intro j H1 s1 o hr hj I fp sm st hS ho hT
  have cU:j < xs.length:=by lia
  obtain⟨_,ay,n,r1,r2,gS⟩:=I.jq hS
  obtain⟨_,itl,nl',r3,r4,gl⟩:=I.jq (sm _ _ hl)
  obtain⟨f0,f1,f2,f3,f4,f5⟩:=id fp
  obtain⟨u,hu',ru⟩:=r3.get (NQ cU)
  refine codeAny_builtin PySem.F.entry_max_loop ?_
  rw[Around.under_plainId PySem.F.plain_max_loop _]
  show wpAny _ X.A.in1 (seqItems? (.ref S) >>= _) _ _ _
  refine NR (wpAny_seqItems gS rfl ?_)
  show wpAny _ X.A.in1 (tryCatch (pyNext (.ref It)) _ >>= _) _ _ _
  refine NR (wpAny_tryCatch (wpAny_pyNext_list_item (A:=X.A.in1) st (items:=itl.toArray) ⟨_,gl,rfl,nl',rfl⟩ (x:=u) (by simpa using hu') fun h' st' sb=>?_))
  have I1:Inv X pZ σ H1 {s1 with heap:=h'}:=I.turned (t':=s1.toks) (fun b o hb e=>(sb.2 b hb).trans e) f0 f1 f3 f4 f5
  obtain⟨oI,gI,cI,dI⟩:=id st'
  have I2:Inv X ((It,oI)::pZ) σ H1 {s1 with heap:=h'}:=I1.jk fun q hq=>by
   rcases N2.mp hq with rfl|hq
   ·exact⟨gI,f0,f1,f2,fun v z=>by rw[dI] at z;cases z⟩
   ·exact I1.pin q (Ob _ hq)
  show wpAny _ X.A.in1 (tryCatch (holding [u] (call (.ref f) [u])) _ >>= _) _ _ _
  refine NR (wpAny_tryCatch (wpAny_holding (wpAny_mono (kE _ H1 _ j _ u (NQ cU) ru sm I2) (fun kv s2 he=>?_) fun _ _ hF=>hF.elim)))
  obtain⟨v,H2,J2,rk',T,rfl,hTn,rfl⟩:=he
  cases rk'
  have st2:s2.heap.IsListIter It l (j+1):=⟨oI,(J2.pin _ (Ob _ NS)).1,cI,dI⟩
  have J3:Inv X pZ σ (upd H1 T (.tup [.int (kf j).1,.int (kf j).2])) s2:=J2.jk fun q hq=>J2.pin q (Ob _ (NV _ hq))
  have hTS:S≠T:=aD hS hTn
  have hS2:upd H1 T (.tup [.int (kf j).1,.int (kf j).2]) S=some (.lst (GQ xs o)):=by rw[ag hTS];exact hS
  have sm2:dS H (upd H1 T (.tup [.int (kf j).1,.int (kf j).2])):=fun b' o' e=>by
   rw[ag (aD (sm _ _ e) hTn)]
   exact sm _ _ e
  have fp2:cD X pZ (upd H1 T (.tup [.int (kf j).1,.int (kf j).2])) It:=⟨(J2.pin _ (Ob _ NS)).2.1,f1,f2,f3,f4,f5⟩
  obtain⟨_,itS,nS,q1,q2,gS2⟩:=J3.jq hS2
  have new:bi kf (j+1)=some j→codeAny (model X.prog X.w) X.A (.builtin "max.loop" ⟨[.ref It,.ref f,.ref S],[(Str.ofString "default",.none)]⟩) R {s2 with heap:=s2.heap.update S (Obj.mapSeq fun _=> #[u,.ref T])}:=fun eb=>by
   have I4:=J3.zM (t':=s2.toks) (f:=fun _=> #[u,.ref T]) (ba:=[u,.ref T]) (ys:=[xs.getD j .aE,.ref T]) hS2 gS2 rfl (.cons (by rw[Oa,NQ cU];exact ru) (.cons rfl .nil)) (by show 2≤sizeLine;rw[Ox];lia)
   refine ih (j+1) _ _ (some (j,T)) (by lia) cU I4 ⟨by rw[ag hIS];exact fp2.1,fp2.2⟩ (fun b' o' e=>?_) ?_ ar eb.symm (fun b' T' e=>?_)
   ·rw[ag (aD e hSn)]
    exact sm2 _ _ e
   ·obtain⟨o',g',c',d'⟩:=st2
    exact⟨o',(Heap.get?_update_other _ _ (Ne.symm hIS)).trans g',c',d'⟩
   ·cases e
    rw[ag (Ne.symm hTS),ar]
  cases o with
  |none=>
   have e0:ay=[]:=by
    cases r1;rfl
   subst e0
   have eb0:bi kf j=none:=ho.symm
   show wpAny _ X.A.in1 (updateSeq S (fun _=> #[u,.ref T]) >>= _) _ _ _
   refine NR ?_
   refine wpAny_updateSeq gS2 rfl ?_
   rw[hname]
   exact NW ⟨plainId_quiet PySem.F.plain_max_loop _,new (by unfold bi;rw[eb0])⟩
  |some p=>
   obtain⟨b,T'⟩:=p
   have eb0:bi kf j=some b:=ho.symm
   have hbj:=vf eb0
   have hT':=hT b T' rfl
   have hT2:upd H1 T (.tup [.int (kf j).1,.int (kf j).2]) T'=some (.tup [.int (kf b).1,.int (kf b).2]):=by rw[ag (aD hT' hTn)];exact hT'
   cases r1 with
   |cons ra rest=>
    cases rest with
    |cons rb rest=>
     cases rest
     cases rb
     rename_i ub
     show wpAny _ X.A.in1 (tryCatch (holding [u,.ref T] (richCompare .Gt (.ref T) (.ref T') >>= _)) _ >>= _) _ _ _
     obtain⟨oa,na,ta,tb',ga,ca,da⟩:=km J3.a7 (show upd H1 T (.tup [.int (kf j).1,.int (kf j).2]) T=_ from ar)
     obtain⟨oc,nc,tc,td,gc,cc,dc⟩:=km J3.a7 hT2
     refine NR (wpAny_tryCatch (wpAny_holding (NR (HT.wL (A:=X.A.in1) (ns:=[(kf j).1,(kf j).2]) (ms:=[(kf b).1,(kf b).2]) ⟨oa,ga,ca,na,da⟩ ⟨oc,gc,cc,nc,dc⟩ (.cons _ _ (.cons _ _ .nil)) (.cons _ _ (.cons _ _ .nil)) (by show X.A.units+1 < cLine;lia) ?_))))
     rw[KS (hb b (by lia)).1 (hb b (by lia)).2 (hb j cU).1 (hb j cU).2]
     refine NR (wpAny_holding (wpAny_truthy_bool ?_))
     refine NR (wpAny_letGo (NW ?_))
     by_cases c:rk kf b < rk kf j
     ·have c':(kf b).1 * 1000000+(kf b).2 < (kf j).1 * 1000000+(kf j).2:=c
      simp only[c',decide_true,if_true]
      refine NR ?_
      refine wpAny_updateSeq gS2 rfl (NR (wpAny_letGo ?_))
      rw[hname]
      exact NW ⟨plainId_quiet PySem.F.plain_max_loop _,new (by unfold bi;rw[eb0];exact OG c)⟩
     ·have c': ¬ (kf b).1 * 1000000+(kf b).2 < (kf j).1 * 1000000+(kf j).2:=c
      simp only[c',decide_false,OA,if_false]
      refine NR (wpAny_letGo ?_)
      rw[hname]
      exact NW ⟨plainId_quiet PySem.F.plain_max_loop _,ih (j+1) _ _ (some (b,T')) (by lia) cU J3 fp2 sm2 st2 hS2 (by unfold bi;rw[eb0];exact(OH c).symm) (fun b' T'' e=>by cases e;exact hT2)⟩
end
end
section
open PySem.W (kla_fn kla_obj CodeHd tabObj)
variable {φ:cM}
abbrev IC (kf:Nat→Int×Int) (xs:List V):V:=match bi kf xs.length with|none=>.aE|some b=>xs.getD b .aE
theorem zK {X:Cx} {pZ:List (Addr×Obj)} {σ:St} {H:Hp} {s:Shared} {f l:Addr} {xs:List V} {kf:Nat→Int×Int} {Q:VK}
  (I:Inv X pZ σ H s) (hh:X.A.handled=none) (hu:X.A.units+64 < cLine) (hl:H l=some (.lst xs)) (rvl:xs.length < 100000)
  (kE: ∀ (d8:List (Addr×Obj)) (H1:Hp) (s1:Shared) (i:Nat) (x:V) (u:Value),xs[i]?=some x→RelV x u→dS H H1→Inv X d8 σ H1 s1→wpAny (model X.prog X.w) X.A.in1 (call (.ref f) [u]) (EP X d8 σ fun v H2=> ∃ T,v= .ref T∧H1 T=none∧H2=upd H1 T (.tup [.int (kf i).1,.int (kf i).2])) (fun _ _=>False) s1)
  (hb: ∀ i,i < xs.length→0≤(kf i).2∧(kf i).2 < 1000000)
  (hq: ∀ H':Hp,dS H H'→Q (IC kf xs) H'):
  wpAny (model X.prog X.w) X.A (call (.builtin "max") [.ref l] [(Str.ofString "key",.ref f),(Str.ofString "default",.none)]) (EP X pZ σ Q) X.xe s:=by
 have hname:(toString "max"++toString ".loop":String)="max.loop":=by decide
 obtain⟨_,ay,n,r1,r2,gl⟩:=I.jq hl
 refine kmk_tree PySem.F.kind_max PySem.F.plain_max PySem.F.entry_max (B7 _ _ _) ?_
 show wpAny _ X.A.in1 (Builtin.Builtins.bindParams "max" ["key","default"] 0 ⟨[],[(Str.ofString "key",.ref f),(Str.ofString "default",.none)]⟩ >>= _) _ _ s
 refine NR (wpAny_of_eq (show Builtin.Builtins.bindParams "max" ["key","default"] 0 ⟨[],[(Str.ofString "key",.ref f),(Str.ofString "default",.none)]⟩=pure [some (.ref f),some .none] from rfl) ?_)
 refine NR (NW ?_)
 refine NR (wpAny_pyIter_list (items:=ay.toArray) ⟨_,gl,rfl,n,rfl⟩ ?_)
 have I1:Inv X pZ σ H {s with heap:=s.heap.push {cls:=.type "list_iterator",data:=.fields #[.ref l,.int 0 0]}}:=I.kept (t':=s.toks) fun b o e=>NU _ e
 have nI:H s.heap.objs.size=none:=I.a7.fresh (NZ _)
 have fpI:cD X pZ H s.heap.objs.size:=I.n9 (NZ _) nI
 refine NR (wpAny_newList ?_ (Ol _))
 have nS:H (s.heap.push {cls:=.type "list_iterator",data:=.fields #[.ref l,.int 0 0]}).objs.size=none:=I1.fresh
 have I2:=I1.Ca (t':=s.toks) (ys:=[]) (ay:=[]) .nil (Ol _)
 have bP:s.heap.objs.size≠(s.heap.push {cls:=.type "list_iterator",data:=.fields #[.ref l,.int 0 0]}).objs.size:=by rw[size_push'];lia
 have gI:((s.heap.push {cls:=.type "list_iterator",data:=.fields #[.ref l,.int 0 0]}).push {cls:=.type "list",data:=.seq ([]:List Value).toArray}).IsListIter s.heap.objs.size l 0:=⟨_,NU _ (N6 _ rfl),rfl,rfl⟩
 rw[hname]
 refine NW ⟨plainId_quiet PySem.F.plain_max_loop _,?_⟩
 refine B6 (H:=H) hh hu hl rvl nI nS bP kE hb (fun H' s' v u J sm rv ev=>⟨v,H',J,rv,ev▸hq H' sm⟩) _ 0 _ _ none rfl (Ol _) I2 ⟨by rw[ag bP];exact nI,fpI.2⟩ (fun b o e=>?_) gI ar rfl (fun b T e=>by cases e)
 rw[ag (aD e nS)]
 exact e
def L8 (e:Addr×Str) (N:List Str) (tE:TE) (Q:VK) (x:V) (H1:Hp):Prop:= ∃ (l:Addr) (xs:List V) (kf:Nat→Int×Int),x= .ref l∧H1 l=some (.lst xs)∧xs.length < 100000∧TabAt H1 e∧
 (∀ i x,xs[i]?=some x→∀ H2,(∀ b o,b≠e.1→H1 b=some o→H2 b=some o)→tE (start N [x]) H2 fun v H3=> ∃ T,v= .ref T∧H2 T=none∧H3=upd H2 T (.tup [.int (kf i).1,.int (kf i).2]))∧
 (∀ i,i < xs.length→0≤(kf i).2∧(kf i).2 < 1000000)∧
 ∀ H':Hp,(∀ b o,b≠e.1→H1 b=some o→H' b=some o)→TabAt H' e→Q (IC kf xs) H'
def Gk (e:Addr×Str) (N:List Str) (tE ta:TE):TE:=fun σ H Q=>ta σ H (L8 e N tE Q)
def L7 (e:Addr×Str) (N:List Str) (tE:TE) (Q:VK):List V→Hp→Prop
 |[x],H1=>L8 e N tE Q x H1
 |_,_=>False
theorem En {X:Cx} {k:Nat} {c P:Addr} {params:Arguments} {body e:Expr} {scope:Scope} {lpos kpos dpos npos pos p:Pos} {nk:Nat} {N:List Str} {y:Str} {tE ta:TE}
  (hr:cx (k+3) X.A) (hB:DL X.base X.mg) (hcode:X.env.code= .ref c) (hC:CodeHd X.base c P) (hcl:closureFor scope X.env=pure []) (hdef:defaultsOf params X.env=([],[])) (S:aB N [y] scope)
  (hbind: ∀ (s:Shared) (pm:Value) (c:Addr) (ctv u:Value),BindsTo s (kla_fn "<lambda>" (X.env.qual++"<lambda>") params body scope [] pm (.ref c) ctv) ⟨[u],[]⟩ [(y,u)])
  (fO: ∀ (f c:Addr) (A:Around) (s:Shared) (H:Hp),PE (fP ig X.prog X.w X.K X.mg X.base N (X.env.qual++"<lambda>") scope f (.ref c) A X.stack s H E0).ql body tE)
  (hg:Gl X "max") (hm:X.mg "max"=none) (ha:PE X e ta) (hs:starEach [e] X.env=(false,eval e X.env)::starEach [] X.env:=by rfl):
  PE X (.Call (.Name "max" p) [e] [⟨some (Str.ofString "key"),.Lambda params body scope lpos,kpos⟩,⟨some (Str.ofString "default"),.Constant .none nk npos,dpos⟩] pos) (Gk (P,X.env.qual++"<lambda>") N tE ta):=by
 intro pZ s σ H Q I h
 refine wpAny_Call_Name_kw (gz I hg hm boot_max ?_)
 have hpa:=cn ha dY hs
 refine callWith_kw (bh (hpa pos pZ s σ H (L7 (P,X.env.qual++"<lambda>") N tE Q) I h) fun us s1 hu=>?_) (by rw[hs];rfl) (by rw[hs];rfl)
 obtain⟨vs,H1,I1,r,q⟩:=hu
 match vs,r,q with
 |[x],r,q=>
 obtain⟨u,rfl,rx⟩:=vals1 r
 obtain⟨l,xs,kf,rfl,hl,hz,tab,hk,hb,q⟩:=q
 cases rx
 refine kws_cons (uH I1 hB hcode hC tab hcl hdef fun f c' oc fs tq pm ctv H' s' J hfn at_f at_c hfd hfs tab' dN=>kws_cons (Constant_none (kws_nil ?_)))
 show wpAny (model X.prog X.w) X.A (call (.builtin "max") [.ref l] [(Str.ofString "key",.ref f),(Str.ofString "default",.none)]) (EP X pZ σ Q) X.xe s'
 have nl:l≠P:=fun z=>by
  obtain⟨ps,hP,_⟩:=tab
  have hP:H1 P=some (.mx ps):=hP
  rw[z,hP] at hl
  cases hl
 refine zK J hr.hd hr.units (dN l _ nl hl) hz (fun d8 H2 s2 i x u hx ru sm J2=>?_) hb fun H3 sm=>?_
 ·exact uI S hr.in1 rfl J2 (J2.a7 f _ (sm _ _ at_f)).1 (J2.a7 c' _ (sm _ _ at_c)).1 hfd hfs (hbind s2 pm c' ctv u) rfl (show Vals [x] [u] from .cons ru .nil) (fO f c' _ s2 H2)
   (hk i _ hx H2 fun b o nb e=>sm b o (dN b o nb e))
 ·exact q H3 (fun b o nb e=>sm b o (dN b o nb e)) (tab'.keep (fun ps e=>sm _ _ e) fun b ob u e=>sm _ _ e)
def hV:List PV→Option PV:=fun l=>(bi (fun i=>vE (l.getD i .aE)) l.length).map fun b=>l.getD b .aE
def zL (y:PV):M PV:=match y with
 | .lst l=>if decide (l.length < 100000)&&l.all DE then .ret ((hV l).getD .aE) else .fail
 |_=>.fail
theorem B8 {y:PV} {n:Nat} {R:PV→Nat→Prop} (w:(zL y).wp n R): ∃ l,y= .lst l∧l.length < 100000∧(∀ z∈l,DE z=true)∧R ((hV l).getD .aE) n:=by
 unfold zL at w
 cases y with
 |lst l=>
  dsimp only at w
  by_cases c:(decide (l.length < 100000)&&l.all DE)=true
  ·rw[OG c] at w
   simp only[Ov,decide_eq_true_eq,List.all_eq_true] at c
   exact⟨l,rfl,c.1,c.2,w⟩
  ·rw[OH c] at w;exact w.elim
 |_=>exact w.elim
theorem Fn {X:Cx} {e:Expr} {tb:Addr×Str} {N:List Str} {me:ae→M PV} (hin:tb∈φ.tabs) (hun: ∀ q∈φ.tabs,q.1=tb.1→q=tb) (h:BE X e (Gk tb N (AR X.K 2 1) (qT φ me))):EV φ X e (fun ρ=>(me ρ).bind zL):=BE.mono h fun σ H Q bt=>by
 obtain⟨G,O,ρ,n,R,s,w,q⟩:=bt
 rw[M.wZ] at w
 refine⟨G,O,ρ,n,_,s,w,fun y x H1 n1 e1 a9 r1 w1=>?_⟩
 obtain⟨l,rfl,hz,a7,hR⟩:=B8 w1
 obtain⟨p,xs,rfl,hp,rs⟩:=r1.d9
 have tab:=G.tab H1 n1 a9 tb hin
 have hlen:l.length=xs.length:=rs.1
 have pO:O tb.1:=s.pr _ (G.tp tb hin)
 obtain⟨ps,hP,_⟩:=id tab
 refine⟨p,xs,fun i=>vE (l.getD i .aE),rfl,hp,by lia,tab,fun i x hx H2 k2=>?_,fun i hi=>?_,fun H' kp tab'=>?_⟩
 ·obtain⟨y,hy,ry⟩:=rs.at' hx
  obtain⟨k,ek,b0,b1⟩:=mN (a7 y (List.mem_of_getElem? hy))
  obtain⟨l',rfl,g2,g1⟩:=qt ek
  obtain⟨q',ys,rfl,hq',r'⟩:=(bE.full ry:bE G O H1 _ _).il
  obtain⟨v2,hv2,rv2⟩:=r'.at g2
  obtain⟨v1,hv1,rv1⟩:=r'.at g1
  cases rv2
  cases rv1
  have ekk:vE (l.getD i .aE)=k:=by
   rw[Oa,hy]
   show (iV _).getD _=k
   rw[Option.getD_some,ek]
   rfl
  dsimp only
  rw[ekk]
  exact tM (k2 _ _ (fun z=>by rw[z,hP] at hq';cases hq') hq') (gN hv2) (gN hv1)
 ·have hi':i < l.length:=by lia
  obtain⟨k,ek,b0,b1⟩:=mN (a7 _ (OB hi'))
  have ekk:vE (l.getD i .aE)=k:=by
   rw[Oa,NQ hi']
   show (iV _).getD _=k
   rw[Option.getD_some,ek]
   rfl
  dsimp only
  rw[ekk]
  exact⟨b0,b1⟩
 ·have ext:Ext G.B H1 H':=fun b o nb eb=>by
   by_cases z:b=tb.1
   ·obtain⟨qs,hQ,_⟩:=tab'
    rw[z,hP] at eb
    cases eb
    exact⟨qs,z▸hQ⟩
   ·exact .of (kp b o z eb)
  have ok':G.ok H' n1:=G.vN H1 H' n1 a9 (fun q' hq'=>by
   by_cases z:q'.1=tb.1
   ·rw[hun q' hq' z]
    exact tab'
   ·exact(G.tab H1 n1 a9 q' hq').keep (fun qs eq=>kp _ _ z eq) fun b ob u eq=>kp b _ (fun y=>by rw[y,hP] at eq;cases eq) eq) fun b o nb eb=>kp b o (fun z=>nb (N4.mpr ⟨tb,hin,z.symm⟩)) eb
  refine q _ _ H' n1 (e1.trans ext) ok' ?_ hR
  unfold hV IC
  rw[←hlen]
  cases eb:bi (fun i=>vE (l.getD i .aE)) l.length with
  |none=>exact .aE
  |some b=>
   have hbl:=vf eb
   obtain⟨x,hx,rx⟩:=rs.at (NQ hbl)
   show Rep G.B O H' (l.getD b .aE) (xs.getD b .aE)
   rw[Oa,Oa,hx,NQ hbl]
   exact rx.ext (s.pr _ G.pB) ext
end
section
variable {X:Cx} {pZ:List (Addr×Obj)} {σ:St} {H:Hp} {s:Shared} {d:Addr} {o:Obj} {ks:List (Key×V)}
theorem Cs {P:Program} {w:World} {h:Heap} {u u':HO} (x:jd P w H h) (e:H d=some u) (no: ∀ y,u≠.own y) (nt: ∀ xs,u≠.tup xs) (new:bS P w H h d u'):jd P w (upd H d u') h:=fun b v q=>by
 have ho: ∀ y c,H c=some (.own y)→upd H d u' c=some (.own y):=fun y c g=>by
  rw[ag (fun z=>by subst z;rw[e] at g;exact no y (OK g))];exact g
 have ht: ∀ c xs,H c=some (.tup xs)→upd H d u' c=some (.tup xs):=fun c xs g=>by
  rw[ag (fun z=>by subst z;rw[e] at g;exact nt xs (OK g))];exact g
 by_cases hb:b=d
 ·subst hb
  rw[ar] at q;cases q
  exact new.mY (fun _ _ _ g=>g) (fun c g=>ho _ c g) ht
 ·rw[ag hb] at q
  exact(x b v q).mY (fun _ _ _ g=>g) (fun c g=>ho _ c g) ht
theorem Inv.swap {u u':HO} (I:Inv X pZ σ H s) (e:H d=some u) (no: ∀ y,u≠.own y) (nt: ∀ xs,u≠.tup xs) (nb: ∀ ps,u≠.mx ps) (nf: ∀ ob v,X.H₀ d=some (.eF ob v)→u'= .eF ob v) (new:bS X.prog X.w H s.heap d u'):Inv X pZ σ (upd H d u') s:=by
 have nn: ∀ b,H b=none→upd H d u' b=none:=fun b g=>by
  rw[ag (fun z=>by subst z;rw[e] at g;cases g)];exact g
 refine⟨I.ok,I.os,I.bare,⟨I.base.keep,I.base.slot,fun b o q n hx=>nn b (I.base.free b o q n hx),I.base.there,fun b xs q=>?_,fun b ob v q=>?_,fun b ps q=>?_⟩,I.loc,I.cell,nn _ I.free,fun x c q=>nn _ (I.iY x c q),fun p hp=>?_,Cs I.a7 e no nt new,I.len⟩
 ·have g:=I.base.qQ b xs q
  rw[ag (fun z=>by subst z;rw[e] at g;exact nt xs (OK g))];exact g
 ·by_cases hb:b=d
  ·subst hb
   rw[ar,nf ob v q]
  ·rw[ag hb];exact I.base.kH b ob v q
 ·obtain⟨more,g⟩:=I.base.o9 b ps q
  exact⟨more,by rw[ag (fun z=>by subst z;rw[e] at g;exact nb _ (OK g))];exact g⟩
 ·obtain⟨a1,a2,a3⟩:=I.pin p hp
  exact⟨a1,nn _ a2,a3⟩
def Kg (X:Cx) (d:Addr) (o:Obj) (ks:List (Key×V)) (u:HO):Prop:=(u= .dK ks∧∀ ob v,X.H₀ d≠some (.eF ob v))∨u= .eF o (.dK ks)
theorem Inv.M4 (I:Inv X pZ σ H s) (r:Rd H d (.dK ks)): ∃ o u,s.heap.get? d=some o∧H d=some u∧Kg X d o ks u∧Inv X pZ σ (upd H d (.eF o (.dK ks))) s:=by
 rcases r with e|⟨o,e⟩
 ·obtain⟨_,_,vs,_,o,es,ep,g,_⟩:=I.a7 d _ e
  refine⟨o,_,g,e,.inl ⟨rfl,fun ob v q=>?_⟩,I.swap e (fun _ z=>nomatch z) (fun _ z=>nomatch z) (fun _ z=>nomatch z) (fun ob v q=>?_) ⟨g,I.a7 d _ e⟩⟩
  ·have:=I.base.kH d ob v q;rw[e] at this;cases this
  ·have:=I.base.kH d ob v q;rw[e] at this;cases this
 ·obtain⟨g,_⟩:=I.a7 d _ e
  refine⟨o,_,g,e,.inr rfl,I.swap e (fun _ z=>nomatch z) (fun _ z=>nomatch z) (fun _ z=>nomatch z) (fun ob v q=>?_) (I.a7 d _ e)⟩
  have:=I.base.kH d ob v q;rw[e] at this;exact OK this
theorem Inv.qS {u:HO} (I:Inv X pZ σ H s) (e:H d=some (.eF o (.dK ks))) (w:Kg X d o ks u):Inv X pZ σ (upd H d u) s:=by
 rcases w with⟨rfl,nf⟩|rfl
 ·exact I.swap e (fun _ z=>nomatch z) (fun _ z=>nomatch z) (fun _ z=>nomatch z) (fun ob v q=>absurd q (nf ob v)) (I.a7 d _ e).2
 ·exact I.swap e (fun _ z=>nomatch z) (fun _ z=>nomatch z) (fun _ z=>nomatch z) (fun ob v q=>by have:=I.base.kH d ob v q;rw[e] at this;exact OK this) (I.a7 d _ e)
def qR (X:Cx) (P:Hp→Prop) (H:Hp):Prop:= ∃ d o ks u,H d=some (.eF o (.dK ks))∧Kg X d o ks u∧P (upd H d u)
def Ends.qS (X:Cx) (D:Ends):Ends:=⟨fun σ H=>qR X (D.nx σ) H,fun v H=>qR X (D.rt v) H,fun σ H=>qR X (D.bk σ) H,fun σ H=>qR X (D.ct σ) H⟩
theorem Eh {st:Stmt} {t:TS} (h:PS X st t):PS X st (fun D σ H=>t (D.qS X) σ H):=fun pZ s σ H D I q=>by
 refine bh (h pZ s σ H (D.qS X) I q) fun f s1 q1=>?_
 cases f with
 |next=>obtain⟨σ',H',I',d,o,ks,u,e,w,p⟩:=q1;exact⟨σ',_,I'.qS e w,p⟩
 |brk=>obtain⟨σ',H',I',d,o,ks,u,e,w,p⟩:=q1;exact⟨σ',_,I'.qS e w,p⟩
 |cont=>obtain⟨σ',H',I',d,o,ks,u,e,w,p⟩:=q1;exact⟨σ',_,I'.qS e w,p⟩
 |ret v=>obtain⟨x,σ',H',I',r,d,o,ks,u,e,w,p⟩:=q1;exact⟨x,σ',_,I'.qS e w,r,p⟩
theorem Lw {P:Program} {w:World} {k:Key} {u:Value} (h:(aY P w).is k u=true):RelV (kV k) u:=by
 rw[wG] at h
 rcases bq h with⟨i,t,rfl,rfl⟩|⟨x,t,rfl,rfl⟩
 ·exact⟨t,rfl⟩
 ·exact⟨t,rfl⟩
def NA (d:Addr) (o:Obj) (ks:List (Key×V)):It:=
 ⟨fun i H=>H d=some (.eF o (.dK ks))∧i < ks.length,fun i H x H'=>H'=H∧∃ k,(ks.map (·.1))[i]?=some k∧x=kV k,fun i H=>H d=some (.eF o (.dK ks))∧ks.length≤i⟩
theorem KV.at {kvs:List (Key×V)} {vs:List (Key×Value)} (r:KV kvs vs) (i:Nat) (h:i < kvs.length): ∃ k v,vs[i]?=some (k,v)∧(kvs.map (·.1))[i]?=some k:=by
 have hl:=r.length
 refine⟨(vs[i]'(by lia)).1,(vs[i]'(by lia)).2,by rw[NQ],?_⟩
 rw[KV.keys r,Oc,NQ (by lia)]
 rfl
theorem zb {P:Program} {w:World} {K:Frag} {tg:Expr} {vs:List (Key×Value)} {es:Array DictEntry} {ep:Nat} (d it:Addr) (o:Obj) (ks:List (Key×V)) (r:KV ks vs) (ho:o.ExactDict∧o.data= .dict es ep∧KeysOf (aY P w) es∧Pairs (aY P w) es.toList vs∧(vs.map (·.1)).Nodup):
  Turn P w K tg (NA d o ks) [it] it (fun i h=>h.IsKeyIter it d i vs.length ep) where
 mem:=by simp
 obj:=fun i h st b hb=>by
  have e:b=it:=by simpa using hb
  subst e
  obtain⟨o,e,c,d⟩:=st
  exact⟨o,e,fun v z=>by rw[d] at z;cases z⟩
 keep:=fun i h h' st k=>st.at fun o e=>k it (by simp) o e
 item:=by
  intro X hP hw hK hc i pZ s σ H E I hf st hg
  subst hP hw hK
  obtain⟨e,hi⟩:=hg
  obtain⟨g,_⟩:=I.a7 d _ e
  obtain⟨f0,f1,f2,f3,f4,f5⟩:=hf it (by simp)
  obtain⟨k,v,hk,hk'⟩:=r.at i hi
  refine wpAny_pyNext_dict_item (knd:=aY X.prog X.w) st ⟨o,es,g,ho⟩ hk fun key h' ik st' sb=>?_
  have I1:Inv X pZ σ H {s with heap:=h'}:=I.turned (t':=s.toks) (fun b o hb e=>(sb.2 b hb).trans e) f0 f1 f3 f4 f5
  obtain⟨o',e',c',d'⟩:=id st'
  exact⟨key,rfl,qz (s:={s with heap:=h'}) e' c' d' (by decide) ⟨kV k,H,I1,Lw ik,⟨rfl,k,hk',rfl⟩,st',fun b hb=>(hf b hb).1⟩⟩
 done:=by
  intro X hP hw hK hc i pZ s σ H E I hf st hg
  subst hP hw hK
  obtain⟨e,hi⟩:=hg
  obtain⟨g,_⟩:=I.a7 d _ e
  obtain⟨f0,f1,f2,f3,f4,f5⟩:=hf it (by simp)
  have hl:=r.length
  exact wpAny_pyNext_dict_end (knd:=aY X.prog X.w) (I.ok.hd hc) st ⟨o,es,g,ho⟩ (List.getElem?_eq_none_iff.mpr (by lia)) fun h' eb=>⟨rfl,I.turned (t':=s.toks) (fun b o hb e=>eb b o hb e) f0 f1 f3 f4 f5⟩
 self:=fun _ _ _ _ _ st h=>wpAny_pyIter_keyiter st h
def Cr (X:Cx) (td:TE):TI:=fun σ H R=>td σ H fun x H1=> ∃ d ks,x= .ref d∧Rd H1 d (.dK ks)∧∀ o u,H1 d=some u→Kg X d o ks u→R (NA d o ks) (upd H1 d (.eF o (.dK ks)))
theorem Em {l:Expr} {tg:Expr} {td:TE} (hl:PE X l td):PI X tg l (Cr X td):=by
 intro pZ s σ H R I h
 refine bh (hl pZ s σ H _ I h) fun v s1 ⟨x,H1,I1,r1,q1⟩=>?_
 obtain⟨a,ks,e,hq,q⟩:=q1
 subst e
 cases r1
 obtain⟨o,u,g,eu,wu,I2⟩:=I1.M4 hq
 obtain⟨_,hs,vs,r,ob,es,ep,g',rest⟩:=hq.ok I1.a7
 rw[g] at g';cases g'
 refine wpAny_pyIter_dict (knd:=aY X.prog X.w) (kvs:=vs) (ep:=ep) hs ⟨o,es,g,rest⟩ ?_
 refine⟨s1.heap.objs.size,[s1.heap.objs.size],_,_,_,rfl,I2.kept (t':=s1.toks) fun b o e=>NU _ e,zb a _ o ks r rest,⟨_,N6 _ rfl,rfl,rfl⟩,fun b hb=>?_,q o u eu wu⟩
 have e:b=s1.heap.objs.size:=by simpa using hb
 subst e
 exact I2.n9 (NZ _) (I2.a7.fresh (NZ _))
end
section
variable {φ:cM} {G:Bg φ} {O0 O:Addr→Prop} {H0 H H':Hp} {σ:St} {ρ:ae} {n n':Nat}
theorem SI.ML (s:SI G O0 H0 O H σ ρ n) (k:Nat) {l:List (Key×PV)} {p:Addr} {xs:List (Key×V)} (x:Ext G.B H H') (ok:G.ok H' n') (hp:H p=none) (hp':H' p=some (.dK xs)) (r:aW G.B (fun q=>O q∨q=p) H' l xs):
  SI G O0 H0 (fun q=>O q∨q=p) H' (σ.set k (some (.ref p))) (ρ.set k (.bp l)) n':=by
 have nO: ¬ O p:=fun z=>by obtain⟨o,g⟩:=s.es.dm p z;rw[hp] at g;cases g
 have np: ¬ G.bY p:=fun z=>nO (s.es.pr p z)
 have h0:H0 p=none:=by
  cases e:H0 p with
  |none=>rfl
  |some o=>obtain⟨_,this⟩:=(s.ext p o (fun z=>np (z▸G.pB)) e).there;rw[hp] at this;cases this
 have hB:O G.B:=s.es.B
 have gw: ∀ q,(O q∨q=p)→O q∨H q=none:=fun q z=>by
  rcases z with z|z
  ·exact .inl z
  ·subst z;exact .inr hp
 have s':=s.es.ext x ok
 have es:ES G (fun q=>O q∨q=p) H' σ ρ n':=by
  refine⟨⟨s.es.er.1,fun i e he=>?_⟩,ok,fun q z=>.inl (s.es.pr q z),fun q z=>?_⟩
  ·have r1:=s.es.er.2 i e he
   cases e with
   |un=>trivial
   |val y=>obtain⟨v,hv,rr⟩:=r1;exact⟨v,hv,(rr.grow gw).ext (.inl hB) x⟩
   |own t=>
    obtain⟨q,ys,hv,hq,nq,hh,rr⟩:=r1
    exact⟨q,ys,hv,.inl hq,nq,x q _ (fun z=>nq (z▸G.pB)) hh,(rr.grow gw).ext (.inl hB) x⟩
   |bp t=>
    obtain⟨q,ys,hv,hq,nq,hh,rr⟩:=r1
    exact⟨q,ys,hv,.inl hq,nq,x q _ (fun z=>nq (z▸G.pB)) hh,⟨rr.1,fun i a b c d=>((rr.2 i a b c d).grow gw).ext (.inl hB) x⟩⟩
  ·rcases z with z|z
   ·exact s'.dm q z
   ·subst z;exact⟨_,hp'⟩
 have ow: ∀ i q,dh (ρ.set k (.bp l)) (σ.set k (some (.ref p))) i q→(i=k∧q=p)∨(i≠k∧dh ρ σ i q):=fun i q h=>by
  obtain⟨t,h1,h2,h3⟩:=h
  by_cases hk:k=i
  ·subst hk
   rw[List.getElem?_set] at h3
   split at h3
   ·split at h3
    ·cases h3;exact .inl ⟨rfl,rfl⟩
    ·cases h3
   ·rename_i hh;exact absurd rfl hh
  ·rw[Ot hk] at h1 h3
   exact .inr ⟨fun z=>hk z.symm,t,h1,h2,h3⟩
 refine⟨es.set k (t:=.bp l) ⟨p,xs,rfl,.inr rfl,np,hp',r⟩,s.p0,fun q z=>.inl (s.sub q z),s.ext.trans x,fun q z=>?_,s.d0,fun i q h=>?_,fun i j q h h'=>?_⟩
 ·rcases z with z|z
  ·exact s.gr q z
  ·subst z;exact .inr h0
 ·rcases ow i q h with⟨_,rfl⟩|⟨_,h⟩
  ·exact h0
  ·exact s.fr i q h
 ·rcases ow i q h with⟨rfl,rfl⟩|⟨n1,h1⟩
  ·rcases ow j q h' with⟨rfl,_⟩|⟨n2,h2⟩
   ·rfl
   ·obtain⟨_,_,o,g⟩:=eo s.es h2;rw[hp] at g;cases g
  ·rcases ow j q h' with⟨rfl,rfl⟩|⟨n2,h2⟩
   ·obtain⟨_,_,o,g⟩:=eo s.es h1;rw[hp] at g;cases g
   ·exact s.dj i j q h1 h2
theorem SI.putD (s:SI G O0 H0 O H σ ρ n) {k:Nat} {l l':List (Key×PV)} {p:Addr} {xs':List (Key×V)} (hk:ρ[k]?=some (.bp l)) (hp:σ[k]?=some (some (.ref p))) (r:aW G.B O H l' xs'):SI G O0 H0 O (upd H p (.dK xs')) σ (ρ.set k (.bp l')) n:=by
 have ho:dh ρ σ k p:=⟨_,hk,rfl,hp⟩
 obtain⟨hO,np,o,hh⟩:=eo s.es ho
 have Lj:=uf s.es ho hh
 have kp: ∀ q u,¬ O q→H q=some u→upd H p (.dK xs') q=some u∧¬ O q:=fun q u nq hq=>⟨by
  have bP:q≠p:=fun z=>nq (z▸hO)
  rw[ag bP];exact hq,nq⟩
 have ow: ∀ i q,dh (ρ.set k (.bp l')) σ i q→dh ρ σ i q:=fun i q h=>by
  obtain⟨t,h1,h2,h3⟩:=h
  by_cases e:k=i
  ·subst e;exact⟨_,hk,rfl,h3⟩
  ·rw[Ot e] at h1;exact⟨t,h1,h2,h3⟩
 refine⟨⟨⟨by simp[s.es.er.1],fun i e he=>?_⟩,G.keep H _ _ (fun q u hq hu=>by
   have bP:q≠p:=fun z=>by
    rcases hq with hq|hq
    ·exact np (z▸hq)
    ·rw[z,hh] at hu;cases hu;exact Lj hq
   rw[ag bP];exact hu) s.es.ok,s.es.pr,fun q hq=>?_⟩,s.p0,s.sub,fun q u nb hq=>?_,s.gr,s.d0,fun i q h=>s.fr i q (ow i q h),fun i j q h h'=>s.dj i j q (ow i q h) (ow j q h')⟩
 ·by_cases e1:k=i
  ·subst e1
   have hl:k < ρ.length:=(NY.mp hk).1
   rw[OI hl] at he
   cases he
   rw[hp]
   exact⟨p,xs',rfl,hO,np,ar,r.keep kp⟩
  ·rw[Ot e1] at he
   have r1:=s.es.er.2 i e he
   cases e with
   |un=>trivial
   |val y=>obtain⟨v,hv,rr⟩:=r1;exact⟨v,hv,rr.keep kp⟩
   |own t=>
    obtain⟨q,ys,hv,hq,nq,hh',rr⟩:=r1
    have bP:q≠p:=fun z=>by
     subst z
     exact e1 (s.dj k i q ho ⟨_,he,rfl,dw s.es.er he hv⟩)
    exact⟨q,ys,hv,hq,nq,by rw[ag bP];exact hh',rr.keep kp⟩
   |bp t=>
    obtain⟨q,ys,hv,hq,nq,hh',rr⟩:=r1
    have bP:q≠p:=fun z=>by
     subst z
     exact e1 (s.dj k i q ho ⟨_,he,rfl,dw s.es.er he hv⟩)
    exact⟨q,ys,hv,hq,nq,by rw[ag bP];exact hh',rr.keep kp⟩
 ·by_cases e1:q=p
  ·subst e1;exact⟨_,ar⟩
  ·obtain⟨u,g⟩:=s.es.dm q hq;exact⟨u,by rw[ag e1];exact g⟩
 ·have bP:q≠p:=fun z=>by subst z;rw[s.fr k q ho] at hq;cases hq
  exact(s.ext q u nb hq).to fun v e=>.of (by rw[ag bP];exact e)
end
def jm (l:List (Key×PV)) (k:Key):Option PV:=(l.find? fun kv=>decide (kv.1=k)).map (·.2)
def pC (l:List (Key×PV)) (k:Key) (y:PV):List (Key×PV):=
 if(l.any fun kv=>decide (kv.1=k))=true then l.map (fun kv=>if kv.1=k then(kv.1,y) else kv) else l++[(k,y)]
def zP:Key→PV
 | .inl i=>.int i
 | .inr x=>.str x
def pR:PV→Option Key
 | .int i=>some (.inl i)
 | .str x=>some (.inr x)
 |_=>none
section
variable {B:Addr} {O:Addr→Prop} {H:Hp}
theorem aW.nil:aW B O H [] []:=⟨rfl,fun i y x a=>by simp at a⟩
theorem aW.cons {y:Key×PV} {x:Key×V} {l:List (Key×PV)} {ks:List (Key×V)} (e:y.1=x.1) (r:Rep B O H y.2 x.2) (t:aW B O H l ks):aW B O H (y::l) (x::ks):=by
 refine⟨by simp[e,t.1],fun i a b h1 h2=>?_⟩
 cases i with
 |zero=>simp at h1 h2;subst h1 h2;exact r
 |succ i=>simp at h1 h2;exact t.2 i a b h1 h2
theorem aW.inv {l:List (Key×PV)} {ks:List (Key×V)} (r:aW B O H l ks):(l=[]∧ks=[])∨∃ y l' x ks',l=y::l'∧ks=x::ks'∧y.1=x.1∧Rep B O H y.2 x.2∧aW B O H l' ks':=by
 cases l with
 |nil=>exact .inl ⟨rfl,by have:=r.1;simpa using this.symm⟩
 |cons y l=>
  cases ks with
  |nil=>have:=r.1;simp at this
  |cons x ks=>
   have h:=r.1
   simp only[N1,List.cons.injEq] at h
   exact .inr ⟨y,l,x,ks,rfl,rfl,h.1,r.2 0 y x rfl rfl,h.2,fun i a b h1 h2=>r.2 (i+1) a b (by simpa using h1) (by simpa using h2)⟩
theorem aW.val (k:Key): ∀ {l:List (Key×PV)} {ks:List (Key×V)},aW B O H l ks→(jm l k=none∧ka ks k=none)∨∃ y x,jm l k=some y∧ka ks k=some x∧Rep B O H y x
 |[],ks,r=>by
  rcases r.inv with⟨_,rfl⟩|⟨_,_,_,_,e,_⟩
  ·exact .inl ⟨rfl,rfl⟩
  ·cases e
 |y::l,ks,r=>by
  rcases r.inv with⟨e,_⟩|⟨y',l',x,ks',e,rfl,ek,ry,rt⟩
  ·cases e
  ·cases e
   by_cases c:y.1=k
   ·refine .inr ⟨y.2,x.2,by simp[jm,c],?_,ry⟩
    exact j8 (ek.symm.trans c)
   ·have c': ¬ x.1=k:=fun z=>c (ek.trans z)
    rw[j9 c']
    have e1:jm (y::l) k=jm l k:=by simp[jm,List.find?_cons,c]
    rw[e1]
    exact aW.val k rt
theorem aW.any (k:Key) {l:List (Key×PV)} {ks:List (Key×V)} (r:aW B O H l ks):(l.any fun kv=>decide (kv.1=k))=ks.any fun kv=>decide (kv.1=k):=by
 have e1:(l.any fun kv=>decide (kv.1=k))=(l.map (·.1)).any fun z=>decide (z=k):=by rw[List.any_map];rfl
 have e2:(ks.any fun kv=>decide (kv.1=k))=(ks.map (·.1)).any fun z=>decide (z=k):=by rw[List.any_map];rfl
 rw[e1,e2,r.1]
theorem aW.snoc {k:Key} {y:PV} {x:V} (rx:Rep B O H y x): ∀ {l:List (Key×PV)} {ks:List (Key×V)},aW B O H l ks→aW B O H (l++[(k,y)]) (ks++[(k,x)])
 |[],ks,r=>by
  rcases r.inv with⟨_,rfl⟩|⟨_,_,_,_,e,_⟩
  ·exact aW.cons (y:=(k,y)) (x:=(k,x)) rfl rx aW.nil
  ·cases e
 |z::l,ks,r=>by
  rcases r.inv with⟨e,_⟩|⟨y',l',x',ks',e,rfl,ek,ry,rt⟩
  ·cases e
  ·cases e
   exact aW.cons ek ry (aW.snoc rx rt)
theorem aW.v5 {k:Key} {y:PV} {x:V} (rx:Rep B O H y x): ∀ {l:List (Key×PV)} {ks:List (Key×V)},aW B O H l ks→aW B O H (l.map fun kv=>if kv.1=k then(kv.1,y) else kv) (ks.map fun kv=>if kv.1=k then(kv.1,x) else kv)
 |[],ks,r=>by
  rcases r.inv with⟨_,rfl⟩|⟨_,_,_,_,e,_⟩
  ·exact aW.nil
  ·cases e
 |z::l,ks,r=>by
  rcases r.inv with⟨e,_⟩|⟨y',l',x',ks',e,rfl,ek,ry,rt⟩
  ·cases e
  ·cases e
   rw[N1,N1]
   by_cases c:z.1=k
   ·rw[OG c,OG (ek.symm.trans c)]
    exact aW.cons ek rx (aW.v5 rx rt)
   ·rw[OH c,OH (fun q=>c (ek.trans q))]
    exact aW.cons ek ry (aW.v5 rx rt)
theorem aW.put {k:Key} {y:PV} {x:V} {l:List (Key×PV)} {ks:List (Key×V)} (r:aW B O H l ks) (rx:Rep B O H y x):aW B O H (pC l k y) (putK ks k x):=by
 unfold pC putK
 rw[r.any k]
 split
 ·exact r.v5 rx
 ·exact r.snoc rx
theorem Ck (k:Key):Rep B O H (zP k) (kV k):=by
 cases k with
 |inl i=>exact .int i
 |inr x=>exact .str x
end
theorem nU {φ:cM} {G:Bg φ} {O:Addr→Prop} {H:Hp} {y:PV} {x:V} {k:Key} (r:bE G O H y x) (e:pR y=some k):x=kV k:=by
 cases y<;>first|cases e|skip
 ·rw[r.bI];rfl
 ·rw[r.fi];rfl
theorem aW.len {B:Addr} {O:Addr→Prop} {H:Hp} {l:List (Key×PV)} {ks:List (Key×V)} (r:aW B O H l ks):l.length=ks.length:=by simpa using congrArg List.length r.1
section
variable {φ:cM} {X:Cx} {e o i a b:Expr} {pos:Pos} {md mk mv:ae→M PV}
def qH:PV→PV→M PV
 | .cL l,y=>(M.bO (pR y)).bind fun k=>M.bO (jm l k)
 |_,_=>.fail
theorem rX {α:Type} {o:Option α} {n:Nat} {R:α→Nat→Prop} (w:(M.bO o).wp n R): ∃ y,o=some y∧R y n:=by
 cases o with
 |none=>exact w.elim
 |some y=>exact⟨y,rfl,w⟩
theorem Fo (h:BE X e (Gm (qT φ md) (qT φ mk))):EV φ X e (ab qH md mk):=BE.mono h fun σ H Q bt=>by
 obtain⟨G,O,ρ,n,R,s,w,q⟩:=bt
 unfold ab at w
 rw[M.wZ] at w
 refine⟨G,O,ρ,n,_,s,w,fun y x H1 n1 e1 a9 r1 w1=>?_⟩
 have s1:=s.ext e1 a9
 rw[M.wZ] at w1
 refine⟨G,O,ρ,n1,_,s1,w1,fun z x' H2 n2 e2 nF r2 w2=>?_⟩
 cases y<;>first|exact w2.elim|skip
 rename_i l
 unfold qH at w2
 rw[M.wZ] at w2
 obtain⟨k,ek,w2⟩:=rX w2
 obtain⟨v,ev,w2⟩:=rX w2
 obtain⟨p,ks,rfl,hd,rr⟩:=(r1.ext s.B e2).yP
 rcases rr.val k with⟨z1,_⟩|⟨v',xv,z1,z2,rv⟩
 ·rw[z1] at ev;cases ev
 ·rw[z1] at ev;cases ev
  exact⟨p,xv,rfl,.inl ⟨ks,k,hd,nU r2 ek,z2.symm⟩,q _ _ _ _ (e1.trans e2) nF rv w2⟩
def oD (neg:Bool):PV→PV→M PV
 |y,.cL l=>(M.bO (pR y)).bind fun k=>.ret (.bl ((jm l k).isSome !=neg))
 |_,_=>.fail
theorem uY {neg:Bool} {σ:St} {H:Hp} {Q:VK} (h:o4 φ (ab (oD neg) mk md) σ H Q):qT φ mk σ H fun y H1=>qT φ md σ H1 fun x H2=> ∃ a o,x= .ref a∧Ao H2 a y o∧Q (.bl (o.isSome !=neg)) H2:=by
 obtain⟨G,O,ρ,n,R,s,w,q⟩:=h
 unfold ab at w
 rw[M.wZ] at w
 refine⟨G,O,ρ,n,_,s,w,fun z x' H1 n1 e1 a9 r1 w1=>?_⟩
 have s1:=s.ext e1 a9
 rw[M.wZ] at w1
 refine⟨G,O,ρ,n1,_,s1,w1,fun y x H2 n2 e2 nF r2 w2=>?_⟩
 cases y<;>first|(simp only[oD] at w2;exact w2.elim)|skip
 rename_i l
 have w2':((M.bO (pR z)).bind fun k=>M.ret (.bl ((jm l k).isSome !=neg)):M PV).wp n2 R:=by cases z<;>exact w2
 rw[M.wZ] at w2'
 obtain⟨k,ek,w2'⟩:=rX w2'
 obtain⟨p,ks,rfl,hd,rr⟩:=r2.yP
 refine⟨p,ka ks k,rfl,.inl ⟨ks,k,hd,nU (r1.ext s.B e2) ek,rfl⟩,q _ _ _ _ (e1.trans e2) nF (.bl _) ?_⟩
 have e3:(ka ks k).isSome=(jm l k).isSome:=by
  rcases rr.val k with⟨z1,z2⟩|⟨_,_,z1,z2,_⟩<;>simp[z1,z2]
 rw[e3]
 exact w2'
theorem JF (hu:X.A.units+1 < cLine) (hk:EB φ X a mk) (hd:EB φ X b md) (hm:behindInMarks .In b=false):EV φ X (.Compare a [.In] [b] pos) (ab (oD false) mk md):=
 BE.mono ⟨HY (BD hu hk.out hd.out) hm⟩ fun σ H Q h=>by
  obtain h:=uY h
  unfold Hs
  simpa only[Bool.bne_false] using h
theorem Hk (hu:X.A.units+1 < cLine) (hk:EB φ X a mk) (hd:EB φ X b md) (hm:behindInMarks .In b=false):TV φ X (.Compare a [.In] [b] pos) (aK (ab (oD false) mk md)):=
 BT.mono ⟨HQ (BD hu hk.out hd.out) hm⟩ (tf fun σ H Q h=>by
  obtain h:=uY h
  unfold Hs
  simpa only[Bool.bne_false] using h)
theorem FK (hu:X.A.units+1 < cLine) (ho:EB φ X o md) (hi:EB φ X i mk) (hs:JO i):EV φ X (.Subscript o i pos) (ab qH md mk):=Fo ⟨Eo hu ho.out hi.out hs⟩
end
section
variable {φ:cM} {X:Cx} {st:Stmt}
def BJ (k:Nat):ae→M Fl:=fun ρ=>.ret (.nx (ρ.set k (.bp [])))
theorem DX {k:Nat} (h:BS X st (hW AS (cJ k))):SV φ X st (BJ k):=BS.mono h fun D σ H ⟨G,O0,H0,O,ρ,n,s,w⟩ p hp=>
 w _ _ _ (s.ML k (Ext.new hp _) (Bg.new s.es.ok hp _) hp ar aW.nil)
def l9 (k:Nat) (mk mv:ae→M PV):ae→M Fl:=fun ρ=>(mv ρ).bind fun y=>match ρ[k]? with|some (.bp l)=>(mk ρ).bind fun z=>(M.bO (pR z)).bind fun key=>if l.length < 100000 then .ret (.nx (ρ.set k (.bp (pC l key y)))) else .fail|_=>.fail
theorem DW {k:Nat} {mk mv:ae→M PV} (h:BS X st (A7 (mX k) (qT φ mk) (o4 φ mv))):SV φ X st (l9 k mk mv):=BS.mono h fun D σ H bt=>by
 obtain⟨G,O0,H0,O,ρ,n,s,w⟩:=bt
 unfold l9 at w
 rw[M.wZ] at w
 refine⟨G,O,ρ,n,_,s.es,w,fun y x H1 n1 e1 a9 r1 w1=>?_⟩
 have s1:=s.to e1 a9
 cases hk:ρ[k]? with
 |none=>simp only[hk] at w1;exact w1.elim
 |some t=>
  cases t with
  |bp l=>
   simp only[hk] at w1
   obtain⟨p,xs,hx,hO,np,hh,rr⟩:=s1.es.er.2 k _ hk
   have hs:=dw s.es.er hk hx
   have npB:p≠G.B:=fun z=>np (z▸G.pB)
   rw[M.wZ] at w1
   refine⟨_,hs,G,O,ρ,n1,_,s1.es,w1,fun i x2 H2 n2 e2 nF r2 w2=>?_⟩
   rw[M.wZ] at w2
   obtain⟨key,ek,w2⟩:=rX w2
   by_cases c:l.length < 100000
   ·rw[OG c] at w2
    have s2:=s1.to e2 nF
    have hh2:H2 p=some (.dK xs):=e2 p _ npB hh
    refine⟨p,_,rfl,.inl ⟨xs,key,hh2,nU r2 ek,?_,rfl⟩,w2 O _ _ (s2.putD hk hs ((rr.ext s.es.B e2).put (r1.ext s.es.B e2)))⟩
    rw[←rr.len,Ox];lia
   ·rw[OH c] at w2;exact w2.elim
  |_=>simp only[hk] at w1;exact w1.elim
theorem FH {o i value:Expr} {pos pos':Pos} {td ty tv:TE} (hu:X.A.units+1 < cLine) (ho:BE X o td) (hi:BE X i ty) (hv:BE X value tv) (hs:swapsWith value (some (.Subscript o i pos')) pos.line X.env=pure false:=by rfl):
  BS X (.Assign [.Subscript o i pos'] value pos) (A7 td ty tv):=⟨Ej hu ho.out hi.out hv.out hs⟩
end
def DK (ks:List (Key×V)) (u:HO):Prop:=u= .dK ks∨∃ o,u= .eF o (.dK ks)
theorem DK.rd {H:Hp} {p:Addr} {ks:List (Key×V)} {u:HO} (h:DK ks u) (e:H p=some u):Rd H p (.dK ks):=by
 rcases h with rfl|⟨o,rfl⟩
 ·exact .inl e
 ·exact .inr ⟨o,e⟩
theorem DK.Lj {ks:List (Key×V)} {u:HO} (h:DK ks u): ¬ JP u:=by
 rcases h with rfl|⟨o,rfl⟩<;>exact id
section
variable {B:Addr} {O:Addr→Prop} {H:Hp} {p:Addr} {ks:List (Key×V)} {u u':HO}
theorem Rep.fK {y:PV} {x:V} (r:Rep B O H y x) (e:H p=some u) (d:DK ks u) (d':DK ks u'):Rep B O (upd H p u') y x:=by
 have ne: ∀ q v,H q=some v→¬ DK ks v→upd H p u' q=some v:=fun q v g nd=>by
  rw[ag (fun z=>by subst z;rw[e] at g;cases g;exact nd d)];exact g
 induction r with
 |aE=>exact .aE
 |bl b=>exact .bl b
 |int i=>exact .int i
 |str x=>exact .str x
 |tup hO h hl hr ih=>exact .tup hO (ne _ _ h (fun z=>by rcases z with z|⟨_,z⟩<;>cases z)) hl ih
 |lst hO h hl hr ih=>exact .lst hO (ne _ _ h (fun z=>by rcases z with z|⟨_,z⟩<;>cases z)) hl ih
 |tD hO h=>
  obtain⟨o,h⟩:=h
  exact .tD hO ⟨o,ne _ _ h (fun z=>by rcases z with z|⟨_,z⟩<;>cases z)⟩
 | @cL q ks' l hO h hl hr ih=>
  by_cases c:q=p
  ·subst c
   obtain rfl:=Ba h (d.rd e)
   exact .cL hO (d'.rd ar) hl ih
  ·refine .cL hO ?_ hl ih
   rcases h with h|⟨o,h⟩
   ·exact .inl (by rw[ag c];exact h)
   ·exact .inr ⟨o,by rw[ag c];exact h⟩
 |br=>exact .br
theorem kF {O0 O:Addr→Prop} {q:Addr} (h:q≠p):hide O0 O (upd H p u') q=hide O0 O H q:=by
 unfold hide
 by_cases c:O q∧¬ O0 q
 ·rw[OG c,OG c]
 ·rw[OH c,OH c,ag h]
end
section
variable {φ:cM} {G:Bg φ} {O0 O O':Addr→Prop} {H Ha Hx:Hp} {σ:St} {ρ:ae} {n:Nat} {p:Addr} {ks:List (Key×V)} {u u':HO}
theorem Ext.fK (nO: ¬ O p) (x:Ext G.B (hide O0 O Ha) Hx):Ext G.B (hide O0 O (upd Ha p u')) (upd Hx p u'):=fun q v nb h=>by
 by_cases c:q=p
 ·subst c
  rw[eQ (fun z=>nO z.1),ar] at h
  cases h
  exact .of ar
 ·rw[kF c] at h
  exact(x q v nb h).to fun v e=>.of (by rw[ag c];exact e)
theorem Bg.fK (ok:G.ok Hx n) (np: ¬ G.bY p) (e:Hx p=some u) (d:DK ks u):G.ok (upd Hx p u') n:=G.keep Hx _ _ (fun q v hq hv=>by
 have bP:q≠p:=fun z=>by
  rcases hq with hq|hq
  ·exact np (z▸hq)
  ·rw[z,e] at hv;cases hv;exact d.Lj hq
 rw[ag bP];exact hv) ok
theorem SI.fK (s:SI G O0 (hide O0 O Ha) O' Hx σ ρ n) (nO: ¬ O p) (nO': ¬ O' p) (e:Hx p=some u) (d:DK ks u) (d':DK ks u'):SI G O0 (hide O0 O (upd Ha p u')) O' (upd Hx p u') σ ρ n:=by
 have np: ¬ G.bY p:=fun z=>nO' (s.es.pr p z)
 have ne: ∀ q,O' q→q≠p:=fun q h z=>nO' (z▸h)
 refine⟨⟨⟨s.es.er.1,fun i t ht=>?_⟩,Bg.fK s.es.ok np e d,s.es.pr,fun q hq=>?_⟩,s.p0,s.sub,Ext.fK nO s.ext,fun q hq=>?_,fun q hq=>?_,fun i q h=>?_,s.dj⟩
 ·have r1:=s.es.er.2 i t ht
  cases t with
  |un=>trivial
  |val y=>obtain⟨v,hv,rr⟩:=r1;exact⟨v,hv,rr.fK e d d'⟩
  |own t=>
   obtain⟨q,ys,hv,hq,nq,hh,rr⟩:=r1
   exact⟨q,ys,hv,hq,nq,by rw[ag (ne q hq)];exact hh,rr.1,fun i a b c f=>(rr.2 i a b c f).fK e d d'⟩
  |bp t=>
   obtain⟨q,ys,hv,hq,nq,hh,rr⟩:=r1
   exact⟨q,ys,hv,hq,nq,by rw[ag (ne q hq)];exact hh,rr.1,fun i a b c f=>(rr.2 i a b c f).fK e d d'⟩
 ·obtain⟨v,g⟩:=s.es.dm q hq
  exact⟨v,by rw[ag (ne q hq)];exact g⟩
 ·rw[kF (ne q hq)];exact s.gr q hq
 ·rw[kF (ne q (s.sub q hq))];exact s.d0 q hq
 ·rw[kF (ne q (eo s.es h).1)];exact s.fr i q h
end
section
variable {φ:cM} {X:Cx} {st:Stmt}
def uJ:PV→M (List PV)
 | .cL l=>.ret (l.map fun kv=>zP kv.1)
 |_=>.fail
theorem He {H:Hp} {p:Addr} {u:HO} (e:H p=some u):upd H p u=H:=by
 funext q
 by_cases c:q=p
 ·subst c;rw[ar,e]
 ·rw[ag c]
theorem Kg.dk {d:Addr} {o:Obj} {ks:List (Key×V)} {u:HO} (h:Kg X d o ks u):DK ks u:=by
 rcases h with⟨rfl,_⟩|rfl
 ·exact .inl rfl
 ·exact .inr ⟨o,rfl⟩
theorem DV {mi:ae→M PV} {bd:PV→ae→M ae} {mb:ae→M Fl} (h:BS X st (fun D σ H=>zc (Cr X (o4 φ mi)) (Mh φ bd) (Gh φ mb) (D.qS X) σ H)):SV φ X st (aP (fun ρ=>(mi ρ).bind uJ) bd mb):=BS.mono h fun D σ H bt=>by
 obtain⟨G,O0,H0,O,ρ,n,s,w⟩:=bt
 unfold aP at w
 rw[M.bZ,M.wZ] at w
 refine⟨G,O,ρ,n,_,s.es,w,fun y x H1 n1 e1 a9 r1 w1=>?_⟩
 cases y<;>first|exact w1.elim|skip
 rename_i l0
 obtain⟨l,hl⟩: ∃ l,l=l0.map fun kv=>zP kv.1:=⟨_,rfl⟩
 replace w1:(bD bd mb l ρ).wp n1 (fun f n'=>oZ G O0 H0 D n' f):=by rw[hl];exact w1
 cases r1 with
 | @cL p ks _ hO hd hk hr=>
 refine⟨p,ks,rfl,hd,fun o u eu wu=>?_⟩
 have s1:=s.to e1 a9
 have sf:SI G O0 (hide O0 O (upd H1 p (.eF o (.dK ks)))) O (upd H1 p (.eF o (.dK ks))) σ ρ n1:=s1.now.fK hO hO eu wu.dk (.inr ⟨o,rfl⟩)
 have nB:p≠G.B:=fun z=>hO (z▸s.es.B)
 have hlen:l.length=ks.length:=by rw[hl,NT];simpa using congrArg List.length hk
 have hid: ∀ q:Addr,hide O0 O (upd (upd H1 p (.eF o (.dK ks))) p u) q=hide O0 O H1 q:=fun q=>by rw[DP,He eu]
 have hid':hide O0 O (upd (upd H1 p (.eF o (.dK ks))) p u)=hide O0 O H1:=funext hid
 have hpf:hide O0 O (upd H1 p (.eF o (.dK ks))) p=some (.eF o (.dK ks)):=by rw[eQ (fun z=>hO z.1)];exact ar
 have at_: ∀ {H3:Hp},Ext G.B (hide O0 O (upd H1 p (.eF o (.dK ks)))) H3→H3 p=some (.eF o (.dK ks)):=fun x=>x p _ nB hpf
 have nO': ∀ {O':Addr→Prop} {H':Hp} {σ':St} {ρ':ae} {n':Nat},SI G O0 (hide O0 O (upd H1 p (.eF o (.dK ks)))) O' H' σ' ρ' n'→¬ O' p:=fun x z=>by
  rcases x.gr p z with g|g
  ·exact hO (s.sub p g)
  ·rw[hpf] at g;cases g
 have thw: ∀ {O':Addr→Prop} {H':Hp} {σ':St} {ρ':ae} {n':Nat},SI G O0 (hide O0 O (upd H1 p (.eF o (.dK ks)))) O' H' σ' ρ' n'→SI G O0 H0 O' (upd H' p u) σ' ρ' n':=fun x=>by
  have q:=x.fK hO (nO' x) (at_ x.ext) (.inr ⟨o,rfl⟩) wu.dk
  rw[hid'] at q
  exact s1.back q
 refine⟨fun i m σ' H'=>m=l.length - i∧i≤l.length∧∃ (O':Addr→Prop) (ρ':ae) (n':Nat),SI G O0 (hide O0 O (upd H1 p (.eF o (.dK ks)))) O' H' σ' ρ' n'∧(bD bd mb (l.drop i) ρ').wp n' (fun f n'=>oZ G O0 H0 D n' f),
  ⟨l.length,by simp,Ol _,O,ρ,n1,sf,by simpa using w1⟩,?_⟩
 rintro i m σ' H' ⟨rfl,hi,O',ρ',n',s',w'⟩
 have hp':=at_ s'.ext
 by_cases cU:i < l.length
 ·have iX:l.drop i=l[i]::l.drop (i+1):=List.drop_eq_getElem_cons cU
  rw[iX] at w'
  unfold bD at w'
  refine .inr ⟨⟨hp',by lia⟩,fun σ2 H2=> ∃ (O':Addr→Prop) (ρ':ae) (n':Nat),SI G O0 (hide O0 O (upd H1 p (.eF o (.dK ks)))) O' H2 σ2 ρ' n'∧(bD bd mb (l.drop (i+1)) ρ').wp n' (fun f n'=>oZ G O0 H0 D n' f),fun σ2 H2 hh=>⟨l.length - (i+1),by lia,rfl,cU,hh⟩,fun x H2 yl=>?_⟩
  obtain⟨eH,k,ek,rfl⟩:=yl
  subst eH
  have elk:l[i]=zP k:=by
   have g:l[i]?=some (zP k):=by
    have g0:(l0.map fun x=>x.1)[i]?=some k:=by rw[hk];exact ek
    rw[Oc] at g0
    rw[hl,Oc]
    cases c:l0[i]? with
    |none=>rw[c] at g0;cases g0
    |some z=>
     rw[c] at g0
     have g1:z.1=k:=OK g0
     show some (zP z.1)=_
     rw[g1]
   rw[NQ cU] at g
   exact OK g
  rw[M.wZ] at w'
  refine⟨G,O0,_,O',ρ',n',_,l[i],s',by rw[elk];exact Ck k,w',fun σ2 ρ2 n2 s2 w2=>?_⟩
  rw[M.wZ] at w2
  refine⟨G,O0,_,O',ρ2,n2,s2,M.wp_mono w2 fun f n3 w3=>?_⟩
  cases f with
  |nx ρ3=>exact fun O3 σ3 H3 s3=>⟨O3,ρ3,n3,s3,w3⟩
  |ct ρ3=>exact fun O3 σ3 H3 s3=>⟨O3,ρ3,n3,s3,w3⟩
  |bk ρ3=>exact fun O3 σ3 H3 s3=>⟨p,o,ks,u,at_ s3.ext,wu,w3 O3 σ3 _ (thw s3)⟩
  |rt y=>exact fun x3 H3 e3 ok3 r3=>⟨p,o,ks,u,at_ e3,wu,w3 x3 _ (by
    have q:=Ext.fK (u':=u) hO e3
    rw[hid'] at q
    exact s1.base.trans q) (Bg.fK ok3 (fun z=>hO (s.es.pr p z)) (at_ e3) (.inr ⟨o,rfl⟩)) (r3.fK (at_ e3) (.inr ⟨o,rfl⟩) wu.dk)⟩
 ·have e:i=l.length:=by lia
  subst e
  rw[List.drop_length] at w'
  exact .inl ⟨⟨hp',by lia⟩,p,o,ks,u,hp',wu,w' O' σ' _ (thw s')⟩
theorem FG {tg iter:Expr} {body:List Stmt} {td:TE} {g:TG} {tb:TS} {pos:Pos} (hp:PassesOwn (model X.prog X.w) X.A X.env X.xe) (hc:X.calm=true) (hi:BE X iter td) (hg:BG X tg g) (hb:DC X body tb)
  (hs: ∀ x,foldedSetIterable iter X.env x=pure x:=by intro _;rfl):BS X (.For tg iter body [] pos) (fun D σ H=>zc (Cr X td) g tb (D.qS X) σ H):=⟨Eh (rJ hp hc (Em hi.out) hg.out hb.out hs)⟩
end
section
open AutoSeq1 (wpAny_loadPart')
theorem zJ (l:Addr) (items:Array Value) (n:Nat) (cL:Option Addr) (sl:Array (Option Value)):
  Meets (Builtin.«enumerate.__new__» ⟨[.type "enumerate",.ref l],[]⟩) (fun _ R s=>s.heap.get? l=some {cls:=.type "tuple",dict:=cL,data:=.seq items n,slots:=sl}∧
   R (.ok (.ret (.ref (s.heap.push {cls:=.type "tuple_iterator",data:=.fields #[.ref l,.int 0 0]}).objs.size)))
    {s with heap:=(s.heap.push {cls:=.type "tuple_iterator",data:=.fields #[.ref l,.int 0 0]}).push {cls:=.type "enumerate",data:=.fields #[.none,.bool false,.ref s.heap.objs.size,rawInt 0,.none,.none]}}):=
 .of_wp fun prog w A R s h=>by
  obtain⟨hp,g,d,tk,os⟩:=s;obtain⟨hl,h⟩:=h
  have hsub:=sub_enumerate
  have hL:Heap.IsTuple (Shared.heap ⟨hp,g,d,tk,os⟩) l items:=⟨_,hl,rfl,n,rfl⟩
  wp_walk using wpAny_loadPart' hl
  refine wpAny_stack_any fun st=>NW ?_
  split
  ·rename_i c _ _ _ _ _
   cases (c==Value.type "enumerate")
   ·wp_walk using wpAny_loadPart' hl,wpAny_pyIter_tuple hL
    exact⟨_,rfl,h⟩
   ·wp_walk using wpAny_loadPart' hl,wpAny_pyIter_tuple hL
    exact⟨_,rfl,h⟩
  ·wp_walk using wpAny_loadPart' hl,wpAny_pyIter_tuple hL
   exact⟨_,rfl,h⟩
section
variable {prog:Program} {w:World} {A:Around} {E:Value→Shared→Prop} {s:Shared}
theorem i3 {l:Addr} {items:Array Value} {Q:Value→Shared→Prop} (hL:s.heap.IsTuple l items)
  (h: ∀ h',IsEnum h' (s.heap.objs.size+1) s.heap.objs.size 0 .none→h'.IsTupleIter s.heap.objs.size l 0→h'.objs.size=s.heap.objs.size+2→
   (∀ b o,s.heap.get? b=some o→h'.get? b=some o)→Q (.ref (s.heap.objs.size+1)) {s with heap:=h'}):
  wpAny (model prog w) A (call (.type "enumerate") [.ref l]) Q E s:=by
 obtain⟨⟨c,cL,dt,sl⟩,hl,hc,n,hd⟩:=hL
 replace hc:c= .type "tuple":=hc
 replace hd:dt= .seq items n:=hd
 subst hc hd
 refine callType_new F.called_enumerate (by decide) (F.typeCall_enumerate_1 _) (F.newCall_enumerate_1 _) (fun obj=>F.args_object_init_2 obj _) F.entry_enumerate_new
  (zJ l items n cL sl) ⟨hl,?_⟩
 have hz:(s.heap.push {cls:=.type "tuple_iterator",data:=.fields #[.ref l,.int 0 0]}).objs.size=s.heap.objs.size+1:=Heap.size_push ..
 show _∧_
 rw[hz]
 have he:IsEnum ((s.heap.push {cls:=.type "tuple_iterator",data:=.fields #[.ref l,.int 0 0]}).push
   {cls:=.type "enumerate",data:=.fields #[.none,.bool false,.ref s.heap.objs.size,rawInt 0,.none,.none]}) (s.heap.objs.size+1) s.heap.objs.size 0 .none:=by
  have:=N6 (s.heap.push {cls:=.type "tuple_iterator",data:=.fields #[.ref l,.int 0 0]})
   (o:={cls:=.type "enumerate",data:=.fields #[.none,.bool false,.ref s.heap.objs.size,rawInt 0,.none,.none]}) rfl
  rw[hz] at this;exact this
 refine⟨⟨_,he,rfl⟩,h _ he ⟨_,NU _ (N6 _ rfl),rfl,rfl⟩ (by rw[Heap.size_push,hz]) fun b o x=>NU _ (NU _ x)⟩
theorem tJ {h h':Heap} {l:Addr} {items:Array Value} (p:h.IsTuple l items) (k: ∀ o,h.get? l=some o→h'.get? l=some o):h'.IsTuple l items:=let ⟨o,e,r⟩:=p;⟨o,k o e,r⟩
theorem Jq (hh:A.handled=none) (it l:Addr) (bP:l≠it) (items:Array Value):
  Draws prog w A it [it,l] items.size (fun i v=>items[i]?=some v) (fun i h=>h.IsTupleIter it l i∧h.IsTuple l items) where
 live:=fun _ _ st=>let ⟨o,ho,_⟩:=st.1;⟨o,ho⟩
 frame:=fun _ _ _ st hk=>⟨st.1.at fun o e=>hk it (by simp) o e,tJ st.2 fun o e=>hk l (by simp) o e⟩
 item:=fun i s Q E hi st hQ=>by
  refine Ip st.1 st.2 (x:=items[i]) (by simp[hi]) fun h' hit' hs'=>?_
  exact hQ _ h' s.toks (by simp[hi]) ⟨hit',tJ st.2 fun o e=>(hs'.2 l bP).trans e⟩ hs'
 done:=fun s Q E st hE=>nG hh st.1 st.2 (by simp) hE
theorem fQ {e it t:Addr} {j:Nat} {i:Int} {old:Value} {items:Array Value} {Q:Option Value→Shared→Prop} (hh:A.in1.handled=none) (he:IsEnum s.heap e it i old) (ht:s.heap.IsTupleIter it t j) (hl:s.heap.IsTuple t items) (hx:items[j]?=none)
  (hQ: ∀ h',Heap.ExtBut it s.heap h'→Q none {s with heap:=h'}):wpAny (model prog w) A (pyNext (.ref e)) Q E s:=by
 have hT:s.TypeIs (.ref e) "enumerate":=⟨_,he,rfl⟩
 unfold pyNext
 refine NR (wpAny_attempt (wpAny_callSpecial?_slot (name:=Str.ofString "__next__") hT F.slot_enumerate_next
  (wpAny_call_entry F.slot_enumerate_next hT F.entry_enumerate_next ?_ (F.args_enumerate_next_1 _))))
 show wpAny _ _ (field (.ref e) 2 >>= _) _ _ _
 refine NR (wpAny_field he rfl (x:=.ref it) rfl ?_)
 refine NR (nG hh ht hl hx fun h' x he' hx'=>?_)
 obtain⟨o,ho,hc⟩:=hx'
 refine NR (wpAny_isInstance (T:="StopIteration") (b:=true) ⟨o,ho,hc⟩ isSubtype_stop ?_)
 exact NW (hQ _ he')
end
def Dy (K:Frag) (a:Addr):It:=
 ⟨fun i H=> ∃ xs x,cN K H a xs∧xs[i]?=some x,fun i H y H'=> ∃ T,y= .ref T∧H T=none∧∀ xs x,cN K H a xs→xs[i]?=some x→H'=upd H T (.tup [.int i,x]),fun i H=> ∃ xs,cN K H a xs∧xs.length≤i⟩
theorem AL {P:Program} {w:World} {K:Frag} {elts:List Expr} {kk:Nat} {pos:Pos} (a e it:Addr) (bP:e≠it):Turn P w K (.Tuple elts kk pos) (Dy K a) [e,it] e (fun i h=>(∃ old,IsEnum h e it i old)∧h.IsTupleIter it a i) where
 mem:=by simp
 obj:=fun i h st b hb=>by
  obtain⟨⟨old,he⟩,o,ho,hc,hd⟩:=st
  have hb':b=e∨b=it:=by simpa using hb
  rcases hb' with rfl|rfl
  ·exact⟨_,he,fun v z=>by cases z⟩
  ·exact⟨o,ho,fun v z=>by rw[hd] at z;cases z⟩
 keep:=fun i h h' st k=>by
  obtain⟨⟨old,he⟩,o,ho,hc,hd⟩:=st
  exact⟨⟨old,k e (by simp) _ he⟩,o,k it (by simp) _ ho,hc,hd⟩
 item:=by
  intro X hP hw hK hc i pZ s σ H E I hf st hg
  subst hP hw hK
  obtain⟨xs,x,hq,hx⟩:=hg
  obtain⟨ay,rv,p,hz⟩:=I.tuple hq
  obtain⟨u,hu,ru⟩:=rv.get hx
  obtain⟨⟨old,he⟩,hit⟩:=st
  have hTu:s.heap.IsTuple a ay.toArray:=p
  have hia:i < ay.toArray.size:=by
   have:=(NY.mp hu).1
   simpa using this
  have hae:a≠e:=fun z=>by
   exact(by obtain⟨o2,ho2,hc2,_⟩:=hTu;have he':=he;rw[←z] at he';unfold IsEnum at he';rw[ho2] at he';cases he';injection hc2 with hc2;exact absurd hc2 (by decide))
  have hai:a≠it:=fun z=>by
   obtain⟨ob,hob,hco,_⟩:=hit
   obtain⟨o2,ho2,hc2,_⟩:=hTu
   rw[←z,ho2] at hob
   cases hob
   rw[hc2] at hco;injection hco with hco;exact absurd hco (by decide)
  refine wpAny_pyNext_enum_itemD (Jq (show X.A.in1.handled=none from I.ok.hd hc) it a hai ay.toArray) he ⟨hit,hTu⟩ hia bP (by
   intro z
   have z':e=it∨e=a:=by simpa using z
   rcases z' with z'|z'
   ·exact bP z'
   ·exact hae z'.symm) fun x' h1 tk hP ho hst1 hT hsz k1=>?_
  have hx':x'=u:=by
   have:ay.toArray[i]?=some u:=by simpa using hu
   rw[this] at hP;exact(OK hP).symm
  subst hx'
  obtain⟨hit1,_⟩:=hst1
  refine⟨_,rfl,wpAny_letOwnedTupleGo_enum (s:={s with heap:=h1,toks:=tk+1}) ho fun h2 he2 s2=>?_⟩
  have lt: ∀ b o,s.heap.get? b=some o→b≠s.heap.objs.size:=fun b o q=>Oo (N9 q)
  have neT:s.heap.objs.size≠e:=fun z=>lt e _ he z.symm
  have hT2:h2.get? s.heap.objs.size=some {cls:=.type "tuple",data:=.seq #[.int i tk,x']}:=(s2.2 _ neT).trans hT
  have I2:=I.xP (t':=tk+1) (h':=h2) (wr:=[e,it]) (T:=s.heap.objs.size) (o:=.tup [.int i,x]) hf (fun b o hb q=>by
   have hb':b≠e∧b≠it:=by simpa using hb
   exact(s2.2 b hb'.1).trans (k1 b o hb'.1 hb'.2 q)) (NZ _) (yh hT2 ⟨_,rfl⟩ ru)
  refine⟨.ref s.heap.objs.size,_,I2,rfl,⟨_,rfl,I.a7.fresh (NZ _),fun ys y hy hyx=>?_⟩,⟨⟨_,by simpa using he2⟩,hit1.at fun o q=>(s2.2 it bP.symm).trans q⟩,fun b hb=>?_⟩
  ·rw[I.p5 hy hq,hx] at hyx
   cases hyx
   rfl
  ·have cU:b≠s.heap.objs.size:=by
    have hb':b=e∨b=it:=by simpa using hb
    rcases hb' with rfl|rfl
    ·exact fun z=>neT z.symm
    ·obtain⟨o,ho',_⟩:=hit
     exact lt _ _ ho'
   rw[ag cU]
   exact(hf b hb).1
 done:=by
  intro X hP hw hK hc i pZ s σ H E I hf st hg
  subst hP hw hK
  obtain⟨xs,hq,hx⟩:=hg
  obtain⟨ay,rv,p,hz⟩:=I.tuple hq
  have hl:=rv.length
  obtain⟨⟨old,he⟩,hit⟩:=st
  have hTu:s.heap.IsTuple a ay.toArray:=p
  have hai:a≠it:=fun z=>by
   obtain⟨ob,hob,hco,_⟩:=hit
   obtain⟨o2,ho2,hc2,_⟩:=hTu
   rw[←z,ho2] at hob
   cases hob
   rw[hc2] at hco;injection hco with hco;exact absurd hco (by decide)
  have hend:ay.toArray[i]?=none:=by simp;lia
  refine fQ (show X.A.in1.handled=none from I.ok.hd hc) he hit hTu hend fun h1 k1=>⟨rfl,I.xQ (t':=s.toks) hf fun b o hb q=>k1 b o (fun z=>hb (by simp[z])) q⟩
 self:=fun _ _ _ _ _ st h=>by
  obtain⟨⟨old,he⟩,_⟩:=st
  exact wpAny_pyIter_enum he h
section
variable {X:Cx} {e e2:Expr} {t1 t2:TE} {elts:List Expr} {kk:Nat} {tpos pos p:Pos} {x:Str}
def IW (K:Frag) (ta:TA):TI:=fun σ H R=>ta σ H fun vs H1=> ∃ a xs,vs=[.ref a]∧cN K H1 a xs∧R (Dy K a) H1
theorem Ji {pZ:List (Addr×Obj)} {σ:St} {H:Hp} {s:Shared} {R:It→Hp→Prop} {a:Addr} {xs:List V} (I:Inv X pZ σ H s) (ha:cN X.K H a xs) (q:R (Dy X.K a) H):
  wpAny (model X.prog X.w) X.A (call (.type "enumerate") [.ref a]) (fun v s1=>wpAny (model X.prog X.w) X.A (pyIter v) (L3 X pZ σ (.Tuple elts kk tpos) R) X.xe s1) X.xe s:=by
 obtain⟨ay,rv,p1,hz⟩:=I.tuple ha
 refine i3 (show s.heap.IsTuple a ay.toArray from p1) fun h1 he hit hsz k1=>?_
 have I1:Inv X pZ σ H {s with heap:=h1}:=I.kept (t':=s.toks) k1
 refine wpAny_pyIter_enum (s:={s with heap:=h1}) he ?_
 refine⟨_,[s.heap.objs.size+1,s.heap.objs.size],_,Dy X.K a,H,rfl,I1,AL a _ _ (Nat.succ_ne_self _),⟨⟨_,he⟩,hit⟩,fun c hc=>?_,q⟩
 have hle:s.heap.objs.size≤c:=by
  rcases N2.mp hc with h|hc
  ·rw[h];exact Nat.le_succ _
  ·rw[Om.mp hc];exact NZ _
 exact I.n9 hle (I.a7.fresh hle)
theorem Bt {ta:TA} (hg:Gl X x) (hm:X.mg x=none) (hv:bootBuiltins x=some (.type "enumerate")) (ha:PA X [e] ta) (hn:x≠"__name__":=by decide) (mE:(x==("__debug__":Str))=false:=by decide)
  (he:starEach [e] X.env=(false,eval e X.env)::starEach [] X.env:=by rfl) (jP:(backTo pos (starEach [] X.env)).any (·.1)=false:=by rfl):PI X (.Tuple elts kk tpos) (.Call (.Name x p) [e] [] pos) (IW X.K ta):=by
 intro pZ s σ H R I h
 refine wpAny_Call_Name_kw (gz I hg hm hv ?_ hn mE)
 refine PyProof.Rows.callWith_type1 (bh (ha pos pZ s σ H _ I h) fun us s1 ⟨vs,H1,I1,r1,q1⟩=>?_) he jP
 obtain⟨a,xs,rfl,h1,q⟩:=q1
 obtain⟨u,rfl,ru⟩:=r1.one
 cases ru
 exact Ji I1 h1 q
end
end
section
variable {φ:cM}
def l7 (l:List PV):List PV:=l.mapIdx fun i x=>PV.tup [.int i,x]
inductive vH (K:Frag) (G:Bg φ) (O:Addr→Prop) (H:Hp):List PV→It→Prop where
 |Ke {a:Addr} {xs:List V} {l:List PV} (na: ¬ O a) (ha:H a=some (.lst xs)) (ra:aJ G.B O H l xs):vH K G O H (l7 l) (GY K a)
 |Jj {a:Addr} {xs:List V} {l:List PV} (na: ¬ O a) (ha:H a=some (.tup xs)) (ra:aJ G.B O H l xs):vH K G O H (l7 l) (Dy K a)
theorem uT {l:List PV} {i:Nat} {y:PV} (h:(l7 l)[i]?=some y): ∃ u,l[i]?=some u∧y= .tup [.int i,u]:=by
 unfold l7 at h
 rw[List.getElem?_mapIdx] at h
 cases e:l[i]? with
 |none=>rw[e] at h;cases h
 |some u=>rw[e] at h;exact⟨u,rfl,(OK h).symm⟩
theorem lI (l:List PV):(l7 l).length=l.length:=by simp[l7]
theorem vH.go {K:Frag} {G:Bg φ} {O:Addr→Prop} {H:Hp} {l:List PV} {J:It} (t:vH K G O H l J) {i:Nat} {y:PV} (hi:l[i]?=some y):J.go i H∧∀ x H2,J.Aq i H x H2→∃ T us vs,x= .ref T∧H T=none∧H2=upd H T (.tup vs)∧y= .tup us∧aJ G.B O H us vs:=by
 cases t with
 | @Ke a xs l1 na ha ra=>
  obtain⟨u,e1,rfl⟩:=uT hi
  obtain⟨x1,hx1,r1⟩:=ra.at e1
  refine⟨⟨xs,x1,bM.of ha,hx1⟩,fun x H2 z=>?_⟩
  obtain⟨T,rfl,hT,q⟩:=z
  exact⟨T,[.int i,u],[.int i,x1],rfl,hT,q xs x1 (bM.of ha) hx1,rfl,.cons (.int _) (.cons r1 .nil)⟩
 | @Jj a xs l1 na ha ra=>
  obtain⟨u,e1,rfl⟩:=uT hi
  obtain⟨x1,hx1,r1⟩:=ra.at e1
  refine⟨⟨xs,x1,cN.of ha,hx1⟩,fun x H2 z=>?_⟩
  obtain⟨T,rfl,hT,q⟩:=z
  exact⟨T,[.int i,u],[.int i,x1],rfl,hT,q xs x1 (cN.of ha) hx1,rfl,.cons (.int _) (.cons r1 .nil)⟩
theorem vH.stop {K:Frag} {G:Bg φ} {O:Addr→Prop} {H:Hp} {l:List PV} {J:It} (t:vH K G O H l J):J.stop l.length H:=by
 cases t with
 | @Ke a xs l1 na ha ra=>exact⟨xs,bM.of ha,by rw[lI,ra.1];exact NZ _⟩
 | @Jj a xs l1 na ha ra=>exact⟨xs,cN.of ha,by rw[lI,ra.1];exact NZ _⟩
section
variable {G:Bg φ} {O0 O:Addr→Prop} {H0 H:Hp} {σ:St} {ρ:ae} {n n':Nat}
theorem SI.Kx {K:Frag} {H1:Hp} {O':Addr→Prop} {σ':St} {ρ':ae} {l:List PV} {J:It} (s:SI G O0 H0 O H σ ρ n) (x:SI G O0 (hide O0 O H) O' H1 σ' ρ' n') (it:vH K G O H l J):vH K G O' H1 l J:=by
 have k: ∀ p o,¬ O p→H p=some o→eX H1 p o∧¬ O' p:=fun p o np hp=>by
  have e:hide O0 O H p=some o:=by rw[eQ (fun z=>np z.1)];exact hp
  refine⟨x.ext p o (fun z=>np (z▸s.es.B)) e,fun z=>?_⟩
  rcases x.gr p z with w|w
  ·exact np (s.sub p w)
  ·rw[w] at e;cases e
 cases it with
 |Ke na ha ra=>exact .Ke (k _ _ na ha).2 (k _ _ na ha).1 (ra.cp k)
 |Jj na ha ra=>exact .Jj (k _ _ na ha).2 (k _ _ na ha).1 (ra.cp k)
end
def Kz (φ:cM) (K:Frag) (m:ae→M (List PV)):TI:=fun σ H Q=> ∃ (G:Bg φ) (O:Addr→Prop) (ρ:ae) (n:Nat) (R:List PV→Nat→Prop),ES G O H σ ρ n∧(m ρ).wp n R∧
 ∀ (l:List PV) (J:It) (H':Hp) (n':Nat),Ext G.B H H'→G.ok H' n'→vH K G O H' l J→R l n'→Q J H'
section
variable {X:Cx} {st:Stmt} {e e2:Expr} {p pos tpos:Pos} {elts:List Expr} {kk:Nat}
def sA:List PV→M (List PV)
 |[.tup l]=>.ret (l7 l)
 |_=>.fail
theorem CQ {l:List PV} {n:Nat} {R:List PV→Nat→Prop} (w:(sA l).wp n R): ∃ l1,l=[.tup l1]:=by
 unfold sA at w
 split at w
 ·exact⟨_,rfl⟩
 ·exact w.elim
theorem JD {ta:TA} (hg:Gl X "enumerate") (hm:X.mg "enumerate"=none) (ha:BA X [e] ta)
  (he:starEach [e] X.env=(false,eval e X.env)::starEach [] X.env:=by rfl) (jP:(backTo pos (starEach [] X.env)).any (·.1)=false:=by rfl):BI X (.Tuple elts kk tpos) (.Call (.Name "enumerate" p) [e] [] pos) (IW X.K ta):=⟨Bt hg hm PyProof.Rows.boot_enumerate ha.out (by decide) (by decide) he jP⟩
theorem M8 {tg iter:Expr} {ml:ae→M (List PV)} (h:BI X tg iter (IW X.K (Mi φ ml))):BI X tg iter (Kz φ X.K fun ρ=>(ml ρ).bind sA):=BI.mono h fun σ H Q bt=>by
 obtain⟨G,O,ρ,n,R,s,w,q⟩:=bt
 rw[M.wZ] at w
 refine⟨G,O,ρ,n,_,s,w,fun l xs H1 n1 e1 a9 r1 w1=>?_⟩
 obtain⟨l1,rfl⟩:=CQ w1
 obtain⟨x1,t1,rfl,a1,r2⟩:=r1.cons_inv
 rw[r2.nil_inv]
 cases a1 with
 |tup na ha la ra=>exact⟨_,_,rfl,cN.of ha,q _ _ _ _ e1 a9 (.Jj na ha ⟨la,ra⟩) w1⟩
theorem DU {mi:ae→M (List PV)} {bd:PV→ae→M ae} {mb:ae→M Fl} (h:BS X st (zc (Kz φ X.K mi) (Mh φ bd) (Gh φ mb))):SV φ X st (aP mi bd mb):=BS.mono h fun D σ H bt=>by
 obtain⟨G,O0,H0,O,ρ,n,s,w⟩:=bt
 unfold aP at w
 rw[M.wZ] at w
 refine⟨G,O,ρ,n,_,s.es,w,fun l J H1 n1 e1 a9 it w1=>?_⟩
 have s1:=s.to e1 a9
 refine⟨fun i m σ' H'=>m=l.length - i∧i≤l.length∧∃ (O':Addr→Prop) (ρ':ae) (n':Nat),SI G O0 (hide O0 O H1) O' H' σ' ρ' n'∧(bD bd mb (l.drop i) ρ').wp n' (fun f n'=>oZ G O0 H0 D n' f),
  ⟨l.length,by simp,Ol _,O,ρ,n1,s1.now,by simpa using w1⟩,?_⟩
 rintro i m σ' H' ⟨rfl,hi,O',ρ',n',s',w'⟩
 have it':=s1.Kx s' it
 by_cases cU:i < l.length
 ·have hget:l[i]?=some l[i]:=NQ cU
  have iX:l.drop i=l[i]::l.drop (i+1):=List.drop_eq_getElem_cons cU
  rw[iX] at w'
  unfold bD at w'
  obtain⟨g1,g2⟩:=it'.go hget
  refine .inr ⟨g1,fun σ2 H2=> ∃ (O':Addr→Prop) (ρ':ae) (n':Nat),SI G O0 (hide O0 O H1) O' H2 σ2 ρ' n'∧(bD bd mb (l.drop (i+1)) ρ').wp n' (fun f n'=>oZ G O0 H0 D n' f),fun σ2 H2 hh=>⟨l.length - (i+1),by lia,rfl,cU,hh⟩,fun x H2 yl=>?_⟩
  obtain⟨T,us,vs,rfl,hT,rfl,ey,rr⟩:=g2 x H2 yl
  have ex:Ext G.B H' (upd H' T (.tup vs)):=Ext.new hT _
  have nT: ¬ O' T:=fun z=>by obtain⟨o,g⟩:=s'.es.dm T z;rw[hT] at g;cases g
  have rx:Rep G.B O' (upd H' T (.tup vs)) l[i] (.ref T):=by
   rw[ey]
   exact .tup nT ar rr.1 (rr.ext s'.es.B ex).2
  rw[M.wZ] at w'
  refine⟨G,O0,_,O',ρ',n',_,l[i],s'.to ex (Bg.new s'.es.ok hT _),rx,w',fun σ2 ρ2 n2 s2 w2=>?_⟩
  rw[M.wZ] at w2
  refine⟨G,O0,_,O',ρ2,n2,s2,M.wp_mono w2 fun f n3 w3=>?_⟩
  cases f with
  |nx ρ3=>exact fun O3 σ3 H3 s3=>⟨O3,ρ3,n3,s3,w3⟩
  |ct ρ3=>exact fun O3 σ3 H3 s3=>⟨O3,ρ3,n3,s3,w3⟩
  |bk ρ3=>exact fun O3 σ3 H3 s3=>w3 O3 σ3 H3 (s1.back s3)
  |rt y=>exact fun x3 H3 e3 ok3 r3=>w3 x3 H3 (s1.base.trans e3) ok3 r3
 ·have e:i=l.length:=by lia
  subst e
  rw[List.drop_length] at w'
  exact .inl ⟨it'.stop,w' O' σ' H' (s1.back s')⟩
end
end
section
variable {φ:cM}
theorem vH.cp {K:Frag} {G G':Bg φ} {O O':Addr→Prop} {H H':Hp} {l:List PV} {J:It} (t:vH K G O H l J) (hB:G'.B=G.B) (k: ∀ p o,¬ O p→H p=some o→eX H' p o∧¬ O' p):vH K G' O' H' l J:=by
 cases t with
 |Ke na ha ra=>exact .Ke (k _ _ na ha).2 (k _ _ na ha).1 (by rw[hB];exact ra.cp k)
 |Jj na ha ra=>exact .Jj (k _ _ na ha).2 (k _ _ na ha).1 (by rw[hB];exact ra.cp k)
section
variable {X:Cx} {e:Expr}
theorem Cb {K:Frag} {js:List (Option Nat)} {mi:ae→M (List PV)} {bd:PV→ae→M ae} {tt:ae→M Bool} {te:ae→M PV}: ∀ σ H Q,Gi φ (bf js mi bd tt te) σ H Q→As js (Kz φ K mi) (DQ φ bd) (xT φ tt) (o4 φ te) σ H Q:=fun σ H Q bt=>by
 obtain⟨G,O,ρ,n,R,s,w,q⟩:=bt
 unfold bf at w
 rw[M.wZ] at w
 refine⟨G,O,ρ,n,_,s,w,fun l J H1 n1 e1 a9 it w1=>fun D hD=>?_⟩
 by_cases hl:l.length≤100000
 case neg=>rw[OH hl] at w1;exact w1.elim
 rw[OG hl] at w1
 have s1:=s.ext e1 a9
 have nD: ¬ O D:=fun z=>by obtain⟨o,g⟩:=s1.dm D z;rw[hD] at g;cases g
 have pD: ¬ G.bY D:=fun z=>nD (s.pr _ z)
 have hBD:D≠G.B:=fun z=>pD (z▸G.pB)
 have bP: ∀ p o,H1 p=some o→p≠D:=fun p o hp z=>by subst z;rw[hD] at hp;cases hp
 let O':Addr→Prop:=fun p=>O p∨p=D
 let G':Bg φ:=G.with D hBD
 have k0: ∀ p o,¬ O p→H1 p=some o→upd H1 D (HO.lst []) p=some o∧¬ O' p:=fun p o np hp=>⟨by rw[ag (bP p o hp)];exact hp,fun z=>by
  rcases z with z|z
  ·exact np z
  ·exact bP p o hp z⟩
 have kD: ∀ (H5:Hp) (o:HO) p u,¬ O' p→H5 p=some u→upd H5 D o p=some u∧¬ O' p:=fun H5 o p u np hp=>⟨by rw[ag (fun z=>np (.inr z))];exact hp,np⟩
 refine⟨fun i m σ' H'=>m=l.length - i∧i≤l.length∧∃ (ys:List V) (zs:List PV) (ρ':ae) (n':Nat),ys.length≤i∧H' D=some (.lst ys)∧aJ G.B O' H' zs ys∧ES G' O' H' σ' ρ' n'∧Ext G.B H1 H'∧vH K G' O' H' l J∧
  (pQ bd tt te (l.drop i) ρ').wp n' (fun t k=>R (zs++t) k),⟨l.length,by simp,Ol _,[],[],c9 js ρ,n1,NZ _,ar,.nil,?_,Ext.new hD _,?_,?_⟩,?_⟩
 ·have er:=oG s1.er js
  refine⟨⟨er.1,fun i e he=>?_⟩,⟨Bg.new a9 hD _,[],ar⟩,fun p z=>?_,fun p z=>?_⟩
  ·have r1:=er.2 i e he
   cases e with
   |un=>trivial
   |val y=>obtain⟨x,hx,rr⟩:=r1;exact⟨x,hx,rr.keep k0⟩
   |own t=>
    obtain⟨p,xs,hx,hp,np,hh,rr⟩:=r1
    exact⟨p,xs,hx,.inl hp,fun z=>by
     rcases z with z|z
     ·exact np z
     ·exact bP p _ hh z,by rw[ag (bP p _ hh)];exact hh,rr.keep k0⟩
   |bp t=>
    obtain⟨p,xs,hx,hp,np,hh,rr⟩:=r1
    exact⟨p,xs,hx,.inl hp,fun z=>by
     rcases z with z|z
     ·exact np z
     ·exact bP p _ hh z,by rw[ag (bP p _ hh)];exact hh,rr.keep k0⟩
  ·rcases z with z|z
   ·exact .inl (s.pr p z)
   ·exact .inr z
  ·rcases z with z|z
   ·obtain⟨o,g⟩:=s1.dm p z;exact⟨o,by rw[ag (bP p o g)];exact g⟩
   ·subst z;exact⟨_,ar⟩
 ·exact it.cp rfl fun p o np hp=>⟨.of (k0 p o np hp).1,(k0 p o np hp).2⟩
 ·simpa using w1
 ·rintro i m σ' H' ⟨rfl,hi,ys,zs,ρ',n',hy,hDy,rz,s',ex,it',w'⟩
  by_cases cU:i < l.length
  ·have hget:l[i]?=some l[i]:=NQ cU
   have iX:l.drop i=l[i]::l.drop (i+1):=List.drop_eq_getElem_cons cU
   rw[iX] at w'
   unfold pQ at w'
   obtain⟨g1,g2⟩:=it'.go hget
   refine .inr ⟨g1,fun x H2 yl=>?_⟩
   obtain⟨T,us,vs,rfl,hT,rfl,ey,rr⟩:=g2 x H2 yl
   have e0:Ext G.B H' (upd H' T (.tup vs)):=Ext.new hT _
   have nT: ¬ O' T:=fun z=>by obtain⟨o,g⟩:=s'.dm T z;rw[hT] at g;cases g
   have DT:upd H' T (.tup vs) D=some (.lst ys):=by rw[ag (aD hDy hT)];exact hDy
   have s'':=s'.ext e0 (Bg.new s'.ok hT _)
   have rx:Rep G'.B O' (upd H' T (.tup vs)) l[i] (.ref T):=by
    rw[ey]
    exact .tup nT ar rr.1 (rr.ext s'.B e0).2
   have itT:vH K G' O' (upd H' T (.tup vs)) l J:=it'.cp rfl fun p o np hp=>⟨e0 p o (fun z=>np (.inl (z▸s.B))) hp,np⟩
   have rzT:=rz.ext (.inl s.B) e0
   have exT:=ex.trans e0
   rw[M.wZ] at w'
   refine⟨G',O',ρ',n',_,l[i],s'',rx,w',fun σ2 ρ2 n2 s2 w2=>?_⟩
   rw[M.wZ] at w2
   refine⟨G',O',ρ2,n2,_,s2,w2,fun ok H4 n4 e4 ok4 w4=>?_⟩
   have D4:H4 D=some (.lst ys):=e4 D _ hBD DT
   have it4:vH K G' O' H4 l J:=itT.cp rfl fun p o np hp=>⟨e4 p o (fun z=>np (.inl (z▸s.B))) hp,np⟩
   cases ok with
   |true=>
    simp only[if_true] at w4 ⊢
    rw[M.wZ] at w4
    refine⟨G',O',ρ2,n4,_,s2.ext e4 ok4,w4,fun z x5 H5 n5 e5 ok5 r5 w5=>?_⟩
    have D5:H5 D=some (.lst ys):=e5 D _ hBD D4
    rw[M.wZ] at w5
    have s5:=s2.ext (e4.trans e5) ok5
    have it5:vH K G' O' H5 l J:=it4.cp rfl fun p o np hp=>⟨e5 p o (fun z=>np (.inl (z▸s.B))) hp,np⟩
    refine⟨ys,D5,by rw[Ox];lia,l.length - (i+1),by lia,rfl,cU,ys++[x5],zs++[z],ρ2,n5,by simp;lia,ar,?_,?_,?_,?_,?_⟩
    ·exact((rzT.ext (.inl s.B) (e4.trans e5)).append (.cons r5 .nil)).keep (kD H5 _)
    ·refine⟨⟨s5.er.1,fun j e he=>?_⟩,⟨G.keep H5 _ _ (fun p o hp hpo=>by
      have hpd:p≠D:=fun z=>by
       rcases hp with hp|hp
       ·exact pD (z▸hp)
       ·rw[z,D5] at hpo;cases hpo;exact hp
      rw[ag hpd];exact hpo) ok5.1,_,ar⟩,s5.pr,fun p hp=>?_⟩
     ·have r1:=s5.er.2 j e he
      cases e with
      |un=>trivial
      |val y=>obtain⟨x,hx,rr⟩:=r1;exact⟨x,hx,rr.keep (kD H5 _)⟩
      |own t=>
       obtain⟨p,xs,hx,hp,np,hh,rr⟩:=r1
       exact⟨p,xs,hx,hp,np,by rw[ag (fun z=>np (.inr z))];exact hh,rr.keep (kD H5 _)⟩
      |bp t=>
       obtain⟨p,xs,hx,hp,np,hh,rr⟩:=r1
       exact⟨p,xs,hx,hp,np,by rw[ag (fun z=>np (.inr z))];exact hh,rr.keep (kD H5 _)⟩
     ·by_cases hpd:p=D
      ·subst hpd;exact⟨_,ar⟩
      ·obtain⟨o,g⟩:=s5.dm p hp;exact⟨o,by rw[ag hpd];exact g⟩
    ·intro p o np hp
     exact((exT.trans (e4.trans e5)) p o np hp).to fun u e=>.of (by rw[ag (bP p o hp)];exact e)
    ·exact it5.cp rfl fun p o np hp=>⟨.of (kD H5 _ p o np hp).1,np⟩
    ·refine M.wp_mono w5 fun t k' hk=>?_
     have hk':R (zs++z::t) k':=hk
     simpa using hk'
   |false=>
    exact⟨l.length - (i+1),by lia,rfl,cU,ys,zs,ρ2,n4,by lia,D4,rzT.ext (.inl s.B) e4,s2.ext e4 ok4,exT.trans e4,it4,w4⟩
  ·have e:i=l.length:=by lia
   subst e
   refine .inl ⟨it'.stop,?_⟩
   rw[List.drop_length] at w'
   have w2:R (zs++[]) n':=w'
   rw[List.append_nil] at w2
   exact q zs D ys H' n' (e1.trans ex) s'.ok.1 (eN e1 a9 hD) hDy rz w2
theorem Jk {js:List (Option Nat)} {mi:ae→M (List PV)} {bd:PV→ae→M ae} {tt:ae→M Bool} {te:ae→M PV} (h:BE X e (As js (Kz φ X.K mi) (DQ φ bd) (xT φ tt) (o4 φ te))):EF φ X e (bf js mi bd tt te):=BE.mono h Cb
theorem yY {st:Stmt} {k:Nat} {js:List (Option Nat)} {mi:ae→M (List PV)} {bd:PV→ae→M ae} {tt:ae→M Bool} {te:ae→M PV} (h:BS X st (hW (As js (Kz φ X.K mi) (DQ φ bd) (xT φ tt) (o4 φ te)) (cJ k))):BS X st (hW (Gi φ (bf js mi bd tt te)) (cJ k)):=
 BS.mono h fun D σ H q=>Cb σ H _ q
end
end
abbrev eE (xs:Array Nat):Prop:=xs.toList.Pairwise (· < ·)
theorem eE.lt {xs:Array Nat} (h:eE xs) {i j a b:Nat} (hij:i < j) (ha:xs[i]?=some a) (hb:xs[j]?=some b):a < b:=by
 obtain⟨hi,rfl⟩:=Array.getElem?_eq_some_iff.mp ha
 obtain⟨hj,rfl⟩:=Array.getElem?_eq_some_iff.mp hb
 have:=List.pairwise_iff_getElem.mp h i j (by simpa using hi) (by simpa using hj) hij
 simpa using this
theorem oK {xs:Array Nat} {j:Nat} (h:eE xs): ∀ (fuel lo hi:Nat),lo≤hi→hi≤xs.size→hi - lo≤fuel→(∀ i a,i < lo→xs[i]?=some a→a < j)→(∀ i a,hi≤i→xs[i]?=some a→j≤a)→
  SetTable.below.go xs j fuel lo hi≤xs.size∧(∀ i a,i < SetTable.below.go xs j fuel lo hi→xs[i]?=some a→a < j)∧∀ i a,SetTable.below.go xs j fuel lo hi≤i→xs[i]?=some a→j≤a
 |0,lo,hi,h1,h2,h3,h4,h5=>by
  have:lo=hi:=by lia
  subst this
  exact⟨h2,h4,h5⟩
 |fuel+1,lo,hi,h1,h2,h3,h4,h5=>by
  unfold SetTable.below.go
  by_cases c:lo < hi
  ·rw[OG c]
   have hm:(lo+hi) / 2 < hi:=by lia
   have hm2:lo≤(lo+hi) / 2:=by lia
   have e:xs[(lo+hi) / 2]?=some xs[(lo+hi) / 2]:=Oj (by lia)
   have eg:xs.getD ((lo+hi) / 2) j=xs[(lo+hi) / 2]:=by
    rw[Oe,e]
    rfl
   dsimp only
   rw[eg]
   by_cases d:xs[(lo+hi) / 2] < j
   ·rw[OG d]
    refine oK h fuel _ hi (by lia) h2 (by lia) (fun i a hi' ha=>?_) h5
    by_cases ei:i=(lo+hi) / 2
    ·subst ei;rw[e] at ha;cases ha;exact d
    ·exact Nat.lt_trans (h.lt (by lia) ha e) d
   ·rw[OH d]
    refine oK h fuel lo _ hm2 (by lia) (by lia) h4 (fun i a hi' ha=>?_)
    by_cases ei:i=(lo+hi) / 2
    ·subst ei;rw[e] at ha;cases ha;lia
    ·have:=h.lt (by lia:(lo+hi) / 2 < i) e ha
     lia
  ·rw[OH c]
   have:lo=hi:=by lia
   subst this
   exact⟨h2,h4,h5⟩
theorem vg {xs:Array Nat} (h:eE xs) (j:Nat):SetTable.below xs j≤xs.size∧(∀ i a,i < SetTable.below xs j→xs[i]?=some a→a < j)∧∀ i a,SetTable.below xs j≤i→xs[i]?=some a→j≤a:=
 oK h _ 0 _ (Ol _) (NZ _) (by lia) (fun i a hi=>absurd hi (Nat.not_lt_zero _)) fun i a hi ha=>by
  rw[Array.getElem?_eq_none hi] at ha;cases ha
theorem oM {xs:Array Nat} (h:eE xs) {j p:Nat} (hp:p≤xs.size) (h1: ∀ i a,i < p→xs[i]?=some a→a < j) (h2: ∀ i a,p≤i→xs[i]?=some a→j≤a):SetTable.below xs j=p:=by
 obtain⟨b0,b1,b2⟩:=vg h j
 rcases Nat.lt_trichotomy (SetTable.below xs j) p with c|c|c
 ·have e:xs[SetTable.below xs j]?=some xs[SetTable.below xs j]:=Oj (by lia)
  have:=h1 _ _ c e
  have:=b2 _ _ (NZ _) e
  lia
 ·exact c
 ·have e:xs[p]?=some xs[p]:=Oj (by lia)
  have:=b1 _ _ c e
  have:=h2 _ _ (NZ _) e
  lia
theorem uM {α:Type} (xs:Array α) (p:Nat) (x:α):(SetTable.insertAt xs p x).toList=xs.toList.take p++x::xs.toList.drop p:=by
 unfold SetTable.insertAt
 simp[Array.toList_append,Array.toList_push]
 exact List.take_of_length_le (by simp)
theorem Bh {t:SetTable} {j:Nat} (h:eE t.place) (hj:j∉t.place.toList):eE (t.put j).1.place:=by
 obtain⟨b0,b1,b2⟩:=vg h j
 show (SetTable.insertAt t.place (SetTable.below t.place j) j).toList.Pairwise _
 rw[uM,List.pairwise_append]
 have tk: ∀ a∈t.place.toList.take (SetTable.below t.place j),a < j:=fun a ha=>by
  obtain⟨i,hi,e⟩:=List.getElem_of_mem ha
  have hi':i < SetTable.below t.place j:=by simp at hi;lia
  refine b1 i a hi' ?_
  rw[←e]
  simp at hi ⊢
 have dr: ∀ a∈t.place.toList.drop (SetTable.below t.place j),j < a:=fun a ha=>by
  obtain⟨i,hi,e⟩:=List.getElem_of_mem ha
  have h1:t.place[SetTable.below t.place j+i]?=some a:=by
   rw[←e]
   simp at hi ⊢
  have h2:=b2 _ a (by lia) h1
  have h3:a∈t.place.toList:=List.mem_of_mem_drop ha
  rcases Nat.lt_or_eq_of_le h2 with c|c
  ·exact c
  ·exact absurd (c▸h3) hj
 refine⟨h.sublist (List.take_sublist _ _),OJ.mpr ⟨dr,h.sublist (List.drop_sublist _ _)⟩,fun a ha b hb=>?_⟩
 rcases N2.mp hb with rfl|hb
 ·exact tk a ha
 ·exact Nat.lt_trans (tk a ha) (dr b hb)
theorem xX {t:SetTable} {j:Nat} (h:eE t.place) (hs: ∀ i,t.slot j≠.live i):j∉t.place.toList:=fun hj=>by
 obtain⟨i,hi,e⟩:=List.getElem_of_mem hj
 have e':t.place[i]?=some j:=by
  rw[←e]
  simp at hi ⊢
 have hb:SetTable.below t.place j=i:=oM h (by simp at hi;lia) (fun k a hk ha=>h.lt hk ha e') fun k a hk ha=>by
  rcases Nat.lt_or_eq_of_le hk with c|c
  ·exact Nat.le_of_lt (h.lt c e' ha)
  ·subst c;rw[e'] at ha;cases ha;exact NZ _
 refine hs i ?_
 unfold SetTable.slot
 rw[hb]
 dsimp only
 rw[e']
 simp
theorem nu {t:SetTable} {hashAt:Nat→Int} {h:Int}: ∀ (fuel:Nat) (p:SetTable.Probe) (j:Nat) (d:Option Nat),(∀ k,p.dummy=some k→t.slot k= .dummy)→SetTable.probe.go t hashAt h fuel p=some (.empty j d)→t.slot j= .empty∧∀ k,d=some k→t.slot k= .dummy
 |0,p,j,d,hd,e=>by unfold SetTable.probe.go at e;cases e
 |fuel+1,p,j,d,hd,e=>by
  have ad: ∀ q:SetTable.Probe,(t.advance q).dummy=q.dummy:=fun q=>by
   unfold SetTable.advance
   split<;>rfl
  unfold SetTable.probe.go at e
  split at e
  ·rename_i c
   cases e
   exact⟨c,hd⟩
  ·rename_i c
   refine nu fuel _ j d (fun k hk=>?_) e
   rw[ad] at hk
   cases hk
   exact c
  ·rename_i i c
   split at e
   ·cases e
   ·refine nu fuel _ j d (fun k hk=>?_) e
    rw[ad] at hk
    exact hd k hk
theorem Fg {t:SetTable} {h:Int} {j:Nat} {b:Bool} (hr:eE t.place) (e:t.freeSlot h=some (j,b)):j∉t.place.toList:=by
 unfold SetTable.freeSlot at e
 split at e
 ·rename_i j' d c
  cases e
  obtain⟨h1,h2⟩:=nu _ _ _ _ (fun k hk=>by cases hk) c
  cases d with
  |none=>exact xX hr fun i z=>by have z':t.slot j'= .live i:=z;rw[h1] at z';cases z'
  |some k=>exact xX hr fun i z=>by have z':t.slot k= .live i:=z;rw[h2 k rfl] at z';cases z'
 ·cases e
theorem f7 (n:Nat):eE (Array.range n):=by
 show (Array.range n).toList.Pairwise _
 rw[Array.toList_range]
 exact List.pairwise_lt_range
theorem vT {t:SetTable} {n:Nat} (h:eE t.place):eE (t.orStandIn n).place:=by
 unfold SetTable.orStandIn
 split
 ·exact h
 ·exact f7 n
theorem Cd {t:SetTable} {es:Array (Int×Value)} {h:Int} {x:Value} (hr:eE t.place):eE (layNew t es h x).2.1.place:=by
 unfold layNew
 split
 ·rename_i slot wd e
  exact vT (Bh hr (Fg hr e))
 ·exact f7 _
theorem v7 (t:SetTable) (es:Array (Int×Value)) (n:Nat):eE (relayAll t es n).2.1.place:=by
 unfold relayAll
 split
 ·rename_i t' order e
  have r':eE t'.place:=by
   unfold SetTable.relaid SetTable.laid at e
   cases hl:SetTable.layClean (SetTable.sizeAbove n - 1) (es.map (·.1)) with
   |none=>rw[hl] at e;cases e
   |some ow=>
    rw[hl] at e
    cases e
    show List.Pairwise _ _
    rw[List.pairwise_map,List.pairwise_filterMap]
    refine List.pairwise_lt_range.imp fun {a b} hab p hp q hq=>?_
    obtain⟨_,_,rfl⟩:=Og.mp hp
    obtain⟨_,_,rfl⟩:=Og.mp hq
    exact hab
  dsimp only
  split
  ·exact r'
  ·exact f7 _
 ·exact f7 _
def lS (h:Heap) (a:Addr) (b:Bool):Prop:= ∃ o es ep t,h.get? a=some o∧o.data= .set es ep t∧t.led=b∧eE t.place
theorem lS.at {h h':Heap} {a:Addr} {b:Bool} (x:lS h a b) (k: ∀ o,h.get? a=some o→h'.get? a=some o):lS h' a b:=by
 obtain⟨o,es,ep,t,ho,r⟩:=x
 exact⟨o,es,ep,t,k o ho,r⟩
section
variable {prog:Program} {w:World} {A:Around} {E:Value→Shared→Prop} {s:Shared} {K:Type} [DecidableEq K] {knd:PySem.KeyKind prog w K}
theorem p7 {h:Heap} {a:Addr} {o:Obj} {es es':Array (Int×Value)} {ep:Nat} {t t':SetTable} {S':K→Bool} {b:Bool} (ho:h.get? a=some o) (hex:o.ExactSet) (hd:o.data= .set es ep t) (hel:PySem.ElemsOf knd es'.toList) (hmem: ∀ k,S' k=true↔∃ e∈es'.toList,knd.is k e.2=true) (hb:es'.size < PySem.scanBound) (hf:t'.fits es'.size=true) (hl:t'.led=b) (hp:eE t'.place):
  (h.update a (Obj.putSet es' t')).SetOf knd a S' es'.size∧lS (h.update a (Obj.putSet es' t')) a b:=by
 obtain⟨h1,h2⟩:=PySem.SetOf_store (knd:=knd) ho hex hd hel hmem hb hf
 exact⟨h2,_,es',ep+1,t',h1,rfl,hl,hp⟩
theorem FO {a:Addr} {S:K→Bool} {n:Nat} {k:K} {x:Value} {b:Bool} {Q:Bool→Shared→Prop} (kE:knd.is k x=true) (hsc:x.scannable=true) (hS:s.heap.SetOf knd a S n) (hL:lS s.heap a b) (hroom:n+1 < PySem.scanBound)
  (h: ∀ h',Heap.SameBut a s.heap h'→h'.SetOf knd a (fun k'=>S k'||decide (k'=k)) (if S k then n else n+1)→lS h' a b→Q (!S k) {s with heap:=h'}):
  wpAny (model prog w) A (setAddHashed a x (knd.hash k)) Q E s:=by
 have hS0:=hS
 obtain⟨o,es,ep,t,ho,hex,hd,hel,hmem,hb,hf,hn⟩:=hS
 obtain⟨o',es',ep',t',ho',hd',led,pl⟩:=id hL
 rw[ho] at ho'
 cases ho'
 rw[hd] at hd'
 cases hd'
 unfold setAddHashed setAddHashedIn
 refine wpAny_holding (NR (PySem.wpAny_setState_of ho hd hf ?_))
 dsimp only
 rw[PySem.byScan_of hsc hb hel]
 simp only[↓reduceIte]
 unfold setAddByScan
 refine NR (NR (wpAny_rule (NR (PySem.wpAny_setScan_of kE ho hd hf hel ?_))))
 cases hr:List.findIdx? (fun e=>knd.is k e.2) es.toList with
 |some j=>
  dsimp only
  obtain⟨hj,hpj,_⟩:=List.findIdx?_eq_some_iff_getElem.mp hr
  have hSk:S k=true:=(hmem k).mpr ⟨_,OB hj,hpj⟩
  refine NW (NW ?_)
  have q:=h s.heap (Heap.SameBut.refl a s.heap)
  rw[hSk] at q
  refine q ⟨o,es,ep,t,ho,hex,hd,hel,fun k'=>?_,hb,hf,hn⟩ hL
  rw[Bool.or_eq_true,decide_eq_true_eq,←hmem k']
  exact⟨fun z=>z.elim id fun e=>e▸hSk,.inl⟩
 |none=>
  dsimp only
  have hSk:S k=false:=by
   cases hk:S k with
   |false=>rfl
   |true=>
    obtain⟨e,he,hp⟩:=(hmem k).mp hk
    have z:=List.findIdx?_eq_none_iff.mp hr e he
    rw[hp] at z
    cases z
  have gw: ∀ (g:Bool) {s₁:Shared} {Q':Unit→Shared→Prop},Q' () s₁→wpAny (model prog w) A (match g with|true=>rule "set.scan.the-table-gave-way"|false=>pure ()) Q' E s₁:=fun g s₁ Q' hq=>by
   cases g
   ·exact NW hq
   ·exact wpAny_rule hq
  have l1:=layNew_perm t es (knd.hash k) x
  have l2:=layNew_fits t es (knd.hash k) x
  have l3:=E2 t es (knd.hash k) x
  have l4:=Cd (es:=es) (h:=knd.hash k) (x:=x) pl
  generalize layNew t es (knd.hash k) x=L at l1 l2 l3 l4 ⊢
  obtain⟨es1,t1,wasDummy,gave⟩:=L
  dsimp only at l1 l2 l3 l4 ⊢
  rw[Array.toList_push] at l1
  have z1:es1.size=n+1:=by
   rw[←Ou,l1.length_eq,Oi,Ou,hn]
   rfl
  have hel1:PySem.ElemsOf knd es1.toList:=(hel.push kE hsc).perm l1
  have hmem1:=PySem.mem_push_iff kE hmem l1
  have q: ∀ h',Heap.SameBut a s.heap h'→h'.SetOf knd a (fun k'=>S k'||decide (k'=k)) (n+1)→lS h' a b→Q true {s with heap:=h'}:=fun h' c1 c2 c3=>by
   have q:=h h' c1
   rw[hSk] at q
   exact q c2 c3
  refine NR (gw _ ?_)
  have fin: ∀ t2:SetTable,t2.fits es1.size=true→t2.led=b→eE t2.place→wpAny (model prog w) A (do
    storeSet a es1 t2
    if(!wasDummy&&t2.tooFull)=true then do
      (match (relayAll t2 es1 (SetTable.grown es1.size)).2.2 with|true=>rule "set.scan.the-table-gave-way"|false=>pure ())
      storeSet a (relayAll t2 es1 (SetTable.grown es1.size)).1 (relayAll t2 es1 (SetTable.grown es1.size)).2.1
      pure (some true)
     else pure (some true)) (fun r s'=>wpAny (model prog w) A (match r with|some added=>pure added|none=>setAddHashedIn a x (knd.hash k) 99999) Q E s') E s:=fun t2 f2 led2 pl2=>by
   refine NR (PySem.wpAny_storeSet_of ho hd ?_ (PySem.fits_of_scanBound (by lia)))
   obtain⟨c1,c2⟩:=p7 (knd:=knd) (b:=b) ho hex hd hel1 hmem1 (by lia) f2 led2 pl2
   obtain⟨c3,_⟩:=PySem.SetOf_store (knd:=knd) ho hex hd hel1 hmem1 (by lia) f2
   have c4:=Heap.SameBut.update s.heap a (Obj.putSet es1 t2)
   split
   ·have r1:=relayAll_perm t2 es1 (SetTable.grown es1.size)
    have r2:=relayAll_fits t2 es1 (SetTable.grown es1.size)
    have r3:=zo t2 es1 (SetTable.grown es1.size)
    have r4:=v7 t2 es1 (SetTable.grown es1.size)
    generalize relayAll t2 es1 (SetTable.grown es1.size)=Rl at r1 r2 r3 r4 ⊢
    obtain⟨es2,t3,gave2⟩:=Rl
    dsimp only at r1 r2 r3 r4 ⊢
    have z2:es2.size=n+1:=by rw[←Ou,r1.length_eq,Ou,z1]
    refine NR (gw _ ?_)
    refine NR (PySem.wpAny_storeSet_of c3 rfl ?_ (PySem.fits_of_scanBound (by lia)))
    obtain⟨d1,d2⟩:=p7 (knd:=knd) (b:=b) c3 hex rfl (hel1.perm r1) (fun k'=>(hmem1 k').trans ⟨fun ⟨e,he,q⟩=>⟨e,r1.mem_iff.mpr he,q⟩,fun ⟨e,he,q⟩=>⟨e,r1.mem_iff.mp he,q⟩⟩) (by lia) r2 (r3.1.trans led2) r4
    rw[z2] at d1
    exact NW (NW (q _ (c4.trans (Heap.SameBut.update _ a _)) d1 d2))
   ·rw[z1] at c1
    exact NW (NW (q _ c4 c1 c2))
  cases hp:t1.plain with
  |true=>
   simp only[if_true]
   refine NR ?_
   rw[PySem.hashByValue_scannable 8 hsc]
   cases PySem.plainKind x with
   |true=>exact NW (fin t1 l2 (l3.1.trans led) l4)
   |false=>exact NW (fin {t1 with plain:=false} (PySem.SetTable.fits_plain_off l2) (l3.1.trans led) l4)
  |false=>
   simp only[OA,if_false]
   refine NR (NW ?_)
   simp only[↓reduceIte]
   exact fin t1 l2 (l3.1.trans led) l4
theorem Du {a:Addr} {S:K→Bool} {n:Nat} {k:K} {key:Value} {b:Bool} {Q:Value→Shared→Prop} (kE:knd.is k key=true) (hsc:key.scannable=true) (hS:s.heap.SetOf knd a S n) (hL:lS s.heap a b) (hroom:n+1 < PySem.scanBound)
  (h: ∀ h',Heap.SameBut a s.heap h'→h'.SetOf knd a (fun k'=>S k'||decide (k'=k)) (if S k then n else n+1)→lS h' a b→Q .none {s with heap:=h',toks:=s.toks+1}):
  wpAny (model prog w) A (call (.builtin "set.add") [.ref a,key]) Q E s:=by
 refine wpAny_call_entry PySem.F.slot_set_add hS.typeIs PySem.F.entry_set_add ?_ (PySem.F.args_set_add_2 _ _)
 unfold Builtin.«set.add» Builtin.Frozenset.oneOther
 simp only[List.isEmpty_nil,bind_assoc]
 unfold Builtin.Frozenset.addrOf setAdd
 refine NR (NW ?_)
 try dsimp only
 refine NR (NW ?_)
 try dsimp only
 refine NR ?_
 refine wpAny_holding ?_
 refine NR (knd.pyHash kE ?_)
 refine FO (s:={s with toks:=s.toks+1}) kE hsc hS hL hroom fun h' hsb hS' hL'=>?_
 show wpAny _ _ (ret Value.none) _ _ _
 exact NW ⟨_,rfl,h h' hsb hS' hL'⟩
theorem EJ {Q:Value→Shared→Prop}
  (h:(s.heap.push {cls:=.type "set",dict:=none,data:=.set #[] 0 (.fresh 0 0 (!FF w))}).SetOf knd s.heap.objs.size (fun _=>false) 0→lS (s.heap.push {cls:=.type "set",dict:=none,data:=.set #[] 0 (.fresh 0 0 (!FF w))}) s.heap.objs.size (!FF w)→
   Q (.ref s.heap.objs.size) {s with heap:=s.heap.push {cls:=.type "set",dict:=none,data:=.set #[] 0 (.fresh 0 0 (!FF w))}}):
  wpAny (model prog w) A (newSet (.type "set")) Q E s:=by
 unfold newSet setsByText
 refine NR (NR (wpAny_askSetting (NW ?_)))
 dsimp only
 simp only[newObj]
 exact NR (wpAny_alloc (NW (h ⟨_,#[],0,_,N6 _ rfl,⟨rfl,rfl,rfl⟩,rfl,fun e he=>by simp at he,fun k=>by simp,by decide,by rfl,rfl⟩ ⟨_,#[],0,_,N6 _ rfl,rfl,rfl,.nil⟩)))
end
def dH (P:Program) (w:World) (D:Addr) (S:Key→Bool) (n:Nat):HO:=.ext fun h=>h.SetOf (aY P w) D S n∧lS h D (!FF w)
theorem rf {P:Program} {w:World} {H:Hp} {h:Heap} {D:Addr} {S:Key→Bool} {n:Nat} (hS:h.SetOf (aY P w) D S n) (hL:lS h D (!FF w)):bS P w H h D (dH P w D S n):=by
 refine⟨⟨hS,hL⟩,?_,?_⟩
 ·obtain⟨o,es,ep,t,e,_⟩:=hS
  exact⟨o,e⟩
 ·rintro h1 h2 ⟨⟨o,es,ep,t,e,c⟩,l⟩ k
  exact⟨⟨o,es,ep,t,k _ e,c⟩,l.at fun o e=>k _ e⟩
theorem xZ {P:Program} {w:World} {H:Hp} {h:Heap} {D:Addr} {S:Key→Bool} {n:Nat} (x:jd P w H h) (e:H D=some (dH P w D S n)):h.SetOf (aY P w) D S n∧lS h D (!FF w):=(x D _ e).1
section
variable {X:Cx}
def K7 (P:Program) (w:World):V→List V→Hp→VK→Prop:=fun x vs H Q=> ∃ (D:Addr) (k:Key) (S:Key→Bool) (n:Nat),x= .ref D∧vs=[kV k]∧H D=some (dH P w D S n)∧n+1 < PySem.scanBound∧Q .aE (upd H D (dH P w D (fun k'=>S k'||decide (k'=k)) (if S k=true then n else n+1)))
theorem EN:L6 X "set.add" (K7 X.prog X.w):=by
 intro pZ s σ H x vs v us Q I rx rv h
 obtain⟨D,k,S,n,rfl,rfl,hH,hn,q⟩:=h
 cases rx
 obtain⟨u,rfl,ru⟩:=rv.one
 obtain⟨hk,hs⟩:=Ea ru
 refine Du (knd:=aY X.prog X.w) hk hs (xZ I.a7 hH).1 (xZ I.a7 hH).2 hn fun h' hsb hS' hL'=>?_
 refine⟨.aE,_,I.write (t':=s.toks+1) (x:=D) (e:=D) (o:=dH X.prog X.w D (fun k'=>S k'||decide (k'=k)) (if S k=true then n else n+1)) (by rw[hH];exact trivial) (.inl rfl) (fun b u hb hu=>(hsb.2 b hb).trans hu) (rf (P:=X.prog) (w:=X.w) (H:=H) hS' hL').2.1 (rf hS' hL'),rfl,q⟩
end
section
variable {X:Cx} {pZ:List (Addr×Obj)} {σ:St} {H:Hp} {s:Shared} {scope:Scope} {N:List Str} {js:List (Option Nat)} {fp:List Addr}
def NM (P:Program) (w:World) (J:It) (D:Addr) (g:TG) (tt:TT) (te:TE) (Q:VK) (σ0:St) (H1:Hp):Prop:=
 ∃ W:Nat→Nat→St→Hp→Prop,(∃ m,W 0 m σ0 (upd H1 D (dH P w D (fun _=>false) 0)))∧∀ i m σ' H',W i m σ' H'→
  (J.stop i H'∧Q (.ref D) H')∨(J.go i H'∧∀ x H2,J.Aq i H' x H2→g x σ' H2 fun σ2 H3=>tt σ2 H3 fun ok H4=>
   if ok=true then te σ2 H4 fun y H5=> ∃ (k:Key) (S:Key→Bool) (c:Nat),y=kV k∧H5 D=some (dH P w D S c)∧c+1 < PySem.scanBound∧∃ m',m' < m∧W (i+1) m' σ2 (upd H5 D (dH P w D (fun k'=>S k'||decide (k'=k)) (if S k=true then c else c+1)))
   else ∃ m',m' < m∧W (i+1) m' σ2 H4)
def KC (P:Program) (w:World) (js:List (Option Nat)) (wi:TI) (g:TG) (tt:TT) (te:TE):TE:=fun σ H Q=>wi σ H fun J H1=> ∀ D,H1 D=none→NM P w J D g tt te Q (fk js σ) H1
theorem DZ {elt target iter:Expr} {ifs:List Expr} {pos:Pos} {g:TG} {tt:TT} {te:TE} {it:Addr} {tn:Nat→Heap→Prop} {J:It} {Q:VK} {R:Value→Addr→Result→Shared→Prop}
  (L:bb X scope N js) (hc:X.calm=true)
  (hg: ∀ s₀ H₀ ex pn,PG (fg X scope N s₀ H₀ ex pn) target g) (ht: ∀ s₀ H₀ ex pn,y3 (fg X scope N s₀ H₀ ex pn) ifs tt) (he: ∀ s₀ H₀ ex pn,PE (fg X scope N s₀ H₀ ex pn) elt te)
  (I:Inv X pZ σ H s) (T:Turn X.prog X.w X.K target J fp it tn) (st:tn 0 s.heap) (hf: ∀ b∈fp,cD X pZ H b)
  {D:Addr} {s3:Shared} {h₁:Heap} {tk:Nat} (I3:Inv X pZ σ (upd H D (dH X.prog X.w D (fun _=>false) 0)) s3) (hDl: ∀ b o,s.heap.get? b=some o→b≠D) (k3: ∀ b o,s.heap.get? b=some o→s3.heap.get? b=some o)
  (hns₁:h₁.Ns s3.heap.objs.size (fun _=>none)) (kk: ∀ b o,s3.heap.get? b=some o→h₁.get? b=some o)
  (w: ∃ W:Nat→Nat→St→Hp→Prop,(∃ m,W 0 m (fk js σ) (upd H D (dH X.prog X.w D (fun _=>false) 0)))∧∀ i m σ' H',W i m σ' H'→
   (J.stop i H'∧Q (.ref D) H')∨(J.go i H'∧∀ x H2,J.Aq i H' x H2→g x σ' H2 fun σ2 H3=>tt σ2 H3 fun ok H4=>
    if ok=true then te σ2 H4 fun y H5=> ∃ (k:Key) (S:Key→Bool) (c:Nat),y=kV k∧H5 D=some (dH X.prog X.w D S c)∧c+1 < PySem.scanBound∧∃ m',m' < m∧W (i+1) m' σ2 (upd H5 D (dH X.prog X.w D (fun k'=>S k'||decide (k'=k)) (if S k=true then c else c+1)))
    else ∃ m',m' < m∧W (i+1) m' σ2 H4))
  (hR: ∀ C s' H',Inv X pZ σ H' s'→cD X pZ H' C→(∃ m,s'.heap.Ns C m)→Q (.ref D) H'→R (.ref D) C (.ok .next) s'):
  codeAny (model X.prog X.w) X.A (.compStart (.SetComp elt [⟨target,iter,ifs,0⟩] scope pos) 0 (.ref it) (.ref D) {newEnv scope s3.heap.objs.size X.env.globals (vc scope.names X.env.cells) X.env.qual none .none (some X.env) builtinsNs with scope:=relabel scope X.env}) (R (.ref D) s3.heap.objs.size) {s3 with heap:=h₁,toks:=tk}:=by
 have obj:=T.obj 0 s.heap st
 have ho3: ∀ b∈fp,∃ o,s3.heap.get? b=some o:=fun b hb=>by obtain⟨o,e,_⟩:=obj b hb;exact⟨o,k3 b o e⟩
 have hf3: ∀ b∈fp,cD X pZ (upd H D (dH X.prog X.w D (fun _=>false) 0)) b:=fun b hb=>by
  refine⟨?_,(hf b hb).2⟩
  obtain⟨o,e,_⟩:=obj b hb
  rw[ag (hDl b o e)]
  exact(hf b hb).1
 have I4:Inv (fg X scope N s3 (upd H D (dH X.prog X.w D (fun _=>false) 0)) fp (X.pn++pZ)) [] (fk js σ) (upd H D (dH X.prog X.w D (fun _=>false) 0)) {s3 with heap:=h₁,toks:=tk}:=
  L.start I3 hc hf3 ho3 hns₁ kk
 obtain⟨W,⟨m0,w0⟩,turn⟩:=w
 have st4:tn 0 h₁:=T.keep 0 _ _ st fun b _ o e=>kk b o (k3 b o e)
 generalize hX:fg X scope N s3 (upd H D (dH X.prog X.w D (fun _=>false) 0)) fp (X.pn++pZ)=Y at I4
 have fpY: ∀ b∈fp,b≠Y.env.locals∧b∉Y.fs∧(b∈Y.ex∨Y.s₀.heap.objs.size≤b)∧(∀ x c,Y.env.cells.lookup x=some c→c≠b)∧∀ p∈Y.pn++[],p.1≠b:=fun b hb=>by
  rw[←hX]
  obtain⟨o,e⟩:=ho3 b hb
  refine⟨Oo (N9 e),fun z=>?_,.inl hb,fun x c h=>(hf b hb).2.2.2.2.1 x c (c7 _ _ _ (fun _ _ e=>by simp at e) x c h),fun p hp=>(hf b hb).2.2.2.2.2 p (by simpa[fg] using hp)⟩
  rcases N2.mp (I3.kU b z) with q|q
  ·exact(hf b hb).2.1 q
  ·exact(hf b hb).2.2.1 q
 have loop:codeAny (model X.prog X.w) X.A (.compLoop (.SetComp elt [⟨target,iter,ifs,0⟩] scope pos) 0 (.ref it) (.ref D) Y.env) (R (.ref D) s3.heap.objs.size) {s3 with heap:=h₁,toks:=tk}:=by
  have pr:Y.prog=X.prog:=by rw[←hX];rfl
  have pw:Y.w=X.w:=by rw[←hX];rfl
  have pK:Y.K=X.K:=by rw[←hX];rfl
  have pA:Y.A=X.A:=by rw[←hX];rfl
  have pc:Y.calm=true:=by rw[←hX];rfl
  have px:Y.xe=fun _ _=>False:=by rw[←hX];rfl
  have mZ: ∀ {H':Hp},(∀ b∈fp,H' b=none)→∀ b∈fp,cD Y [] H' b:=fun hn b hb=>⟨hn b hb,fpY b hb⟩
  refine xf (fun n s'=> ∃ i σ' H',Inv Y [] σ' H' s'∧tn i s'.heap∧(∀ b∈fp,H' b=none)∧W i n σ' H') ?_ m0 ⟨0,_,_,I4,st4,fun b hb=>(hf3 b hb).1,w0⟩
  rintro n s5 ⟨i,σ5,H5,I5,st5,fr5,w5⟩
  have gY:PG Y target g:=by rw[←hX];exact hg _ _ _ _
  have tY:y3 Y ifs tt:=by rw[←hX];exact ht _ _ _ _
  have eY:PE Y elt te:=by rw[←hX];exact he _ _ _ _
  unfold PG at gY;unfold y3 at tY;unfold PE at eY
  rw[pr,pw,pA,px] at gY tY eY
  have ap:=EN (X:=Y)
  unfold L6 at ap
  rw[pr,pw,pA,px] at ap
  rcases turn i n σ5 H5 w5 with⟨stop,q⟩|⟨go,step⟩
  ·have d:=T.done Y pr pw pK pc i [] s5 σ5 H5 (fun _ _=>False) I5 (mZ fr5) st5 stop
   rw[pA] at d
   refine bh d fun r s6 ⟨hr,I6⟩=>?_
   subst hr
   have I6':Inv (fg X scope N s3 (upd H D (dH X.prog X.w D (fun _=>false) 0)) fp (X.pn++pZ)) [] σ5 H5 s6:=by rw[hX];exact I6
   obtain⟨a1,a2,a3⟩:=Cc I3 hf3 I6'
   exact hR _ s6 H5 a1 a2 a3 q
  ·have d:=T.item Y pr pw pK pc i [] s5 σ5 H5 (fun _ _=>False) I5 (mZ fr5) st5 go
   rw[pA] at d
   refine bh d fun r s6 ⟨u,hr,h6⟩=>?_
   subst hr
   refine bh h6 fun _ s7 ⟨x,H7,I7,r7,y7,st7,fr7⟩=>?_
   have I7':=I7.pinned (mZ fr7) (T.obj _ _ st7)
   refine bh (gY _ s7 σ5 H7 x u _ I7' r7 (step x H7 y7)) fun _ s8 ⟨σ8,H8,I8,q8⟩=>?_
   have again: ∀ {σ9:St} {H9:Hp} {s9:Shared},Inv Y ([]++lg fp s7.heap) σ9 H9 s9→(∃ m',m' < n∧W (i+1) m' σ9 H9)→∃ m,m < n∧∃ i σ' H',Inv Y [] σ' H' s9∧tn i s9.heap∧(∀ b∈fp,H' b=none)∧W i m σ' H':=fun {σ9 H9 s9} I9 ⟨m',hm,w9⟩=>by
    refine⟨m',hm,i+1,σ9,H9,I9.ij,T.keep _ _ _ st7 fun b hb o e=>(I9.pin (b,o) (Ob _ (Ob _ (dz hb e)))).1,fun b hb=>?_,w9⟩
    obtain⟨o,e,d⟩:=T.obj _ _ st7 b hb
    exact(I9.pin (b,o) (Ob _ (Ob _ (dz hb e)))).2.1
   refine bh (tY _ s8 σ8 H8 _ I8 q8) fun ok s9 ⟨H9,I9,q9⟩=>?_
   cases ok with
   |false=>
    rw[OH (by decide)] at q9
    rw[OH (by decide)]
    exact again I9 q9
   |true=>
    rw[OG rfl] at q9
    rw[OG rfl]
    refine bh (eY _ s9 σ8 H9 _ I9 q9) fun v s10 ⟨y,H10,I10,r10,ky,S,c,eky,eys,lys,q10⟩=>?_
    refine bh (ap _ s10 σ8 H10 (.ref D) [y] (.ref D) [v] (fun _ H'=> ∃ m',m' < n∧W (i+1) m' σ8 H') I10 rfl (.cons r10 .nil) ⟨D,ky,S,c,rfl,by rw[eky],eys,lys,q10⟩) fun v2 s11 ⟨y2,H11,I11,_,q11⟩=>?_
    exact again I11 q11
 have ee:({newEnv scope s3.heap.objs.size X.env.globals (vc scope.names X.env.cells) X.env.qual none .none (some X.env) builtinsNs with scope:=relabel scope X.env}:Env)=Y.env:=by rw[←hX];rfl
 rw[ee]
 exact ze loop (T.self _ 0 _ _ _ st4 loop)
theorem AZ {elt target iter:Expr} {ifs:List Expr} {pos:Pos} {g:TG} {tt:TT} {te:TE} {it:Addr} {tn:Nat→Heap→Prop} {J:It} {Q:VK} {E:Value→Shared→Prop} {R:Value→Addr→Result→Shared→Prop}
  (L:bb X scope N js) (hc:X.calm=true)
  (hg: ∀ s₀ H₀ ex pn,PG (fg X scope N s₀ H₀ ex pn) target g) (ht: ∀ s₀ H₀ ex pn,y3 (fg X scope N s₀ H₀ ex pn) ifs tt) (he: ∀ s₀ H₀ ex pn,PE (fg X scope N s₀ H₀ ex pn) elt te)
  (I:Inv X pZ σ H s) (T:Turn X.prog X.w X.K target J fp it tn) (st:tn 0 s.heap) (hf: ∀ b∈fp,cD X pZ H b)
  (w: ∀ D,H D=none→∃ W:Nat→Nat→St→Hp→Prop,(∃ m,W 0 m (fk js σ) (upd H D (dH X.prog X.w D (fun _=>false) 0)))∧∀ i m σ' H',W i m σ' H'→
   (J.stop i H'∧Q (.ref D) H')∨(J.go i H'∧∀ x H2,J.Aq i H' x H2→g x σ' H2 fun σ2 H3=>tt σ2 H3 fun ok H4=>
    if ok=true then te σ2 H4 fun y H5=> ∃ (k:Key) (S:Key→Bool) (c:Nat),y=kV k∧H5 D=some (dH X.prog X.w D S c)∧c+1 < PySem.scanBound∧∃ m',m' < m∧W (i+1) m' σ2 (upd H5 D (dH X.prog X.w D (fun k'=>S k'||decide (k'=k)) (if S k=true then c else c+1)))
    else ∃ m',m' < m∧W (i+1) m' σ2 H4))
  (hR: ∀ D C s' H',Inv X pZ σ H' s'→cD X pZ H' C→(∃ m,s'.heap.Ns C m)→Q (.ref D) H'→R (.ref D) C (.ok .next) s'):
  wpAny (model X.prog X.w) X.A (newSet (.type "set")) (fun acc s₃=>wpAny (model X.prog X.w) X.A (newFunctionEnv scope X.env.globals (vc scope.names X.env.cells) [] X.env.qual none .none (some X.env)) (fun cenv s₄=>
   codeAny (model X.prog X.w) X.A (.compStart (.SetComp elt [⟨target,iter,ifs,0⟩] scope pos) 0 (.ref it) acc {cenv with scope:=relabel scope X.env}) (R acc cenv.locals) s₄) E s₃) E s:=by
 have hD:=I.fresh
 refine EJ (knd:=aY X.prog X.w) fun hS hL=>?_
 have I3:Inv X pZ σ (upd H s.heap.objs.size (dH X.prog X.w s.heap.objs.size (fun _=>false) 0)) {s with heap:=s.heap.push {cls:=.type "set",dict:=none,data:=.set #[] 0 (.fresh 0 0 (!FF X.w))}}:=I.laid (t':=s.toks) (fun b o e=>NU _ e) (NZ _) (rf hS hL)
 refine wpAny_newFunctionEnv L.wF (by intro y hy;simp at hy) (fun h₁ hns₁ hsb₁=>?_) L.kind
 dsimp only at hns₁ hsb₁
 exact DZ (Q:=Q) (R:=R) (s3:={s with heap:=s.heap.push {cls:=.type "set",dict:=none,data:=.set #[] 0 (.fresh 0 0 (!FF X.w))}}) L hc hg ht he I T st hf I3 (fun b o e=>Oo (N9 e)) (fun b o e=>NU _ e) hns₁
  (fun b o e=>hsb₁.extBut b o (Oo (N9 e)) (NU _ e)) (w _ hD) (fun C=>hR _ C)
theorem Lb {elt target iter:Expr} {ifs:List Expr} {pos:Pos} {wi:TI} {g:TG} {tt:TT} {te:TE} (L:bb X scope N js) (hc:X.calm=true) (hi:PI X target iter wi)
  (hg: ∀ s₀ H₀ ex pn,PG (fg X scope N s₀ H₀ ex pn) target g) (ht: ∀ s₀ H₀ ex pn,y3 (fg X scope N s₀ H₀ ex pn) ifs tt) (he: ∀ s₀ H₀ ex pn,PE (fg X scope N s₀ H₀ ex pn) elt te)
  (hs: ∀ x,foldedSetIterable iter X.env x=pure x:=by intro _;rfl):PE X (.SetComp elt [⟨target,iter,ifs,0⟩] scope pos) (KC X.prog X.w js wi g tt te):=by
 intro pZ s σ H Q I h
 rw[sx]
 refine wpAny_comprehension_free (use:=none) rfl hs (jS (L.Fz I.ok)) L.kind L.names (bh (hi pZ s σ H _ I h) fun v s1 h1=>bh h1 fun itv s2 h2=>?_)
 obtain⟨it,fp,tn,J,H2,e,I2,T,st2,f2,w⟩:=h2
 subst e
 refine AZ (Q:=Q) (R:=fun acc C=>compPost (model X.prog X.w) X.A X.xe none (EP X pZ σ Q) acc C) L hc hg ht he I2 T st2 f2 w ?_
 intro D C s' H' I' f' ⟨m,hn⟩ q
 exact⟨m,hn,fun h' hs'=>⟨.ref D,H',I'.gone (m:=m) f' hs',rfl,q⟩⟩
end
section
variable {prog:Program} {w:World} {A:Around} {E:Value→Shared→Prop} {s:Shared} {I D:Addr} {o:Obj} {es:Array (Int×Value)} {ep:Nat} {t:SetTable}
theorem uw {slot i:Nat} (hb:w.params.followText "set-order"=false) (hD:s.heap.get? D=some o) (hd:o.data= .set es ep t) (hf:t.fits es.size=true) (hl:t.led=true) (hc:(!t.plain&&decide (es.size > 1))=false) {Q:Option (Value×Nat)→Shared→Prop}
  (h1: ∀ e j,es[SetTable.below t.place slot]?=some e→t.place[SetTable.below t.place slot]?=some j→Q (some (e.2,j+1)) s) (h2:es[SetTable.below t.place slot]?=none→Q none s):wpAny (model prog w) A (setNext D slot i ep) Q E s:=by
 unfold setNext
 refine NR (PySem.wpAny_setState_of hD hd hf ?_)
 dsimp only
 refine NR (jf ?_)
 rw[hb,OH (by simp)]
 refine wpAny_ite ?_
 split
 ·rename_i c
  have c':(!t.plain&&decide (es.size > 1))=true:=c
  rw[hc] at c'
  cases c'
 ·refine NR (wpAny_of_eq (a:=PUnit.unit) ?_ ?_)
  ·show (if(!t.led&&!es.isEmpty)=true then(unsupported "set:maker-not-led":Sem PUnit) else pure PUnit.unit)=pure PUnit.unit
   rw[hl]
   rfl
  ·refine NW ?_
   have z:t.place.size=es.size:=by
    unfold SetTable.fits at hf
    simp at hf
    exact hf.1
   cases e1:es[SetTable.below t.place slot]? with
   |none=>exact h2 e1
   |some e=>
    have lt:=(Array.getElem?_eq_some_iff.mp e1).1
    have e2:t.place[SetTable.below t.place slot]?=some (t.place[SetTable.below t.place slot]'(by lia)):=Oj (by lia)
    have q:=h1 e _ e1 e2
    rw[e2]
    exact q
def slotAt (pl:Array Nat):Nat→Nat
 |0=>0
 |i+1=>pl.getD i 0+1
theorem oJ {pl:Array Nat} (h:eE pl): ∀ {i:Nat},i≤pl.size→SetTable.below pl (slotAt pl i)=i
 |0,_=>oM h (Ol _) (fun k a hk=>absurd hk (Nat.not_lt_zero _)) fun k a _ _=>Ol _
 |i+1,hi=>by
  have e:pl[i]?=some pl[i]:=Oj (by lia)
  have eg:slotAt pl (i+1)=pl[i]+1:=by
   show pl.getD i 0+1=_
   rw[Oe,e]
   rfl
  rw[eg]
  refine oM h hi (fun k a hk ha=>?_) fun k a hk ha=>?_
  ·rcases Nat.lt_or_eq_of_le (Nat.le_of_lt_succ hk) with c|c
   ·exact Nat.lt_succ_of_lt (h.lt c ha e)
   ·subst c;rw[e] at ha;cases ha;exact Nat.lt_succ_self _
  ·exact h.lt (by lia) e ha
theorem AD (hh:A.handled=none) (hID:I≠D) (hb:w.params.followText "set-order"=false) (hd:o.data= .set es ep t) (hf:t.fits es.size=true) (hl:t.led=true) (hc:(!t.plain&&decide (es.size > 1))=false) (hr:eE t.place):
  Walks prog w A I [I,D] [I] es.size (fun i v=>(es.toList.map (·.2))[i]?=some v) (fun i h=>h.get? I=some (jn (.int (slotAt t.place i:Nat) 0) i D es.size ep)∧h.get? D=some o) where
 sub:=fun c hc=>by simp at hc;simp[hc]
 frame:=fun i h h' st k=>⟨k I (by simp) _ st.1,k D (by simp) _ st.2⟩
 item:=fun i s Q E hi st hQ=>by
  have z:t.place.size=es.size:=by
   unfold SetTable.fits at hf
   simp at hf
   exact hf.1
  have e1:es[i]?=some es[i]:=Oj hi
  have e2:t.place[i]?=some (t.place[i]'(by lia)):=Oj (by lia)
  have hbl:=oJ hr (i:=i) (by lia)
  refine tT (x:=es[i].2) (nx:=slotAt t.place (i+1)) st.1 st.2 hd hf (fun {Q' E'} h=>uw hb st.2 hd hf hl hc (fun e j he hj=>?_) fun he=>?_) fun h' g sb=>?_
  ·rw[hbl,e1] at he
   rw[hbl,e2] at hj
   cases he
   cases hj
   have eg:slotAt t.place (i+1)=t.place[i]'(by lia)+1:=by
    show t.place.getD i 0+1=_
    rw[Oe,e2]
    rfl
   rw[eg] at h
   exact h
  ·rw[hbl,e1] at he
   cases he
  ·refine hQ _ h' s.toks ?_ ⟨g,(sb.2 D hID.symm).trans st.2⟩ fun c u hc e=>(sb.2 c fun z=>hc (by simp[z])).trans e
   rw[Oc,Array.getElem?_toList,e1]
   rfl
 done:=fun s Q E st hQ=>by
  have z:t.place.size=es.size:=by
   unfold SetTable.fits at hf
   simp at hf
   exact hf.1
  have hbl:=oJ hr (i:=es.size) (by lia)
  have en:es[es.size]?=none:=Array.getElem?_eq_none (NZ _)
  refine xY hh st.1 st.2 hd hf (fun {Q' E'} h=>uw hb st.2 hd hf hl hc (fun e j he hj=>?_) fun he=>h) fun h' eb=>?_
  ·rw[hbl,en] at he
   cases he
  ·exact hQ h' s.toks fun c u hc e=>eb c u (fun z=>hc (by simp[z])) e
 self:=fun i s Q E st hQ=>m9 st.1 hQ
theorem zk {A':Around} {Q:Value→Shared→Prop} (hh:A'.handled=none) (hex:o.ExactSet) (hD:s.heap.get? D=some o) (hd:o.data= .set es ep t) (hf:t.fits es.size=true) (hl:t.led=!w.params.followText "set-order") (hr:eE t.place) (hz:es.size≤4096)
  (h: ∀ (I:Addr) (h':Heap) d',G2 prog w A' es D I h' s.heap.objs.size→(∀ b u,s.heap.get? b=some u→h'.get? b=some u)→h'.get? I≠none→s.heap.objs.size≤I→Q (.ref I) {s with heap:=h',drawn:=d'}):
  wpAny (model prog w) A (pyIter (.ref D)) Q E s:=by
 have hT:s.TypeIs (.ref D) "set":=⟨o,hD,hex.1⟩
 have ltD:D < s.heap.objs.size:=N9 hD
 refine wpAny_pyIter_slot hT PySem.F.slot_set_iter (wpAny_call_entry PySem.F.slot_set_iter hT oB ?_ (PySem.F.args_set_iter_1 _))
 unfold Builtin.«frozenset.__iter__» Builtin.Frozenset.slot0 slotArgs
 show wpAny _ _ ((pure (Value.ref D,([]:List Value)) >>= _) >>= _) _ _ s
 refine NR (NR (NW ?_))
 unfold Builtin.Frozenset.addrOf Builtin.Frozenset.sizeOf
 refine NW ?_
 refine NR (NR (PySem.wpAny_setEntries_of hD hd hf (NW ?_)))
 have fin: ∀ (first:Value) (h1:Heap) (d1:Drawn),h1.get? D=some o→(∀ b u,s.heap.get? b=some u→h1.get? b=some u)→s.heap.objs.size≤h1.objs.size→G2 prog w A' es D h1.objs.size (h1.push (jn first 0 D es.size ep)) s.heap.objs.size→
   wpAny (model prog w) A.in1 (setEpoch D >>= fun e=>newFields "set_iterator" [first,rawInt 0,Value.ref D,rawInt es.size,rawInt e] >>= fun v=>ret v) (fun fin s'=> ∃ v,fin=Fin.done (Flow.ret v)∧∃ T' r,s'.TypeIs v T'∧typeLookup (Value.type T') (Str.ofString "__next__")=pure (some r)∧Q v s') E {s with heap:=h1,drawn:=d1}:=fun first h1 d1 g1 k1 z1 fd=>by
  refine NR ?_
  unfold setEpoch
  refine NR (PySem.wpAny_setState_of g1 hd hf (NW ?_))
  refine NR (wpAny_newObj_type (NW ⟨_,rfl,"set_iterator",_,⟨_,N6 _ rfl,rfl⟩,a8.lookup,?_⟩))
  refine h _ _ d1 fd (fun b u e=>NU _ (k1 b u e)) ?_ z1
  rw[N6 _ rfl]
  simp
 have new: ∀ (first:Value) (h1:Heap),(h1.push (jn first 0 D es.size ep)).get? h1.objs.size=some (jn first 0 D es.size ep):=fun _ _=>N6 _ rfl
 refine NR ?_
 unfold setDrawn
 refine NR (PySem.wpAny_setState_of hD hd hf ?_)
 dsimp only
 refine NR (jf (NW ?_))
 show wpAny _ _ (if(!w.params.followText "set-order"&&(!t.plain&&decide (es.size > 1)))=true then _ else _) _ _ s
 cases hb:w.params.followText "set-order" with
 |true=>
  rw[OH (by simp)]
  refine NR (NW ?_)
  refine fin (rawInt 0) s.heap s.drawn hD (fun _ _ e=>e) (NZ _) ⟨(pickOrder (w.params.setOrder D ep) es).toList.map (·.2),[s.heap.objs.size,D],fun i h=>h.get? s.heap.objs.size=some (jn (.int (0:Nat) 0) i D es.size ep)∧h.get? D=some o,(qg _ _).map _,?_,⟨new _ _,NU _ hD⟩,fun c hc=>?_⟩
  ·rw[NT,Ou,lj]
   exact Kw hh (Nat.ne_of_gt ltD) hb hd hf
  ·simp only[N2,N3,or_false] at hc
   rcases hc with rfl|rfl
   ·exact .inr (NZ _)
   ·exact .inl rfl
 |false=>
  rw[hb] at hl
  cases hcc:(!t.plain&&decide (es.size > 1)) with
  |true=>
   have c:es.size > 1:=by simp at hcc;exact hcc.2
   rw[OG (by simp)]
   refine NR (qG es.size _ s _ (by simp) fun ps d' pp=>?_)
   have zp:ps.length=es.size:=by rw[pp.length_eq,List.length_range]
   refine NR (wpAny_newTuple ?_ (by rw[NT,zp,Ox];lia))
   have gT:(s.heap.push {cls:=.type "tuple",data:=.seq (ps.map fun (i:Nat)=>rawInt i).toArray}).get? s.heap.objs.size=some {cls:=.type "tuple",data:=.seq (ps.map fun (i:Nat)=>rawInt i).toArray}:=N6 _ rfl
   have z1:(s.heap.push {cls:=.type "tuple",data:=.seq (ps.map fun (i:Nat)=>rawInt i).toArray}).objs.size=s.heap.objs.size+1:=Heap.size_push ..
   refine fin (.ref s.heap.objs.size) _ d' (NU _ hD) (fun _ _ e=>NU _ e) (by rw[z1];exact Nat.le_succ _) ⟨ps.map fun j=>(es[j]?.map (·.2)).getD .none,[s.heap.objs.size+1,D,s.heap.objs.size],fun i h=>h.get? (s.heap.objs.size+1)=some (jn (.ref s.heap.objs.size) i D es.size ep)∧h.get? D=some o∧h.get? s.heap.objs.size=some {cls:=.type "tuple",data:=.seq (ps.map fun (i:Nat)=>rawInt i).toArray},?_,?_,⟨by rw[←z1];exact new _ _,NU _ (NU _ hD),NU _ gT⟩,fun c hc=>?_⟩
   ·refine(pp.map _).trans (List.Perm.of_eq ?_)
    apply List.ext_getElem
    ·simp
    ·intro i h1 h2
     have hi:i < es.size:=by simpa using h1
     simp[hi]
   ·rw[NT]
    rw[z1]
    exact Ky hh (Nat.ne_of_gt (Nat.lt_succ_of_lt ltD)) (Nat.ne_of_gt (Nat.lt_succ_self _)) hd hf rfl fun j hj=>by simpa using pp.mem_iff.mp hj
   ·simp only[N2,N3,or_false] at hc
    rcases hc with rfl|rfl|rfl
    ·exact .inr (Nat.le_succ _)
    ·exact .inl rfl
    ·exact .inr (NZ _)
  |false=>
   rw[OH (by simp)]
   refine NR (NW ?_)
   refine fin (rawInt 0) s.heap s.drawn hD (fun _ _ e=>e) (NZ _) ⟨es.toList.map (·.2),[s.heap.objs.size,D],fun i h=>h.get? s.heap.objs.size=some (jn (.int (slotAt t.place i:Nat) 0) i D es.size ep)∧h.get? D=some o,.rfl,?_,⟨new _ _,NU _ hD⟩,fun c hc=>?_⟩
   ·rw[NT,Ou]
    exact AD hh (Nat.ne_of_gt ltD) hb hd hf hl hcc hr
   ·simp only[N2,N3,or_false] at hc
    rcases hc with rfl|rfl
    ·exact .inr (NZ _)
    ·exact .inl rfl
end
section
variable {prog:Program} {w:World} {A:Around} {E:Value→Shared→Prop} {s:Shared} {D:Addr} {o:Obj} {es:Array (Int×Value)} {ep:Nat} {t:SetTable}
theorem qZ {Q:List Value→Shared→Prop} (hh:A.handled=none) (hex:o.ExactSet) (hD:s.heap.get? D=some o) (hd:o.data= .set es ep t) (hf:t.fits es.size=true) (hl:t.led=!w.params.followText "set-order") (hr:eE t.place) (hz:es.size≤4096)
  (h: ∀ (out:List Value) (s':Shared),out.Perm (es.toList.map (·.2))→(∀ b u,s.heap.get? b=some u→s'.heap.get? b=some u)→s'.gens=s.gens→s'.os=s.os→s.toks≤s'.toks→Q out s'):
  wpAny (model prog w) A (collect (.ref D)) Q E s:=by
 have ltD:D < s.heap.objs.size:=N9 hD
 unfold collect
 refine NR (wpAny_runValue (codeAny_builtin PySem.F.entry_proto_collect ?_))
 rw[Around.under_plainId PySem.F.plain_proto_collect _]
 show wpAny _ A.in1 (newList [] >>= fun l=>again (.builtin "list.__iadd__" ⟨[l,.ref D],[]⟩)) _ _ s
 refine NR (wpAny_newObj_type (NW ⟨plainId_quiet PySem.F.plain_list_iadd _,codeAny_builtin PySem.F.entry_list_iadd ?_⟩))
 rw[Around.under_plainId PySem.F.plain_list_iadd _]
 show wpAny _ A.in1 (Builtin.List.listExtendWith (.ref s.heap.objs.size) (.ref D) (.ref s.heap.objs.size)) _ _ _
 unfold Builtin.List.listExtendWith
 have g0:(s.heap.push {cls:=.type "list",data:=.seq ([]:List Value).toArray}).get? s.heap.objs.size=some {cls:=.type "list",data:=.seq ([]:List Value).toArray}:=N6 _ rfl
 have gD:(s.heap.push {cls:=.type "list",data:=.seq ([]:List Value).toArray}).get? D=some o:=NU _ hD
 generalize hh1:s.heap.push {cls:=.type "list",data:=.seq ([]:List Value).toArray}=h1 at g0 gD
 have k1: ∀ b u,s.heap.get? b=some u→h1.get? b=some u:=fun b u e=>hh1▸NU _ e
 have z1:h1.objs.size=s.heap.objs.size+1:=by rw[←hh1];exact Heap.size_push ..
 have hT:Shared.TypeIs {s with heap:=h1} (.ref D) "set":=⟨o,gD,hex.1⟩
 refine NR (wpAny_typeOf hT ?_)
 have c1:Builtin.List.listSameRef (.ref s.heap.objs.size) (.ref D)=false:=by simp[Builtin.List.listSameRef,Nat.ne_of_gt ltD]
 have c2:(Value.type "set"==Value.type "list")=false:=by decide
 have c3:(Value.type "set"==Value.type "tuple")=false:=by decide
 simp only[c1,c2,c3,Bool.or_false,OA,if_false]
 refine NR (zk (s:={s with heap:=h1}) (A':=A.in1) (by simp[hh]) hex gD hd hf hl hr hz fun I h2 d' fd k2 hI zI=>?_)
 refine NR (wpAny_holding ?_)
 have hT2:Shared.TypeIs {s with heap:=h2,drawn:=d'} (.ref D) "set":=⟨o,k2 _ _ gD,hex.1⟩
 unfold Builtin.List.listLengthHint
 refine NR (wpAny_specialOf hT2 ng ?_)
 have sp:splitId "set.__len__"=some ("set","__len__"):=by first|rfl|decide +kernel
 dsimp only
 simp only[sp]
 refine NR (wpAny_isInstance hT2 sub_set_self ?_)
 simp only[Bool.not_true,OA,if_false]
 refine wpAny_ite ?_
 rw[OG (by decide +kernel)]
 refine NR (wpAny_typeOf hT2 (NW ?_))
 refine wpAny_ite ?_
 rw[OG (by decide +kernel)]
 refine NR (wpAny_rule ?_)
 have g2:h2.get? s.heap.objs.size=some {cls:=.type "list",data:=.seq ([]:List Value).toArray}:=k2 _ _ g0
 refine NR ?_
 show wpAny _ A.in1 (updateSeq s.heap.objs.size (·.push .none) >>= fun _=>updateSeq s.heap.objs.size (·.pop)) _ _ _
 refine NR (wpAny_updateSeq g2 rfl ?_)
 have g3:=Heap.get?_update_self (Obj.mapSeq (·.push Value.none)) g2 rfl
 refine wpAny_updateSeq g3 rfl ?_
 have g4:=Heap.get?_update_self (Obj.mapSeq (·.pop)) g3 rfl
 have h8: ∀ b u,b≠s.heap.objs.size→h2.get? b=some u→((h2.update s.heap.objs.size (Obj.mapSeq (·.push Value.none))).update s.heap.objs.size (Obj.mapSeq (·.pop))).get? b=some u:=fun b u hb e=>(Heap.get?_update_other _ _ (Ne.symm hb)).trans ((Heap.get?_update_other _ _ (Ne.symm hb)).trans e)
 obtain⟨out,fp,Sx,pm,W,st,lf⟩:=fd
 have nf:s.heap.objs.size∉fp:=fun hm=>by
  rcases lf _ hm with e|e
  ·exact absurd e (Nat.ne_of_gt ltD)
  ·have e':h1.objs.size≤s.heap.objs.size:=e
   rw[z1] at e'
   exact absurd e' (Nat.not_succ_le_self _)
 refine NW ⟨plainId_quiet PySem.F.plain_extend_loop _,codeAny_extend_loopS W.toS (by rw[pm.length_eq,NT,Ou,Ox];lia) _ nf _ out.length 0 _ _ _ rfl (Ol _) (W.frame 0 h2 _ st fun b hb u e=>h8 b u (fun z=>nf (z▸hb)) e) g4 (ItemsOf.nil _) fun s' acc c' mv gS ia=>?_⟩
 show wpAny _ A (load s.heap.objs.size >>= _) _ _ s'
 refine NR (wpAny_load gS (NW ?_))
 have ea:acc.toList=out:=by
  apply List.ext_getElem?
  intro i
  by_cases hi:i < acc.size
  ·have e:=ia.2 i acc[i] (by simp[hi])
   rw[Array.getElem?_toList,e]
   simp[hi]
  ·rw[List.getElem?_eq_none (by simpa using hi),List.getElem?_eq_none (by have:=ia.1;lia)]
 rw[ea]
 refine h out s' pm (fun b u e=>?_) mv.gens mv.os mv.toks
 refine mv.heap b u ?_ (h8 b u (Oo (N9 e)) (k2 _ _ (k1 _ _ e)))
 simp only[N2,N3,or_false,not_or]
 have lb:b < s.heap.objs.size:=N9 e
 refine⟨Oo lb,Oo (Of lb (Od (Nat.le_succ _) (Od (Nat.le_of_eq z1.symm) zI)))⟩
end
section
variable {φ:cM}
def we (x:Int):List Int→List Int
 |[]=>[x]
 |y::l=>if y < x then y::we x l else x::y::l
def iq:List Int→List Int
 |[]=>[]
 |x::l=>we x (iq l)
theorem k9 (x:Int): ∀ l:List Int,(we x l).Perm (x::l)
 |[]=>.rfl
 |y::l=>by
  unfold we
  split
  ·exact((k9 x l).cons y).trans (.swap x y l)
  ·exact .rfl
theorem fT: ∀ l:List Int,(iq l).Perm l
 |[]=>.rfl
 |x::l=>(k9 x _).trans ((fT l).cons x)
theorem ye (x:Int): ∀ l:List Int,l.Pairwise (·≤·)→(we x l).Pairwise (·≤·)
 |[],_=>by simp[we]
 |y::l,h=>by
  obtain⟨h1,h2⟩:=OJ.mp h
  unfold we
  by_cases c:y < x
  ·rw[OG c]
   refine OJ.mpr ⟨fun z hz=>?_,ye x l h2⟩
   rcases N2.mp ((k9 x l).mem_iff.mp hz) with rfl|hz
   ·exact Int.le_of_lt c
   ·exact h1 z hz
  ·rw[OH c]
   refine OJ.mpr ⟨fun z hz=>?_,h⟩
   rcases N2.mp hz with rfl|hz
   ·lia
   ·exact Int.le_trans (by lia) (h1 z hz)
theorem m6: ∀ l:List Int,(iq l).Pairwise (·≤·)
 |[]=>.nil
 |x::l=>ye x _ (m6 l)
theorem qa: ∀ (l m:List Int),l.Pairwise (·≤·)→m.Pairwise (·≤·)→l.Perm m→l=m
 |[],m,_,_,p=>(List.nil_perm.mp p).symm
 |a::l,[],_,_,p=>absurd p.length_eq (by simp)
 |a::l,b::m,h1,h2,p=>by
  have ea:a=b:=by
   rcases N2.mp (p.mem_iff.mp NS) with e|ha
   ·exact e
   rcases N2.mp (p.mem_iff.mpr NS) with e|hb
   ·exact e.symm
   exact Int.le_antisymm (List.rel_of_pairwise_cons h1 hb) (List.rel_of_pairwise_cons h2 ha)
  subst ea
  rw[qa l m (OJ.mp h1).2 (OJ.mp h2).2 (List.perm_cons a |>.mp p)]
theorem A1 {zs ys:List Int} (p:ys.Perm zs) (h:ys.Pairwise (·≤·)):ys=iq zs:=qa _ _ h (m6 zs) (p.trans (fT zs).symm)
def intOf:Value→Int
 | .int i _=>i
 |_=>0
theorem intsAre_map: ∀ (vs:List Value),(∀ v,v∈vs→∃ x t,v= .int x t)→IntsAre vs (vs.map intOf)
 |[],_=>.nil
 |v::vs,h=>by
  obtain⟨x,t,rfl⟩:=h v (NS ..)
  exact .cons x t (intsAre_map vs fun u hu=>h u (NV _ hu))
theorem lW: ∀ (l m:List Int),l.Nodup→(∀ x∈l,x∈m)→m.length≤l.length→m.Perm l
 |[],m,_,_,h=>by
  have:m=[]:=Ow (Nat.le_zero.mp h)
  rw[this]
 |x::l,m,nd,hs,h=>by
  have hx:=hs x NS
  have p1:=List.perm_cons_erase hx
  rw[List.nodup_cons] at nd
  refine p1.trans ((lW l (m.erase x) nd.2 (fun y hy=>?_) ?_).cons x)
  ·refine(List.mem_erase_of_ne ?_).mpr (hs y (NV _ hy))
   rintro rfl
   exact nd.1 hy
  ·rw[List.length_erase_of_mem hx]
   simp only[N5] at h
   lia
section
variable {prog:Program} {w:World} {A:Around} {E:Value→Shared→Prop} {s:Shared} {D:Addr} {o:Obj} {es:Array (Int×Value)} {ep:Nat} {t:SetTable}
theorem tU {Q:Value→Shared→Prop} (hh:A.handled=none) (hex:o.ExactSet) (hD:s.heap.get? D=some o) (hd:o.data= .set es ep t) (hf:t.fits es.size=true) (hl:t.led=!w.params.followText "set-order") (hr:eE t.place) (hz:es.size < 64) (hs: ∀ v∈es.toList.map (·.2),∃ x u,v= .int x u)
  (h: ∀ (out:Array Value) (n:Nat) (ss:List Int) (s1:Shared) (h':Heap),IntsAre out.toList ss→ss.Perm ((es.toList.map (·.2)).map intOf)→ss.Pairwise (·≤·)→(∀ b u,s.heap.get? b=some u→s1.heap.get? b=some u)→s1.gens=s.gens→s1.os=s.os→(∀ b u,s1.heap.get? b=some u→h'.get? b=some u)→h'.get? s1.heap.objs.size=some (seqObj "list" out n)→Q (.ref s1.heap.objs.size) {s1 with heap:=h'}):
  wpAny (model prog w) A (call (.builtin "sorted") [.ref D]) Q E s:=by
 refine Calls.call_function_entry kind_sorted plain_sorted entry_sorted (args_sorted1 _) ?_
 unfold Builtin.«sorted»
 refine NR (m:=checkCount "sorted" 1 1 _) (NW ?_)
 refine NR (qZ (by simp[hh]) hex hD hd hf hl hr (by lia) fun vs s1 pm k1 e1 e2 e3=>?_)
 have zv:vs.length < 64:=by rw[pm.length_eq,NT,Ou];exact hz
 have hv: ∀ v,v∈vs→∃ x u,v= .int x u:=fun v hv=>hs v (pm.mem_iff.mp hv)
 have hS:=intsAre_map vs hv
 refine NR (wpAny_newList ?_ (by show vs.length≤_;rw[Ox];lia))
 have hoL:(s1.heap.push (seqObj "list" vs.toArray 0)).get? s1.heap.objs.size=some (seqObj "list" vs.toArray 0):=N6 _ rfl
 refine NR (wpAny_holding (wpAny_call_entry slot_list_sort ⟨_,hoL,rfl⟩ entry_list_sort (list_sort_tree hoL hS zv fun out ns' a1 a2 a3=>⟨_,rfl,?_⟩) (args_list_sort _)))
 refine NW ⟨_,rfl,?_⟩
 have ne: ∀ b u,s1.heap.get? b=some u→b≠s1.heap.objs.size:=fun b u e=>Oo (N9 e)
 obtain⟨n,g⟩:=sortedHeap_at (out:=out) hoL
 refine h _ _ ns' s1 _ a1 (a2.trans (pm.map _)) a3 k1 e1 e2 (fun b u e=>?_) g
 rw[sortedHeap_old (ne b u e) (by rw[size_push'];exact Nat.lt_succ_of_lt (N9 e))]
 exact NU _ e
end
theorem nV {i:Int} {v:Value} (h:kC (.inl i) v=true): ∃ t,v= .int i t:=by
 rcases bq h with⟨j,t,e,rfl⟩|⟨x,t,e,_⟩
 ·cases e;exact⟨t,rfl⟩
 ·cases e
section
variable {X:Cx} {e:Expr}
def wb (P:Program) (w:World):List V→Hp→VK→Prop:=fun xs H Q=> ∃ (D:Addr) (is:List Int),xs=[.ref D]∧H D=some (dH P w D (fun k=>se (is.map Sum.inl) k) is.length)∧is.Nodup∧is.length < 64∧∀ (ys:List Int) (p:Addr),ys.Perm is→ys.Pairwise (·≤·)→H p=none→Q (.ref p) (upd H p (.lst (ys.map V.int)))
theorem xh (hc:X.calm=true):fc X (.builtin "sorted") (wb X.prog X.w):=by
 intro pZ s σ H xs us Q I r h
 obtain⟨D,is,rfl,hD,nd,n1,q⟩:=h
 obtain⟨u,rfl,rx⟩:=vals1 r
 cases rx
 obtain⟨⟨hS,hL⟩,_⟩:=I.a7 D _ hD
 obtain⟨o,es,ep,t,ho,hex,hd,hel,hmem,hb,hf,hn⟩:=hS
 obtain⟨o',es',ep',t',ho',hd',led,pl⟩:=hL
 rw[ho] at ho'
 cases ho'
 rw[hd] at hd'
 cases hd'
 have num: ∀ e∈es.toList,∃ x u,e.2= .int x u∧x∈is:=fun e he=>by
  obtain⟨⟨k,hk,_⟩,_⟩:=hel e he
  have:=(hmem k).mpr ⟨e,he,hk⟩
  obtain⟨z,hz,e'⟩:=List.any_eq_true.mp this
  obtain⟨i,hi,rfl⟩:=N4.mp hz
  have ek:Sum.inl i=k:=of_decide_eq_true e'
  subst ek
  obtain⟨u,hu⟩:=nV hk
  exact⟨i,u,hu,hi⟩
 have cover:((es.toList.map (·.2)).map intOf).Perm is:=by
  refine lW _ _ nd (fun x hx=>?_) (by simp[hn])
  obtain⟨e,he,hk⟩:=(hmem (.inl x)).mp (List.any_eq_true.mpr ⟨Sum.inl x,Oq hx,by simp⟩)
  obtain⟨u,hu⟩:=nV hk
  refine N4.mpr ⟨e.2,N4.mpr ⟨e,he,rfl⟩,?_⟩
  rw[hu]
  rfl
 refine tU (I.ok.hd hc) hex ho hd hf led pl (by lia) (fun v hv=>?_) fun out n ss s1 h' c1 c2 c3 k1 e1 e2 k2 g=>?_
 ·obtain⟨e,he,rfl⟩:=N4.mp hv
  obtain⟨x,u,h1,_⟩:=num e he
  exact⟨x,u,h1⟩
 ·obtain⟨hp1,g1,d1,t1,os1⟩:=s1
  simp only at e1 e2
  subst e1 e2
  have I1:Inv X pZ σ H {s with heap:=hp1,drawn:=d1,toks:=t1}:=I.Lv k1
  have I2:=I1.laid (t':=t1) (h':=h') (a:=hp1.objs.size) (o:=.lst (ss.map V.int)) k2 (NZ _) ⟨by rw[NT,(c2.trans cover).length_eq,Ox];lia,out.toList,n,?_,?_⟩
  ·exact⟨.ref hp1.objs.size,_,I2,rfl,q ss _ (c2.trans cover) c3 (I1.a7.fresh (NZ _))⟩
  ·exact jg c1
  ·simpa using g
def nR:List Key→Option (List Int)
 |[]=>some []
 | .inl i::l=>(nR l).map (i:: ·)
 | .inr _::_=>none
theorem uK: ∀ {l:List Key} {is:List Int},nR l=some is→l=is.map Sum.inl
 |[],is,e=>by cases e;rfl
 | .inl i::l,is,e=>by
  obtain⟨js,h,rfl⟩:=Og.mp e
  rw[uK h]
  rfl
 | .inr _::_,is,e=>by cases e
def sortI (zs:List PV):M (List PV):=(M.bO (nR (dk zs))).bind fun is=>if is.length < 64 then .ret ((iq is).map PV.int) else .fail
theorem uX (zs:List PV):(dk zs).Nodup:=by
 have: ∀ (zs:List PV) (ks:List Key),ks.Nodup→(zs.foldl (fun ks z=>if se ks (keyOf z)=true then ks else ks++[keyOf z]) ks).Nodup:=fun zs=>by
  induction zs with
  |nil=>exact fun ks h=>h
  |cons z zs ih=>
   intro ks h
   refine ih _ ?_
   dsimp only
   by_cases c:se ks (keyOf z)=true
   ·rw[OG c];exact h
   ·rw[OH c,List.nodup_append]
    refine⟨h,by simp,fun a ha b hb=>?_⟩
    rw[Om] at hb
    subst hb
    rintro rfl
    exact c (List.any_eq_true.mpr ⟨_,ha,by simp⟩)
 exact this zs [] List.nodup_nil
theorem zm {B:Addr} {O:Addr→Prop} {H:Hp} (ys:List Int):aJ B O H (ys.map PV.int) (ys.map V.int):=by
 refine⟨by simp,fun i y x hy hx=>?_⟩
 rw[Oc] at hy hx
 obtain⟨z,hz,rfl⟩:=Og.mp hy
 rw[hz] at hx
 cases hx
 exact .int z
theorem zh {zs:List PV} {n:Nat} {R:List PV→Nat→Prop} (w:(sortI zs).wp n R): ∃ is,nR (dk zs)=some is∧is.length < 64∧R ((iq is).map PV.int) n:=by
 unfold sortI at w
 cases e:nR (dk zs) with
 |none=>rw[e] at w;exact w.elim
 |some is=>
  rw[e] at w
  have w':(if is.length < 64 then M.ret ((iq is).map PV.int) else .fail).wp n R:=w
  split at w'
  ·rename_i h
   exact⟨is,rfl,h,w'⟩
  ·exact w'.elim
theorem KP {K:Frag} {P:Program} {wd:World} {js:List (Option Nat)} {mi:ae→M (List PV)} {bd:PV→ae→M ae} {tt:ae→M Bool} {te:ae→M PV}: ∀ σ H Q,Gi φ (fun ρ=>(B5 js mi bd tt te ρ).bind sortI) σ H Q→KC P wd js (Hm φ K false mi) (DQ φ bd) (xT φ tt) (o4 φ te) σ H (fun x H'=>wb P wd [x] H' Q):=fun σ H Q bt=>by
 obtain⟨G,O,ρ,n,R,s,w,q⟩:=bt
 rw[M.wZ] at w
 unfold B5 at w
 rw[M.wZ] at w
 refine⟨G,O,ρ,n,_,s,w,fun l J H1 n1 e1 a9 it w1=>fun D hD=>?_⟩
 by_cases hl:l.length≤4000
 case neg=>rw[OH hl] at w1;exact w1.elim
 rw[OG hl] at w1
 have s1:=s.ext e1 a9
 have nD: ¬ O D:=fun z=>by obtain⟨o,g⟩:=s1.dm D z;rw[hD] at g;cases g
 have pD: ¬ G.bY D:=fun z=>nD (s.pr _ z)
 have hBD:D≠G.B:=fun z=>pD (z▸G.pB)
 have bP: ∀ p o,H1 p=some o→p≠D:=fun p o hp z=>by subst z;rw[hD] at hp;cases hp
 let O':Addr→Prop:=fun p=>O p∨p=D
 let G':Bg φ:=G.Kv D hBD
 have k0: ∀ p o,¬ O p→H1 p=some o→upd H1 D (dH P wd D (fun _=>false) 0) p=some o∧¬ O' p:=fun p o np hp=>⟨by rw[ag (bP p o hp)];exact hp,fun z=>by
  rcases z with z|z
  ·exact np z
  ·exact bP p o hp z⟩
 have kD: ∀ (H5:Hp) (o:HO) p u,¬ O' p→H5 p=some u→upd H5 D o p=some u∧¬ O' p:=fun H5 o p u np hp=>⟨by rw[ag (fun z=>np (.inr z))];exact hp,np⟩
 refine⟨fun i m σ' H'=>m=l.length - i∧i≤l.length∧∃ (zs:List PV) (ρ':ae) (n':Nat),zs.length≤i∧H' D=some (dH P wd D (fun k=>se (dk zs) k) (dk zs).length)∧ES G' O' H' σ' ρ' n'∧Ext G.B H1 H'∧eZ K G' O' false H' l J∧
  (pQ bd tt (fun ρ=>(te ρ).bind E8) (l.drop i) ρ').wp n' (fun t k=>(sortI (zs++t)).wp k R),⟨l.length,by simp,Ol _,[],c9 js ρ,n1,NZ _,ar,?_,Ext.new hD _,?_,?_⟩,?_⟩
 ·have er:=oG s1.er js
  refine⟨⟨er.1,fun i e he=>?_⟩,⟨Bg.new a9 hD _,_,ar⟩,fun p z=>?_,fun p z=>?_⟩
  ·have r1:=er.2 i e he
   cases e with
   |un=>trivial
   |val y=>obtain⟨x,hx,rr⟩:=r1;exact⟨x,hx,rr.keep k0⟩
   |own t=>
    obtain⟨p,xs,hx,hp,np,hh,rr⟩:=r1
    exact⟨p,xs,hx,.inl hp,fun z=>by
     rcases z with z|z
     ·exact np z
     ·exact bP p _ hh z,by rw[ag (bP p _ hh)];exact hh,rr.keep k0⟩
   |bp t=>
    obtain⟨p,xs,hx,hp,np,hh,rr⟩:=r1
    exact⟨p,xs,hx,.inl hp,fun z=>by
     rcases z with z|z
     ·exact np z
     ·exact bP p _ hh z,by rw[ag (bP p _ hh)];exact hh,rr.keep k0⟩
  ·rcases z with z|z
   ·exact .inl (s.pr p z)
   ·exact .inr z
  ·rcases z with z|z
   ·obtain⟨o,g⟩:=s1.dm p z;exact⟨o,by rw[ag (bP p o g)];exact g⟩
   ·subst z;exact⟨_,ar⟩
 ·cases it with
  |lst np hp h r=>
   exact .lst (fun z=>by
    rcases z with z|z
    ·exact np z
    ·exact bP _ _ h z) (fun z=>by cases z) (by rw[ag (bP _ _ h)];exact h) (r.keep k0)
  |tup hp h r=>exact .tup (k0 _ _ hp h).2 (k0 _ _ hp h).1 (r.keep k0)
  |txt z=>exact .txt z
  |vD lo n=>exact .vD lo n
 ·simpa using w1
 ·rintro i m σ' H' ⟨rfl,hi,zs,ρ',n',hy,hDy,s',ex,it',w'⟩
  by_cases cU:i < l.length
  ·have hget:l[i]?=some l[i]:=NQ cU
   have iX:l.drop i=l[i]::l.drop (i+1):=List.drop_eq_getElem_cons cU
   rw[iX] at w'
   unfold pQ at w'
   obtain⟨g1,g2⟩:=it'.go hget
   refine .inr ⟨g1,fun x H2 yl=>?_⟩
   obtain⟨eH,rx⟩:=g2 x H2 yl
   subst eH
   rw[M.wZ] at w'
   refine⟨G',O',ρ',n',_,l[i],s',rx,w',fun σ2 ρ2 n2 s2 w2=>?_⟩
   rw[M.wZ] at w2
   refine⟨G',O',ρ2,n2,_,s2,w2,fun ok H4 n4 e4 ok4 w4=>?_⟩
   have D4:H4 D=some (dH P wd D (fun k=>se (dk zs) k) (dk zs).length):=e4 D _ hBD hDy
   have it4:eZ K G' O' false H4 l J:=it'.cp (fun p o np hp=>⟨e4 p o (fun z=>np (.inl (z▸s.B))) hp,np⟩) (.inr fun p xs np hp=>e4 p _ (fun z=>np (z▸G'.pB)) hp) fun p z=>by cases z
   cases ok with
   |true=>
    simp only[if_true] at w4 ⊢
    rw[M.bZ,M.wZ] at w4
    refine⟨G',O',ρ2,n4,_,s2.ext e4 ok4,w4,fun z x5 H5 n5 e5 ok5 r5 w5=>?_⟩
    have D5:H5 D=some (dH P wd D (fun k=>se (dk zs) k) (dk zs).length):=e5 D _ hBD D4
    obtain⟨ek,w5⟩:=E7 r5 w5
    rw[M.wZ] at w5
    have s5:=s2.ext (e4.trans e5) ok5
    have it5:eZ K G' O' false H5 l J:=it4.cp (fun p o np hp=>⟨e5 p o (fun z=>np (.inl (z▸s.B))) hp,np⟩) (.inr fun p xs np hp=>e5 p _ (fun z=>np (z▸G'.pB)) hp) fun p z=>by cases z
    have hdl:=Js zs
    refine⟨keyOf z,_,_,ek,D5,by show _ < 4096;lia,l.length - (i+1),by lia,rfl,cU,zs++[z],ρ2,n5,by simp;lia,by rw[ar,Nk,Nj],?_,?_,?_,?_⟩
    ·refine⟨⟨s5.er.1,fun j e he=>?_⟩,⟨G.keep H5 _ _ (fun p o hp hpo=>by
      have hpd:p≠D:=fun z=>by
       rcases hp with hp|hp
       ·exact pD (z▸hp)
       ·rw[z,D5] at hpo;cases hpo;exact hp
      rw[ag hpd];exact hpo) ok5.1,_,ar⟩,s5.pr,fun p hp=>?_⟩
     ·have r1:=s5.er.2 j e he
      cases e with
      |un=>trivial
      |val y=>obtain⟨x,hx,rr⟩:=r1;exact⟨x,hx,rr.keep (kD H5 _)⟩
      |own t=>
       obtain⟨p,xs,hx,hp,np,hh,rr⟩:=r1
       exact⟨p,xs,hx,hp,np,by rw[ag (fun z=>np (.inr z))];exact hh,rr.keep (kD H5 _)⟩
      |bp t=>
       obtain⟨p,xs,hx,hp,np,hh,rr⟩:=r1
       exact⟨p,xs,hx,hp,np,by rw[ag (fun z=>np (.inr z))];exact hh,rr.keep (kD H5 _)⟩
     ·by_cases hpd:p=D
      ·subst hpd;exact⟨_,ar⟩
      ·obtain⟨o,g⟩:=s5.dm p hp;exact⟨o,by rw[ag hpd];exact g⟩
    ·intro p o np hp
     exact((ex.trans (e4.trans e5)) p o np hp).to fun u e=>.of (by rw[ag (bP p o hp)];exact e)
    ·exact it5.keep (kD H5 _) (.inr fun p xs np hp=>by rw[ag (fun z=>np (.inr z))];exact hp) fun p z=>by cases z
    ·refine M.wp_mono w5 fun t k' hk=>?_
     have hk':(sortI (zs++z::t)).wp k' R:=hk
     simpa using hk'
   |false=>
    exact⟨l.length - (i+1),by lia,rfl,cU,zs,ρ2,n4,by lia,D4,s2.ext e4 ok4,ex.trans e4,it4,w4⟩
  ·have e:i=l.length:=by lia
   subst e
   refine .inl ⟨it'.stop,?_⟩
   rw[List.drop_length] at w'
   have w2:(sortI (zs++[])).wp n' R:=w'
   rw[List.append_nil] at w2
   obtain⟨is,hk,h64,hR⟩:=zh w2
   have hk':=uK hk
   have nd:=uX zs
   rw[hk'] at hDy nd
   rw[NT] at hDy
   refine⟨D,is,rfl,hDy,?_,h64,fun ys p pm hs hp=>?_⟩
   ·exact List.Pairwise.of_map Sum.inl (fun a b h z=>h (by rw[z])) nd
   ·rw[A1 pm hs]
    have e3:Ext G.B H' (upd H' p (.lst ((iq is).map V.int))):=Ext.new hp _
    have nb:H p=none:=eN (e1.trans ex) s'.ok.1 hp
    exact q _ p _ _ n' ((e1.trans ex).trans e3) (Bg.new s'.ok.1 hp _) nb ar (zm _) hR
theorem LV {pos:Pos} {elt target iter:Expr} {ifs:List Expr} {scope:Scope} {N:List Str} {js:List (Option Nat)} {wi:TI} {g:TG} {tt:TT} {te:TE} (L:bb X scope N js) (hc:X.calm=true) (hi:BI X target iter wi)
  (hg: ∀ s₀ H₀ ex pn,BG (fg X scope N s₀ H₀ ex pn) target g) (ht: ∀ s₀ H₀ ex pn,Ge (fg X scope N s₀ H₀ ex pn) ifs tt) (he: ∀ s₀ H₀ ex pn,BE (fg X scope N s₀ H₀ ex pn) elt te)
  (hs: ∀ x,foldedSetIterable iter X.env x=pure x:=by intro _;rfl):BE X (.SetComp elt [⟨target,iter,ifs,0⟩] scope pos) (KC X.prog X.w js wi g tt te):=⟨Lb L hc hi.out (fun a b c d=>(hg a b c d).out) (fun a b c d=>(ht a b c d).out) (fun a b c d=>(he a b c d).out) hs⟩
theorem Aa {js:List (Option Nat)} {mi:ae→M (List PV)} {bd:PV→ae→M ae} {tt:ae→M Bool} {te:ae→M PV} (h:BE X e (J7 (wb X.prog X.w) (kc (KC X.prog X.w js (Hm φ X.K false mi) (DQ φ bd) (xT φ tt) (o4 φ te)) vQ))):EF φ X e (fun ρ=>(B5 js mi bd tt te ρ).bind sortI):=BE.mono h fun σ H Q hq=>KP σ H Q hq
end
end
section
variable {φ:cM}
theorem AH:typeOf (.builtin "list.extend")=pure (.type "method_descriptor"):=by show builtinType _=_;rw[builtinType_eq_fast];kernel_rfl
section
variable {X:Cx} {st:Stmt}
def Lu:PV→M (List PV)
 | .lst l=>.ret l
 |_=>.fail
def zZ (k:Nat) (m:ae→M PV):ae→M Fl:=fun ρ=>match ρ[k]? with|some (.own l)=>(m ρ).bind fun y=>(Lu y).bind fun zs=>if l.length+zs.length≤100000 then .ret (.nx (ρ.set k (.own (l++zs)))) else .fail|_=>.fail
theorem Hy {k:Nat} {m:ae→M PV} (h:BS X st (xU (KI X.K "list" yb (mX k) (kc (o4 φ m) vQ)))):SV φ X st (zZ k m):=BS.mono h fun D σ H hq=>by
 obtain⟨G,O0,H0,O,ρ,n,s,w⟩:=hq
 unfold zZ at w
 cases hk:ρ[k]? with
 |none=>simp only[hk] at w;exact w.elim
 |some t=>
  cases t with
  |own l=>
   simp only[hk] at w
   obtain⟨p,xs,hx,hO,np,hh,rr⟩:=s.es.er.2 k _ hk
   have hs:=dw s.es.er hk hx
   have npB:p≠G.B:=fun z=>np (z▸G.pB)
   rw[M.wZ] at w
   refine⟨_,hs,.inl ⟨rfl,xs,bM.of hh⟩,G,O,ρ,n,_,s.es,w,fun y x H1 n1 e1 a9 r1 w1=>?_⟩
   have hy: ∃ zs,y= .lst zs∧(if l.length+zs.length≤100000 then(M.ret (Fl.nx (ρ.set k (.own (l++zs))))) else M.fail).wp n1 fun f n'=>oZ G O0 H0 D n' f:=by
    cases y<;>first|exact⟨_,rfl,w1⟩|exact w1.elim
   obtain⟨zs,rfl,w2⟩:=hy
   obtain⟨b,ys,rfl,hb,e⟩:=(bE.full (G:=G) r1).d9
   by_cases hc:l.length+zs.length≤100000
   ·rw[OG hc] at w2
    have s1:=s.to e1 a9
    have big:=dB
    have e':=e.1
    refine⟨p,b,xs,ys,rfl,rfl,e1 p _ npB hh,hb,by rw[←rr.1,←e.1];lia,w2 O _ _ (s1.put hk hs ((rr.ext s.es.B e1).append e))⟩
   ·rw[OH hc] at w2;exact w2.elim
  |_=>simp only[hk] at w;exact w.elim
end
theorem vn {X:Cx} (i:Nat) {x:Str} {pos:Pos} (hN:X.N[i]?=some x:=by rfl) (hv:Kh X.env.scope x:=by first|exact Or.inl rfl|exact Or.inr (Or.inl rfl)|exact Or.inr (Or.inr rfl)) (hd:(x==("__debug__":Str))=false:=by decide) (hcd:(x==("__classdict__":Str))=false:=by decide):EV φ X (.Name x pos) (fun ρ=>aq ρ i):=Fj i (bv i hN hv hd hcd)
theorem vb {X:Cx} (i:Nat) {x:Str} {pos:Pos} (hN:X.N[i]?=some x:=by rfl) (hv:Kh X.env.scope x:=by first|exact Or.inl rfl|exact Or.inr (Or.inl rfl)|exact Or.inr (Or.inr rfl)) (hd:(x==("__debug__":Str))=false:=by decide) (hcd:(x==("__classdict__":Str))=false:=by decide):EB φ X (.Name x pos) (fun ρ=>aq ρ i):=EV.b (vn i hN hv hd hcd)
theorem ib {X:Cx} {i:Int} {j:Nat} {pos:Pos}:EB φ X (.Constant (.int i) j pos) (fun _=>.ret (.int i)):=EV.b jQ
theorem xi {X:Cx} {a b:Expr} {pos:Pos} {ma mb:ae→M PV} (ha:EB φ X a ma) (hb:EB φ X b mb) (hs:tw b:=by exact fun _ _=>rfl):EV φ X (.Subscript a b pos) (ab az ma mb):=LA IQ Lg ha hb hs
section
variable {X:Cx}
theorem a1 {e0:Expr} {m0:ae→M PV} (h0:EV φ X e0 m0) (s0:isStar e0=false:=by rfl):AV φ X [e0] (aa m0 (fun _=>.ret [])):=aR h0 (fH) s0
theorem a2 {e0:Expr} {e1:Expr} {m0:ae→M PV} {m1:ae→M PV} (h0:EV φ X e0 m0) (h1:EV φ X e1 m1) (s0:isStar e0=false:=by rfl) (s1:isStar e1=false:=by rfl):AV φ X [e0,e1] (aa m0 (aa m1 (fun _=>.ret []))):=aR h0 (aR h1 (fH) s1) s0
theorem a3 {e0:Expr} {e1:Expr} {e2:Expr} {m0:ae→M PV} {m1:ae→M PV} {m2:ae→M PV} (h0:EV φ X e0 m0) (h1:EV φ X e1 m1) (h2:EV φ X e2 m2) (s0:isStar e0=false:=by rfl) (s1:isStar e1=false:=by rfl) (s2:isStar e2=false:=by rfl):AV φ X [e0,e1,e2] (aa m0 (aa m1 (aa m2 (fun _=>.ret [])))):=aR h0 (aR h1 (aR h2 (fH) s2) s1) s0
theorem a4 {e0:Expr} {e1:Expr} {e2:Expr} {e3:Expr} {m0:ae→M PV} {m1:ae→M PV} {m2:ae→M PV} {m3:ae→M PV} (h0:EV φ X e0 m0) (h1:EV φ X e1 m1) (h2:EV φ X e2 m2) (h3:EV φ X e3 m3) (s0:isStar e0=false:=by rfl) (s1:isStar e1=false:=by rfl) (s2:isStar e2=false:=by rfl) (s3:isStar e3=false:=by rfl):AV φ X [e0,e1,e2,e3] (aa m0 (aa m1 (aa m2 (aa m3 (fun _=>.ret []))))):=aR h0 (aR h1 (aR h2 (aR h3 (fH) s3) s2) s1) s0
theorem a5 {e0:Expr} {e1:Expr} {e2:Expr} {e3:Expr} {e4:Expr} {m0:ae→M PV} {m1:ae→M PV} {m2:ae→M PV} {m3:ae→M PV} {m4:ae→M PV} (h0:EV φ X e0 m0) (h1:EV φ X e1 m1) (h2:EV φ X e2 m2) (h3:EV φ X e3 m3) (h4:EV φ X e4 m4) (s0:isStar e0=false:=by rfl) (s1:isStar e1=false:=by rfl) (s2:isStar e2=false:=by rfl) (s3:isStar e3=false:=by rfl) (s4:isStar e4=false:=by rfl):AV φ X [e0,e1,e2,e3,e4] (aa m0 (aa m1 (aa m2 (aa m3 (aa m4 (fun _=>.ret [])))))):=aR h0 (aR h1 (aR h2 (aR h3 (aR h4 (fH) s4) s3) s2) s1) s0
theorem a6 {e0:Expr} {e1:Expr} {e2:Expr} {e3:Expr} {e4:Expr} {e5:Expr} {m0:ae→M PV} {m1:ae→M PV} {m2:ae→M PV} {m3:ae→M PV} {m4:ae→M PV} {m5:ae→M PV} (h0:EV φ X e0 m0) (h1:EV φ X e1 m1) (h2:EV φ X e2 m2) (h3:EV φ X e3 m3) (h4:EV φ X e4 m4) (h5:EV φ X e5 m5) (s0:isStar e0=false:=by rfl) (s1:isStar e1=false:=by rfl) (s2:isStar e2=false:=by rfl) (s3:isStar e3=false:=by rfl) (s4:isStar e4=false:=by rfl) (s5:isStar e5=false:=by rfl):AV φ X [e0,e1,e2,e3,e4,e5] (aa m0 (aa m1 (aa m2 (aa m3 (aa m4 (aa m5 (fun _=>.ret []))))))):=aR h0 (aR h1 (aR h2 (aR h3 (aR h4 (aR h5 (fH) s5) s4) s3) s2) s1) s0
end
abbrev gv (i:Nat):ae→M PV:=fun ρ=>aq ρ i
abbrev gb (i:Nat):ae→M PV:=fun ρ=>fF ρ i
abbrev cI (i:Int):ae→M PV:=fun _=>M.ret (.int i)
abbrev cS (x:Str):ae→M PV:=fun _=>M.ret (.str x)
abbrev aN:ae→M (List PV):=fun _=>M.ret []
set_option genInjectivity false in
structure cj (K:Frag) (mg:Str→Option Value) (x:Str) (st:Stmt) (a:Addr) (d:FuncData) (ps:List Str):Prop where
 F:DJ K x x st a d
 m:mg x=some (.ref a)
 b:Binds K d ps []
theorem ec {X:Cx} {x:Str} {p pos:Pos} {e:Expr} {es:List Expr} {st:Stmt} {k k':Nat} {f:Addr} {fd:FuncData} {ps:List Str} {Fm:List PV→M PV} {ml:ae→M (List PV)} (G:cP X.prog X.w X.K X.mg X.base ig k f fd ps (vU φ Fm)) (c:cj X.K X.mg x st f fd ps) (hr:cx k' X.A) (ha:AV φ X (e::es) ml) (hk:k≤k':=by decide) (hg:Gl X x:=by rfl) (mE:(x==("__debug__":Str))=false:=by decide)
  (he:starEach (e::es) X.env=(false,eval e X.env)::starEach es X.env:=by rfl) (jP:(backTo pos (starEach es X.env)).any (·.1)=false:=by rfl):EV φ X (.Call (.Name x p) (e::es) [] pos) (fun ρ=>(ml ρ).bind Fm):=yL (mS G (hr.mono hk) hg c.m c.F.kp c.b .nil yg ha mE he jP)
set_option genInjectivity false in
structure cO (K:Frag) (x:Str) (st:Stmt) (a:Addr):Prop where
 n:nsIn K mainGlobals x=some (some (.ref a))
 F: ∃ fd,DJ K x x st a fd
theorem cV {K:Frag} {x:Str} {st:Stmt} {f:Addr} {oc:Value} {od an:Option Addr} {osl:Array (Option Value)} {kV doc pm dP ct:Value} (n:nsIn K mainGlobals x=some (some (.ref f))) (l:K.lookup f=some ⟨oc,od,.func (fnOf x x (dD st) (bg st) (ao st) .none kV doc pm an dP ct),osl⟩) (c:codeIn K dP x=true) (k:keepIn K (.ref f)=true):cO K x st f:=⟨n,_,su l c k⟩
end
section
variable {φ:cM}
def ND:Expr→List Str
 | .Name x _=>[x]
 | .Tuple es _ _=>es.filterMap fun e=>match e with| .Name x _=>some x|_=>none
 |_=>[]
def Mm (tg:Expr) (XN:List Str) (js:List (Option Nat)):List Str:=ND tg++js.filterMap fun o=>o.bind fun i=>XN[i]?
def Iw:List Str→Bool
 |[]=>true
 |x::r=>!(r.any fun y=>x==y)&&Iw r
theorem B2: ∀ {l:List Str},Iw l=true→l.Nodup
 |[],_=>List.nodup_nil
 |x::r,h=>by
  simp only[Iw,Ov,Bool.not_eq_true',List.any_eq_false,beq_iff_eq] at h
  exact List.nodup_cons.mpr ⟨fun w=>h.1 x w rfl,B2 h.2⟩
section
variable {X:Cx} {e tg iter elt:Expr} {es ifs:List Expr} {pos p:Pos} {x:Str} {st:Stmt} {ml:ae→M (List PV)} {k:Nat} {js:List (Option Nat)} {scope:Scope}
theorem LL:G6 X [] (d6 []):=yW
theorem LK {ks:List Nat} (h1:BG X e (cJ k)) (h2:G6 X es (d6 ks)) (hs:(assignEach (e::es) X.env).map (·.2)=assign e X.env::(assignEach es X.env).map (·.2)):G6 X (e::es) (d6 (k::ks)):=kL h1 h2 hs
theorem C1 {ks:List Nat} (h:G6 X es (d6 ks)) (hc:X.calm=true) (hn:(assignEach es X.env).length=ks.length) (hst:(assignEach es X.env).findIdx? (·.1)=none):BG X (.Tuple es k p) (wO X.K ks.length (d6 ks)):=Dl hc h hn hst
theorem Nm (h:EF φ X e ml):EV φ X e (aG ml):=EF.v h
theorem MC {op:BoolOp} {mt:ae→M Bool} (h:WV φ X (.BoolOp op es pos) mt):TV φ X (.BoolOp op es pos) mt:=WV.t h
section
variable {wi:TI} {g:TG} {tt:TT} {te:TE} (hi:BI X tg iter wi) (hg: ∀ s₀ H₀ ex pn,BG (fg X scope (Mm tg X.N js) s₀ H₀ ex pn) tg g) (ht: ∀ s₀ H₀ ex pn,Ge (fg X scope (Mm tg X.N js) s₀ H₀ ex pn) ifs tt) (he: ∀ s₀ H₀ ex pn,BE (fg X scope (Mm tg X.N js) s₀ H₀ ex pn) elt te) (hL:II scope X.env.scope X.N (Mm tg X.N js) js=true) (hc:X.calm=true) (hs: ∀ x,foldedSetIterable iter X.env x=pure x)
include hi hg ht he hL hc hs
theorem Dm:BE X (.ListComp elt [⟨tg,iter,ifs,0⟩] scope pos) (As js wi g tt te):=GU (bb.Ln _ _ rfl rfl hL) hc hi hg ht he hs
theorem JE:BE X (.SetComp elt [⟨tg,iter,ifs,0⟩] scope pos) (KC X.prog X.w js wi g tt te):=LV (bb.Ln _ _ rfl rfl hL) hc hi hg ht he hs
theorem sO {spos py:Pos} {y:Str} (hsw:swapsWith (.ListComp elt [⟨tg,iter,ifs,0⟩] scope pos) (some (.Name y py)) spos.line X.env=pure true) (hk:X.N[k]?=some y) (hy:Loc X.env.scope y) (hf:X.fn y=true∨X.env.scope.names.lookup y=some .local) (hN:X.N.Nodup):
  BS X (.Assign [.Name y py] (.ListComp elt [⟨tg,iter,ifs,0⟩] scope pos) spos) (hW (As js wi g tt te) (cJ k)):=GP hN hk hy (bb.Ln _ _ rfl rfl hL) hc hi hg ht he hsw hs hf
end
section
variable {P:Program} {w:World} {K:Frag} {mg:Str→Option Value} {base:Heap} {f:Addr} {fd:FuncData} {ps:List Str} {Fm:List PV→M PV}
abbrev kQ (P:Program) (w:World) (base:Heap) (φ:cM) (k:Nat) (_:cj K mg x st f fd ps) (F:List PV→M PV):Prop:=cP P w K mg base ig k f fd ps (vU φ F)
theorem Jd {N:List Str} {m:ae→M Fl} {body:List Stmt} {sc:Scope} (C:cj K mg x st f fd ps) (S:aB N ps (ao st)) (hF:Fm=gE ps.length N.length m) (hN:ps.length≤N.length) (eb:bg st=body) (es:ao st=sc)
  (hb: ∀ (dP:Value) (A:Around) (outer:List Env) (s:Shared) (H:Hp) (E:XK),cx k (A.deeper (envOfC x sc s.heap.objs.size f dP))→Dw φ (fP ig P w K mg base N x sc f dP A outer s H E).ql body m):kQ P w base φ (k+1) C Fm:=Je hF C.F S hN eb es hb
section
variable (G:cP P w K mg base ig k f fd ps (vU φ Fm)) (C:cj K mg x st f fd ps) (hr:cx k X.A) (hX:(X.prog,X.w,X.K,X.mg,X.base)=(P,w,K,mg,base)) (hg:Gl X x) (mE:(x==("__debug__":Str))=false) (he:starEach (e::es) X.env=(false,eval e X.env)::starEach es X.env) (jP:(backTo pos (starEach es X.env)).any (·.1)=false)
include G C hr hX hg mE he jP
theorem LO (ha:AV φ X (e::es) ml):EV φ X (.Call (.Name x p) (e::es) [] pos) (fun ρ=>(ml ρ).bind Fm):=by
 cases hX
 exact yL (mS G hr hg C.m C.F.kp C.b .nil yg ha mE he jP)
theorem Jz (ha:AB φ X (e::es) ml):EV φ X (.Call (.Name x p) (e::es) [] pos) (fun ρ=>(ml ρ).bind fun l=>(Fm l).bind l6):=by
 cases hX
 exact CL (mS G hr hg C.m C.F.kp C.b .nil yg ha mE he jP)
end
end
end
end
end L2
namespace K15
open L2
open L2.Ent (val un)
def top (i:Nat):Stmt:=PySem.Challenge.pw_homeslopes_k15_outlooks.main.body.getD i (.Pass ⟨0,0,0,0⟩)
abbrev iw:Stmt:=top 1
theorem rg:aB ["hill","name","way"] ["hill","name"] (ao iw):=⟨rfl,rfl,rfl,by decide +kernel,rfl,by decide +kernel,by decide +kernel⟩
abbrev iF:Stmt:=top 3
theorem rC:aB ["book","kind","name","t","found","page"] ["book","kind","name","t"] (ao iF):=⟨rfl,rfl,rfl,by decide +kernel,rfl,by decide +kernel,by decide +kernel⟩
abbrev kY:Stmt:=top 4
theorem vW:aB ["book","post","t","page"] ["book","post","t"] (ao kY):=⟨rfl,rfl,rfl,by decide +kernel,rfl,by decide +kernel,by decide +kernel⟩
abbrev jz:Stmt:=top 5
theorem tW:aB ["book","w","t","page"] ["book","w","t"] (ao jz):=⟨rfl,rfl,rfl,by decide +kernel,rfl,by decide +kernel,by decide +kernel⟩
abbrev iz:Stmt:=top 6
theorem rj:aB ["book","w","t","page"] ["book","w","t"] (ao iz):=⟨rfl,rfl,rfl,by decide +kernel,rfl,by decide +kernel,by decide +kernel⟩
abbrev fW:Stmt:=top 8
theorem ph:aB ["book","rule","t","word","post","n","value"] ["book","rule","t"] (ao fW):=⟨rfl,rfl,rfl,by decide +kernel,rfl,by decide +kernel,by decide +kernel⟩
abbrev fX:Stmt:=top 9
theorem pj:aB ["book","way","n","t","m"] ["book","way","n","t"] (ao fX):=⟨rfl,rfl,rfl,by decide +kernel,rfl,by decide +kernel,by decide +kernel⟩
abbrev fD:Stmt:=top 10
theorem nh:aB ["book","way","rule","t","word"] ["book","way","rule","t"] (ao fD):=⟨rfl,rfl,rfl,by decide +kernel,rfl,by decide +kernel,by decide +kernel⟩
abbrev eL:Stmt:=top 11
theorem my:aB ["book","way","t","rules"] ["book","way","t"] (ao eL):=⟨rfl,rfl,rfl,by decide +kernel,rfl,by decide +kernel,by decide +kernel⟩
abbrev f6:Stmt:=top 12
theorem pz:aB ["asked","found","before","name"] ["asked"] (ao f6):=⟨rfl,rfl,rfl,by decide +kernel,rfl,by decide +kernel,by decide +kernel⟩
abbrev iy:Stmt:=top 13
theorem rh:aB ["hill","book","t","asked","way","others","found"] ["hill","book","t"] (ao iy):=⟨rfl,rfl,rfl,by decide +kernel,rfl,by decide +kernel,by decide +kernel⟩
abbrev jy:Stmt:=top 14
theorem tV:aB ["hill","book","w","t","way","names","at","rule","holds"] ["hill","book","w","t"] (ao jy):=⟨rfl,rfl,rfl,by decide +kernel,rfl,by decide +kernel,by decide +kernel⟩
abbrev fV:Stmt:=top 16
theorem pf:aB ["book","w","rule"] ["book","w","rule"] (ao fV):=⟨rfl,rfl,rfl,by decide +kernel,rfl,by decide +kernel,by decide +kernel⟩
abbrev rD:Stmt:=top 17
theorem A6:aB ["hill","book","found","page","rule"] ["hill","book"] (ao rD):=⟨rfl,rfl,rfl,by decide +kernel,rfl,by decide +kernel,by decide +kernel⟩
abbrev kZ:Stmt:=top 18
theorem vX:aB ["hill","book","w","t","now","m","then"] ["hill","book","w","t"] (ao kZ):=⟨rfl,rfl,rfl,by decide +kernel,rfl,by decide +kernel,by decide +kernel⟩
abbrev dJ:Stmt:=top 20
theorem bH:aB ["_law_script","_law_digits","_law_cell","_law_seed","_law_k"] ["_law_script"] (ao dJ):=⟨rfl,rfl,rfl,by decide +kernel,rfl,by decide +kernel,by decide +kernel⟩
abbrev jC:Stmt:=top 21
theorem fj:aB ["_law_state","_law_many","_law_found","_law_far"] ["_law_state","_law_many"] (ao jC):=⟨rfl,rfl,rfl,by decide +kernel,rfl,by decide +kernel,by decide +kernel⟩
abbrev jA:Stmt:=top 22
theorem tX:aB ["_law_state","_law_taken","_law_letters","_law_size","_law_word_here"] ["_law_state","_law_taken"] (ao jA):=⟨rfl,rfl,rfl,by decide +kernel,rfl,by decide +kernel,by decide +kernel⟩
abbrev iA:Stmt:=top 23
theorem rm:aB ["_law_state","_law_many","_law_found","_law_k"] ["_law_state","_law_many"] (ao iA):=⟨rfl,rfl,rfl,by decide +kernel,rfl,by decide +kernel,by decide +kernel⟩
abbrev jE:Stmt:=top 24
theorem t5:aB ["_law_state","_law_most","_law_scale","_law_spots","_law_names","_law_ways","_law_name","_law_kind","_law_ends"] ["_law_state","_law_most","_law_scale"] (ao jE):=⟨rfl,rfl,rfl,by decide +kernel,rfl,by decide +kernel,by decide +kernel⟩
abbrev fZ:Stmt:=top 25
theorem pq:aB ["_law_state","_law_hill_here","_law_scale"] ["_law_state","_law_hill_here","_law_scale"] (ao fZ):=⟨rfl,rfl,rfl,by decide +kernel,rfl,by decide +kernel,by decide +kernel⟩
abbrev jB:Stmt:=top 26
theorem tZ:aB ["_law_state","_law_hill_here","_law_posts","_law_scale","_law_way","_law_post","_law_value","_law_first","_law_last","_law_other"] ["_law_state","_law_hill_here","_law_posts","_law_scale"] (ao jB):=⟨rfl,rfl,rfl,by decide +kernel,rfl,by decide +kernel,by decide +kernel⟩
abbrev fY:Stmt:=top 27
theorem pk:aB ["_law_state","_law_taken","_law_number_here","_law_some"] ["_law_state","_law_taken"] (ao fY):=⟨rfl,rfl,rfl,by decide +kernel,rfl,by decide +kernel,by decide +kernel⟩
abbrev iD:Stmt:=top 28
theorem rA:aB ["_law_state","_law_hill_here","_law_scale","_law_many","_law_posts","_law_slopes","_law_pages_here","_law_taken","_law_k","_law_kind","_law_moment_here","_law_name","_law_size","_law_rules_here","_law_value"] ["_law_state","_law_hill_here","_law_scale","_law_many"] (ao iD):=⟨rfl,rfl,rfl,by decide +kernel,rfl,by decide +kernel,by decide +kernel⟩
abbrev bT:Stmt:=top 29
theorem t6:aB ["_law_pages_here"] ["_law_pages_here"] (ao bT):=⟨rfl,rfl,rfl,by decide +kernel,rfl,by decide +kernel,by decide +kernel⟩
abbrev bJ:Stmt:=top 30
theorem lV:aB ["_law_pages_here","_law_kind","_law_name","_law_t","_law_found"] ["_law_pages_here","_law_kind","_law_name","_law_t"] (ao bJ):=⟨rfl,rfl,rfl,by decide +kernel,rfl,by decide +kernel,by decide +kernel⟩
abbrev iE:Stmt:=top 31
theorem rB:aB ["_law_pages_here","_law_name","_law_rule_here","_law_t","_law_opened","_law_look","_law_told"] ["_law_pages_here","_law_name","_law_rule_here","_law_t","_law_opened"] (ao iE):=⟨rfl,rfl,rfl,by decide +kernel,rfl,by decide +kernel,by decide +kernel⟩
abbrev iB:Stmt:=top 32
theorem rn:aB ["_law_pages_here","_law_name","_law_t","_law_told"] ["_law_pages_here","_law_name","_law_t"] (ao iB):=⟨rfl,rfl,rfl,by decide +kernel,rfl,by decide +kernel,by decide +kernel⟩
abbrev jD:Stmt:=top 33
theorem t4:aB ["_law_hill_here","_law_pages_here","_law_t","_law_rules_here","_law_before","_law_opened","_law_name","_law_some"] ["_law_hill_here","_law_pages_here","_law_t"] (ao jD):=⟨rfl,rfl,rfl,by decide +kernel,rfl,by decide +kernel,by decide +kernel⟩
abbrev k4:Stmt:=top 34
theorem vY:aB ["_law_pages_here","_law_opened","_law_w","_law_t","_law_failing"] ["_law_pages_here","_law_opened","_law_w","_law_t"] (ao k4):=⟨rfl,rfl,rfl,by decide +kernel,rfl,by decide +kernel,by decide +kernel⟩
abbrev k5:Stmt:=top 35
theorem vZ:aB ["_law_pages_here","_law_table","_law_w","_law_t","_law_now","_law_later","_law_m"] ["_law_pages_here","_law_table","_law_w","_law_t"] (ao k5):=⟨rfl,rfl,rfl,by decide +kernel,rfl,by decide +kernel,by decide +kernel⟩
abbrev iC:Stmt:=top 36
theorem rq:aB ["_law_hill_here","_law_pages_here","_law_some","_law_book_here","_law_table","_law_t","_law_way"] ["_law_hill_here","_law_pages_here","_law_some"] (ao iC):=⟨rfl,rfl,rfl,by decide +kernel,rfl,by decide +kernel,by decide +kernel⟩
abbrev g8:Stmt:=top 37
theorem iu:aB ["_law_script","_law_state","_law_ways","_law_home","_law_dark","_law_hill_here","_law_pages_here","_law_some"] ["_law_script"] (ao g8):=⟨rfl,rfl,rfl,by decide +kernel,rfl,by decide +kernel,by decide +kernel⟩
set_option genInjectivity false in
structure My where
 (i8 jb lP j6 ja gR gU fJ eW gV i9 j5 gQ tu lQ jl oO xp sT xt oQ xq oP sX j0 jZ sY sU xr Dq Dr sV qP bR ak bQ ah:Addr)
set_option genInjectivity false in
structure Mw where
 (u4 u7 Ad xb u6 sG sH pT oE sI u5 xa sE Fx Ae sC wW Jl Fs Jo CY Jm CW Fv wY wX Fw Ft Jn LF LG Fu GO:FuncData)
set_option genInjectivity false in
structure Txt (K:Frag) (mg:Str→Option Value) (aZ:My) (dZ:Mw):Prop where
 i4:cj K mg "way_named" iw aZ.i8 dZ.u4 ["hill","name"]
 dQ:cj K mg "last_page" iF aZ.jb dZ.u7 ["book","kind","name","t"]
 lK:cj K mg "reading" kY aZ.lP dZ.Ad ["book","post","t"]
 gF:cj K mg "rules_at" jz aZ.j6 dZ.xb ["book","w","t"]
 i6:cj K mg "looked_at" iz aZ.ja dZ.u6 ["book","w","t"]
 gH:cj K mg "post_holds" fW aZ.gR dZ.sG ["book","rule","t"]
 gJ:cj K mg "look_holds" fX aZ.gU dZ.sH ["book","way","n","t"]
 dE:cj K mg "holds_alone" fD aZ.fJ dZ.pT ["book","way","rule","t"]
 eS:cj K mg "others_asked" eL aZ.eW dZ.oE ["book","way","t"]
 gM:cj K mg "found_open" f6 aZ.gV dZ.sI ["asked"]
 i5:cj K mg "open_ways" iy aZ.i9 dZ.u5 ["hill","book","t"]
 jT:cj K mg "why_shut" jy aZ.j5 dZ.xa ["hill","book","w","t"]
 gG:cj K mg "rule_turns" fV aZ.gQ dZ.sE ["book","w","rule"]
 sM:cj K mg "turns" rD aZ.tu dZ.Fx ["hill","book"]
 lL:cj K mg "outlook" kZ aZ.lQ dZ.Ae ["hill","book","w","t"]
 fq:cj K mg "_law_start" dJ aZ.jl dZ.sC ["_law_script"]
 bV:cj K mg "_law_pick" jC aZ.oO dZ.wW ["_law_state","_law_many"]
 jU:cj K mg "_law_word" jA aZ.xp dZ.Jl ["_law_state","_law_taken"]
 fo:cj K mg "_law_words" iA aZ.sT dZ.Fs ["_law_state","_law_many"]
 jX:cj K mg "_law_hill" jE aZ.xt dZ.Jo ["_law_state","_law_most","_law_scale"]
 gL:cj K mg "_law_moment" fZ aZ.oQ dZ.CY ["_law_state","_law_hill_here","_law_scale"]
 jV:cj K mg "_law_rule" jB aZ.xq dZ.Jm ["_law_state","_law_hill_here","_law_posts","_law_scale"]
 gK:cj K mg "_law_number" fY aZ.oP dZ.CW ["_law_state","_law_taken"]
 i7:cj K mg "_law_pages" iD aZ.sX dZ.Fv ["_law_state","_law_hill_here","_law_scale","_law_many"]
 xn:cj K mg "_law_book" bT aZ.j0 dZ.wY ["_law_pages_here"]
 oH:cj K mg "_law_page" bJ aZ.jZ dZ.wX ["_law_pages_here","_law_kind","_law_name","_law_t"]
 fv:cj K mg "_law_holds" iE aZ.sY dZ.Fw ["_law_pages_here","_law_name","_law_rule_here","_law_t","_law_opened"]
 ft:cj K mg "_law_rules" iB aZ.sU dZ.Ft ["_law_pages_here","_law_name","_law_t"]
 jW:cj K mg "_law_open" jD aZ.xr dZ.Jn ["_law_hill_here","_law_pages_here","_law_t"]
 lM:cj K mg "_law_why" k4 aZ.Dq dZ.LF ["_law_pages_here","_law_opened","_law_w","_law_t"]
 lN:cj K mg "_law_due" k5 aZ.Dr dZ.LG ["_law_pages_here","_law_table","_law_w","_law_t"]
 fu:cj K mg "_law_right" iC aZ.sV dZ.Fu ["_law_hill_here","_law_pages_here","_law_some"]
 LP:cj K mg "law" g8 aZ.qP dZ.GO ["_law_script"]
 Lo:mg "len"=none
 Lr:mg "abs"=none
 Lq:mg "all"=none
 r6:mg "range"=none
 Lp:mg "int"=none
 yv:mg "tuple"=none
 GC:mg "max"=none
 GB:mg "min"=none
 uC:mg "sorted"=none
 lZ:mg "enumerate"=none
 wI:mg "reversed"=none
 IE:mg "repr"=none
 oY:Al K "_law_book" "_law_book" bT aZ.j0 dZ.wY aZ.bR aZ.ak
 oX:Al K "_law_page" "_law_page" bJ aZ.jZ dZ.wX aZ.bQ aZ.ah
 iK:aZ.ak≠aZ.ah
 iJ:aZ.ah≠aZ.ak
abbrev cK (ak ah:Addr) (K:Frag):cM:=wQ K [(ak,(("_law_book":Str)++".<locals>."++"<lambda>")),(ah,(("_law_page":Str)++".<locals>."++"<lambda>"))]
theorem HS {i:Int} (h0:0≤i) (h1:i < 2 ^ 80):(0:Int)≤3∧(Builtin.Int.intBits i:Int) * 3≤2 ^ 27:=by
 have h2:i.natAbs < 2 ^ 80:=by
  have e:(2:Int) ^ 80=((2 ^ 80:Nat):Int):=by decide
  rw[e] at h1
  lia
 have:=intBits_le h2
 refine⟨by decide,?_⟩
 have e:(2:Int) ^ 27=134217728:=by decide
 rw[e]
 lia
theorem Ek {i:Int} (h0:0≤i) (h1:i < 2 ^ 80):(0:Int)≤5∧(Builtin.Int.intBits i:Int) * 5≤2 ^ 27:=by
 have h2:i.natAbs < 2 ^ 80:=by
  have e:(2:Int) ^ 80=((2 ^ 80:Nat):Int):=by decide
  rw[e] at h1
  lia
 have:=intBits_le h2
 refine⟨by decide,?_⟩
 have e:(2:Int) ^ 27=134217728:=by decide
 rw[e]
 lia
theorem lr {i j:Int} (h0:0≤j) (h1:j < 2 ^ 63):lU i j:=by
 have e:(2:Int) ^ 63=9223372036854775808:=by decide
 have e2:(2:Int) ^ 64=18446744073709551616:=by decide
 rw[e] at h1
 exact .inr ⟨by rw[e2];lia,by rw[e2];lia⟩
theorem gn {i j:Int} (h0:0≤i) (h1:i < 2 ^ 63):lU i j:=by
 have e:(2:Int) ^ 63=9223372036854775808:=by decide
 have e2:(2:Int) ^ 64=18446744073709551616:=by decide
 rw[e] at h1
 exact .inl ⟨by rw[e2];lia,by rw[e2];lia⟩
theorem Ls {i:Int} (h:i < 1208925819614629174706176):i < 2 ^ 80:=by
 have e:(2:Int) ^ 80=1208925819614629174706176:=by decide
 rw[e];exact h
theorem EG {P:Program} {w:World} {K:Frag} {mg:Str→Option Value} {base:Heap} {aZ:My} {dZ:Mw} (T:Txt K mg aZ dZ):cP P w K mg base ig 1 aZ.oO dZ.wW ["_law_state","_law_many"] A0:=by
 refine T.bV.F.ok fj (fun vs H Q E h=>?_) (fun dP A outer s H vs Q E hr h=>?_)
 ·obtain⟨a,n,m,rfl,_⟩:=h
  rfl
 obtain⟨a,n,m,rfl,pik,hn,hm0,hm1,q⟩:=h
 obtain⟨d,sd,k,e1,d0,s0,s1,k0,k1⟩:=pik.ex
 have fin: ∀ d' k':Int,0≤d'→0≤k'→k'≤n+1→L0 (upd H a (.lst [.int d',.int sd,.int k'])) a (n+1):=fun d' k' h1 h2 h3=>⟨d',sd,k',ar,h1,s0,s1,h2,by lia⟩
 refine⟨_,(bX (Bl (mI BV (fN eD (pv 0) aI (fun _ _=>rfl)) aI (jH _)) (bX (iH (i:=2) fj.nd rfl (Or.inl rfl) (bz gg (fN eD (pv 0) aI (fun _ _=>rfl)) (pv 1)))
  (bX (wg (bz rP (fN eD (pv 0) aI (fun _ _=>rfl)) (pv 1)) (Bv (pv 0) aI set_list))
  (f9 (rH (pv 2))))) rG)
  (bX (wg (bz gk (fN eD (pv 0) aI (fun _ _=>rfl)) aI) (Bv (pv 0) aI set_list))
  (bX (iH (i:=3) fj.nd rfl (Or.inl rfl) (bz gg (bz kq (bz gk (fN eD (pv 0) aI (fun _ _=>rfl)) (bz ll aI (fN eD (pv 0) aI (fun _ _=>rfl)))) aI) aI))
  (bX (iH (i:=3) fj.nd rfl (Or.inl rfl) (bz gg (bz ll (bz gk (pv 3) (bz ll aI (fN eD (pv 0) aI (fun _ _=>rfl)))) (bz gk (bz gg (pv 3) aI) aI)) aI))
  (f9 (rH (bz gg (bz gk (bz rP (pv 3) aI) (bz rP (pv 3) aI)) (pv 1)))))))),?_⟩
 refine⟨_,rfl,a,_,_,_,rfl,rfl,bM.of e1,rfl,_,_,rfl,rfl,_,rfl,?_⟩
 refine IU (fun c1=>?_) (fun c1=>?_)
 ·refine⟨_,rfl,a,_,_,_,rfl,rfl,bM.of e1,rfl,_,rfl,_,_,rfl,rfl,hm0,?_⟩
  refine⟨_,rfl,a,_,_,_,rfl,rfl,bM.of e1,rfl,_,rfl,_,_,rfl,rfl,⟨hm0,hm1⟩,?_⟩
  refine⟨_,rfl,a,_,_,_,rfl,rfl,e1,rfl,?_⟩
  refine⟨_,rfl,?_⟩
  exact q _ _ (Int.emod_nonneg _ (by lia)) (Int.emod_lt_of_pos _ hm0) (fin _ _ (Int.ediv_nonneg d0 (by lia)) k0 (by lia))
 ·refine⟨_,rfl,a,_,_,_,rfl,rfl,bM.of e1,rfl,_,_,rfl,rfl,_,rfl,a,_,_,_,rfl,rfl,e1,rfl,?_⟩
  refine⟨_,rfl,a,_,_,_,rfl,rfl,bM.of ar,rfl,_,rfl,a,_,_,_,rfl,rfl,bM.of ar,rfl,_,_,rfl,rfl,gn (by decide) (by decide),_,_,rfl,rfl,_,_,rfl,rfl,HS (by lia) (Ls (by lia)),_,_,rfl,rfl,(by show (0:Int) < _;decide),?_⟩
  refine⟨_,rfl,_,rfl,a,_,_,_,rfl,rfl,bM.of ar,rfl,_,_,rfl,rfl,gn (by decide) (by decide),_,_,rfl,rfl,_,rfl,_,_,rfl,rfl,(by show (0:Int) < _;decide),_,_,rfl,rfl,_,_,rfl,rfl,lr ?_ ?_,_,_,rfl,rfl,(by show (0:Int) < _;decide),?_⟩
  ·have:=Int.emod_nonneg (((sd+982451653 * (k+1)) ^ (3:Int).toNat) % 2305843009213693921) (show (179424673:Int)≠0 by decide)
   lia
  ·have:=Int.emod_lt_of_pos (((sd+982451653 * (k+1)) ^ (3:Int).toNat) % 2305843009213693921) (show (0:Int) < 179424673 by decide)
   have e:(2:Int) ^ 63=9223372036854775808:=by decide
   rw[e]
   lia
  ·refine⟨_,rfl,_,_,rfl,rfl,⟨by decide,by decide⟩,_,rfl,_,_,rfl,rfl,⟨by decide,by decide⟩,_,_,rfl,rfl,_,rfl,_,_,rfl,rfl,hm0,?_⟩
   exact q _ _ (Int.emod_nonneg _ (by lia)) (Int.emod_lt_of_pos _ hm0) (fin d (k+1) d0 (by lia) (by lia))
theorem C8 (ns:List Int):kJ (ns.map V.int) none (some 63)=(ns.take 63).map V.int:=by
 unfold kJ
 rw[HT.ki]
 have e:HT.cb (ns.map V.int).length (ns.map V.int).length (some 63)=min 63 (ns.map V.int).length:=HT.jj _ _ 63
 rw[e,List.drop_zero,Nat.sub_zero,NT,←List.map_take]
 congr 1
 rw[List.take_eq_take_iff]
 lia
theorem Nn (ns:List Int):kJ (ns.map V.int) none (some 1)=(ns.take 1).map V.int:=by
 unfold kJ
 rw[HT.ki]
 have e:HT.cb (ns.map V.int).length (ns.map V.int).length (some 1)=min 1 (ns.map V.int).length:=HT.jj _ _ 1
 rw[e,List.drop_zero,Nat.sub_zero,NT,←List.map_take]
 congr 1
 rw[List.take_eq_take_iff]
 lia
theorem FJ {d:Int} {i:Nat} (h0:0≤d) (h1:d < (10 ^ (60:Int).toNat:Int) ^ i) (hi:i≤63):Builtin.Int.intBits d≤2 ^ 20:=by
 have e1:d.natAbs < (2 ^ 200) ^ i:=by
  have e2:(10 ^ (60:Int).toNat:Int)=((10 ^ 60:Nat):Int):=by decide +kernel
  rw[e2,←Int.natCast_pow] at h1
  have h2:d.natAbs < (10 ^ 60) ^ i:=by
   have:=Int.natAbs_of_nonneg h0
   rw[←this] at h1
   exact Int.ofNat_lt.mp h1
  exact Of h2 (Nat.pow_le_pow_left (by decide +kernel) i)
 rw[←Nat.pow_mul] at e1
 have:=intBits_le e1
 have e3:(2:Nat) ^ 20=1048576:=by decide
 lia
theorem B0 {P:Program} {w:World} {K:Frag} {mg:Str→Option Value} {base:Heap} {aZ:My} {dZ:Mw} (T:Txt K mg aZ dZ):cP P w K mg base ig 1 aZ.jl dZ.sC ["_law_script"] (qW K):=by
 refine T.fq.F.ok bH (fun vs H Q E h=>?_) (fun dP A outer s H vs Q E hr h=>?_)
 ·obtain⟨a,ns,rfl,_⟩:=h
  rfl
 obtain⟨a,ns,rfl,hS,h63,q⟩:=h
 have cH:=Nat.lt_of_succ_lt (GH hr)
 have hl63:((ns.take 63).map V.int).length≤63:=by rw[NT,List.length_take];lia
 have isInt: ∀ (x:V),x∈(ns.take 63).map V.int→∃ y:Int,x= .int y:=fun x e=>by
  obtain⟨y,_,z⟩:=N4.mp e
  exact⟨y,z.symm⟩
 have b60:((0:Int)≤60)∧(Builtin.Int.intBits 10:Int) * 60≤2 ^ 27:=by decide
 have p60:(0:Int) < 10 ^ (60:Int).toNat:=by decide +kernel
 have hb60:Builtin.Int.intBits (10 ^ (60:Int).toNat)≤2 ^ 20:=by decide +kernel
 have rest: ∃ t,vG (fP ig P w K mg base ["_law_script","_law_digits","_law_cell","_law_seed","_law_k"] "_law_start" (ao dJ) aZ.jl dP A outer s H E).ql ((bg dJ).drop 2) t∧∀ (dg:Int) (v2:Option V) (H1:Hp),0≤dg→dS H H1→t {nx:=fun _ H'=>Q .aE H',rt:=Q} [some (.ref a),some (.int dg),v2,none,none] H1:=by
  refine⟨_,(bX (iH (i:=3) bH.nd rfl (Or.inl rfl) aI)
  (bX (rJ PassesOwn.never rfl (Br rfl T.lZ PyProof.Rows.boot_enumerate (cn (kl mH (pv 0) mK (mJ aI)) dY)) (Bu rfl (nC (mL (i:=4) bH.nd rfl (Or.inl rfl)) (nC (mL (i:=2) bH.nd rfl (Or.inl rfl)) yf))) (f9 (iH (i:=3) bH.nd rfl (Or.inl rfl) (bz gg (bz kq (bz gk (bz gk (bz ll (pv 3) aI) (bz gg (pv 2) aI)) (bz ll aI (pv 4))) aI) aI))))
  (f9 (rH (wm (cn (pv 1) (cn (pv 3) (cn aI dY)))))))),fun dg v2 H1 dg0 sm1=>?_⟩
  refine⟨_,rfl,63,rfl,a,_,rfl,sm1.seq hS,fun u hu=>?_⟩
  rw[C8 ns]
  have g2:dS H1 (upd H1 u (.lst ((ns.take 63).map V.int))):=fM hu _
  have hu2:upd H1 u (.lst ((ns.take 63).map V.int)) u=some (.lst ((ns.take 63).map V.int)):=ar
  generalize upd H1 u (.lst ((ns.take 63).map V.int))=H2 at g2 hu2
  refine⟨u,_,rfl,bM.of hu2,?_⟩
  refine CF (xs:=(ns.take 63).map V.int) (fun i σ H'=> ∃ (sd:Int) (v2 v4:Option V),σ=[some (.ref a),some (.int dg),v2,some (.int sd),v4]∧dS H2 H'∧0≤sd∧sd < 2305843009213693951) ⟨271828182,_,none,rfl,fun _ _ h=>h,by decide,by decide⟩ ?_ ?_ ?_
  ·rintro i σ H' _ ⟨sd,v2,v4,_,sm,_⟩
   exact bM.of (sm _ _ hu2)
  ·rintro i x σ H' T hx hT ⟨sd,v2,v4,rfl,sm,s0,s1⟩
   obtain⟨y,rfl⟩:=isInt x (List.mem_of_getElem? hx)
   have hi:i < 63:=Of (NY.mp hx).1 hl63
   have r0:=Int.emod_nonneg y (show (2305843009213693951:Int)≠0 by decide)
   have r1:=Int.emod_lt_of_pos y (show (0:Int) < 2305843009213693951 by decide)
   refine⟨T,_,rfl,cN.of ar,rfl,_,_,rfl,_,_,rfl,rfl,?_⟩
   refine⟨_,rfl,_,_,rfl,rfl,lr (by decide) (by decide),_,rfl,_,_,rfl,rfl,(by show (0:Int) < _;decide),_,_,rfl,rfl,_,rfl,_,_,rfl,rfl,gn (by decide) (by decide),_,_,rfl,rfl,_,_,rfl,rfl,Ek (by lia) (Ls (by lia)),_,_,rfl,rfl,(by show (0:Int) < _;decide),?_⟩
   exact⟨_,_,_,rfl,sm.trans (fM hT _),Int.emod_nonneg _ (by decide),Int.emod_lt_of_pos _ (by decide)⟩
  ·rintro σ H' ⟨sd,v2,v4,rfl,sm,s0,s1⟩
   refine⟨_,rfl,_,rfl,(by show 3≤sizeLine;decide),fun b hb=>?_⟩
   exact q b _ (sm1.trans (g2.trans (sm.trans (fM hb _)))) ⟨dg,sd,0,ar,dg0,s0,s1,Int.le_refl 0,by lia⟩
 obtain⟨tt,dt,ht⟩:=rest
 refine⟨_,(bX (iH (i:=1) bH.nd rfl (Or.inl rfl) aI)
  (bX (Bl (PW.pt (Bf (mI (zA cH) (kl mH (pv 0) mK (mJ aI)) (wm dY) (jH _)) (yd (mI BX (fN eD (pv 0) aI (fun _ _=>rfl)) (bz kq aI aI) (jH _))))) (f9 (rJ PassesOwn.never rfl (HU rfl T.wI PyProof.Rows.boot_reversed (cn (kl mH (pv 0) mK (mJ aI)) dY)) (mL (i:=2) bH.nd rfl (Or.inl rfl)) (f9 (iH (i:=1) bH.nd rfl (Or.inl rfl) (bz gk (bz EC (pv 1) (bz kq aI aI)) (bz gg (ue De rfl T.Lr PyProof.Rows.boot_abs (cn (pv 2) dY)) (bz kq aI aI))))))) rG)
  dt)),?_⟩
 have b18:((0:Int)≤18)∧(Builtin.Int.intBits 10:Int) * 18≤2 ^ 27:=by decide
 refine⟨_,rfl,1,rfl,a,_,rfl,hS,fun u hu=>?_⟩
 rw[Nn ns]
 have g1:dS H (upd H u (.lst ((ns.take 1).map V.int))):=fM hu _
 have gu:upd H u (.lst ((ns.take 1).map V.int)) u=some (.lst ((ns.take 1).map V.int)):=ar
 generalize upd H u (.lst ((ns.take 1).map V.int))=H1 at g1 gu
 refine⟨(by show 0≤sizeLine;exact Ol _),fun u2 hu2=>?_⟩
 have g2:dS H1 (upd H1 u2 (.lst [])):=fM hu2 _
 refine⟨u,u2,_,rfl,rfl,bM.of (g2 _ _ gu),bM.of ar,_,rfl,?_⟩
 generalize upd H1 u2 (.lst [])=H2 at g2
 have sm2:dS H H2:=g1.trans g2
 refine IU (fun c1=>?_) (fun c1=>?_)
 ·cases ns with
  |nil=>cases c1
  |cons y ns=>
  refine⟨_,rfl,a,_,_,_,rfl,rfl,sm2.seq hS,j4 y ns,_,_,rfl,rfl,b18,_,_,rfl,rfl,_,rfl,?_⟩
  refine IU (fun c2=>?_) (fun c2=>?_)
  ·refine⟨_,rfl,63,rfl,a,_,rfl,sm2.seq hS,fun u3 hu3=>?_⟩
   rw[C8 (y::ns)]
   have g3:dS H2 (upd H2 u3 (.lst (((y::ns).take 63).map V.int))):=fM hu3 _
   have gu3:upd H2 u3 (.lst (((y::ns).take 63).map V.int)) u3=some (.lst (((y::ns).take 63).map V.int)):=ar
   generalize upd H2 u3 (.lst (((y::ns).take 63).map V.int))=H3 at g3 gu3
   refine⟨u3,_,rfl,bM.of gu3,?_⟩
   obtain⟨Bs,hBs,pB,bB,kB⟩: ∃ Bs:Int,10 ^ (60:Int).toNat=Bs∧0 < Bs∧Builtin.Int.intBits Bs≤2 ^ 20∧∀ (d:Int) (i:Nat),0≤d→d < Bs ^ i→i≤63→Builtin.Int.intBits d≤2 ^ 20:=⟨_,rfl,p60,hb60,fun d i=>FJ⟩
   refine Fh (xs:=((y::ns).take 63).map V.int) (fun i σ H'=> ∃ (dg:Int) (v2:Option V),σ=[some (.ref a),some (.int dg),v2,none,none]∧H'=H3∧0≤dg∧dg < Bs ^ i) ⟨0,none,rfl,rfl,Int.le_refl 0,by rw[Int.pow_zero];decide⟩ ?_ ?_ ?_
   ·rintro i σ H' _ ⟨dg,v2,_,rfl,_⟩
    exact bM.of gu3
   ·rintro i x σ H' hx hi ⟨dg,v2,rfl,rfl,dg0,dg1⟩
    obtain⟨z,rfl⟩:=isInt x hx
    have hi63:i≤63:=by lia
    refine⟨_,rfl,_,_,rfl,rfl,b60,?_⟩
    simp only[hBs]
    refine⟨_,_,rfl,rfl,IntMulOk.of_bits (kB dg i dg0 dg1 hi63) bB,_,rfl,z,rfl,_,_,rfl,rfl,b60,?_⟩
    simp only[hBs]
    refine⟨_,_,rfl,rfl,pB,_,_,rfl,rfl,?_⟩
    have r0:=Int.emod_nonneg (if z < 0 then -z else z) (Int.ne_of_gt pB)
    have r1:=Int.emod_lt_of_pos (if z < 0 then -z else z) pB
    refine⟨_,_,rfl,rfl,?_,?_⟩
    ·exact Int.add_nonneg (Int.mul_nonneg dg0 (Int.le_of_lt pB)) r0
    ·have h1:dg+1≤Bs ^ i:=dg1
     have h2:(dg+1) * Bs≤Bs ^ i * Bs:=Int.mul_le_mul_of_nonneg_right h1 (Int.le_of_lt pB)
     rw[←Int.pow_succ,Int.add_mul,Int.one_mul] at h2
     exact Int.lt_of_lt_of_le (Int.add_lt_add_left r1 _) h2
   ·rintro σ H' ⟨dg,v2,rfl,rfl,dg0,_⟩
    exact ht dg v2 _ dg0 (sm2.trans g3)
  ·exact ht 0 none _ (Int.le_refl 0) sm2
 ·exact ht 0 none _ (Int.le_refl 0) sm2
def af:List PV→M PV:=l8
def iM:ae→M Fl:=(au (aP (fun ρ=>((ab az (gv 0) (cI 0)) ρ).bind aH) (aA 2)
  (dO (aK (ab (cC false) (ab az (gv 2) (cI 0)) (gv 1)))
  (aV (gv 2))
  (fun ρ=>M.ret (.nx ρ))))
  (aV (fun _=>M.ret .aE)))
def fA:List PV→M PV:=gE 2 3 iM
def iU:ae→M Fl:=(au (ax 4 (fun _=>M.ret .aE))
  (au (aP (fun ρ=>((gv 0) ρ).bind aH) (aA 5)
  (dO (fI (aK (ab (cC false) (ab az (gv 5) (cI 0)) (gv 1))) (fI (aK (ab (cC false) (ab az (gv 5) (cI 3)) (gv 2))) (aK (ab h9 (ab az (gv 5) (cI 2)) (gv 3)))))
  (ax 4 (gv 5))
  (fun ρ=>M.ret (.nx ρ))))
  (aV (gv 4))))
def cB:List PV→M PV:=gE 4 6 iU
def lu:ae→M Fl:=(au (ax 3 (fun ρ=>((aa (gv 0) (aa (cS "read") (aa (gv 1) (aa (gv 2) aN)))) ρ).bind cB))
  (aV (o6 (aK (ab (iW false) (gv 3) (fun _=>M.ret .aE))) (fun _=>M.ret .aE) (ab az (gv 3) (cI 4)))))
def eG:List PV→M PV:=gE 3 4 lu
def jJ:ae→M Fl:=(au (ax 3 (fun ρ=>((aa (gv 0) (aa (cS "rule") (aa (gv 1) (aa (gv 2) aN)))) ρ).bind cB))
  (aV (o6 (aK (ab (iW false) (gv 3) (fun _=>M.ret .aE))) (fun ρ=>(aN ρ).bind aS) (ab az (gv 3) (cI 4)))))
def bL:List PV→M PV:=gE 3 4 jJ
def iO:ae→M Fl:=(au (ax 3 (fun ρ=>((aa (gv 0) (aa (cS "look") (aa (gv 1) (aa (gv 2) aN)))) ρ).bind cB))
  (aV (o6 (aK (ab (iW false) (gv 3) (fun _=>M.ret .aE))) (fun _=>M.ret .aE) (ab az (gv 3) (cI 2)))))
def cz:List PV→M PV:=gE 3 4 iO
def eC:ae→M Fl:=(au (AG [3,4,5] (gv 1))
  (au (ax 6 (fun ρ=>((aa (gv 0) (aa (gv 4) (aa (gv 2) aN))) ρ).bind eG))
  (au (dO (aK (ab (iW false) (gv 6) (fun _=>M.ret .aE)))
  (aV (fun _=>M.ret (.bl false)))
  (fun ρ=>M.ret (.nx ρ)))
  (aV (o6 (aK (ab (cC false) (gv 3) (cS "least"))) (ab Nb (gv 6) (gv 5)) (ab h9 (gv 6) (gv 5)))))))
def bW:List PV→M PV:=gE 3 7 eC
def cY:ae→M Fl:=(au (ax 4 (fun ρ=>((aa (gv 0) (aa (ab az (gv 1) (cI 0)) (aa (gv 3) aN))) ρ).bind cz))
  (aV (fh (ab (cC false) (ab az (gv 1) (cI 1)) (cS "slope")) (fh (ab (iW true) (gv 4) (fun _=>M.ret .aE)) (ab r8 (gv 3) (ab cu (gv 4) (gv 2)))))))
def bx:List PV→M PV:=gE 4 5 cY
def bK:ae→M Fl:=(au (ax 4 (ab az (gv 2) (cI 0)))
  (au (dO (aK (ab (cC false) (gv 4) (cS "hours")))
  (aV (chain h9 r8 (ab az (gv 2) (cI 1)) (gv 3) (ab az (gv 2) (cI 2))))
  (fun ρ=>M.ret (.nx ρ)))
  (au (dO (Ig (aK (ab (cC false) (gv 4) (cS "least"))) (aK (ab (cC false) (gv 4) (cS "most"))))
  (aV (fun ρ=>((aa (gv 0) (aa (gv 2) (aa (gv 3) aN))) ρ).bind bW))
  (fun ρ=>M.ret (.nx ρ)))
  (au (dO (aK (ab (cC false) (gv 4) (cS "looked")))
  (aV (fun ρ=>((aa (gv 0) (aa (gv 1) (aa (ab az (gv 2) (cI 1)) (aa (gv 3) aN)))) ρ).bind bx))
  (fun ρ=>M.ret (.nx ρ)))
  (aV (fun _=>M.ret (.bl false)))))))
def aF:List PV→M PV:=gE 4 5 bK
def eO:ae→M Fl:=(au (ax 3 (fun ρ=>((aa (gv 0) (aa (ab az (gv 1) (cI 0)) (aa (gv 2) aN))) ρ).bind bL))
  (au (dO (pP (aK (fun ρ=>((aa (aG (bf [none,some 0,some 1,some 2] (fun ρ=>((gv 3) ρ).bind aH) (aA 0) (aK (ab (cC true) (ab az (gv 0) (cI 0)) (cS "with"))) (fun ρ=>((aa (gv 1) (aa (gv 2) (aa (gv 0) (aa (gv 3) aN)))) ρ).bind aF))) aN) ρ).bind kO)))
  (aV (fun _=>M.ret .aE))
  (fun ρ=>M.ret (.nx ρ)))
  (aV (aG (bf [none] (fun ρ=>((gv 3) ρ).bind aH) (aA 0) (aK (ab (cC false) (ab az (gv 0) (cI 0)) (cS "with"))) (ab az (gv 0) (cI 1)))))))
def bc:List PV→M PV:=gE 3 4 eO
def gy:ae→M Fl:=(au (BJ 1)
  (au (ax 2 (fun ρ=>((cI 1) ρ).bind nH))
  (au (y6 (aK (ab r8 (gv 2) (fun ρ=>((aa (gb 1) aN) ρ).bind dA))) (au (ax 2 (fun ρ=>((aa (gb 1) aN) ρ).bind dA))
  (aP (fun ρ=>((gv 0) ρ).bind uJ) (aA 3)
  (dO (aK (fun ρ=>((aa (aG (bf [none,some 1] (fun ρ=>((ab qH (gv 0) (gv 3)) ρ).bind aH) (aA 0) cF (ab (oD false) (gv 0) (gb 1)))) aN) ρ).bind kO))
  (l9 1 (gv 3) (fun _=>M.ret (.bl true)))
  (fun ρ=>M.ret (.nx ρ))))) 1000)
  (aV (gv 1)))))
def dq:List PV→M PV:=gE 1 4 gy
def iN:ae→M Fl:=(au (BJ 3)
  (au (aP (fun ρ=>((ab az (gv 0) (cI 0)) ρ).bind aH) (aA 4)
  (au (ax 5 (fun ρ=>((aa (gv 1) (aa (gv 4) (aa (gv 2) aN))) ρ).bind bc))
  (dO (aK (ab (iW true) (gv 5) (fun _=>M.ret .aE)))
  (l9 3 (ab az (gv 4) (cI 0)) (gv 5))
  (fun ρ=>M.ret (.nx ρ)))))
  (au (CC (ax 6 (fun ρ=>((aa (gv 3) aN) ρ).bind dq)))
  (aV (fun ρ=>((aa (aG (bf [none,some 6] (fun ρ=>((ab az (gv 0) (cI 0)) ρ).bind aH) (aA 0) (aK (ab (oD false) (ab az (gv 0) (cI 0)) (gv 1))) (ab az (gv 0) (cI 0)))) aN) ρ).bind mW)))))
def cy:List PV→M PV:=gE 3 7 iN
def jI:ae→M Fl:=(au (ax 4 (fun ρ=>((aa (gv 0) (aa (gv 2) aN)) ρ).bind fA))
  (au (ax 5 (fun ρ=>((aa (gv 0) (aa (gv 1) (aa (gv 3) aN))) ρ).bind cy))
  (au (aP (fun ρ=>((aa (fun ρ=>((aa (gv 1) (aa (gv 2) (aa (gv 3) aN))) ρ).bind bL) aN) ρ).bind sA) (de [6,7])
  (au (ax 8 (o6 (aK (ab (cC false) (ab az (gv 7) (cI 0)) (cS "with"))) (ab (o5 false) (ab az (gv 7) (cI 1)) (gv 5)) (fun ρ=>((aa (gv 1) (aa (gv 4) (aa (gv 7) (aa (gv 3) aN)))) ρ).bind aF)))
  (dO (pP (aK (gv 8)))
  (aV (gv 6))
  (fun ρ=>M.ret (.nx ρ)))))
  (aV (fun _=>M.ret .aE)))))
def bF:List PV→M PV:=gE 4 9 jI
def cX:ae→M Fl:=(au (dO (aK (ab (cC false) (ab az (gv 2) (cI 0)) (cS "hours")))
  (aV (aG (fun ρ=>((aa (ab az (gv 2) (cI 1)) (aa (ab az (gv 2) (cI 2)) aN)) ρ).bind aO)))
  (fun ρ=>M.ret (.nx ρ)))
  (au (dO (aK (ab (cC false) (ab az (gv 2) (cI 0)) (cS "looked")))
  (aV (aG (bf [none,some 2,some 1] (fun ρ=>((gv 0) ρ).bind aH) (aA 0) (fI (aK (ab (cC false) (ab az (gv 0) (cI 0)) (cS "look"))) (aK (ab (cC false) (ab az (gv 0) (cI 3)) (gv 2)))) (ab cu (ab az (gv 0) (cI 2)) (ab az (gv 1) (cI 1))))))
  (fun ρ=>M.ret (.nx ρ)))
  (aV (aG (fun ρ=>(aN ρ).bind aO)))))
def bw:List PV→M PV:=gE 3 3 cX
def rY:ae→M Fl:=(au (h7 2 (fun ρ=>((aa (cI 0) aN) ρ).bind aO))
  (au (aP (fun ρ=>((gv 1) ρ).bind aH) (aA 3)
  (au (dR 2 (ab az (gv 3) (cI 2)))
  (dO (aK (ab (cC false) (ab az (gv 3) (cI 0)) (cS "rule")))
  (aP (fun ρ=>((ab az (gv 3) (cI 4)) ρ).bind aH) (aA 4)
  (zZ 2 (fun ρ=>((aa (gv 1) (aa (ab az (gv 3) (cI 3)) (aa (gv 4) aN))) ρ).bind bw)))
  (fun ρ=>M.ret (.nx ρ)))))
  (aV (aG (fun ρ=>((B5 [none,some 0] (fun ρ=>((gv 2) ρ).bind aH) (aA 0) (aK (chain h9 h9 (cI 0) (gv 0) (ab az (gv 1) (cI 2)))) (gv 0)) ρ).bind sortI)))))
def kR:List PV→M PV:=gE 2 5 rY
def lx:ae→M Fl:=(au (ax 4 (fun ρ=>((aa (gv 0) (aa (gv 1) (aa (gv 2) (aa (gv 3) aN)))) ρ).bind bF))
  (au (aP (fun ρ=>((fun ρ=>((aa (gv 0) (aa (gv 1) aN)) ρ).bind kR) ρ).bind aH) (aA 5)
  (dO (aK (ab Av (gv 5) (gv 3)))
  (au (ax 6 (fun ρ=>((aa (gv 0) (aa (gv 1) (aa (gv 2) (aa (gv 5) aN)))) ρ).bind bF))
  (au (dO (fI (aK (ab (iW false) (gv 4) (fun _=>M.ret .aE))) (aK (ab (iW true) (gv 6) (fun _=>M.ret .aE))))
  (aV (fun ρ=>((aa (cS "open") (aa (gv 5) (aa (gv 6) aN))) ρ).bind aS))
  (fun ρ=>M.ret (.nx ρ)))
  (dO (fI (aK (ab (iW true) (gv 4) (fun _=>M.ret .aE))) (aK (ab (iW false) (gv 6) (fun _=>M.ret .aE))))
  (aV (fun ρ=>((aa (cS "shut") (aa (gv 4) (aa (gv 5) aN))) ρ).bind aS))
  (fun ρ=>M.ret (.nx ρ)))))
  (fun ρ=>M.ret (.nx ρ))))
  (aV (o6 (aK (ab (iW false) (gv 4) (fun _=>M.ret .aE))) (fun ρ=>((aa (cS "open") (aa (fun _=>M.ret .aE) (aa (fun _=>M.ret .aE) aN))) ρ).bind aS) (fun ρ=>((aa (cS "shut") (aa (gv 4) (aa (fun _=>M.ret .aE) aN))) ρ).bind aS)))))
def eI:List PV→M PV:=gE 4 7 lx
def jK:ae→M Fl:=(au (ax 2 (cS "etaoinshrdlcumwfgypbvkjxqz"))
  (au (ax 3 (ab cu (cI 1) (fun ρ=>((aa (gv 0) (aa (cI 8) aN)) ρ).bind af)))
  (au (ax 4 (Mp "str" qw (cS "") (aa (aG (bf [none,some 2,some 0] (fun ρ=>((aa (gv 3) aN) ρ).bind bN) (aA 0) cF (ab az (gv 1) (fun ρ=>((aa (gv 2) (aa (cI 26) aN)) ρ).bind af)))) aN)))
  (aV (ab az (aG (bf [none,some 1] (fun ρ=>((aG (sL (aG (fun ρ=>((aa (gv 4) aN) ρ).bind aO)) (aG (bf [none,some 4] (fun ρ=>((gv 2) ρ).bind aH) (aA 0) cF (ab cu (Gn D7 (gv 1) (fun _=>M.ret none) (fun ρ=>((cI 7) ρ).bind fun y=>(uL y).bind fun i=>M.ret (some i))) (gv 0)))))) ρ).bind aH) (aA 0) (aK (ab (o5 true) (gv 0) (gv 1))) (gv 0))) (cI 0))))))
def gW:List PV→M PV:=gE 2 5 jK
def iP:ae→M Fl:=(au (h7 2 (fun ρ=>(aN ρ).bind aO))
  (au (aP (fun ρ=>((aa (gv 1) aN) ρ).bind bN) (aA 3)
  (dR 2 (fun ρ=>((aa (gv 0) (aa (gb 2) aN)) ρ).bind fun l=>(gW l).bind l6)))
  (aV (gv 2))))
def cT:List PV→M PV:=gE 2 4 iP
def jN:ae→M Fl:=(au (ax 3 (fun ρ=>((aa (gv 0) (aa (ab cu (cI 2) (fun ρ=>((aa (gv 0) (aa (cI 4) aN)) ρ).bind af)) aN)) ρ).bind cT))
  (au (ax 4 (fun ρ=>((aa (gv 0) (aa (ab cu (cI 1) (fun ρ=>((aa (gv 0) (aa (gv 1) aN)) ρ).bind af)) aN)) ρ).bind cT))
  (au (h7 5 (fun ρ=>(aN ρ).bind aO))
  (au (aP (fun ρ=>((gv 4) ρ).bind aH) (aA 6)
  (au (ax 7 (ab az (aG (fun ρ=>((aa (cS "slope") (aa (cS "slope") (aa (cS "lift") (aa (cS "path") aN)))) ρ).bind aO)) (fun ρ=>((aa (gv 0) (aa (cI 4) aN)) ρ).bind af)))
  (au (ax 8 (aG (bf [none,some 3,some 0] (fun ρ=>((aa (cI 2) aN) ρ).bind bN) (aA 0) cF (ab az (gv 1) (fun ρ=>((aa (gv 2) (aa (fun ρ=>((aa (gv 1) aN) ρ).bind dA) aN)) ρ).bind af)))))
  (dR 5 (fun ρ=>((aa (gv 6) (aa (gv 7) (aa (ab az (gv 8) (cI 0)) (aa (ab az (gv 8) (cI 1)) (aa (ab jo (gv 2) (fun ρ=>((aa (gv 0) (aa (cI 8) aN)) ρ).bind af)) (aa (ab jo (gv 2) (fun ρ=>((aa (gv 0) (aa (cI 5) aN)) ρ).bind af)) aN)))))) ρ).bind aS)))))
  (aV (fun ρ=>((aa (fun ρ=>((aa (gv 5) aN) ρ).bind mW) (aa (ab az (gv 3) (fun ρ=>((aa (gv 0) (aa (fun ρ=>((aa (gv 3) aN) ρ).bind dA) aN)) ρ).bind af)) (aa (ab jo (gv 2) (ab cu (cI 1) (fun ρ=>((aa (gv 0) (aa (cI 30) aN)) ρ).bind af))) aN))) ρ).bind aS))))))
def gX:List PV→M PV:=gE 3 9 jN
def gs:ae→M Fl:=(aV (fun ρ=>((aa (ab az (gv 1) (cI 2)) (aa (fun ρ=>((aa (cI 0) (aa (ab cu (ab jo (gv 2) (fun ρ=>((aa (gv 0) (aa (cI 31) aN)) ρ).bind af)) (ab az (aG (fun ρ=>((aa (cI 0) (aa (cI 0) (aa (cI 1) (aa (fun ρ=>((cI 1) ρ).bind nH) aN)))) ρ).bind aO)) (fun ρ=>((aa (gv 0) (aa (cI 4) aN)) ρ).bind af))) aN)) ρ).bind qo) aN)) ρ).bind nK))
def dn:List PV→M PV:=gE 3 3 gs
def jL:ae→M Fl:=(au (ax 4 (fun ρ=>((aa (gv 0) (aa (cI 12) aN)) ρ).bind af))
  (au (ax 5 (ab az (gv 2) (fun ρ=>((aa (gv 0) (aa (fun ρ=>((aa (gv 2) aN) ρ).bind dA) aN)) ρ).bind af)))
  (au (ax 6 (ab zd (fun ρ=>((aa (gv 0) (aa (cI 7) aN)) ρ).bind af) (cI 3)))
  (au (Es 7 8 (aa (ab jo (gv 3) (fun ρ=>((aa (gv 0) (aa (cI 31) aN)) ρ).bind af)) (aa (ab zd (ab cu (ab jo (gv 3) (ab cu (cI 1) (fun ρ=>((aa (gv 0) (aa (cI 12) aN)) ρ).bind af))) (fun ρ=>((aa (gv 0) (aa (cI 3) aN)) ρ).bind af)) (cI 1)) aN)))
  (au (ax 9 (ab az (ab az (ab az (gv 1) (cI 0)) (fun ρ=>((aa (gv 0) (aa (fun ρ=>((aa (ab az (gv 1) (cI 0)) aN) ρ).bind dA) aN)) ρ).bind af)) (cI 0)))
  (au (dO (aK (ab r8 (gv 4) (cI 3)))
  (aV (fun ρ=>((aa (cS "hours") (aa (gv 7) (aa (fun ρ=>((aa (cI 1000001) (aa (ab cu (gv 7) (fun ρ=>((aa (cI 1) (aa (gv 8) aN)) ρ).bind qo)) aN)) ρ).bind nK) aN))) ρ).bind aS))
  (fun ρ=>M.ret (.nx ρ)))
  (au (dO (aK (ab r8 (gv 4) (cI 8)))
  (aV (ab az (aG (fun ρ=>((aa (fun ρ=>((aa (cS "least") (aa (gv 5) (aa (gv 6) aN))) ρ).bind aS) (aa (fun ρ=>((aa (cS "most") (aa (gv 5) (aa (gv 6) aN))) ρ).bind aS) aN)) ρ).bind aO)) (ab uy (gv 4) (cI 2))))
  (fun ρ=>M.ret (.nx ρ)))
  (au (dO (aK (ab r8 (gv 4) (cI 10)))
  (aV (fun ρ=>((aa (cS "looked") (aa (fun ρ=>((aa (cI 1) (aa (gv 8) aN)) ρ).bind qo) aN)) ρ).bind aS))
  (fun ρ=>M.ret (.nx ρ)))
  (aV (ab az (aG (fun ρ=>((aa (fun ρ=>((aa (cS "with") (aa (gv 9) aN)) ρ).bind aS) (aa (fun ρ=>((aa (cS "never") aN) ρ).bind aS) aN)) ρ).bind aO)) (fun ρ=>((aa (fh (ab (cC false) (gv 4) (cI 11)) (ab Av (gv 6) (cI 0))) aN) ρ).bind wK)))))))))))
def fb:List PV→M PV:=gE 4 10 jL
def gq:ae→M Fl:=(au (ax 2 (fun ρ=>((aa (gv 0) (aa (ab az (aG (fun ρ=>((aa (cI 20) (aa (cI 1000000) aN)) ρ).bind aO)) (fun ρ=>((aa (gv 0) (aa (cI 2) aN)) ρ).bind af)) aN)) ρ).bind af))
  (au (ax 3 (aG (bf [none,some 2] (fun ρ=>((aa (cI 70) aN) ρ).bind bN) (aA 0) cF (ab uy (ab cu (gv 1) (gv 0)) (cI 1000000)))))
  (aV (ab az (aG (bf [none,some 1] (fun ρ=>((gv 3) ρ).bind aH) (aA 0) (aK (ab (o5 true) (gv 0) (gv 1))) (gv 0))) (cI 0)))))
def di:List PV→M PV:=gE 2 4 gq
def iS:ae→M Fl:=(au (ax 4 (aG (sL (fun ρ=>((aa (gv 0) (aa (ab cu (cI 1) (fun ρ=>((aa (gv 0) (aa (cI 3) aN)) ρ).bind af)) aN)) ρ).bind cT) (ab jo (aG (fun ρ=>((aa (ab az (ab az (ab az (gv 1) (cI 0)) (cI 0)) (cI 0)) aN) ρ).bind aO)) (fun ρ=>((aa (gv 0) (aa (cI 2) aN)) ρ).bind af)))))
  (au (ax 5 (aG (bf [none] (fun ρ=>((ab az (gv 1) (cI 0)) ρ).bind aH) (aA 0) (aK (ab (cC false) (ab az (gv 0) (cI 1)) (cS "slope"))) (ab az (gv 0) (cI 0)))))
  (au (h7 6 (fun ρ=>(aN ρ).bind aO))
  (au (h7 7 (fun ρ=>(aN ρ).bind aO))
  (au (aP (fun ρ=>((aa (gv 3) aN) ρ).bind bN) (aA 8)
  (au (ax 9 (fun ρ=>((aa (gv 0) (aa (cI 8) aN)) ρ).bind af))
  (au (ax 10 (ab jo (fun ρ=>((aa (gv 0) (aa (gv 1) (aa (gv 2) aN))) ρ).bind dn) (fun ρ=>((aa (ab Av (fun ρ=>((aa (gv 0) (aa (cI 3) aN)) ρ).bind af) (cI 0)) aN) ρ).bind wK)))
  (au (dR 7 (fun ρ=>((aa (gv 0) (aa (gb 7) aN)) ρ).bind fun l=>(di l).bind l6))
  (dO (aK (ab r8 (gv 9) (cI 3)))
  (au (ax 11 (ab az (ab az (ab az (gv 1) (cI 0)) (fun ρ=>((aa (gv 0) (aa (fun ρ=>((aa (ab az (gv 1) (cI 0)) aN) ρ).bind dA) aN)) ρ).bind af)) (cI 0)))
  (au (ax 12 (ab az (aG (fun ρ=>((aa (cI 0) (aa (cI 1) (aa (cI 1) (aa (cI 1) (aa (cI 2) (aa (cI 2) (aa (cI 3) (aa (cI 6) aN)))))))) ρ).bind aO)) (fun ρ=>((aa (gv 0) (aa (cI 8) aN)) ρ).bind af)))
  (au (ax 13 (aG (bf [none,some 0,some 1,some 4,some 2] (fun ρ=>((aa (gv 12) aN) ρ).bind bN) (aA 0) cF (fun ρ=>((aa (gv 1) (aa (gv 2) (aa (gv 3) (aa (gv 4) aN)))) ρ).bind fb))))
  (dR 6 (fun ρ=>((aa (cS "rule") (aa (ab az (gb 7) (fun ρ=>((cI 1) ρ).bind nH)) (aa (gv 10) (aa (gv 11) (aa (fun ρ=>((aa (gv 13) aN) ρ).bind mW) aN))))) ρ).bind aS)))))
  (dO (Ig (aK (ab r8 (gv 9) (cI 6))) (aK (ab (cC false) (gv 5) (aG (fun ρ=>(aN ρ).bind aO)))))
  (au (ax 14 (ab jo (ab zd (fun ρ=>((aa (gv 0) (aa (cI 7) aN)) ρ).bind af) (cI 3)) (ab az (aG (fun ρ=>((aa (cI 1) (aa (cI 1) (aa (cI 1) (aa (ab Bm (cI 10) (cI 50)) aN)))) ρ).bind aO)) (fun ρ=>((aa (gv 0) (aa (cI 4) aN)) ρ).bind af))))
  (dR 6 (fun ρ=>((aa (cS "read") (aa (ab az (gb 7) (fun ρ=>((cI 1) ρ).bind nH)) (aa (gv 10) (aa (ab az (gv 4) (fun ρ=>((aa (gv 0) (aa (fun ρ=>((aa (gv 4) aN) ρ).bind dA) aN)) ρ).bind af)) (aa (gv 14) aN))))) ρ).bind aS)))
  (dR 6 (fun ρ=>((aa (cS "look") (aa (ab az (gb 7) (fun ρ=>((cI 1) ρ).bind nH)) (aa (gv 10) (aa (ab az (gv 5) (fun ρ=>((aa (gv 0) (aa (fun ρ=>((aa (gv 5) aN) ρ).bind dA) aN)) ρ).bind af)) aN)))) ρ).bind aS))))))))
  (aV (gv 6)))))))
def fB:List PV→M PV:=gE 4 15 iS
def gx:ae→M Fl:=(aV (fun ρ=>((aa (aG (fun ρ=>((gv 0) ρ).bind qc)) aN) ρ).bind mW))
def gZ:List PV→M PV:=gE 1 1 gx
def gp:ae→M Fl:=(au (ax 4 (aG (bf [none,some 1,some 2,some 3] (fun ρ=>((gv 0) ρ).bind aH) (aA 0) (fI (aK (ab (cC false) (ab az (gv 0) (cI 0)) (gv 1))) (fI (aK (ab (cC false) (ab az (gv 0) (cI 3)) (gv 2))) (aK (ab h9 (ab az (gv 0) (cI 2)) (gv 3))))) (gv 0))))
  (aV (fun ρ=>((gv 4) ρ).bind zL)))
def cQ:List PV→M PV:=gE 4 5 gp
def iT:ae→M Fl:=(au (dO (aK (ab (cC false) (ab az (gv 2) (cI 0)) (cS "hours")))
  (aV (chain h9 r8 (ab az (gv 2) (cI 1)) (gv 3) (ab az (gv 2) (cI 2))))
  (fun ρ=>M.ret (.nx ρ)))
  (au (dO (aK (ab (cC false) (ab az (gv 2) (cI 0)) (cS "looked")))
  (au (ax 5 (fun ρ=>((aa (gv 0) (aa (cS "look") (aa (gv 1) (aa (gv 3) aN)))) ρ).bind cQ))
  (aV (fh (ab (iW true) (gv 5) (fun _=>M.ret .aE)) (ab r8 (gv 3) (ab cu (ab az (gv 5) (cI 2)) (ab az (gv 2) (cI 1)))))))
  (fun ρ=>M.ret (.nx ρ)))
  (au (dO (aK (ab (o5 false) (ab az (gv 2) (cI 0)) (fun ρ=>((aa (cS "least") (aa (cS "most") aN)) ρ).bind aS)))
  (au (ax 6 (fun ρ=>((aa (gv 0) (aa (cS "read") (aa (ab az (gv 2) (cI 1)) (aa (gv 3) aN)))) ρ).bind cQ))
  (au (dO (aK (ab (iW false) (gv 6) (fun _=>M.ret .aE)))
  (aV (fun _=>M.ret (.bl false)))
  (fun ρ=>M.ret (.nx ρ)))
  (aV (o6 (aK (ab (cC false) (ab az (gv 2) (cI 0)) (cS "least"))) (ab Nb (ab az (gv 6) (cI 4)) (ab az (gv 2) (cI 2))) (ab h9 (ab az (gv 6) (cI 4)) (ab az (gv 2) (cI 2)))))))
  (fun ρ=>M.ret (.nx ρ)))
  (aV (fh (ab (cC false) (ab az (gv 2) (cI 0)) (cS "with")) (ab (o5 false) (ab az (gv 2) (cI 1)) (gv 4)))))))
def cA:List PV→M PV:=gE 5 7 iT
def iQ:ae→M Fl:=(au (ax 3 (fun ρ=>((aa (gv 0) (aa (cS "rule") (aa (gv 1) (aa (gv 2) aN)))) ρ).bind cQ))
  (aV (o6 (aK (ab (iW false) (gv 3) (fun _=>M.ret .aE))) (fun ρ=>(aN ρ).bind aS) (ab az (gv 3) (cI 4)))))
def bC:List PV→M PV:=gE 3 4 iQ
def jM:ae→M Fl:=(au (ax 3 (aG (bf [none,some 1,some 2] (fun ρ=>((ab az (gv 0) (cI 0)) ρ).bind aH) (aA 0) cF (fun ρ=>((aa (ab az (gv 0) (cI 0)) (aa (fun ρ=>((aa (gv 1) (aa (ab az (gv 0) (cI 0)) (aa (gv 2) aN))) ρ).bind bC) aN)) ρ).bind aS))))
  (au (ax 4 (fun _=>M.ret .aE))
  (au (h7 5 (fun ρ=>(aN ρ).bind aO))
  (au (y6 (aK (ab (cC true) (gv 4) (gb 5))) (au (CC (ax 4 (gv 5)))
  (au (h7 5 (fun ρ=>(aN ρ).bind aO))
  (aP (fun ρ=>((gv 3) ρ).bind aH) (de [6,7])
  (dO (aK (fun ρ=>((aa (aG (bf [none,some 1,some 6,some 2,some 4] (fun ρ=>((gv 7) ρ).bind aH) (aA 0) cF (fun ρ=>((aa (gv 1) (aa (gv 2) (aa (gv 0) (aa (gv 3) (aa (gv 4) aN))))) ρ).bind cA))) aN) ρ).bind kO))
  (dR 5 (gv 6))
  (fun ρ=>M.ret (.nx ρ)))))) 1000)
  (aV (gv 5))))))
def dC:List PV→M PV:=gE 3 8 jM
def ly:ae→M Fl:=(au (ax 4 (aG (bf [none,none,some 0,some 2,some 3,some 1] (fun ρ=>((aa (fun ρ=>((aa (gv 0) (aa (gv 2) (aa (gv 3) aN))) ρ).bind bC) aN) ρ).bind sA) (de [0,1]) (pP (aK (fun ρ=>((aa (gv 2) (aa (gv 3) (aa (gv 1) (aa (gv 4) (aa (gv 5) aN))))) ρ).bind cA))) (gv 0))))
  (aV (o6 (aK (ab (cC true) (gv 4) (aG (fun ρ=>(aN ρ).bind aO)))) (ab az (gv 4) (cI 0)) (fun _=>M.ret .aE))))
def eJ:List PV→M PV:=gE 4 5 ly
def lz:ae→M Fl:=(au (ax 4 (ab (o5 false) (gv 2) (ab az (gv 1) (gv 3))))
  (au (ax 5 (aG (bf [none,some 2,some 1,some 4] (fun ρ=>((aa (ab cu (gv 3) (cI 1)) (aa (fun ρ=>((aa (gv 1) aN) ρ).bind dA) aN)) ρ).bind t7) (aA 0) (aK (ab (cC true) (ab (o5 false) (gv 1) (ab az (gv 2) (gv 0))) (gv 3))) (gv 0))))
  (au (ax 6 (o6 (aK (ab (cC true) (gv 5) (aG (fun ρ=>(aN ρ).bind aO)))) (ab az (gv 5) (cI 0)) (fun _=>M.ret .aE)))
  (au (dO (aK (gv 4))
  (aV (fun ρ=>((aa (cS "open") (aa (gv 6) (aa (o6 (aK (ab (iW false) (gv 6) (fun _=>M.ret .aE))) (fun _=>M.ret .aE) (fun ρ=>((aa (gv 0) (aa (ab az (gv 1) (gv 6)) (aa (gv 2) (aa (gv 6) aN)))) ρ).bind eJ)) aN))) ρ).bind aS))
  (fun ρ=>M.ret (.nx ρ)))
  (aV (fun ρ=>((aa (cS "shut") (aa (fun ρ=>((aa (gv 0) (aa (ab az (gv 1) (gv 3)) (aa (gv 2) (aa (gv 3) aN)))) ρ).bind eJ) (aa (gv 6) aN))) ρ).bind aS))))))
def eK:List PV→M PV:=gE 4 7 lz
def iR:ae→M Fl:=(au (ax 3 (fun ρ=>((aa (gv 1) aN) ρ).bind gZ))
  (au (ax 4 (aG (bf [none,some 0,some 1] (fun ρ=>((aa (ab cu (ab az (gv 0) (cI 2)) (cI 1)) aN) ρ).bind bN) (aA 0) cF (fun ρ=>((aa (gv 1) (aa (gv 2) (aa (gv 0) aN))) ρ).bind dC))))
  (au (aP (fun ρ=>((gv 2) ρ).bind aH) (aA 5)
  (aP (fun ρ=>((ab az (gv 0) (cI 0)) ρ).bind aH) (aA 6)
  (dO (aK (ab (cC true) (fun ρ=>((aa (fun ρ=>((aa (gv 0) (aa (gv 3) (aa (ab az (gv 6) (cI 0)) (aa (gv 5) aN)))) ρ).bind eI) aN) ρ).bind ju) (fun ρ=>((aa (fun ρ=>((aa (gv 1) (aa (gv 4) (aa (ab az (gv 6) (cI 0)) (aa (gv 5) aN)))) ρ).bind eK) aN) ρ).bind ju)))
  (aV (fun _=>M.ret (.bl false)))
  (fun ρ=>M.ret (.nx ρ)))))
  (aV (fun _=>M.ret (.bl true))))))
def dW:List PV→M PV:=gE 3 7 iR
def nL:ae→M Fl:=(au (AG [2,3,4] (fun ρ=>((aa (gv 1) (aa (cI 4) (aa (cI 1) aN))) ρ).bind gX))
  (au (ax 5 (fun ρ=>((aa (gv 2) (aa (gv 3) (aa (fun ρ=>((aa (gv 4) (aa (cI 20) aN)) ρ).bind nK) aN))) ρ).bind aS))
  (au (ax 6 (fun ρ=>((aa (gv 1) (aa (gv 5) (aa (cI 1) (aa (fun ρ=>((aa (gv 1) (aa (cI 13) aN)) ρ).bind af) aN)))) ρ).bind fB))
  (au (ax 7 (aG (sL (aG (fun ρ=>((aa (cI 0) (aa (ab az (gv 5) (cI 2)) aN)) ρ).bind aO)) (aG (bf [none,some 1,some 5] (fun ρ=>((aa (cI 3) aN) ρ).bind bN) (aA 0) cF (fun ρ=>((aa (gv 1) (aa (ab cu (ab az (gv 2) (cI 2)) (cI 1)) aN)) ρ).bind af))))))
  (aV (fh (fun ρ=>((aa (gv 5) (aa (gv 6) (aa (gv 7) aN))) ρ).bind dW) (fun ρ=>((aa (gv 5) (aa (Gn D7 (gv 6) (fun ρ=>((cI 1) ρ).bind fun y=>(uL y).bind fun i=>M.ret (some i)) (fun _=>M.ret none)) (aa (Gn D7 (gv 7) (fun ρ=>((cI 1) ρ).bind fun y=>(uL y).bind fun i=>M.ret (some i)) (fun ρ=>((cI 3) ρ).bind fun y=>(uL y).bind fun i=>M.ret (some i))) aN))) ρ).bind dW)))))))
section
set_option hygiene false in
local macro_rules
|`(tactic|walk_at"v1")=>`(tactic|focus first
|with_reducible exact jQ
|with_reducible exact Jf
|with_reducible exact LD
|with_reducible exact Jg)
|`(tactic|walk_at"v2")=>`(tactic|focus first
|((with_reducible refine xi ?_ ?_ ?_);walk_at"b";walk_at"b";all_goals walk_at"z")
|((with_reducible refine om (oN HE ?_ ?_ ?_) HA);walk_at"B_";walk_at"O_";walk_at"O_")
|((with_reducible refine FK ?_ ?_ ?_ ?_);walk_at"z";walk_at"b";walk_at"b";all_goals walk_at"z"))
|`(tactic|walk_at"v3")=>`(tactic|focus first
|((with_reducible refine LO (by with_reducible assumption) (by with_reducible assumption) ?_ ?_ ?_ ?_ ?_ ?_ ?_);exact hr.mono (by decide);walk_at"z";walk_at"z";walk_at"z";walk_at"z";walk_at"z";walk_at"a")
|((with_reducible refine cZ (eU xm ?_ ?_ PySem.boot_len ?_ ?_ ?_ ?_ ?_) Ju);walk_at"z";exact T.Lo;walk_at"D_";all_goals walk_at"z")
|((with_reducible refine cZ (eU (Dd ?_) ?_ ?_ PyProof.Rows.boot_all ?_ ?_ ?_ ?_ ?_) Jw);walk_at"z";walk_at"z";exact T.Lq;walk_at"D_";all_goals walk_at"z")
|((with_reducible refine cZ (eU (Ah ?_) ?_ ?_ PyProof.Rows.boot_max ?_ ?_ ?_ ?_ ?_) Fy);walk_at"z";walk_at"z";exact T.GC;walk_at"D_";all_goals walk_at"z")
|((with_reducible refine cZ (eU (qI ?_) ?_ ?_ PyProof.Rows.boot_min ?_ ?_ ?_ ?_ ?_) yR);walk_at"z";walk_at"z";exact T.GB;walk_at"D_";all_goals walk_at"z")
|((with_reducible refine cZ (lO Ai ?_ ?_ PyProof.Rows.boot_int ?_ ?_ ?_ ?_ ?_) Jv);walk_at"z";exact T.Lp;walk_at"D_";all_goals walk_at"z")
|((with_reducible refine cZ (lO jw ?_ ?_ PyProof.Rows.boot_tuple ?_ ?_ ?_ ?_ ?_) C2);walk_at"z";exact T.yv;walk_at"D_";all_goals walk_at"z")
|((with_reducible refine cZ (eU (xk ?_ ?_) ?_ ?_ PyProof.Rows.boot_repr ?_ ?_ ?_ ?_ ?_) C3);walk_at"z";walk_at"z";walk_at"z";exact T.IE;walk_at"D_";all_goals walk_at"z")
|((with_reducible refine Jz (by with_reducible assumption) (by with_reducible assumption) ?_ ?_ ?_ ?_ ?_ ?_ ?_);exact hr.mono (by decide);walk_at"z";walk_at"z";walk_at"z";walk_at"z";walk_at"z";walk_at"A"))
|`(tactic|walk_at"v4")=>`(tactic|focus first
|((with_reducible refine lH yr BM ?_ ?_);walk_at"b";walk_at"b")
|((with_reducible refine lH Ih Ia ?_ ?_);walk_at"b";walk_at"b")
|((with_reducible refine lH Ez Eu ?_ ?_);walk_at"b";walk_at"b")
|((with_reducible refine lH gg Ie ?_ ?_);walk_at"b";walk_at"b")
|((with_reducible refine lH Ij Ib ?_ ?_);walk_at"b";walk_at"b"))
|`(tactic|walk_at"v6")=>`(tactic|focus first
|((with_reducible refine fG (rQ ?_) (qj false) ?_ ?_ ?_);walk_at"z";walk_at"b";walk_at"b";all_goals walk_at"z")
|((with_reducible refine fG (BQ ?_) (qj true) ?_ ?_ ?_);walk_at"z";walk_at"b";walk_at"b";all_goals walk_at"z")
|((with_reducible refine fG yq ym ?_ ?_ ?_);walk_at"b";walk_at"b";all_goals walk_at"z")
|((with_reducible refine fG gh gf ?_ ?_ ?_);walk_at"b";walk_at"b";all_goals walk_at"z")
|((with_reducible refine fG BV Gy ?_ ?_ ?_);walk_at"b";walk_at"b";all_goals walk_at"z")
|((with_reducible refine fG BX Gz ?_ ?_ ?_);walk_at"b";walk_at"b";all_goals walk_at"z")
|((with_reducible refine fG BR BL ?_ ?_ ?_);walk_at"b";walk_at"b";all_goals walk_at"z")
|((with_reducible refine fG yp yj ?_ ?_ ?_);walk_at"b";walk_at"b";all_goals walk_at"z")
|((with_reducible refine fG BU (yn false) ?_ ?_ ?_);walk_at"b";walk_at"b";all_goals walk_at"z")
|((with_reducible refine fG qk (yn true) ?_ ?_ ?_);walk_at"b";walk_at"b";all_goals walk_at"z")
|((with_reducible refine uQ gh gf gh gf ?_ ?_ ?_ ?_);walk_at"b";walk_at"b";walk_at"b";all_goals walk_at"z")
|((with_reducible refine uQ gh gf yq ym ?_ ?_ ?_ ?_);walk_at"b";walk_at"b";walk_at"b";all_goals walk_at"z")
|((with_reducible refine JF ?_ ?_ ?_ ?_);walk_at"z";walk_at"b";walk_at"b";all_goals walk_at"z"))
|`(tactic|walk_at"v8")=>`(tactic|focus first
|((with_reducible refine CM ?_ ?_);walk_at"v";walk_at"v")
|((with_reducible refine CK ?_);walk_at"v"))
|`(tactic|walk_at"v")=>`(tactic|focus first
|((with_reducible refine Nm ?_);walk_at"f")
|((with_reducible refine vn _ ?_ ?_ ?_ ?_);all_goals walk_at"z")
|((with_reducible show EV _ _ (.Constant _ _ _) _);walk_at"v1")
|((with_reducible show EV _ _ (.Subscript _ _ _) _);walk_at"v2")
|((with_reducible show EV _ _ (.Call (.Name _ _) _ _ _) _);walk_at"v3")
|((with_reducible show EV _ _ (.BinOp _ _ _ _) _);walk_at"v4")
|((with_reducible refine CJ ?_);walk_at"a")
|((with_reducible show EV _ _ (.Compare _ _ _ _) _);walk_at"v6")
|((with_reducible refine Jh (LU Hf ?_));walk_at"B_")
|((with_reducible show EV _ _ (.BoolOp _ _ _) _);walk_at"v8")
|((with_reducible refine LC (Dn PySem.F.plainAttrs_str PySem.F.slot_str_join PySem.F.type_str_join EM ?_ ?_ ?_ ?_ ?_ ?_ ?_) EL ?_);walk_at"B_";walk_at"D_";all_goals walk_at"z")
|((with_reducible refine LB ?_ ?_ ?_);walk_at"c";walk_at"v";walk_at"v"))
|`(tactic|walk_at"c0")=>`(tactic|focus first
|((with_reducible refine dv (rQ ?_) (qj false) ?_ ?_ ?_);walk_at"z";walk_at"b";walk_at"b";all_goals walk_at"z")
|((with_reducible refine dv (BQ ?_) (qj true) ?_ ?_ ?_);walk_at"z";walk_at"b";walk_at"b";all_goals walk_at"z")
|((with_reducible refine dv yq ym ?_ ?_ ?_);walk_at"b";walk_at"b";all_goals walk_at"z")
|((with_reducible refine dv gh gf ?_ ?_ ?_);walk_at"b";walk_at"b";all_goals walk_at"z")
|((with_reducible refine dv BV Gy ?_ ?_ ?_);walk_at"b";walk_at"b";all_goals walk_at"z")
|((with_reducible refine dv BX Gz ?_ ?_ ?_);walk_at"b";walk_at"b";all_goals walk_at"z")
|((with_reducible refine dv BR BL ?_ ?_ ?_);walk_at"b";walk_at"b";all_goals walk_at"z")
|((with_reducible refine dv yp yj ?_ ?_ ?_);walk_at"b";walk_at"b";all_goals walk_at"z")
|((with_reducible refine dv BU (yn false) ?_ ?_ ?_);walk_at"b";walk_at"b";all_goals walk_at"z")
|((with_reducible refine dv qk (yn true) ?_ ?_ ?_);walk_at"b";walk_at"b";all_goals walk_at"z")
|((with_reducible refine tI gh gf gh gf ?_ ?_ ?_ ?_);walk_at"b";walk_at"b";walk_at"b";all_goals walk_at"z")
|((with_reducible refine tI gh gf yq ym ?_ ?_ ?_ ?_);walk_at"b";walk_at"b";walk_at"b";all_goals walk_at"z")
|((with_reducible refine Hk ?_ ?_ ?_ ?_);walk_at"z";walk_at"b";walk_at"b";all_goals walk_at"z"))
|`(tactic|walk_at"c")=>`(tactic|focus first
|((with_reducible show TV _ _ (.Compare _ _ _ _) _);walk_at"c0")
|((with_reducible refine Hj ?_);walk_at"c")
|((with_reducible refine MC ?_);walk_at"w")
|(refine Hh ?_;walk_at"v"))
|`(tactic|walk_at"b")=>`(tactic|focus first
|((with_reducible refine Fq _ (bv _ ?_ ?_ ?_ ?_));all_goals walk_at"z")
|((with_reducible refine EV.b ?_);walk_at"v"))
|`(tactic|walk_at"o")=>`(tactic|focus first
|with_reducible exact yk
|((with_reducible refine mM ?_);walk_at"b"))
|`(tactic|walk_at"f")=>`(tactic|focus first
|((with_reducible refine CU ?_);walk_at"a")
|((with_reducible refine GN (Dm ?_ ?_ ?_ ?_ ?_ ?_ ?_));walk_at"I_";walk_at"K_";walk_at"J_";walk_at"L_";all_goals walk_at"z")
|((with_reducible refine CV (GR wq ?_ ?_));walk_at"B_";walk_at"B_")
|((with_reducible refine Jk (Dm ?_ ?_ ?_ ?_ ?_ ?_ ?_));walk_at"n";walk_at"K_";walk_at"J_";walk_at"L_";all_goals walk_at"z")
|((with_reducible refine Aa (eU (xh ?_) ?_ ?_ PyProof.Rows.boot_sorted (mT (JE ?_ ?_ ?_ ?_ ?_ ?_ ?_) sS ?_) ?_ ?_ ?_ ?_));walk_at"z";walk_at"z";exact T.uC;walk_at"I_";walk_at"K_";walk_at"J_";walk_at"L_";all_goals walk_at"z"))
|`(tactic|walk_at"w")=>`(tactic|focus first
|((with_reducible refine vI ?_ ?_);walk_at"c";walk_at"w")
|((with_reducible refine xM ?_);walk_at"c")
|((with_reducible refine Ku ?_ ?_);walk_at"c";walk_at"w")
|((with_reducible refine G9 ?_);walk_at"c"))
|`(tactic|walk_at"a")=>`(tactic|focus first
|with_reducible exact fH
|((with_reducible refine aR ?_ ?_ ?_);walk_at"v";walk_at"a";all_goals walk_at"z"))
|`(tactic|walk_at"A")=>`(tactic|focus first
|with_reducible exact tm
|((with_reducible refine kP ?_ ?_ ?_);walk_at"b";walk_at"A";all_goals walk_at"z"))
|`(tactic|walk_at"i")=>`(tactic|focus first
|((with_reducible refine yA (qN ?_ ?_ ?_ ?_));walk_at"z";exact T.r6;walk_at"D_";all_goals walk_at"z")
|((with_reducible refine E9 (Aj ?_ ?_ ?_ ?_ ?_));walk_at"z";exact T.r6;walk_at"D_";all_goals walk_at"z")
|((with_reducible refine Lx ?_);walk_at"b")
|((with_reducible refine M7 ?_);walk_at"v"))
|`(tactic|walk_at"n")=>`(tactic|focus ((with_reducible refine M8 (JD ?_ ?_ ?_ ?_ ?_));walk_at"z";exact T.lZ;walk_at"P_";all_goals walk_at"z"))
|`(tactic|walk_at"q")=>`(tactic|focus first
|with_reducible exact AO
|((with_reducible refine AN ?_);walk_at"c"))
|`(tactic|walk_at"g")=>`(tactic|focus first
|((with_reducible refine sk (fw ?_ ?_ ?_ ?_));all_goals walk_at"z")
|((with_reducible refine IX (C1 ?_ ?_ ?_ ?_));walk_at"G";all_goals walk_at"z")
|((with_reducible refine Fc (fw ?_ ?_ ?_ ?_));all_goals walk_at"z")
|((with_reducible refine IY (C1 ?_ ?_ ?_ ?_));walk_at"G";all_goals walk_at"z"))
|`(tactic|walk_at"G")=>`(tactic|focus first
|with_reducible exact LL
|((with_reducible refine LK (fw ?_ ?_ ?_ ?_) ?_ ?_);walk_at"z";walk_at"z";walk_at"z";walk_at"z";walk_at"G";all_goals walk_at"z"))
|`(tactic|walk_at"s")=>`(tactic|focus first
|with_reducible exact HB
|((with_reducible refine ji ?_ ?_);walk_at"t";walk_at"s")
|((with_reducible refine qV ?_);walk_at"t"))
|`(tactic|walk_at"t0")=>`(tactic|focus first
|((with_reducible refine jx (Ds (xx (sO ?_ ?_ ?_ ?_ ?_ ?_ ?_ ?_ ?_ ?_ ?_ ?_))));walk_at"I_";walk_at"K_";walk_at"J_";walk_at"L_";walk_at"z";walk_at"z";walk_at"z";rfl;all_goals walk_at"z")
|((with_reducible refine vS (xx (sO ?_ ?_ ?_ ?_ ?_ ?_ ?_ ?_ ?_ ?_ ?_ ?_)));walk_at"I_";walk_at"K_";walk_at"J_";walk_at"L_";walk_at"z";walk_at"z";walk_at"z";rfl;all_goals walk_at"z")
|((with_reducible refine jx (Ds (yY (sO ?_ ?_ ?_ ?_ ?_ ?_ ?_ ?_ ?_ ?_ ?_ ?_))));walk_at"n";walk_at"K_";walk_at"J_";walk_at"L_";walk_at"z";walk_at"z";walk_at"z";rfl;all_goals walk_at"z")
|((with_reducible refine vS (yY (sO ?_ ?_ ?_ ?_ ?_ ?_ ?_ ?_ ?_ ?_ ?_ ?_)));walk_at"n";walk_at"K_";walk_at"J_";walk_at"L_";walk_at"z";walk_at"z";walk_at"z";rfl;all_goals walk_at"z")
|((with_reducible refine jx (jY ?_ ?_ ?_ ?_ ?_ ?_));walk_at"z";walk_at"z";walk_at"z";walk_at"V_";all_goals walk_at"z")
|((with_reducible refine vS (jY ?_ ?_ ?_ ?_ ?_ ?_));walk_at"z";walk_at"z";walk_at"z";walk_at"F_";all_goals walk_at"z")
|((with_reducible refine DX (jY ?_ ?_ ?_ ⟨BB⟩ ?_ ?_));all_goals walk_at"z"))
|`(tactic|walk_at"t1")=>`(tactic|focus first
|((with_reducible refine Hz (yT (Dn PySem.F.plainAttrs_list PySem.F.slot_list_append PySem.F.type_list_append ?_ (bv _ ?_ ?_ ?_ ?_) (mT ?_ sS ?_) ?_ ?_ ?_ ?_ ?_) ?_));exact qm;walk_at"z";walk_at"z";walk_at"z";walk_at"z";walk_at"V_";all_goals walk_at"z")
|((with_reducible refine Hy (yT (Dn PySem.F.plainAttrs_list PySem.F.slot_list_extend AH ?_ (bv _ ?_ ?_ ?_ ?_) (mT ?_ sS ?_) ?_ ?_ ?_ ?_ ?_) ?_));exact zH;walk_at"z";walk_at"z";walk_at"z";walk_at"z";walk_at"V_";all_goals walk_at"z"))
|`(tactic|walk_at"t2")=>`(tactic|focus first
|((with_reducible refine Hw (Dg ?_ ?_ ?_ ?_ ?_ ?_));walk_at"z";walk_at"z";walk_at"I_";walk_at"H_";walk_at"S_";all_goals walk_at"z")
|((with_reducible refine DV (FG ?_ ?_ ?_ ?_ ?_ ?_));walk_at"z";walk_at"z";walk_at"V_";walk_at"H_";walk_at"S_";all_goals walk_at"z")
|((with_reducible refine DU (Dg ?_ ?_ ?_ ?_ ?_ ?_));walk_at"z";walk_at"z";walk_at"n";walk_at"H_";walk_at"S_";all_goals walk_at"z"))
|`(tactic|walk_at"t3")=>`(tactic|focus first
|((with_reducible refine AW (Dh ?_ (C1 ?_ ?_ ?_ ?_) ?_ ?_ ?_));walk_at"V_";walk_at"G";all_goals walk_at"z")
|((with_reducible refine Hu (JB ?_ ?_ ?_ ?_ ?_ ?_ ?_ ?_ ?_ ?_));walk_at"z";walk_at"z";walk_at"z";walk_at"z";walk_at"z";walk_at"z";walk_at"z";walk_at"P_";all_goals walk_at"z"))
|`(tactic|walk_at"t")=>`(tactic|focus first
|((with_reducible refine qU (sN ?_));walk_at"V_")
|((with_reducible refine KL (LR ?_ ?_ ?_));walk_at"C_";walk_at"S_";walk_at"S_")
|((with_reducible refine Hv ?_);walk_at"t")
|((with_reducible show SV _ _ (.Assign [.Name _ _] _ _) _);walk_at"t0")
|((with_reducible show SV _ _ (.Expr _ _) _);walk_at"t1")
|((with_reducible show SV _ _ (.For _ _ _ _ _) _);walk_at"t2")
|((with_reducible show SV _ _ (.Assign [.Tuple _ _ _] _ _) _);walk_at"t3")
|((with_reducible refine DW (FH ?_ (bv _ ?_ ?_ ?_ ?_) ?_ ?_ ?_));walk_at"z";walk_at"z";walk_at"z";walk_at"z";walk_at"z";walk_at"B_";walk_at"V_";all_goals walk_at"z")
|((with_reducible refine AU _ (Df ?_ ?_ ?_));walk_at"z";walk_at"C_";walk_at"S_"))
|`(tactic|walk_at"z")=>`(tactic|focus first
|rfl
|exact hr.units
|exact nd
|exact Or.inl rfl
|exact Or.inr rfl
|decide
|exact jH _
|exact (fun _=>rfl)
|exact fun _ _=>rfl
|exact GH hr
|exact B2 (by kernel_rfl)
|exact PassesOwn.never
|exact hr.gd
|exact hr.units0
|exact Or.inr (Or.inl rfl)
|exact Or.inr (Or.inr rfl)
|kernel_rfl)
|`(tactic|walk_at"V_")=>`(tactic|focus (show EV _ _ _ _;walk_at"v"))
|`(tactic|walk_at"B_")=>`(tactic|focus (show EB _ _ _ _;walk_at"b"))
|`(tactic|walk_at"F_")=>`(tactic|focus (show EF _ _ _ _;walk_at"f"))
|`(tactic|walk_at"C_")=>`(tactic|focus (show TV _ _ _ _;walk_at"c"))
|`(tactic|walk_at"S_")=>`(tactic|focus (show Dw _ _ _ _;walk_at"s"))
|`(tactic|walk_at"P_")=>`(tactic|focus (show AV _ _ _ _;walk_at"a"))
|`(tactic|walk_at"D_")=>`(tactic|focus (show AB _ _ _ _;walk_at"A"))
|`(tactic|walk_at"I_")=>`(tactic|focus (show IV _ _ _ _ _ _;walk_at"i"))
|`(tactic|walk_at"O_")=>`(tactic|focus (show OV _ _ _ _;walk_at"o"))
|`(tactic|walk_at"H_")=>`(tactic|focus (show GS _ _ _ _;walk_at"g"))
|`(tactic|walk_at"K_")=>`(tactic|focus (intro _ _ _ _;show GV _ _ _ _;walk_at"g"))
|`(tactic|walk_at"J_")=>`(tactic|focus (intro _ _ _ _;show Nt _ _ _ _;walk_at"q"))
|`(tactic|walk_at"L_")=>`(tactic|focus (intro _ _ _ _;show EV _ _ _ _;walk_at"v"))
|`(tactic|walk_at"k")=>`(tactic|focus (refine Jd C nd rfl (by decide) (by conv=>lhs;whnf) (by conv=>lhs;whnf) fun dP A outer s H E hr=>?_;replace nd := nd.nd))
variable {P:Program} {w:World} {K:Frag} {mg:Str→Option Value} {base:Heap} {aZ:My} {dZ:Mw} (T:Txt K mg aZ dZ)
variable (av:cP P w K mg base ig 1 aZ.oO dZ.wW ["_law_state","_law_many"] (vU (cK aZ.ak aZ.ah K) af)) (kb:K.In base) (hB:DL base mg)
include T av kb hB
theorem rR:kQ P w base (cK aZ.ak aZ.ah K) 1 T.i4 fA:=by
 have C:=T.i4
 have nd:=rg
 walk_at "k"
 unfold iM
 walk_at "s"
theorem gm:kQ P w base (cK aZ.ak aZ.ah K) 1 T.dQ cB:=by
 have C:=T.dQ
 have nd:=rC
 walk_at "k"
 unfold iU
 walk_at "s"
theorem wx:kQ P w base (cK aZ.ak aZ.ah K) 2 T.lK eG:=by
 have mq:=gm T av kb hB
 have mw:=T.dQ
 have C:=T.lK
 have nd:=vW
 walk_at "k"
 unfold lu
 walk_at "s"
theorem lX:kQ P w base (cK aZ.ak aZ.ah K) 2 T.gF bL:=by
 have mq:=gm T av kb hB
 have mw:=T.dQ
 have C:=T.gF
 have nd:=tW
 walk_at "k"
 unfold jJ
 walk_at "s"
theorem rT:kQ P w base (cK aZ.ak aZ.ah K) 2 T.i6 cz:=by
 have mq:=gm T av kb hB
 have mw:=T.dQ
 have C:=T.i6
 have nd:=rj
 walk_at "k"
 unfold iO
 walk_at "s"
theorem pG:kQ P w base (cK aZ.ak aZ.ah K) 3 T.gH bW:=by
 have Kk:=wx T av kb hB
 have Kp:=T.lK
 have C:=T.gH
 have nd:=ph
 walk_at "k"
 unfold eC
 walk_at "s"
theorem pH:kQ P w base (cK aZ.ak aZ.ah K) 3 T.gJ bx:=by
 have G1:=rT T av kb hB
 have G5:=T.i6
 have C:=T.gJ
 have nd:=pj
 walk_at "k"
 unfold cY
 walk_at "s"
theorem iI:kQ P w base (cK aZ.ak aZ.ah K) 4 T.dE aF:=by
 have FR:=pG T av kb hB
 have FT:=pH T av kb hB
 have FZ:=T.gJ
 have FY:=T.gH
 have C:=T.dE
 have nd:=nh
 walk_at "k"
 unfold bK
 walk_at "s"
theorem mz:kQ P w base (cK aZ.ak aZ.ah K) 5 T.eS bc:=by
 have xF:=lX T av kb hB
 have pW:=iI T av kb hB
 have pX:=T.dE
 have xI:=T.gF
 have C:=T.eS
 have nd:=my
 walk_at "k"
 unfold eO
 walk_at "s"
theorem pL:kQ P w base (cK aZ.ak aZ.ah K) 1 T.gM dq:=by
 have C:=T.gM
 have nd:=pz
 walk_at "k"
 unfold gy
 walk_at "s"
theorem rS:kQ P w base (cK aZ.ak aZ.ah K) 6 T.i5 cy:=by
 have FW:=pL T av kb hB
 have Dz:=mz T av kb hB
 have Gd:=T.gM
 have DA:=T.eS
 have C:=T.i5
 have nd:=rh
 walk_at "k"
 unfold iN
 walk_at "s"
theorem uh:kQ P w base (cK aZ.ak aZ.ah K) 7 T.jT bF:=by
 have GZ:=rR T av kb hB
 have G0:=rS T av kb hB
 have xF:=lX T av kb hB
 have pW:=iI T av kb hB
 have pX:=T.dE
 have G4:=T.i5
 have xI:=T.gF
 have G3:=T.i4
 have C:=T.jT
 have nd:=tV
 walk_at "k"
 unfold jI
 walk_at "s"
theorem pF:kQ P w base (cK aZ.ak aZ.ah K) 1 T.gG bw:=by
 have C:=T.gG
 have nd:=pf
 walk_at "k"
 unfold cX
 walk_at "s"
theorem BZ:kQ P w base (cK aZ.ak aZ.ah K) 2 T.sM kR:=by
 have FQ:=pF T av kb hB
 have FX:=T.gG
 have C:=T.sM
 have nd:=A6
 walk_at "k"
 unfold rY
 walk_at "s"
theorem wz:kQ P w base (cK aZ.ak aZ.ah K) 8 T.lL eI:=by
 have JQ:=uh T av kb hB
 have Mu:=BZ T av kb hB
 have Mx:=T.sM
 have JV:=T.jT
 have C:=T.lL
 have nd:=vX
 walk_at "k"
 unfold lx
 walk_at "s"
theorem ui:kQ P w base (cK aZ.ak aZ.ah K) 2 T.jU gW:=by
 have fe:=T.bV
 have C:=T.jU
 have nd:=tX
 walk_at "k"
 unfold jK
 walk_at "s"
theorem kr:kQ P w base (cK aZ.ak aZ.ah K) 3 T.fo cT:=by
 have JR:=ui T av kb hB
 have JW:=T.jU
 have C:=T.fo
 have nd:=rm
 walk_at "k"
 unfold iP
 walk_at "s"
theorem um:kQ P w base (cK aZ.ak aZ.ah K) 4 T.jX gX:=by
 have vw:=kr T av kb hB
 have fe:=T.bV
 have vA:=T.fo
 have C:=T.jX
 have nd:=t5
 walk_at "k"
 unfold jN
 walk_at "s"
theorem pJ:kQ P w base (cK aZ.ak aZ.ah K) 2 T.gL dn:=by
 have fe:=T.bV
 have C:=T.gL
 have nd:=pq
 walk_at "k"
 unfold gs
 walk_at "s"
theorem uj:kQ P w base (cK aZ.ak aZ.ah K) 2 T.jV fb:=by
 have fe:=T.bV
 have C:=T.jV
 have nd:=tZ
 walk_at "k"
 unfold jL
 walk_at "s"
theorem pI:kQ P w base (cK aZ.ak aZ.ah K) 2 T.gK di:=by
 have fe:=T.bV
 have C:=T.gK
 have nd:=pk
 walk_at "k"
 unfold gq
 walk_at "s"
theorem rW:kQ P w base (cK aZ.ak aZ.ah K) 4 T.i7 fB:=by
 have vw:=kr T av kb hB
 have FV:=pJ T av kb hB
 have FU:=pI T av kb hB
 have JS:=uj T av kb hB
 have Gb:=T.gL
 have Ga:=T.gK
 have fe:=T.bV
 have JX:=T.jV
 have vA:=T.fo
 have C:=T.i7
 have nd:=rA
 walk_at "k"
 unfold iS
 walk_at "s"
theorem uo:cP P w K mg base ig 4 aZ.j0 dZ.wY ["_law_pages_here"] (vU (cK aZ.ak aZ.ah K) gZ):=by
 have eb:=Eq.refl (bg bT)
 conv at eb=>rhs;whnf
 have es:=Eq.refl (ao bT)
 conv at es=>rhs;whnf
 refine CG (N:=["_law_pages_here"]) (ps:=["_law_pages_here"]) (k:=3) (m:=gx) rfl T.oY t6 (by decide) eb es fun A outer s H E hr=>?_
 unfold gx
 exact(qV (qU (sN (cZ (lO jw rfl T.yv PyProof.Rows.boot_tuple (kP (EV.b (EF.v (CT (tb:=(aZ.ak,_)) NS (by intro q hq e;simp only[N2,N3,or_false] at hq;rcases hq with rfl|rfl<;>first|rfl|exact absurd e T.iJ) ⟨By (k:=0) (N:=["_law_page_here"]) (y:="_law_page_here") (hr.mono (by decide)) hB rfl (PySem.W.codeHd_of_K kb T.oY.hd) rfl rfl ⟨rfl,rfl,rfl,by decide,rfl,by decide +kernel,by decide +kernel⟩ (fun _ _ _ _ _=>.of_eq rfl) (fun _ _ _ _ _=>wk (cn (fN nW (pv 0) aI (fun _ _=>rfl)) (cn (fN nW (pv 0) aI (fun _ _=>rfl)) dY))) rfl T.uC (vb 0).out⟩))) tm)) C2))))
theorem lY:cP P w K mg base ig 4 aZ.jZ dZ.wX ["_law_pages_here","_law_kind","_law_name","_law_t"] (vU (cK aZ.ak aZ.ah K) cQ):=by
 have eb:=Eq.refl (bg bJ)
 conv at eb=>rhs;whnf
 have es:=Eq.refl (ao bJ)
 conv at es=>rhs;whnf
 refine CG (N:=["_law_pages_here","_law_kind","_law_name","_law_t","_law_found"]) (ps:=["_law_pages_here","_law_kind","_law_name","_law_t"]) (k:=3) (m:=gp) rfl T.oX lV (by decide) eb es fun A outer s H E hr=>?_
 unfold gp
 exact(ji (jx (Ds (xx (GP (k:=4) lV.nd rfl (Or.inl rfl) (bb.Ln (N:=["_law_page_here","_law_kind","_law_name","_law_t"]) (js:=[none,some 1,some 2,some 3]) (ao bJ) ["_law_pages_here","_law_kind","_law_name","_law_t","_law_found"] rfl rfl (by decide +kernel)) rfl (Lx (vb 0)) (fun _ _ _ _=>(sk (fw (i:=0) (by decide:(["_law_page_here","_law_kind","_law_name","_law_t"]:List Str).Nodup) rfl (Or.inl rfl)))) (fun _ _ _ _=>(AN (WV.t (vI (dv (rQ hr.units) (qj false) (EV.b (xi (vb 0) ib)) (vb 1) (jH _)) (vI (dv (rQ hr.units) (qj false) (EV.b (xi (vb 0) ib)) (vb 2) (jH _)) (xM (dv gh gf (EV.b (xi (vb 0) ib)) (vb 3) (jH _)))))))) (fun _ _ _ _=>(vn 0))))))
  (qV (qU (sN (Fn (tb:=(aZ.ah,_)) (NV _ NS) (by intro q hq e;simp only[N2,N3,or_false] at hq;rcases hq with rfl|rfl<;>first|rfl|exact absurd e T.iK) ⟨En (k:=0) (N:=["_law_page_here"]) (y:="_law_page_here") (hr.mono (by decide)) hB rfl (PySem.W.codeHd_of_K kb T.oX.hd) rfl rfl ⟨rfl,rfl,rfl,by decide,rfl,by decide +kernel,by decide +kernel⟩ (fun _ _ _ _ _=>.of_eq rfl) (fun _ _ _ _ _=>wk (cn (fN nW (pv 0) aI (fun _ _=>rfl)) (cn (fN nW (pv 0) aI (fun _ _=>rfl)) dY))) rfl T.GC (vb 4).out⟩)))))
theorem kx:kQ P w base (cK aZ.ak aZ.ah K) 5 T.fv cA:=by
 have xG:=lY T av kb hB
 have xJ:=T.oH
 have C:=T.fv
 have nd:=rB
 walk_at "k"
 unfold iT
 walk_at "s"
theorem ku:kQ P w base (cK aZ.ak aZ.ah K) 5 T.ft bC:=by
 have xG:=lY T av kb hB
 have xJ:=T.oH
 have C:=T.ft
 have nd:=rn
 walk_at "k"
 unfold iQ
 walk_at "s"
theorem uk:kQ P w base (cK aZ.ak aZ.ah K) 6 T.jW dC:=by
 have vx:=ku T av kb hB
 have vz:=kx T av kb hB
 have vC:=T.fv
 have vB:=T.ft
 have C:=T.jW
 have nd:=t4
 walk_at "k"
 unfold jM
 walk_at "s"
theorem wA:kQ P w base (cK aZ.ak aZ.ah K) 6 T.lM eJ:=by
 have vx:=ku T av kb hB
 have vz:=kx T av kb hB
 have vC:=T.fv
 have vB:=T.ft
 have C:=T.lM
 have nd:=vY
 walk_at "k"
 unfold ly
 walk_at "s"
theorem wB:kQ P w base (cK aZ.ak aZ.ah K) 7 T.lN eK:=by
 have Km:=wA T av kb hB
 have Kr:=T.lM
 have C:=T.lN
 have nd:=vZ
 walk_at "k"
 unfold lz
 walk_at "s"
theorem rV:kQ P w base (cK aZ.ak aZ.ah K) 9 T.fu dW:=by
 have JU:=uo T av kb hB
 have JT:=uk T av kb hB
 have Kl:=wz T av kb hB
 have Kn:=wB T av kb hB
 have JZ:=T.xn
 have Ks:=T.lN
 have JY:=T.jW
 have Kq:=T.lL
 have C:=T.fu
 have nd:=rq
 walk_at "k"
 unfold iR
 walk_at "s"
theorem Im (je:cP P w K mg base ig 1 aZ.jl dZ.sC ["_law_script"] (qW K)) (hm:(nL ((List.replicate 8 un).set 1 (.val .br))).wp 1000000 fun f _=>f= .rt (.bl true)):cP P w K mg base ig 10 aZ.qP dZ.GO ["_law_script"] (kX K [aZ.ak,aZ.ah]):=by
 have xH:=um T av kb hB
 have vy:=rW T av kb hB
 have mn:=rV T av kb hB
 have eb:=Eq.refl (bg g8)
 conv at eb=>rhs;whnf
 have es:=Eq.refl (ao g8)
 conv at es=>rhs;whnf
 refine L2.E3 (tabs:=[(aZ.ak,(("_law_book":Str)++".<locals>."++"<lambda>")),(aZ.ah,(("_law_page":Str)++".<locals>."++"<lambda>"))]) (N:=["_law_script","_law_state","_law_ways","_law_home","_law_dark","_law_hill_here","_law_pages_here","_law_some"]) (k:=9) (b:=1) (m:=nL) T.LP.F iu eb es (fun dP A outer s H E hr=>?_) (fun dP A outer s H E hr=>?_) hm (by decide) (by decide) (by decide)
 ·exact(jY (i:=1) iu.nd rfl (Or.inr rfl) (mS je (hr.mono (by decide)) rfl T.fq.m T.fq.F.kp T.fq.b .nil yg (mT (bv 0) sS)))
 ·unfold nL
  exact(ji (AW (ks:=[2,3,4]) (Dh (ec xH T.jX hr (a3 (vn 1) jQ jQ)) (Dl rfl (kL (fw (i:=2) iu.nd rfl (Or.inl rfl)) (kL (fw (i:=3) iu.nd rfl (Or.inl rfl)) (kL (fw (i:=4) iu.nd rfl (Or.inl rfl)) yW))))))
  (ji (jx (jY (i:=5) iu.nd rfl (Or.inr rfl) (CJ (a3 (vn 2) (vn 3) (cZ (eU (qI rfl) rfl T.GB PyProof.Rows.boot_min (kP (vb 4) (kP ib tm))) yR)))))
  (ji (jx (jY (i:=6) iu.nd rfl (Or.inl rfl) (ec vy T.i7 hr (a4 (vn 1) (vn 5) jQ (ec av T.bV hr (aR (vn 1) (aR jQ fH)))))))
  (ji (jx (jY (i:=7) iu.nd rfl (Or.inl rfl) (EF.v (CV (GR wq (EV.b (EF.v (CU (aR jQ (aR (xi (vb 5) ib) fH))))) (EV.b (EF.v (GN (GU (bb.Ln (N:=["_law_k","_law_state","_law_hill_here"]) (js:=[none,some 1,some 5]) (ao g8) ["_law_script","_law_state","_law_ways","_law_home","_law_dark","_law_hill_here","_law_pages_here","_law_some"] rfl rfl (by decide +kernel)) rfl (yA (qN rfl T.r6 (kP ib tm))) (fun _ _ _ _=>(sk (fw (i:=0) (by decide:(["_law_k","_law_state","_law_hill_here"]:List Str).Nodup) rfl (Or.inl rfl)))) (fun _ _ _ _=>AO) (fun _ _ _ _=>(ec av T.bV hr (aR (vn 1) (aR (lH yr BM (EV.b (xi (vb 2) ib)) ib) fH)))))))))))))
  (qV (qU (sN (CM (ec mn T.fu hr (a3 (vn 5) (vn 6) (vn 7))) (CK (ec mn T.fu hr (a3 (vn 5) (om (oN HE (vb 6) (mM ib) yk) HA) (om (oN HE (vb 7) (mM ib) (mM ib)) HA))))))))))))
end
theorem NK (i j:Int):cC false (.int i) (.int j)= .ret (.bl (i==j)):=by
 show M.ret (PV.bl (xor false (i==j)))=_
 simp
theorem wU (i j:Str):cC false (.str i) (.str j)= .ret (.bl (i==j)):=by
 show M.ret (PV.bl (xor false (i==j)))=_
 simp
theorem aw {m k:ae→M Fl} {ρ ρ':ae} {Y:M PV} (h:m ρ= .ret (.nx ρ')) (h':(k ρ').bind bu=Y):(au m k ρ).bind bu=Y:=by
 unfold au;rw[h];exact h'
theorem eP {c:ae→M Bool} {a b:ae→M Fl} {ρ:ae} (h:c ρ= .ret false):dO c a b ρ=b ρ:=by unfold dO;rw[h];rfl
theorem d5 {c:ae→M Bool} {a b:ae→M Fl} {ρ:ae} (h:c ρ= .ret true):dO c a b ρ=a ρ:=by unfold dO;rw[h];rfl
theorem aU {m:ae→M PV} {ρ:ae} {y:PV} (h:m (ρ.map Ent.freeze)= .ret y):aV m ρ= .ret (.rt y):=by unfold aV;rw[h];rfl
theorem bA {m:ae→M Fl} {ρ:ae} {y:PV} (h:m ρ= .ret (.rt y)):(m ρ).bind bu= .ret y:=by rw[h];rfl
theorem aL (y:PV) (ρ:ae):aq (.val y::ρ) 0= .ret y:=rfl
theorem aT (e:Ent) (ρ:ae) (i:Nat):aq (e::ρ) (i+1)=aq ρ i:=rfl
theorem CA (l:List PV) (ρ:ae):fF (.own l::ρ) 0= .ret (.lst l):=rfl
theorem Ly (e:Ent) (ρ:ae) (i:Nat):fF (e::ρ) (i+1)=fF ρ i:=rfl
theorem eV {α:Type} {l:List α} {d:Int} (h0:0≤d) (h1:d < l.length): ∃ y∈l,j3 l d=some y:=by
 have hd:d.toNat < l.length:=by lia
 have e:d=((d.toNat:Nat):Int):=by lia
 refine⟨l[d.toNat],OB hd,?_⟩
 have q:=yX (NQ hd)
 rw[←e] at q
 exact q
theorem nE: ∀ (ys:List Str),(∀ z∈ys,z.length=1)→(ys.map (·.length)).sum=ys.length
 |[],_=>rfl
 |y::r,h=>by
  have:=nE r fun z hz=>h z (NV _ hz)
  rw[N1,List.sum_cons,this,h y NS,N5]
  lia
theorem join_ones (ys:List Str) (h: ∀ z∈ys,z.length=1):(Txt.join (Str.ofString "") ys).length=ys.length:=by
 show (Builtin.Str.glued (Str.ofString "") ys).length=_
 rw[PySem.size_glued]
 have e:(Str.ofString "").length=0:=by decide
 rw[e]
 have:=nE ys h
 lia
def Lets (x:Str):Prop:= ∀ c∈x.cps.toList,97≤c∧c≤122
def One (y:PV):Prop:= ∃ c:Nat,y= .str ⟨#[c]⟩∧97≤c∧c≤122
theorem tP: ∀ (l:List PV),(∀ y∈l,One y)→∃ ys,strsOf l=some ys∧ys.length=l.length∧∀ z∈ys,z.length=1∧Lets z
 |[],_=>⟨[],rfl,rfl,fun z hz=>by simp at hz⟩
 |y::l,h=>by
  obtain⟨ys,e1,e2,e3⟩:=tP l fun y hy=>h y (NV _ hy)
  obtain⟨c,rfl,hc⟩:=h y NS
  exact⟨⟨#[c]⟩::ys,by simp[strsOf,e1],by simp[e2],fun u hu=>by
   rcases N2.mp hu with rfl|hu
   ·exact⟨rfl,fun d hd=>by simp at hd;subst hd;exact hc⟩
   ·exact e3 u hu⟩
theorem qC (sep:Str) (hs:Lets sep): ∀ (ys:List Str) (acc:Array Nat),(∀ z∈ys,Lets z)→(∀ c∈acc.toList,97≤c∧c≤122)→∀ c∈(ys.foldl (fun acc p=>acc++sep.cps++p.cps) acc).toList,97≤c∧c≤122
 |[],acc,_,ha=>ha
 |y::ys,acc,h,ha=>by
  rw[List.foldl_cons]
  refine qC sep hs ys _ (fun z hz=>h z (NV _ hz)) fun c hc=>?_
  rw[Array.toList_append,Array.toList_append,OF,OF] at hc
  rcases hc with(hc|hc)|hc
  ·exact ha c hc
  ·exact hs c hc
  ·exact h y NS c hc
theorem zQ (ys:List Str) (h: ∀ z∈ys,Lets z):Lets (Txt.join (Str.ofString "") ys):=by
 have he:Lets (Str.ofString ""):=fun c hc=>by
  have:(Str.ofString "").cps.toList=[]:=by decide
  rw[this] at hc;simp at hc
 show Lets (Builtin.Str.glued (Str.ofString "") ys)
 unfold Builtin.Str.glued
 cases ys with
 |nil=>exact fun c hc=>by simp[Str.empty] at hc
 |cons y ys=>exact qC _ he ys _ (fun z hz=>h z (NV _ hz)) (h y NS)
theorem Jx (x:Str) (j:Int) (c:Nat) (hc:(c:Int)=if j < 0 then max 0 (j+x.length) else min j x.length):Txt.slice x none (some j)=⟨(x.cps.toList.take c).toArray⟩:=by
 have hle:c≤x.length:=by split at hc<;>lia
 have e:Builtin.Str.strSliceIndices none (some j) 1 x.length=Builtin.Str.strSliceIndices (some ((0:Nat):Int)) (some (c:Int)) 1 x.length:=by
  unfold Builtin.Str.strSliceIndices
  simp
  congr 1<;>lia
 have e2:=StrLaws.sliceText_nat x (Ol c) hle
 have e3:Txt.slice x none (some j)=StrLaws.sliceText x (some ((0:Nat):Int)) (some (c:Int)):=by
  unfold Txt.slice StrLaws.sliceText
  rw[e]
 rw[e3,e2,List.drop_zero,Nat.sub_zero]
theorem C4 {x:Str} (h:Lets x) (c:Nat):Lets ⟨(x.cps.toList.take c).toArray⟩:=fun d hd=>h d (List.mem_of_mem_take (by simpa using hd))
theorem sJ (x:Str) (c:Nat):(⟨(x.cps.toList.take c).toArray⟩:Str).length=min c x.length:=by
 show (x.cps.toList.take c).toArray.size=_
 rw[NX,List.length_take]
 simp[Str.length]
theorem Dt {x y:Str} (hx:Lets x) (hy:Lets y):Lets (x++y):=fun c hc=>by
 have:c∈x.cps.toList++y.cps.toList:=by
  rw[←Array.toList_append];exact hc
 rcases OF.mp this with h|h
 ·exact hx c h
 ·exact hy c h
theorem yZ (x y:Str):(x++y).length=x.length+y.length:=Array.size_append
theorem cq {m k:ae→M Fl} {ρ:ae} {c d:Nat} {I:ae→Prop} {Pr:PV→Prop} (h:Gen (m ρ) c fun f=> ∃ ρ',f= .nx ρ'∧I ρ') (h': ∀ ρ',I ρ'→Gen ((k ρ').bind bu) d Pr):Gen ((au m k ρ).bind bu) (c+d) Pr:=by
 unfold au
 rw[M.bZ]
 refine Gen.bind h fun f hf=>?_
 obtain⟨ρ',rfl,hi⟩:=hf
 exact h' ρ' hi
theorem lE {m k:ae→M Fl} {ρ:ae} {c d:Nat} {I:ae→Prop} {Pr:Fl→Prop} (h:Gen (m ρ) c fun f=> ∃ ρ',f= .nx ρ'∧I ρ') (h': ∀ ρ',I ρ'→Gen (k ρ') d Pr):Gen (au m k ρ) (c+d) Pr:=by
 unfold au
 refine Gen.bind h fun f hf=>?_
 obtain⟨ρ',rfl,hi⟩:=hf
 exact h' ρ' hi
theorem Cu {m:ae→M Fl} {ρ ρ':ae} {I:ae→Prop} (h:m ρ= .ret (.nx ρ')) (hi:I ρ'):Gen (m ρ) 0 fun f=> ∃ ρ',f= .nx ρ'∧I ρ':=Gen.eq h ⟨ρ',rfl,hi⟩
theorem Ja {k:Nat} {mb:ae→M Fl} {c:Nat} {Iv:Nat→ae→Prop}: ∀ (l:List PV) (i:Nat) (ρ:ae),Iv i ρ→(∀ y∈l,∀ j < i+l.length,∀ ρ,Iv j ρ→Gen (mb (ρ.set k (.val y))) c fun f=> ∃ ρ',f= .nx ρ'∧Iv (j+1) ρ')→Gen (bD (aA k) mb l ρ) (l.length * c) fun f=> ∃ ρ',f= .nx ρ'∧Iv (i+l.length) ρ'
 |[],i,ρ,h,_=>Gen.le (Gen.ret ⟨ρ,rfl,h⟩) (by simp)
 |y::l,i,ρ,h,hb=>by
  unfold bD
  simp only[aA,M.rZ]
  refine Gen.le (Gen.bind (hb y NS i (by simp) ρ h) fun f hf=>?_) (d:=(y::l).length * c) (Nat.le_of_eq (?_:c+l.length * c=_))
  ·obtain⟨ρ',rfl,h'⟩:=hf
   have q:=Ja l (i+1) ρ' h' fun y' hy j hj=>hb y' (NV _ hy) j (by simp only[N5];lia)
   rw[show i+(y::l).length=i+1+l.length by simp only[N5];lia]
   exact q
  ·simp only[N5,Nat.succ_mul];lia
def dX (zs:List Str) (x:Str):Bool:=zs.any fun z=>z==x
theorem gA {zs:List Str} {x:Str}:dX zs x=true↔x∈zs:=by
 unfold dX
 rw[List.any_eq_true]
 constructor
 ·rintro⟨z,hz,e⟩;rw[←eq_of_beq e];exact hz
 ·intro h;exact⟨x,h,beq_self_eq_true x⟩
theorem qD (zs:List Str):(zs.map PV.str).all aQ=true:=by
 rw[List.all_eq_true]
 intro y hy
 obtain⟨z,_,rfl⟩:=N4.mp hy
 rfl
theorem nZ (x:Str) (zs:List Str) (b:Bool):o5 b (.str x) (.lst (zs.map PV.str))= .ret (.bl (xor b (dX zs x))):=by
 have e:mB (.str x) (zs.map PV.str)=dX zs x:=by
  unfold mB dX
  rw[List.any_map]
  rfl
 unfold o5
 dsimp only
 rw[qD,e]
 simp[aQ,toV,cE]
theorem ux {a b:Int} (h0: -1000000000000 < a) (h1:a < 1000000000000):jo (.int a) (.int b)= .ret (.int (a * b)):=by
 have e:(2:Int) ^ 64=18446744073709551616:=by decide
 unfold jo zG
 dsimp only
 rw[OG (show lU a b from Or.inl ⟨by lia,by lia⟩)]
theorem IA (a b c d:PV):aO [a,b,c,d]= .ret [a,b,c,d]:=by simp[aO]
theorem MY (a:PV):aS [a]= .ret (.tup [a]):=by simp[aS]
theorem Iz (a b:PV):aS [a,b]= .ret (.tup [a,b]):=by simp[aS]
theorem uz (a b c:PV):aS [a,b,c]= .ret (.tup [a,b,c]):=by simp[aS]
theorem IZ {l:List PV} {n:Int} (hn:(l.length:Int)=n) (h0:0 < l.length) (h1:l.length < 1000):Gen ((l8 [.br,.int n]).bind fun i=>az (.lst l) i) 1 (fun y=>y∈l):=by
 refine Gen.le (Gen.bind (Gen.draw (by lia) (by lia)) (d:=0) ?_) (NZ _)
 rintro _ ⟨d,rfl,d0,d1⟩
 obtain⟨y,hy,e⟩:=eV (l:=l) d0 (by lia)
 exact Gen.eq (y:=y) (by simp[az,e,M.bO]) hy
theorem j4 (a:PV) (r:List PV):j3 (a::r) 0=some a:=by unfold j3 Cm;simp
theorem Co {c:ae→M Bool} {a b:ae→M PV} {ρ:ae} (h:c ρ= .ret true):o6 c a b ρ=a ρ:=by unfold o6;rw[h];rfl
theorem yH {c:ae→M Bool} {a b:ae→M PV} {ρ:ae} (h:c ρ= .ret false):o6 c a b ρ=b ρ:=by unfold o6;rw[h];rfl
def Sh (x:Str):Prop:=x.length≤8∧∀ c∈x.cps.toList,c < 16 ^ 8
instance (x:Str):Decidable (Sh x):=by unfold Sh;infer_instance
theorem ss {x:Str} (h:Sh x):oV 82 0 (.str x):=D2 h.1 h.2
theorem si {i:Int} (h:i.natAbs < 10 ^ 61):oV 82 0 (.int i):=(D3 h).mono (by lia) (NZ _)
theorem Fb (x:Int) (ns:List Int):o5 false (.int x) (.lst (ns.map PV.int))= .ret (.bl (decide (x∈ns))):=by
 have hf:(ns.map PV.int).all aQ=true:=by
  rw[List.all_eq_true]
  intro y hy
  obtain⟨z,_,rfl⟩:=N4.mp hy
  rfl
 have hm:mB (.int x) (ns.map PV.int)=decide (x∈ns):=by
  unfold mB
  rw[List.any_map]
  induction ns with
  |nil=>simp
  |cons a l ih=>
   rw[List.any_cons,ih (by
    rw[List.all_eq_true]
    intro y hy
    obtain⟨z,_,rfl⟩:=N4.mp hy
    rfl)]
   by_cases c:a=x
   ·subst c;simp[toV,tF]
   ·have c': ¬ x=a:=fun z=>c z.symm
    simp[toV,tF,c,c']
 unfold o5
 dsimp only
 rw[hf,hm]
 simp[aQ,toV,cE]
theorem sub_len: ∀ (l m:List Int),l.Nodup→(∀ x∈l,x∈m)→l.length≤m.length
 |[],m,_,_=>Ol _
 |x::l,m,nd,hs=>by
  rw[List.nodup_cons] at nd
  have hx:=hs x NS
  have:=sub_len l (m.erase x) nd.2 fun y hy=>(List.mem_erase_of_ne (fun z:y=x=>nd.1 (z▸hy))).mpr (hs y (NV _ hy))
  rw[List.length_erase_of_mem hx] at this
  have hp:0 < m.length:=List.length_pos_of_mem hx
  rw[N5]
  lia
theorem big {c:Nat} {y:PV} (h:oV 82 0 y):oV 2500 2 y:=h.mono (by lia) (by lia)
theorem MX (a b c d:PV):aS [a,b,c,d]= .ret (.tup [a,b,c,d]):=by simp[aS]
theorem Ll (a b c d e:PV):aS [a,b,c,d,e]= .ret (.tup [a,b,c,d,e]):=by simp[aS]
theorem IB:aO []= .ret []:=by simp[aO]
theorem MV (l:List PV):cC true (.lst l) (.lst [])= .ret (.bl (!l.isEmpty)):=by cases l<;>rfl
theorem MW (a b c d e f:PV):aS [a,b,c,d,e,f]= .ret (.tup [a,b,c,d,e,f]):=by simp[aS]
theorem Lm (a:PV):aO [a]= .ret [a]:=by simp[aO]
theorem EO (a b:PV):aO [a,b]= .ret [a,b]:=by simp[aO]
def el (n:Int) (y:PV):Prop:= ∃ (w z:Str) (m:Int) (r:List PV),y= .tup (.str w::.int n::.int m::.str z::r)∧((w="look"∧r=[])∨((w="read"∨w="rule")∧∃ v,r=[v]∧oV 2500 2 v∧Ka v=true))∧0≤m∧m≤1000000
def aX (l:List PV) (ns:List Int):Prop:=ns.length=l.length∧ns.Nodup∧(∀ n∈ns,0≤n∧n < 1000000)∧∀ (i:Nat) (n:Int) (z:PV),ns[i]?=some n→l[i]?=some z→el n z
theorem aX.snoc {l:List PV} {ns:List Int} {n:Int} {z:PV} (h:aX l ns) (hn:n∉ns) (h0:0≤n) (h1:n < 1000000) (hz:el n z):aX (l++[z]) (ns++[n]):=by
 obtain⟨g1,g2,g3,g4⟩:=h
 refine⟨by simp[g1],?_,fun x hx=>?_,fun i x y hx hy=>?_⟩
 ·rw[List.nodup_append]
  exact⟨g2,by simp,fun a ha b hb=>by rw[Om.mp hb];exact fun e=>hn (e▸ha)⟩
 ·rcases OF.mp hx with hx|hx
  ·exact g3 x hx
  ·rw[Om.mp hx];exact⟨h0,h1⟩
 ·by_cases c:i < l.length
  ·rw[Oy (by lia)] at hx
   rw[Oy c] at hy
   exact g4 i x y hx hy
  ·rw[List.getElem?_append_right (by lia)] at hx hy
   by_cases e:i - l.length=0
   ·rw[e] at hy
    rw[show i - ns.length=0 by lia] at hx
    simp at hx hy
    subst hx hy
    exact hz
   ·rw[List.getElem?_eq_none (by simp;lia)] at hy
    cases hy
theorem el.key {n:Int} {y:PV} (h:el n y): ∃ m:Int,iV y=some (m,n)∧0≤m∧m≤1000000:=by
 obtain⟨w,z,m,r,rfl,_,m0,m1⟩:=h
 exact⟨m,rfl,m0,m1⟩
theorem aX.at {l:List PV} {ns:List Int} (h:aX l ns) {z:PV} (hz:z∈l): ∃ n,el n z∧0≤n∧n < 1000000:=by
 obtain⟨i,hi,e⟩:=List.getElem_of_mem hz
 have hi':i < ns.length:=by rw[h.1];exact hi
 have hn:=h.2.2.1 _ (OB hi')
 exact⟨_,h.2.2.2 i _ z (NQ hi') (NY.mpr ⟨hi,e⟩),hn⟩
theorem aX.Nw {l:List PV} {ns:List Int} (h:aX l ns) {z:PV} (hz:z∈l):DE z=true:=by
 obtain⟨n,hp,n0,n1⟩:=h.at hz
 obtain⟨m,e,_⟩:=hp.key
 unfold DE
 rw[e]
 simp[n0,n1]
theorem aX.nd {l:List PV} {ns:List Int} (h:aX l ns):(l.map jG).Nodup:=by
 unfold List.Nodup
 rw[List.pairwise_map,List.pairwise_iff_getElem]
 intro i j hi hj hij e
 have hi':i < ns.length:=by rw[h.1];exact hi
 have hj':j < ns.length:=by rw[h.1];exact hj
 obtain⟨m,e1,_⟩:=(h.2.2.2 i _ _ (NQ hi') (NQ hi)).key
 obtain⟨m',e2,_⟩:=(h.2.2.2 j _ _ (NQ hj') (NQ hj)).key
 have b1:=h.2.2.1 _ (OB hi')
 have b2:=h.2.2.1 _ (OB hj')
 have r1:jG l[i]=m * 1000000+ns[i]:=by unfold jG vE;rw[e1];rfl
 have r2:jG l[j]=m' * 1000000+ns[j]:=by unfold jG vE;rw[e2];rfl
 rw[r1,r2] at e
 exact List.pairwise_iff_getElem.mp h.2.1 i j hi' hj' hij (by lia)
def hit (w z:Str) (t:Int) (y:PV):Bool:=match y with
 | .tup (.str w'::_::.int m::.str z'::_)=>w'==w&&(z'==z&&decide (m≤t))
 |_=>false
theorem oR (a b:PV) (r:List PV):j3 (a::b::r) 1=some b:=gN (k:=1) rfl
theorem vj (a b c:PV) (r:List PV):j3 (a::b::c::r) 2=some c:=gN (k:=2) rfl
theorem JH (a b c d:PV) (r:List PV):j3 (a::b::c::d::r) 3=some d:=gN (k:=3) rfl
theorem Nq (a b c d e:PV) (r:List PV):j3 (a::b::c::d::e::r) 4=some e:=gN (k:=4) rfl
def Cg:ae→M Bool:=(fI (aK (ab (cC false) (ab az (fun ρ=>aq ρ 5) (fun _=>M.ret (.int 0))) (fun ρ=>aq ρ 1))) (fI (aK (ab (cC false) (ab az (fun ρ=>aq ρ 5) (fun _=>M.ret (.int 3))) (fun ρ=>aq ρ 2))) (aK (ab h9 (ab az (fun ρ=>aq ρ 5) (fun _=>M.ret (.int 2))) (fun ρ=>aq ρ 3)))))
def uG:ae→M Fl:=(dO Cg (ax 4 (fun ρ=>aq ρ 5)) (fun ρ=>M.ret (.nx ρ)))
theorem tj {a b:ae→M Bool} {ρ:ae} {x y:Bool} (ha:a ρ= .ret x) (hb:b ρ= .ret y):fI a b ρ= .ret (x&&y):=by
 unfold fI;rw[ha];cases x<;>simp[hb]
theorem Cf {Y:Ent} {w z:Str} {t:Int} {f:PV} {n:Int} {y:PV} (hy:el n y):Cg [Y,val (.str w),val (.str z),val (.int t),val f,val y]= .ret (hit w z t y):=by
 obtain⟨w',z',m,r,rfl,_⟩:=hy
 unfold Cg
 refine tj ?_ (tj ?_ ?_)
 ·simp only[aK,ab,aL,aT,M.rZ,az,j4,M.bO,wU]
 ·simp only[aK,ab,aL,aT,M.rZ,az,JH,M.bO,wU]
 ·simp only[aK,ab,aL,aT,M.rZ,az,vj,M.bO,h9]
theorem lA {Y:Ent} {w z:Str} {t:Int}: ∀ (rest:List PV) (f:PV) (e5:Ent),(∀ y∈rest,∃ n,el n y)→
  ∃ e5',bD (aA 5) uG rest [Y,val (.str w),val (.str z),val (.int t),val f,e5]= .ret (.nx [Y,val (.str w),val (.str z),val (.int t),val (((rest.filter (hit w z t)).getLast?).getD f),e5'])
 |[],f,e5,_=>⟨e5,rfl⟩
 |y::rest,f,e5,h=>by
  obtain⟨n,hy⟩:=h y NS
  have ht:=Cf (Y:=Y) (w:=w) (z:=z) (t:=t) (f:=f) hy
  unfold bD
  simp only[aA,M.rZ,Oz,N0]
  cases c:hit w z t y with
  |true=>
   rw[c] at ht
   have st:uG [Y,val (.str w),val (.str z),val (.int t),val f,val y]= .ret (.nx [Y,val (.str w),val (.str z),val (.int t),val y,val y]):=by
    unfold uG
    rw[d5 ht]
    simp only[ax,aL,aT,M.rZ,Oz,N0]
   obtain⟨e5',ih⟩:=lA (Y:=Y) (w:=w) (z:=z) (t:=t) rest y (val y) fun y' hy'=>h y' (NV _ hy')
   refine⟨e5',?_⟩
   rw[st,M.rZ]
   show bD _ _ _ _=_
   rw[ih,List.filter_cons_of_pos c]
   congr 7
   cases hf:(rest.filter (hit w z t)).getLast? with
   |none=>
    rw[List.getLast?_eq_none_iff] at hf
    rw[hf]
    rfl
   |some v=>
    rw[List.getLast?_cons,hf]
    rfl
  |false=>
   rw[c] at ht
   have st:uG [Y,val (.str w),val (.str z),val (.int t),val f,val y]= .ret (.nx [Y,val (.str w),val (.str z),val (.int t),val f,val y]):=by
    unfold uG
    rw[eP ht]
   obtain⟨e5',ih⟩:=lA (Y:=Y) (w:=w) (z:=z) (t:=t) rest f (val y) fun y' hy'=>h y' (NV _ hy')
   refine⟨e5',?_⟩
   rw[st,M.rZ]
   show bD _ _ _ _=_
   rw[ih,List.filter_cons_of_neg (by rw[c];decide)]
theorem E4 {B:List PV} {w z:Str} {t:Int} (h: ∀ y∈B,∃ n,el n y):cB [.tup B,.str w,.str z,.int t]= .ret (((B.filter (hit w z t)).getLast?).getD .aE):=by
 unfold cB iU
 show (au _ _ [val (.tup B),val (.str w),val (.str z),val (.int t),un,un]).bind bu=_
 refine aw (ρ':=[val (.tup B),val (.str w),val (.str z),val (.int t),val .aE,un]) rfl ?_
 obtain⟨e5',ih⟩:=lA (Y:=val (.tup B)) (w:=w) (z:=z) (t:=t) B .aE un h
 refine aw (ρ':=[val (.tup B),val (.str w),val (.str z),val (.int t),val (((B.filter (hit w z t)).getLast?).getD .aE),e5']) ?_ ?_
 ·simp only[aP,aL,aT,M.rZ,aH]
  exact ih
 ·exact bA (aU rfl)
theorem Et {l:List PV} {w z:Str} {t:Int} (h: ∀ y∈l,∃ n,el n y) (a7: ∀ y∈l,DE y=true) (hl:l.length≤1000):cQ [.lst l,.str w,.str z,.int t]= .ret ((hV (l.filter (hit w z t))).getD .aE):=by
 unfold cQ gp
 show (au _ _ [val (.lst l),val (.str w),val (.str z),val (.int t),un]).bind bu=_
 have q:=bU (k:=0) (tt:=(fI (aK (ab (cC false) (ab az (fun ρ=>aq ρ 0) (fun _=>M.ret (.int 0))) (fun ρ=>aq ρ 1))) (fI (aK (ab (cC false) (ab az (fun ρ=>aq ρ 0) (fun _=>M.ret (.int 3))) (fun ρ=>aq ρ 2))) (aK (ab h9 (ab az (fun ρ=>aq ρ 0) (fun _=>M.ret (.int 2))) (fun ρ=>aq ρ 3)))))) (te:=fun ρ=>aq ρ 0) (p:=hit w z t) (f:=id) (ρ:=[un,val (.str w),val (.str z),val (.int t)]) l [un,val (.str w),val (.str z),val (.int t)] (fun _=>rfl) (fun y hy=>by
   obtain⟨n,w',z',m,r,rfl,_⟩:=h y hy
   rw[N0]
   refine tj ?_ (tj ?_ ?_)
   ·simp only[aK,ab,aL,aT,M.rZ,az,j4,M.bO,wU]
   ·simp only[aK,ab,aL,aT,M.rZ,az,JH,M.bO,wU]
   ·simp only[aK,ab,aL,aT,M.rZ,az,vj,M.bO,h9]) (fun y hy _=>by simp only[aL,N0];rfl)
 have hle:(l.filter (hit w z t)).length≤l.length:=List.length_filter_le _ _
 refine aw (ρ':=[val (.lst l),val (.str w),val (.str z),val (.int t),val (.lst (l.filter (hit w z t)))]) ?_ ?_
 ·have ec:c9 [none,some 1,some 2,some 3] [val (.lst l),val (.str w),val (.str z),val (.int t),un]=[un,val (.str w),val (.str z),val (.int t)]:=rfl
  simp only[ax,aG,bf,aL,aT,M.rZ,aH,OG (by lia:l.length≤100000),ec]
  rw[q]
  simp only[M.rZ,List.map_id,Oz,N0]
 ·refine bA (aU ?_)
  have hm:zL (.lst (l.filter (hit w z t)))= .ret ((hV (l.filter (hit w z t))).getD .aE):=by
   unfold zL
   dsimp only
   rw[OG]
   simp only[Ov,decide_eq_true_eq,List.all_eq_true]
   exact⟨by lia,fun y hy=>a7 y (OE.mp hy).1⟩
  simp only[List.map,Ent.freeze,aL,aT,M.rZ,hm]
theorem Dk {kf:Nat→Int×Int}: ∀ {j b:Nat},bi kf j=some b→∀ i,i < j→rk kf i≤rk kf b
 |0,b,h,i,hi=>by lia
 |j+1,b,h,i,hi=>by
  unfold bi at h
  cases e:bi kf j with
  |none=>
   rw[e] at h
   cases h
   have:j=0:=by
    by_cases z:j=0
    ·exact z
    ·obtain⟨c,hc⟩:=yV (kf:=kf) (j:=j) (by lia)
     rw[e] at hc;cases hc
   subst this
   have:i=0:=by lia
   subst this
   exact Int.le_refl _
  |some c=>
   rw[e] at h
   dsimp only at h
   have ih:=Dk e
   by_cases z:rk kf c < rk kf j
   ·rw[OG z] at h
    cases h
    by_cases y:i=j
    ·subst y;exact Int.le_refl _
    ·exact Int.le_of_lt (Int.lt_of_le_of_lt (ih i (by lia)) z)
   ·rw[OH z] at h
    cases h
    by_cases y:i=j
    ·subst y;lia
    ·exact ih i (by lia)
theorem Ak {f:List PV} (nd:(f.map jG).Nodup):hV f=(aM f).getLast?:=by
 have pm:=cR f
 have up:=mP f nd
 by_cases h0:f=[]
 ·subst h0;rfl
 have hp:0 < f.length:=List.length_pos_iff.mpr h0
 obtain⟨b,hb⟩:=yV (kf:=fun i=>vE (f.getD i .aE)) (j:=f.length) hp
 have hbl:=vf hb
 have hmx:=Dk hb
 have e1:hV f=some f[b]:=by
  unfold hV
  rw[hb]
  show some (f.getD b .aE)=_
  rw[Oa,NQ hbl]
  rfl
 rw[e1]
 have bP:aM f≠[]:=fun z=>by rw[z] at pm;exact h0 (List.nil_perm.mp pm)
 have hlp:(aM f).length - 1 < (aM f).length:=by have:=List.length_pos_iff.mpr bP;lia
 rw[List.getLast?_eq_getElem?,NQ hlp]
 congr 1
 have m1:f[b]∈aM f:=pm.mem_iff.mpr (OB hbl)
 obtain⟨i,hi,ei⟩:=List.getElem_of_mem m1
 by_cases c:i=(aM f).length - 1
 ·subst c;exact ei.symm
 ·have lt:jG (aM f)[i] < jG ((aM f)[(aM f).length - 1]'hlp):=List.pairwise_iff_getElem.mp up i _ hi hlp (by lia)
  rw[ei] at lt
  have m2:((aM f)[(aM f).length - 1]'hlp)∈f:=pm.mem_iff.mp (OB _)
  obtain⟨j,hj,ej⟩:=List.getElem_of_mem m2
  have:=hmx j hj
  unfold rk at this
  dsimp only at this
  rw[Oa,NQ hj,Oa,NQ hbl] at this
  rw[←ej] at lt
  unfold jG at lt
  exact absurd lt (Int.not_lt.mpr this)
theorem zO {l:List PV} {p:PV→Bool} (nd:(l.map jG).Nodup):hV (l.filter p)=((aM l).filter p).getLast?:=by
 have nd2:((l.filter p).map jG).Nodup:=List.Pairwise.sublist ((List.filter_sublist).map jG) nd
 rw[Ak nd2,yB nd2 ((cR l).filter p) ((mP l nd).filter p)]
abbrev qO:Str:="etaoinshrdlcumwfgypbvkjxqz"
theorem y0: ∀ c∈qO.cps.toList,97≤c∧c≤122:=by decide +kernel
theorem JJ:qO.cps.toList.Nodup:=by decide +kernel
theorem vt:qO.cps.toList.length=26:=by decide +kernel
theorem JK (d:Int) (h0:0≤d) (h1:d < 26): ∃ y,az (.str qO) (.int d)= .ret y∧One y:=by
 have hz:qO.length≤100000:=by decide +kernel
 obtain⟨c,hc,e⟩:=eV (l:=qO.cps.toList) h0 (by rw[vt];exact h1)
 exact⟨.str ⟨#[c]⟩,by simp[az,e,M.bO,hz],c,rfl,y0 c hc⟩
def Wd (x:Str):Prop:=1≤x.length∧x.length≤8∧Lets x
theorem Wd.sh {x:Str} (h:Wd x):Sh x:=⟨h.2.1,fun c hc=>Nat.lt_of_le_of_lt (h.2.2 c hc).2 (by decide)⟩
theorem ke: ∀ (l m:List Str),l.Nodup→(∀ x∈l,x∈m)→l.length≤m.length
 |[],m,_,_=>Ol _
 |x::l,m,nd,hs=>by
  rw[List.nodup_cons] at nd
  have hx:=hs x NS
  have:=ke l (m.erase x) nd.2 fun y hy=>(List.mem_erase_of_ne (fun z:y=x=>nd.1 (z▸hy))).mpr (hs y (NV _ hy))
  rw[List.length_erase_of_mem hx] at this
  have hp:0 < m.length:=List.length_pos_of_mem hx
  rw[N5]
  lia
def ie (w:Str):List Str:=qO.cps.toList.map fun c=>(⟨(w.cps.toList.take (min 7 w.length)).toArray⟩:Str)++⟨#[c]⟩
theorem FD (w:Str):(ie w).Nodup:=by
 unfold ie List.Nodup
 rw[List.pairwise_map]
 refine List.Pairwise.imp ?_ JJ
 intro a b ne e
 have e2:((⟨(w.cps.toList.take (min 7 w.length)).toArray⟩:Str)++(⟨#[a]⟩:Str)).cps.toList=((⟨(w.cps.toList.take (min 7 w.length)).toArray⟩:Str)++(⟨#[b]⟩:Str)).cps.toList:=by rw[e]
 have e3: ∀ x y:Str,(x++y).cps.toList=x.cps.toList++y.cps.toList:=fun x y=>by rw[←Array.toList_append];rfl
 rw[e3,e3] at e2
 have:=List.append_cancel_left e2
 simp at this
 exact ne this
theorem FC {w:Str} (hw:Wd w): ∀ x∈ie w,Wd x:=fun x hx=>by
 obtain⟨c,hc,rfl⟩:=N4.mp hx
 refine⟨?_,?_,Dt (C4 hw.2.2 _) fun d hd=>?_⟩
 ·rw[yZ,sJ];show 1≤_+1;lia
 ·rw[yZ,sJ];show _+1≤8;lia
 ·simp at hd;subst hd;exact y0 _ hc
def Ay:ae→M PV:=ab cu (Gn D7 (fun ρ=>aq ρ 1) (fun _=>M.ret none) (fun ρ=>((fun _=>M.ret (.int 7)) ρ).bind fun y=>(uL y).bind fun i=>M.ret (some i))) (fun ρ=>aq ρ 0)
def Ax:ae→M Bool:=aK (ab (o5 true) (fun ρ=>aq ρ 0) (fun ρ=>aq ρ 1))
theorem Cv {zs:List Str} (hz:zs.length≤20):Gen (gW [.br,.lst (zs.map PV.str)]) 9 (fun y=> ∃ x,y= .str x∧Wd x∧x∉zs):=by
 unfold gW jK
 show Gen ((au _ _ [val .br,val (.lst (zs.map PV.str)),un,un,un]).bind bu) 9 _
 refine Gen.le (cq (c:=0) (d:=9) (I:=fun ρ=>ρ=[val .br,val (.lst (zs.map PV.str)),val (.str qO),un,un]) (Cu rfl rfl) ?_) (by decide)
 rintro _ rfl
 refine Gen.le (cq (c:=1) (d:=8) (I:=fun ρ=> ∃ k:Int,1≤k∧k≤8∧ρ=[val .br,val (.lst (zs.map PV.str)),val (.str qO),val (.int k),un]) ?_ ?_) (by decide)
 ·simp only[ax,ab,aa,aL,aT,M.rZ,af,M.bZ]
  refine Gen.le (Gen.bind (Gen.draw (by lia) (by lia)) (d:=0) ?_) (by decide)
  rintro _ ⟨d,rfl,d0,d1⟩
  exact Gen.eq (y:=.nx _) rfl ⟨_,rfl,1+d,by lia,by lia,rfl⟩
 rintro _ ⟨k,k0,k1,rfl⟩
 refine Gen.le (cq (c:=8) (d:=0) (I:=fun ρ=> ∃ w:Str,Wd w∧ρ=[val .br,val (.lst (zs.map PV.str)),val (.str qO),val (.int k),val (.str w)]) ?_ ?_) (by decide)
 ·have hlen:(bo 0 k.toNat).length=k.toNat:=by simp[bo]
  have er:bN [.int k]= .ret (bo 0 k.toNat):=by simp only[bN,OG (by lia: -1000000≤k∧k≤100000)]
  have ec:c9 [none,some 2,some 0] [val .br,val (.lst (zs.map PV.str)),val (.str qO),val (.int k),un]=[un,val (.str qO),val .br]:=rfl
  have et:tyP (.str "")="str":=rfl
  unfold ax Mp
  simp only[M.rZ,et,if_true]
  unfold aa aG bf
  simp only[aa,aL,aT,M.rZ,er,OG (by lia:(bo 0 k.toNat).length≤100000),ec,M.bZ]
  refine Gen.le (Gen.bind (Gen.lc (ρ:=[un,val (.str qO),val .br]) (c:=1) (Pr:=One) _ _ (fun _=>rfl) (fun y hy=>?_)) (d:=0) ?_) (by rw[hlen];lia)
  ·simp only[N0,ab,aL,aT,M.rZ,af]
   refine Gen.le (Gen.bind (Gen.draw (by lia) (by lia)) (d:=0) ?_) (by decide)
   rintro _ ⟨d,rfl,d0,d1⟩
   obtain⟨y,e,o⟩:=JK d d0 d1
   exact Gen.eq e o
  ·rintro us ⟨z1,z2⟩
   obtain⟨ys,e1,e2,e3⟩:=tP us z2
   have e4:=nE ys fun z hz=>(e3 z hz).1
   have e5:(Str.ofString "").length=0:=by decide
   have e6:=join_ones ys fun z hz=>(e3 z hz).1
   have hs:(ys.map (·.length)).sum+ys.length * (Str.ofString "").length≤16777216:=by rw[e4,e5,e2,z1,hlen];lia
   refine Gen.eq (y:=.nx [val .br,val (.lst (zs.map PV.str)),val (.str qO),val (.int k),val (.str (Txt.join (Str.ofString "") ys))]) ?_ ⟨_,rfl,_,⟨by rw[e6,e2,z1,hlen];lia,by rw[e6,e2,z1,hlen];lia,zQ ys fun z hz=>(e3 z hz).2⟩,rfl⟩
   simp only[M.rZ,qw,e1,M.bO,OG hs]
   rfl
 rintro _ ⟨w,hw,rfl⟩
 have hsl:D7 (.str w) none (some 7)= .ret (.str ⟨(w.cps.toList.take (min 7 w.length)).toArray⟩):=by
  have:w.length≤100000:=by have:=hw.2.1;lia
  unfold D7
  dsimp only
  rw[OG this,Jx w 7 (min 7 w.length) (by rw[OH (by decide)];lia)]
 have q1:=kz (k:=0) (te:=Ay) (f:=fun y=>match y with| .str c=>.str ((⟨(w.cps.toList.take (min 7 w.length)).toArray⟩:Str)++c)|_=>.aE) (ρ:=[un,val (.str w)]) (fC qO) [un,val (.str w)] (fun _=>rfl) (fun y hy=>by
   obtain⟨c,hc,rfl⟩:=N4.mp hy
   have hz:(⟨(w.cps.toList.take (min 7 w.length)).toArray⟩:Str).length+(⟨#[c]⟩:Str).length≤100000:=by rw[sJ];show _+1≤_;lia
   unfold Ay
   simp only[N0,ab,Gn,aL,aT,M.rZ,uL,hsl,cu,OG hz])
 have em:((fC qO).map fun y=>match y with|PV.str c=>PV.str ((⟨(w.cps.toList.take (min 7 w.length)).toArray⟩:Str)++c)|_=>.aE)=(ie w).map PV.str:=by
  unfold fC ie
  rw[List.map_map,List.map_map]
  rfl
 rw[em] at q1
 have q2:=bU (k:=0) (tt:=Ax) (te:=fun ρ=>aq ρ 0) (p:=fun y=>match y with| .str x=>!(dX zs x)|_=>false) (f:=id) (ρ:=[un,val (.lst (zs.map PV.str))]) ((w::ie w).map PV.str) [un,val (.lst (zs.map PV.str))] (fun _=>rfl) (fun y hy=>by
   obtain⟨x,hx,rfl⟩:=N4.mp hy
   unfold Ax
   simp only[aK,ab,N0,aL,aT,M.rZ,nZ]
   simp) (fun y hy _=>by simp only[aL,N0];rfl)
 have hlen1:(fC qO).length≤100000:=by unfold fC;rw[NT,vt];lia
 have hlen2:((w::ie w).map PV.str).length≤100000:=by unfold ie;simp only[NT,N5,vt];lia
 have hcat:[PV.str w].length+((ie w).map PV.str).length≤100000:=by unfold ie;simp only[NT,N5,List.length_nil,vt];lia
 obtain⟨x,hx,hnx⟩: ∃ x∈ie w,x∉zs:=by
  apply Classical.byContradiction
  intro hno
  have:=ke (ie w) zs (FD w) fun x hx=>Classical.byContradiction fun hc=>hno ⟨x,hx,hc⟩
  unfold ie at this
  rw[NT,vt] at this
  lia
 generalize hF:((w::ie w).map PV.str).filter (fun y=>match y with| .str x=>!(dX zs x)|_=>false)=F at q2
 have hFx:PV.str x∈F:=by
  rw[←hF]
  refine OE.mpr ⟨Oq (NV _ hx),?_⟩
  show (!(dX zs x))=true
  cases c:dX zs x with
  |false=>rfl
  |true=>exact absurd (gA.mp c) hnx
 match F,hF,hFx,q2 with
 |y::F,hF,_,q2=>
 have hy:y∈(w::ie w).map PV.str:=(OE.mp (by rw[hF];exact NS)).1
 obtain⟨v,hv,rfl⟩:=N4.mp hy
 refine Gen.eq (y:=.str v) ?_ ⟨v,rfl,?_,?_⟩
 ·refine bA (aU ?_)
  have ec1:c9 [none,some 4] [val .br,val (.lst (zs.map PV.str)),val (.str qO),val (.int k),val (.str w)]=[un,val (.str w)]:=rfl
  have ec2:c9 [none,some 1] [val .br,val (.lst (zs.map PV.str)),val (.str qO),val (.int k),val (.str w)]=[un,val (.lst (zs.map PV.str))]:=rfl
  show (ab az (aG (bf [none,some 1] (fun ρ=>((aG (sL (aG (fun ρ=>((aa (fun ρ=>aq ρ 4) (fun _=>M.ret [])) ρ).bind aO)) (aG (bf [none,some 4] (fun ρ=>((fun ρ=>aq ρ 2) ρ).bind aH) (aA 0) cF Ay)))) ρ).bind aH) (aA 0) Ax (fun ρ=>aq ρ 0))) (fun _=>M.ret (.int 0))) [val .br,val (.lst (zs.map PV.str)),val (.str qO),val (.int k),val (.str w)]=_
  simp only[ab,aG,bf,sL]
  simp only[aa,aL,aT,M.rZ,Lm,aH,OG hlen1,ec1,ec2]
  rw[q1]
  simp only[M.rZ,OG hcat,List.cons_append,List.nil_append]
  have e9:PV.str w::(ie w).map PV.str=(w::ie w).map PV.str:=rfl
  rw[e9]
  simp only[aH,M.rZ]
  rw[OG hlen2,q2]
  simp only[M.rZ,List.map_id,az,j4,M.bO]
 ·rcases N2.mp hv with rfl|hv
  ·exact hw
  ·exact FC hw v hv
 ·have h2:=(OE.mp (by rw[hF];exact NS:PV.str v∈((w::ie w).map PV.str).filter (fun y=>match y with| .str x=>!(dX zs x)|_=>false))).2
  have h3:(!(dX zs v))=true:=h2
  intro hm
  rw[gA.mpr hm] at h3
  cases h3
theorem lF {k:Int} (k0:1≤k) (k1:k≤12):Gen (cT [.br,.int k]) (k.toNat * 9) (fun y=> ∃ zs:List Str,y= .lst (zs.map PV.str)∧zs.length=k.toNat∧(∀ z∈zs,Wd z)∧zs.Nodup):=by
 unfold cT iP
 show Gen ((au _ _ [val .br,val (.int k),un,un]).bind bu) _ _
 refine Gen.le (cq (c:=0) (d:=k.toNat * 9) (I:=fun ρ=>ρ=[val .br,val (.int k),Ent.own [],un]) (Cu (by simp[h7,aO]) rfl) ?_) (by lia)
 rintro _ rfl
 have hint:(bo 0 k.toNat).length=k.toNat:=by simp[bo]
 have er:bN [.int k]= .ret (bo 0 k.toNat):=by simp only[bN,OG (by lia: -1000000≤k∧k≤100000)]
 refine Gen.le (cq (c:=k.toNat * 9) (d:=0) (I:=fun ρ=> ∃ (zs:List Str) (e3:Ent),zs.length=k.toNat∧((∀ z∈zs,Wd z)∧zs.Nodup)∧ρ=[val .br,val (.int k),Ent.own (zs.map PV.str),e3]) ?_ ?_) (by lia)
 ·simp only[aP,aa,aL,aT,M.rZ,er]
  refine Gen.mono (Ja (k:=3) (c:=9) (Iv:=fun i ρ=> ∃ (zs:List Str) (e3:Ent),zs.length=i∧((∀ z∈zs,Wd z)∧zs.Nodup)∧ρ=[val .br,val (.int k),Ent.own (zs.map PV.str),e3]) (bo 0 k.toNat) 0 _ ⟨[],_,rfl,⟨fun z hz=>absurd hz N3,List.nodup_nil⟩,rfl⟩ ?_) (by rw[hint];exact NZ _) ?_
  rotate_left
  ·rintro f ⟨ρ',rfl,zs,e3,hn,hw,rfl⟩
   rw[hint,Nat.zero_add] at hn
   exact⟨_,rfl,zs,e3,hn,hw,rfl⟩
  ·rintro y hy j hj _ ⟨zs,e3,hn,hw,rfl⟩
   rw[hint] at hj
   show Gen (dR _ _ [val .br,val (.int k),Ent.own (zs.map PV.str),val y]) 9 _
   simp only[dR,N7,N8,aa,aL,aT,CA,Ly,M.rZ,M.bZ]
   refine Gen.le (Gen.bind (Cv (zs:=zs) (by lia)) (d:=0) ?_) (by decide)
   rintro _ ⟨x,rfl,hx,hxn⟩
   have hl:(zs.map PV.str).length < 100000:=by rw[NT];lia
   refine Gen.eq (y:=.nx [val .br,val (.int k),Ent.own ((zs++[x]).map PV.str),val y]) ?_ ⟨_,rfl,zs++[x],_,by simp[hn],⟨fun z hz=>?_,?_⟩,rfl⟩
   ·have hf:l6 (.str x)= .ret (.str x):=rfl
    simp only[hf,M.rZ,OG hl,List.map_append,N1,List.map_nil]
    rfl
   ·rcases OF.mp hz with hz|hz
    ·exact hw.1 z hz
    ·rw[Om.mp hz];exact hx
   ·refine List.nodup_append.mpr ⟨hw.2,by simp,fun a ha b hb=>?_⟩
    rw[Om.mp hb]
    exact fun z=>hxn (z▸ha)
 ·rintro _ ⟨zs,e3,hn,hw,rfl⟩
  exact Gen.eq (bA (aU rfl)) ⟨zs,rfl,hn,hw⟩
abbrev kn (x:Str):Key:=Sum.inr x
theorem Gg (mt:ae→M Bool) (mb:ae→M Fl) (k:Nat) (ρ:ae):y6 mt mb (k+1) ρ=(mt ρ).bind fun b=>if b=true then(mb ρ).bind fun f=>(match f with
  | .nx ρ2=>y6 mt mb k ρ2
  | .ct ρ2=>y6 mt mb k ρ2
  | .bk ρ2=>.ret (.nx ρ2)
  | .rt v=>.ret (.rt v)) else .ret (.nx ρ):=rfl
def Nf:ae→M Bool:=(aK (fun ρ=>((aa (aG (bf [none,some 1] (fun ρ=>((ab qH (fun ρ=>aq ρ 0) (fun ρ=>aq ρ 3)) ρ).bind aH) (aA 0) cF (ab (oD false) (fun ρ=>aq ρ 0) (fun ρ=>fF ρ 1)))) (fun _=>M.ret [])) ρ).bind kO))
def gC (f:List (Key×PV)) (x:Str):Bool:=(jm f (kn x)).isSome
theorem Jb {d f:List (Key×PV)} {x:Str} {os:List Str} {e2:Ent} (h:jm d (kn x)=some (.lst (os.map PV.str))) (hl:os.length≤1000):
  Nf [val (.cL d),Ent.bp f,e2,val (.str x)]= .ret (os.all (gC f)):=by
 have q:=kz (k:=0) (te:=ab (oD false) (fun ρ=>aq ρ 0) (fun ρ=>fF ρ 1)) (f:=fun y=>match y with| .str o=>.bl (gC f o)|_=>.aE) (ρ:=[un,Ent.bp f]) (os.map PV.str) [un,Ent.bp f] (fun _=>rfl) (fun y hy=>by
  obtain⟨o,_,rfl⟩:=N4.mp hy
  simp only[ab,N0,aL,M.rZ,fF,N7,N8,oD,pR,M.bO,Bool.bne_false,gC])
 have ec:c9 [none,some 1] [val (.cL d),Ent.bp f,e2,val (.str x)]=[un,Ent.bp f]:=rfl
 have hlen:(os.map PV.str).length≤100000:=by rw[NT];lia
 have eall: ∀ os:List Str,kO [.lst ((os.map PV.str).map fun y=>match y with| .str o=>PV.bl (gC f o)|_=>.aE)]= .ret (.bl (os.all (gC f))):=fun os=>by
  have:hM ((os.map PV.str).map fun y=>match y with| .str o=>PV.bl (gC f o)|_=>.aE)=some (os.map (gC f)):=by
   induction os with
   |nil=>rfl
   |cons o os ih=>simp only[N1,hM,ih];rfl
  simp only[kO,this,M.bO,M.rZ,List.all_map]
  rfl
 unfold Nf aK
 simp only[aa,aG,bf,ab,aL,aT,M.rZ,qH,pR,M.bO,h,aH,OG hlen,ec,q,eall]
def ic (A:List (Str×List Str)):List (Key×PV):=A.map fun p=>(kn p.1,PV.lst (p.2.map PV.str))
def ug (A:List (Str×List Str)) (x:Str):List Str:=((A.find? fun p=>decide (p.1=x)).map (·.2)).getD []
theorem yx (a b:Str):decide (kn a=kn b)=decide (a=b):=Cj a b
theorem DO {A:List (Str×List Str)} {x:Str}:(∃ p∈A,p.1=x)→jm (ic A) (kn x)=some (.lst ((ug A x).map PV.str)):=by
 induction A with
 |nil=>rintro⟨_,h,_⟩;cases h
 |cons p A ih=>
  rintro⟨q,hq,hx⟩
  unfold jm ic ug
  simp only[N1,List.find?_cons,yx]
  by_cases c:p.1=x
  ·simp[c]
  ·rcases N2.mp hq with rfl|hq
   ·exact absurd hx c
   ·have:=ih ⟨q,hq,hx⟩
    unfold jm ic ug at this
    simp only[Oh c]
    exact this
def ip (A:List (Str×List Str)) (f:List (Key×PV)) (x:Str):List (Key×PV):=if(ug A x).all (gC f)=true then pC f (kn x) (.bl true) else f
theorem Bi (f:List (Key×PV)) (k:Key) (y:PV):(pC f k y).length≤f.length+1:=by
 unfold pC;split<;>simp
theorem p8 (A:List (Str×List Str)) (f:List (Key×PV)) (x:Str):(ip A f x).length≤f.length+1:=by
 unfold ip;split
 ·exact Bi ..
 ·lia
def Mo:ae→M Fl:=(dO Nf (l9 1 (fun ρ=>aq ρ 3) (fun _=>M.ret (.bl true))) (fun ρ=>M.ret (.nx ρ)))
theorem Jc {A:List (Str×List Str)} {f:List (Key×PV)} {x:Str} {e2:Ent} (h: ∃ p∈A,p.1=x) (ho: ∀ p∈A,p.2.length≤1000) (hf:f.length < 100000):
  Mo [val (.cL (ic A)),Ent.bp f,e2,val (.str x)]= .ret (.nx [val (.cL (ic A)),Ent.bp (ip A f x),e2,val (.str x)]):=by
 have hl:(ug A x).length≤1000:=by
  unfold ug
  cases c:A.find? fun p=>decide (p.1=x) with
  |none=>simp
  |some p=>exact ho p (List.mem_of_find?_eq_some c)
 have t:=Jb (f:=f) (e2:=e2) (DO h) hl
 unfold Mo ip
 cases c:(ug A x).all (gC f) with
 |true=>
  rw[c] at t
  rw[d5 t]
  simp only[l9,M.rZ,N7,N8,aL,aT,pR,M.bO,OG hf]
  rfl
 |false=>
  rw[c] at t
  rw[eP t]
  rfl
theorem yJ {A:List (Str×List Str)} {e2:Ent} (ho: ∀ p∈A,p.2.length≤1000): ∀ (xs:List Str) (f:List (Key×PV)) (e3:Ent),(∀ x∈xs,∃ p∈A,p.1=x)→f.length+xs.length < 100000→
  ∃ e3',bD (aA 3) Mo (xs.map PV.str) [val (.cL (ic A)),Ent.bp f,e2,e3]= .ret (.nx [val (.cL (ic A)),Ent.bp (xs.foldl (ip A) f),e2,e3'])
 |[],f,e3,_,_=>⟨e3,rfl⟩
 |x::xs,f,e3,h,hl=>by
  have h1:=Jc (e2:=e2) (h x NS) ho (f:=f) (by simp at hl;lia)
  obtain⟨e3',ih⟩:=yJ (e2:=e2) ho xs (ip A f x) (val (.str x)) (fun y hy=>h y (NV _ hy)) (by have:=p8 A f x;simp at hl;lia)
  refine⟨e3',?_⟩
  rw[N1]
  unfold bD
  simp only[aA,M.rZ,Oz,N0]
  rw[h1,M.rZ]
  exact ih
def qi (A:List (Str×List Str)) (f:List (Key×PV)):List (Key×PV):=(A.map (·.1)).foldl (ip A) f
def DN (A:List (Str×List Str)):Nat→Int→List (Key×PV)→Option (List (Key×PV))
 |0,_,_=>none
 |k+1,b,f=>if b < f.length then DN A k f.length (qi A f) else some f
def Nd:ae→M Bool:=(aK (ab r8 (fun ρ=>aq ρ 2) (fun ρ=>((aa (fun ρ=>fF ρ 1) (fun _=>M.ret [])) ρ).bind dA)))
def Ng:ae→M Fl:=(au (ax 2 (fun ρ=>((aa (fun ρ=>fF ρ 1) (fun _=>M.ret [])) ρ).bind dA)) (aP (fun ρ=>((fun ρ=>aq ρ 0) ρ).bind uJ) (aA 3) Mo))
theorem zx (A:List (Str×List Str)) (f:List (Key×PV)):(qi A f).length≤f.length+A.length:=by
 unfold qi
 have: ∀ (xs:List Str) (f:List (Key×PV)),(xs.foldl (ip A) f).length≤f.length+xs.length:=by
  intro xs
  induction xs with
  |nil=>intro f;simp
  |cons x xs ih=>intro f;have:=ih (ip A f x);have h2:=p8 A f x;simp only[List.foldl_cons,N5];lia
 simpa using this (A.map (·.1)) f
theorem Ci (A:List (Str×List Str)):uJ (.cL (ic A))= .ret ((A.map (·.1)).map PV.str):=by
 unfold uJ ic
 simp only[List.map_map]
 rfl
theorem Gf {A:List (Str×List Str)} (ho: ∀ p∈A,p.2.length≤1000): ∀ (k:Nat) (b:Int) (f f':List (Key×PV)) (e3:Ent),f.length+(k+1) * A.length < 100000→DN A k b f=some f'→
  ∃ b' e3',y6 Nd Ng k [val (.cL (ic A)),Ent.bp f,val (.int b),e3]= .ret (.nx [val (.cL (ic A)),Ent.bp f',val (.int b'),e3'])
 |0,b,f,f',e3,_,h=>by cases h
 |k+1,b,f,f',e3,hl,h=>by
  have hA:(k+1+1) * A.length=(k+1) * A.length+A.length:=by rw[Nat.add_mul,Nat.one_mul]
  have t:Nd [val (.cL (ic A)),Ent.bp f,val (.int b),e3]= .ret (decide (b < f.length)):=by
   simp only[Nd,aK,ab,aa,aL,aT,M.rZ,fF,N7,N8,dA]
   rfl
  unfold DN at h
  rw[Gg,t,M.rZ]
  by_cases c:b < f.length
  ·rw[OG c] at h
   rw[OG (decide_eq_true c)]
   have hp:=zx A f
   obtain⟨e3',lp⟩:=yJ (e2:=val (.int f.length)) ho (A.map (·.1)) f e3 (fun x hx=>by
    obtain⟨p,hp,rfl⟩:=N4.mp hx
    exact⟨p,hp,rfl⟩) (by rw[NT];have:0≤(k+1) * A.length:=Ol _;lia)
   have st:Ng [val (.cL (ic A)),Ent.bp f,val (.int b),e3]= .ret (.nx [val (.cL (ic A)),Ent.bp (qi A f),val (.int f.length),e3']):=by
    unfold Ng au
    simp only[ax,aa,aL,aT,M.rZ,fF,N7,N8,dA,Oz,N0]
    simp only[aP,aL,M.rZ,Ci]
    exact lp
   rw[st,M.rZ]
   exact Gf ho k _ _ f' e3' (by lia) h
  ·rw[OH c] at h
   cases h
   rw[OH (by simp[c])]
   exact⟨b,e3,rfl⟩
theorem uO {A:List (Str×List Str)} {f':List (Key×PV)} (ho: ∀ p∈A,p.2.length≤1000) (hA:A.length≤90) (h:DN A 1000 (-1) []=some f'):dq [.cL (ic A)]= .ret (.cL f'):=by
 unfold dq gy
 show (au _ _ [val (.cL (ic A)),un,un,un]).bind bu=_
 refine aw (ρ':=[val (.cL (ic A)),Ent.bp [],un,un]) rfl ?_
 refine aw (ρ':=[val (.cL (ic A)),Ent.bp [],val (.int (-1)),un]) rfl ?_
 obtain⟨b',e3',w⟩:=Gf ho 1000 (-1) [] f' un (by simp;lia) h
 refine aw (ρ':=[val (.cL (ic A)),Ent.bp f',val (.int b'),e3']) w ?_
 exact bA (aU rfl)
def pS (xs:List Str):List (Key×PV):=xs.map fun x=>(kn x,PV.bl true)
def xE (xs:List Str) (x:Str):List Str:=if x∈xs then xs else xs++[x]
theorem uN (xs:List Str) (o:Str):gC (pS xs) o=decide (o∈xs):=by
 unfold gC jm pS
 induction xs with
 |nil=>rfl
 |cons x xs ih=>
  simp only[N1,List.find?_cons,yx]
  by_cases c:x=o
  ·subst c;simp
  ·simp only[Oh c]
   rw[ih]
   have c': ¬ o=x:=fun z=>c z.symm
   simp[c']
theorem Ed (xs:List Str) (x:Str):pC (pS xs) (kn x) (.bl true)=pS (xE xs x):=by
 have e:((pS xs).any fun kv=>decide (kv.1=kn x))=decide (x∈xs):=by
  unfold pS
  rw[List.any_map]
  induction xs with
  |nil=>rfl
  |cons y xs ih=>
   simp only[List.any_cons,Function.comp,yx,N2]
   rw[ih]
   by_cases c:y=x
   ·subst c;simp
   ·have c': ¬ x=y:=fun z=>c z.symm
    simp[c,c']
 unfold pC xE
 rw[e]
 by_cases c:x∈xs
 ·rw[OG (decide_eq_true c),OG c]
  unfold pS
  rw[List.map_map]
  apply List.map_congr_left
  intro y _
  show (if kn y=kn x then(kn y,PV.bl true) else(kn y,PV.bl true))=_
  split<;>rfl
 ·rw[OH (by simp[c]),OH c]
  unfold pS
  rw[List.map_append]
  rfl
def dG (A:List (Str×List Str)) (xs:List Str) (x:Str):List Str:=if(ug A x).all (fun o=>decide (o∈xs))=true then xE xs x else xs
theorem AX (A:List (Str×List Str)) (xs:List Str) (x:Str):ip A (pS xs) x=pS (dG A xs x):=by
 unfold ip dG
 have:(ug A x).all (gC (pS xs))=(ug A x).all (fun o=>decide (o∈xs)):=by
  congr 1;funext o;exact uN xs o
 rw[this]
 split
 ·exact Ed xs x
 ·rfl
def qh (A:List (Str×List Str)) (xs:List Str):List Str:=(A.map (·.1)).foldl (dG A) xs
theorem BF (A:List (Str×List Str)) (xs:List Str):qi A (pS xs)=pS (qh A xs):=by
 unfold qi qh
 generalize A.map (·.1)=ys
 induction ys generalizing xs with
 |nil=>rfl
 |cons y ys ih=>rw[List.foldl_cons,List.foldl_cons,AX,ih]
def Hd (A:List (Str×List Str)):Nat→Int→List Str→Option (List Str)
 |0,_,_=>none
 |k+1,b,xs=>if b < xs.length then Hd A k xs.length (qh A xs) else some xs
theorem Az (A:List (Str×List Str)): ∀ (k:Nat) (b:Int) (xs:List Str),DN A k b (pS xs)=(Hd A k b xs).map pS
 |0,b,xs=>rfl
 |k+1,b,xs=>by
  have hl:(pS xs).length=xs.length:=by unfold pS;simp
  unfold DN Hd
  rw[hl]
  split
  ·rw[BF];exact Az A k _ _
  ·rfl
def Ko (A:List (Str×List Str)) (S:Str→Prop):Prop:= ∀ x,(∃ p∈A,p.1=x)→(∀ o∈ug A x,S o)→S x
theorem oU {xs:List Str} {x y:Str}:y∈xE xs x↔y∈xs∨y=x:=by
 unfold xE
 by_cases c:x∈xs
 ·rw[OG c]
  refine⟨.inl,fun h=>?_⟩
  rcases h with h|rfl
  ·exact h
  ·exact c
 ·rw[OH c];simp
theorem FP {xs:List Str} {x:Str} (h:xs.Nodup):(xE xs x).Nodup:=by
 unfold xE
 by_cases c:x∈xs
 ·rw[OG c];exact h
 ·rw[OH c]
  exact List.nodup_append.mpr ⟨h,by simp,fun a ha b hb=>by rw[Om.mp hb];exact fun z=>c (z▸ha)⟩
theorem kW {A:List (Str×List Str)} {xs:List Str} {x y:Str} (h:y∈xs):y∈dG A xs x:=by
 unfold dG;split
 ·exact oU.mpr (.inl h)
 ·exact h
theorem AY {A:List (Str×List Str)} {xs:List Str} {x:Str} (h:xs.Nodup):(dG A xs x).Nodup:=by
 unfold dG;split
 ·exact FP h
 ·exact h
theorem tQ {A:List (Str×List Str)} {xs:List Str} {x y:Str} (h:y∈dG A xs x):y∈xs∨(y=x∧∀ o∈ug A x,o∈xs):=by
 unfold dG at h
 by_cases c:(ug A x).all (fun o=>decide (o∈xs))=true
 ·rw[OG c] at h
  rcases oU.mp h with h|h
  ·exact .inl h
  ·exact .inr ⟨h,fun o ho=>by simpa using List.all_eq_true.mp c o ho⟩
 ·rw[OH c] at h;exact .inl h
theorem kI {A:List (Str×List Str)} {y:Str}: ∀ (ys xs:List Str),y∈xs→y∈ys.foldl (dG A) xs
 |[],xs,h=>h
 |z::ys,xs,h=>kI ys _ (kW h)
theorem mQ {A:List (Str×List Str)}: ∀ (ys xs:List Str),xs.Nodup→(ys.foldl (dG A) xs).Nodup
 |[],xs,h=>h
 |z::ys,xs,h=>mQ ys _ (AY h)
theorem yI {A:List (Str×List Str)} {S:Str→Prop} (hS:Ko A S): ∀ (ys xs:List Str),(∀ y∈ys,∃ p∈A,p.1=y)→(∀ x∈xs,S x)→∀ x∈ys.foldl (dG A) xs,S x
 |[],xs,_,h=>h
 |z::ys,xs,hy,h=>yI hS ys _ (fun y h'=>hy y (NV _ h')) fun x hx=>by
  rcases tQ hx with hx|⟨rfl,ho⟩
  ·exact h x hx
  ·exact hS x (hy x NS) fun o h'=>h o (ho o h')
theorem oe {A:List (Str×List Str)}: ∀ (ys xs:List Str),∀ x∈ys.foldl (dG A) xs,x∈xs∨x∈ys
 |[],xs,x,h=>.inl h
 |z::ys,xs,x,h=>by
  rcases oe ys _ x h with h|h
  ·rcases tQ h with h|⟨rfl,_⟩
   ·exact .inl h
   ·exact .inr NS
  ·exact .inr (NV _ h)
theorem uP {A:List (Str×List Str)}: ∀ (ys xs:List Str),(∀ z∈ys.foldl (dG A) xs,z∈xs)→∀ x∈ys,(∀ o∈ug A x,o∈xs)→x∈xs
 |[],xs,_,x,hx,_=>absurd hx N3
 |z::ys,xs,h,x,hx,ho=>by
  have hz: ∀ y∈dG A xs z,y∈xs:=fun y hy=>h y (kI ys _ hy)
  rcases N2.mp hx with rfl|hx
  ·refine hz x ?_
   unfold dG
   rw[OG (List.all_eq_true.mpr fun o h'=>by simpa using ho o h')]
   exact oU.mpr (.inr rfl)
  ·have:=uP ys (dG A xs z) (fun y hy=>kW (h y hy)) x hx (fun o h'=>kW (ho o h'))
   exact hz x this
theorem Iy {xs ys:List Str} (h:xs.Nodup) (hs: ∀ x∈xs,x∈ys):xs.length≤ys.length:=ke xs ys h hs
theorem Lk {xs zs:List Str} (hx:xs.Nodup) (hz:zs.Nodup) (hs: ∀ x∈xs,x∈zs) (hl:zs.length≤xs.length): ∀ z∈zs,z∈xs:=by
 intro z hz'
 by_cases c:z∈xs
 ·exact c
 ·have h1:(z::xs).Nodup:=List.nodup_cons.mpr ⟨c,hx⟩
  have:=ke (z::xs) zs h1 (fun y hy=>by
   rcases N2.mp hy with rfl|hy
   ·exact hz'
   ·exact hs y hy)
  simp at this
  lia
theorem vJ {A:List (Str×List Str)} {S:Str→Prop} (hS:Ko A S): ∀ (k:Nat) (b:Int) (xs xs':List Str),xs.Nodup→(∀ x∈xs,S x)→((b < xs.length)∨Ko A (·∈xs))→Hd A k b xs=some xs'→(∀ x∈xs',S x)∧Ko A (·∈xs')∧xs'.Nodup
 |0,b,xs,xs',_,_,_,h=>by cases h
 |k+1,b,xs,xs',nd,hx,hb,h=>by
  unfold Hd at h
  by_cases c:b < xs.length
  ·rw[OG c] at h
   have nm: ∀ y∈A.map (·.1),∃ p∈A,p.1=y:=fun y hy=>by
    obtain⟨p,hp,rfl⟩:=N4.mp hy
    exact⟨p,hp,rfl⟩
   refine vJ hS k _ (qh A xs) xs' (mQ _ _ nd) (yI hS _ _ nm hx) ?_ h
   by_cases c2:(xs.length:Int) < (qh A xs).length
   ·exact .inl c2
   ·refine .inr ?_
    have back:=Lk nd (mQ (A:=A) (A.map (·.1)) xs nd) (fun x hx=>kI _ _ hx) (by unfold qh at c2;lia)
    intro x hxA ho
    obtain⟨p,hp,rfl⟩:=hxA
    exact kI _ _ (uP _ _ back p.1 (Oq hp) fun o h'=>back o (ho o h'))
  ·rw[OH c] at h
   cases h
   rcases hb with hb|hb
   ·exact absurd hb c
   ·exact⟨hx,hb,nd⟩
theorem xO {A:List (Str×List Str)}: ∀ (k:Nat) (b:Int) (xs:List Str),xs.Nodup→(∀ x∈xs,x∈A.map (·.1))→b≤A.length→(A.length:Int) < b+k→∃ xs',Hd A k b xs=some xs'
 |0,b,xs,_,_,h1,h2=>by lia
 |k+1,b,xs,nd,hs,h1,h2=>by
  unfold Hd
  by_cases c:b < xs.length
  ·rw[OG c]
   have hl:=Iy nd hs
   rw[NT] at hl
   exact xO k _ _ (mQ _ _ nd) (fun x hx=>by
    rcases oe _ _ x hx with h|h
    ·exact hs x h
    ·exact h) (by lia) (by lia)
  ·rw[OH c];exact⟨_,rfl⟩
theorem zY {A:List (Str×List Str)} (ho: ∀ p∈A,p.2.length≤1000) (hA:A.length≤90): ∃ xs:List Str,dq [.cL (ic A)]= .ret (.cL (pS xs))∧DN A 1000 (-1) []=some (pS xs)∧Ko A (·∈xs)∧∀ S,Ko A S→∀ x∈xs,S x:=by
 obtain⟨xs,h⟩:=xO (A:=A) 1000 (-1) [] List.nodup_nil (fun _ h=>absurd h N3) (by lia) (by lia)
 have e:DN A 1000 (-1) []=some (pS xs):=by
  have:=Az A 1000 (-1) []
  rw[h] at this
  exact this
 refine⟨xs,uO ho hA e,e,?_,fun S hS x hx=>?_⟩
 ·exact(vJ (S:=fun _=>True) (fun _ _ _=>trivial) 1000 (-1) [] xs List.nodup_nil (fun _ h=>absurd h N3) (.inl (by simp)) h).2.1
 ·exact(vJ hS 1000 (-1) [] xs List.nodup_nil (fun _ h=>absurd h N3) (.inl (by simp)) h).1 x hx
theorem cW {m k:ae→M Fl} {ρ:ae} {y:PV} (h:m ρ= .ret (.rt y)):(au m k ρ).bind bu= .ret y:=by
 unfold au;rw[h];rfl
section
variable {B y:PV} {w z p:Str} {t:Int}
theorem vq {a b:Int}:aF [B,y,.tup [.str "hours",.int a,.int b],.int t]= .ret (.bl (decide (a≤t)&&decide (t < b))):=by
 unfold aF bK
 show (au _ _ [val B,val y,val (.tup [.str "hours",.int a,.int b]),val (.int t),un]).bind bu=_
 refine aw (ρ':=[val B,val y,val (.tup [.str "hours",.int a,.int b]),val (.int t),val (.str "hours")]) rfl ?_
 refine cW (y:=.bl (decide (a≤t)&&decide (t < b))) ?_
 rw[d5 rfl]
 refine aU ?_
 show chain _ _ _ _ _ [val B,val y,val (.tup [.str "hours",.int a,.int b]),val (.int t),val (.str "hours")]=_
 simp only[chain,ab,aL,aT,M.rZ,az,oR,vj,M.bO,h9]
 by_cases c:a≤t
 ·simp[c];rfl
 ·simp[c]
theorem vo:aF [B,y,.tup [.str "never"],.int t]= .ret (.bl false):=by
 unfold aF bK
 show (au _ _ [val B,val y,val (.tup [.str "never"]),val (.int t),un]).bind bu=_
 refine aw (ρ':=[val B,val y,val (.tup [.str "never"]),val (.int t),val (.str "never")]) rfl ?_
 refine aw (ρ':=[val B,val y,val (.tup [.str "never"]),val (.int t),val (.str "never")]) rfl ?_
 refine aw (ρ':=[val B,val y,val (.tup [.str "never"]),val (.int t),val (.str "never")]) rfl ?_
 refine aw (ρ':=[val B,val y,val (.tup [.str "never"]),val (.int t),val (.str "never")]) rfl ?_
 exact bA (aU rfl)
theorem Bo {x:PV} (hw:w="least"∨w="most") (h:eG [B,.str p,.int t]= .ret .aE):bW [B,.tup [.str w,.str p,x],.int t]= .ret (.bl false):=by
 unfold bW eC
 show (au _ _ [val B,val (.tup [.str w,.str p,x]),val (.int t),un,un,un,un]).bind bu=_
 refine aw (ρ':=[val B,val (.tup [.str w,.str p,x]),val (.int t),val (.str w),val (.str p),val x,un]) rfl ?_
 refine aw (ρ':=[val B,val (.tup [.str w,.str p,x]),val (.int t),val (.str w),val (.str p),val x,val .aE]) ?_ ?_
 ·simp only[ax,aa,aL,aT,M.rZ]
  rw[h]
  rfl
 ·exact cW (by rw[d5 rfl];exact aU rfl)
theorem Bn {v n:Int} (hw:w="least"∨w="most") (h:eG [B,.str p,.int t]= .ret (.int v)):bW [B,.tup [.str w,.str p,.int n],.int t]= .ret (.bl (if w="least" then decide (n≤v) else decide (v≤n))):=by
 unfold bW eC
 show (au _ _ [val B,val (.tup [.str w,.str p,.int n]),val (.int t),un,un,un,un]).bind bu=_
 refine aw (ρ':=[val B,val (.tup [.str w,.str p,.int n]),val (.int t),val (.str w),val (.str p),val (.int n),un]) rfl ?_
 refine aw (ρ':=[val B,val (.tup [.str w,.str p,.int n]),val (.int t),val (.str w),val (.str p),val (.int n),val (.int v)]) ?_ ?_
 ·simp only[ax,aa,aL,aT,M.rZ]
  rw[h]
  rfl
 ·refine aw (ρ':=[val B,val (.tup [.str w,.str p,.int n]),val (.int t),val (.str w),val (.str p),val (.int n),val (.int v)]) (by rw[eP rfl]) ?_
  refine bA (aU ?_)
  rcases hw with rfl|rfl
  ·rfl
  ·rfl
theorem EY {r:List PV} {n:Int} (h:cz [B,.str z,.int t]= .ret .aE):bx [B,.tup (.str z::.str "slope"::r),.int n,.int t]= .ret (.bl false):=by
 unfold bx cY
 show (au _ _ [val B,val (.tup (.str z::.str "slope"::r)),val (.int n),val (.int t),un]).bind bu=_
 refine aw (ρ':=[val B,val (.tup (.str z::.str "slope"::r)),val (.int n),val (.int t),val .aE]) ?_ ?_
 ·simp only[ax,aa,ab,aL,aT,M.rZ,az,j4,M.bO]
  rw[h]
  rfl
 ·refine bA (aU ?_)
  have c1:aK (ab (cC false) (ab az (fun ρ=>aq ρ 1) (fun _=>M.ret (.int 1))) (fun _=>M.ret (.str "slope"))) [val B,val (.tup (.str z::.str "slope"::r)),val (.int n),val (.int t),val .aE]= .ret true:=by
   simp only[aK,ab,aL,aT,M.rZ,az,oR,M.bO,wU,beq_self_eq_true]
  show fh _ _ [val B,val (.tup (.str z::.str "slope"::r)),val (.int n),val (.int t),val .aE]=_
  unfold fh
  rw[c1]
  rfl
theorem EX {r:List PV} {n m:Int} (h:cz [B,.str z,.int t]= .ret (.int m)):bx [B,.tup (.str z::.str "slope"::r),.int n,.int t]= .ret (.bl (decide (t < m+n))):=by
 unfold bx cY
 show (au _ _ [val B,val (.tup (.str z::.str "slope"::r)),val (.int n),val (.int t),un]).bind bu=_
 refine aw (ρ':=[val B,val (.tup (.str z::.str "slope"::r)),val (.int n),val (.int t),val (.int m)]) ?_ ?_
 ·simp only[ax,aa,ab,aL,aT,M.rZ,az,j4,M.bO]
  rw[h]
  rfl
 ·refine bA (aU ?_)
  have c1:aK (ab (cC false) (ab az (fun ρ=>aq ρ 1) (fun _=>M.ret (.int 1))) (fun _=>M.ret (.str "slope"))) [val B,val (.tup (.str z::.str "slope"::r)),val (.int n),val (.int t),val (.int m)]= .ret true:=by
   simp only[aK,ab,aL,aT,M.rZ,az,oR,M.bO,wU,beq_self_eq_true]
  show fh _ _ [val B,val (.tup (.str z::.str "slope"::r)),val (.int n),val (.int t),val (.int m)]=_
  unfold fh
  rw[c1]
  rfl
theorem oS {x:PV} {b:Bool} (hw:w="least"∨w="most") (h:bW [B,.tup [.str w,.str p,x],.int t]= .ret (.bl b)):aF [B,y,.tup [.str w,.str p,x],.int t]= .ret (.bl b):=by
 unfold aF bK
 show (au _ _ [val B,val y,val (.tup [.str w,.str p,x]),val (.int t),un]).bind bu=_
 refine aw (ρ':=[val B,val y,val (.tup [.str w,.str p,x]),val (.int t),val (.str w)]) rfl ?_
 refine aw (ρ':=[val B,val y,val (.tup [.str w,.str p,x]),val (.int t),val (.str w)]) (by rcases hw with rfl|rfl<;>rfl) ?_
 refine cW ?_
 rw[d5 (by rcases hw with rfl|rfl<;>rfl)]
 refine aU ?_
 simp only[aa]
 exact h
theorem kN {n:Int} {b:Bool} (h:bx [B,y,.int n,.int t]= .ret (.bl b)):aF [B,y,.tup [.str "looked",.int n],.int t]= .ret (.bl b):=by
 unfold aF bK
 show (au _ _ [val B,val y,val (.tup [.str "looked",.int n]),val (.int t),un]).bind bu=_
 refine aw (ρ':=[val B,val y,val (.tup [.str "looked",.int n]),val (.int t),val (.str "looked")]) rfl ?_
 refine aw (ρ':=[val B,val y,val (.tup [.str "looked",.int n]),val (.int t),val (.str "looked")]) rfl ?_
 refine aw (ρ':=[val B,val y,val (.tup [.str "looked",.int n]),val (.int t),val (.str "looked")]) rfl ?_
 refine cW ?_
 rw[d5 rfl]
 refine aU ?_
 simp only[aa]
 exact h
end
abbrev bG (p:Str×List PV):PV:=.tup (.str p.1::p.2)
def vm:Option (List Str)→PV
 |none=>.aE
 |some os=>.lst (os.map PV.str)
theorem Ee {A:List (Str×List Str)} {x:Str} {os:List Str} (h: ∀ p∈A,p.1≠x):pC (ic A) (kn x) (.lst (os.map PV.str))=ic (A++[(x,os)]):=by
 have e:((ic A).any fun kv=>decide (kv.1=kn x))=false:=by
  unfold ic
  rw[List.any_map,List.any_eq_false]
  intro p hp
  show ¬ decide (kn p.1=kn x)=true
  rw[yx]
  simp[h p hp]
 unfold pC
 rw[OH (by rw[e];decide)]
 unfold ic
 rw[List.map_append]
 rfl
def MP:ae→M Fl:=(au (ax 5 (fun ρ=>((aa (fun ρ=>aq ρ 1) (aa (fun ρ=>aq ρ 4) (aa (fun ρ=>aq ρ 2) (fun _=>M.ret [])))) ρ).bind bc))
  (dO (aK (ab (iW true) (fun ρ=>aq ρ 5) (fun _=>M.ret .aE)))
  (l9 3 (ab az (fun ρ=>aq ρ 4) (fun _=>M.ret (.int 0))) (fun ρ=>aq ρ 5))
  (fun ρ=>M.ret (.nx ρ))))
def df (ot:Str×List PV→Option (List Str)) (ws:List (Str×List PV)):List (Str×List Str):=ws.filterMap fun p=>(ot p).map fun os=>(p.1,os)
theorem yi {hl B tv:PV} {ot:Str×List PV→Option (List Str)} {e6:Ent}: ∀ (ws:List (Str×List PV)) (A:List (Str×List Str)) (e4 e5:Ent),(∀ p∈ws,bc [B,bG p,tv]= .ret (vm (ot p)))→(ws.map (·.1)).Nodup→(∀ p∈ws,∀ q∈A,q.1≠p.1)→A.length+ws.length < 1000→
  ∃ e4' e5',bD (aA 4) MP (ws.map bG) [val hl,val B,val tv,Ent.bp (ic A),e4,e5,e6]= .ret (.nx [val hl,val B,val tv,Ent.bp (ic (A++df ot ws)),e4',e5',e6])
 |[],A,e4,e5,_,_,_,_=>⟨e4,e5,by simp[bD,df]⟩
 |p::ws,A,e4,e5,h,nd,hA,hl'=>by
  have h1:=h p NS
  rw[N1,List.nodup_cons] at nd
  have step: ∃ A',A'=A++df ot [p]∧MP [val hl,val B,val tv,Ent.bp (ic A),val (bG p),e5,e6]= .ret (.nx [val hl,val B,val tv,Ent.bp (ic A'),val (bG p),val (vm (ot p)),e6]):=by
   refine⟨_,rfl,?_⟩
   unfold MP au
   simp only[ax,aa,aL,aT,M.rZ,h1,Oz,N0]
   cases c:ot p with
   |none=>
    rw[eP (by rfl)]
    simp[df,c]
   |some os=>
    rw[d5 (by rfl)]
    have hlen:(ic A).length < 100000:=by unfold ic;rw[NT];simp at hl';lia
    simp only[l9,aL,aT,M.rZ,N7,N8,ab,az,j4,M.bO,pR,OG hlen,vm,Oz,N0]
    rw[Ee (fun q hq=>hA p NS q hq)]
    simp[df,c]
  obtain⟨A',eA,st⟩:=step
  obtain⟨e4',e5',ih⟩:=yi (hl:=hl) (B:=B) (tv:=tv) (ot:=ot) (e6:=e6) ws A' (val (bG p)) (val (vm (ot p))) (fun q hq=>h q (NV _ hq)) nd.2 (fun q hq a ha=>by
   rw[eA] at ha
   rcases OF.mp ha with ha|ha
   ·exact hA q (NV _ hq) a ha
   ·have:a.1=p.1:=by
     unfold df at ha
     obtain⟨b,hb,e⟩:=List.mem_filterMap.mp ha
     rw[Om.mp hb] at e
     obtain⟨os,_,rfl⟩:=Og.mp e
     rfl
    rw[this]
    exact fun z=>nd.1 (z▸Oq hq)) (by
   have:(df ot [p]).length≤1:=by unfold df;exact List.length_filterMap_le _ _
   rw[eA,Oi];simp at hl';lia)
  refine⟨e4',e5',?_⟩
  rw[N1]
  unfold bD
  simp only[aA,M.rZ,Oz,N0]
  rw[st,M.rZ]
  show bD _ _ _ _=_
  rw[ih,eA,List.append_assoc]
  have:df ot [p]++df ot ws=df ot (p::ws):=by unfold df;rw[←List.filterMap_append];rfl
  rw[this]
theorem Ew {hm dk B tv:PV} {ws:List (Str×List PV)} {ot:Str×List PV→Option (List Str)} {f':List (Key×PV)} (h: ∀ p∈ws,bc [B,bG p,tv]= .ret (vm (ot p))) (nd:(ws.map (·.1)).Nodup) (hw:ws.length≤90)
  (ho: ∀ p∈df ot ws,p.2.length≤1000) (hf:DN (df ot ws) 1000 (-1) []=some f'):
  cy [.tup [.tup (ws.map bG),hm,dk],B,tv]= .ret (.tup (((ws.map (·.1)).filter (gC f')).map PV.str)):=by
 unfold cy iN
 obtain⟨hl,ehl⟩: ∃ hl,hl=PV.tup [.tup (ws.map bG),hm,dk]:=⟨_,rfl⟩
 rw[←ehl]
 have i0:az hl (.int 0)= .ret (.tup (ws.map bG)):=by rw[ehl];simp only[az,j4,M.bO]
 show (au _ _ [val hl,val B,val tv,un,un,un,un]).bind bu=_
 refine aw (ρ':=[val hl,val B,val tv,Ent.bp (ic []),un,un,un]) rfl ?_
 obtain⟨e4',e5',lp⟩:=yi (hl:=hl) (B:=B) (tv:=tv) (ot:=ot) (e6:=un) ws [] un un h nd (fun _ _ q hq=>absurd hq N3) (by simp;lia)
 refine aw (ρ':=[val hl,val B,val tv,Ent.bp (ic (df ot ws)),e4',e5',un]) ?_ ?_
 ·simp only[aP,ab,aL,M.rZ,i0,aH]
  exact lp
 have hA:(df ot ws).length≤90:=Od (List.length_filterMap_le _ _) hw
 refine aw (ρ':=[val hl,val B,val tv,val (.cL (ic (df ot ws))),e4'.freeze,e5'.freeze,val (.cL f')]) ?_ ?_
 ·show ax 6 _ [val hl,val B,val tv,val (.cL (ic (df ot ws))),e4'.freeze,e5'.freeze,un]=_
  simp only[ax,aa,aL,aT,M.rZ,uO ho hA hf]
  rfl
 refine bA (aU ?_)
 have q:=bU (k:=0) (tt:=aK (ab (oD false) (ab az (fun ρ=>aq ρ 0) (fun _=>M.ret (.int 0))) (fun ρ=>aq ρ 1))) (te:=ab az (fun ρ=>aq ρ 0) (fun _=>M.ret (.int 0))) (p:=fun y=>match y with| .tup (.str x::_)=>gC f' x|_=>false) (f:=fun y=>match y with| .tup (.str x::_)=>.str x|_=>.aE) (ρ:=[un,val (.cL f')]) (ws.map bG) [un,val (.cL f')] (fun _=>rfl) (fun y hy=>by
  obtain⟨p,_,rfl⟩:=N4.mp hy
  simp only[aK,ab,N0,aL,aT,M.rZ,az,j4,oD,pR,M.bO,Bool.bne_false,gC]) (fun y hy _=>by
  obtain⟨p,_,rfl⟩:=N4.mp hy
  simp only[ab,N0,aL,M.rZ,az,j4,M.bO])
 have hlen:(ws.map bG).length≤100000:=by rw[NT];lia
 have ec:c9 [none,some 6] [val hl,val B,val tv,val (.cL (ic (df ot ws))),e4'.freeze.freeze,e5'.freeze.freeze,val (.cL f')]=[un,val (.cL f')]:=rfl
 have ej:((ws.map bG).filter (fun y=>match y with| .tup (.str x::_)=>gC f' x|_=>false)).map (fun y=>match y with| .tup (.str x::_)=>PV.str x|_=>.aE)=((ws.map (·.1)).filter (gC f')).map PV.str:=by
  clear q lp hf ho h nd hw hA hlen ec i0 ehl
  induction ws with
  |nil=>rfl
  |cons p ws ih=>
   simp only[N1,List.filter_cons]
   by_cases c:gC f' p.1=true
   ·rw[OG c,OG c,N1,N1,ih]
   ·rw[OH c,OH c,ih]
 show (fun ρ=>((aa (aG _) _) ρ).bind mW) [val hl,val B,val tv,val (.cL (ic (df ot ws))),e4'.freeze.freeze,e5'.freeze.freeze,val (.cL f')]=_
 simp only[aa,aG,bf,ab,aL,M.rZ,i0,aH,OG hlen,ec]
 rw[q]
 simp only[M.rZ,mW,ej]
def six (l:List PV) (w z:Str) (t:Int):PV:=(hV (l.filter (hit w z t))).getD .aE
theorem n6 {w z:Str} {t:Int} {n:Int} {y:PV} (hp:el n y) (hh:hit w z t y=true): ∃ z' m r,y= .tup (.str w::.int n::.int m::.str z'::r)∧((w="look"∧r=[])∨((w="read"∨w="rule")∧∃ v,r=[v]∧oV 2500 2 v∧Ka v=true))∧0≤m∧m≤1000000:=by
 obtain⟨w',z',m,r,rfl,hc,m0,m1⟩:=hp
 have e:(w'==w&&(z'==z&&decide (m≤t)))=true:=hh
 rw[Ov] at e
 have ew:w'=w:=by simpa using e.1
 subst ew
 exact⟨z',m,r,rfl,hc,m0,m1⟩
theorem seen {l:List PV} {ns:List Int} (h:aX l ns) (w z:Str) (t:Int):cB [.tup (aM l),.str w,.str z,.int t]= .ret (six l w z t):=by
 rw[E4 fun y hy=>(h.at ((cR l).mem_iff.mp hy)).imp fun n hn=>hn.1]
 unfold six
 rw[zO h.nd]
theorem BH {l:List PV} {ns:List Int} (h:aX l ns) (hl:l.length≤1000) (w z:Str) (t:Int):cQ [.lst l,.str w,.str z,.int t]= .ret (six l w z t):=
 Et (fun y hy=>(h.at hy).imp fun n hn=>hn.1) (fun y hy=>h.Nw hy) hl
inductive Ru where
 |g9 (a b:Int)|post (least:Bool) (p:Str) (n:Int)|looked (n:Int)|xN (o:Str)|never
def Ru.pv:Ru→PV
 | .g9 a b=>.tup [.str "hours",.int a,.int b]
 | .post true p n=>.tup [.str "least",.str p,.int n]
 | .post false p n=>.tup [.str "most",.str p,.int n]
 | .looked n=>.tup [.str "looked",.int n]
 | .xN o=>.tup [.str "with",.str o]
 | .never=>.tup [.str "never"]
def Ru.hold (rd:Str→Option Int) (lk:Option Int) (t:Int) (i:Str→Bool):Ru→Bool
 | .g9 a b=>decide (a≤t)&&decide (t < b)
 | .post L p n=>match rd p with|none=>false|some v=>if L=true then decide (n≤v) else decide (v≤n)
 | .looked n=>match lk with|none=>false|some m=>decide (t < m+n)
 | .xN o=>i o
 | .never=>false
def iG (l:List PV) (t:Int) (p:Str):Option Int:=match six l "read" p t with| .tup [_,_,_,_,.int v]=>some v|_=>none
def ff (l:List PV) (t:Int) (z:Str):Option Int:=match six l "look" z t with| .tup (_::_::.int m::_)=>some m|_=>none
def Reads (l:List PV):Prop:= ∀ n m z v,PV.tup [.str "read",.int n,.int m,.str z,v]∈l→∃ i:Int,v= .int i
theorem fU {l:List PV} {ns:List Int} (h:aX l ns) (w z:Str) (t:Int):six l w z t= .aE∨(six l w z t∈l∧∃ n,el n (six l w z t)∧hit w z t (six l w z t)=true):=by
 unfold six
 cases e:hV (l.filter (hit w z t)) with
 |none=>exact .inl rfl
 |some y=>
  right
  have hm:y∈l.filter (hit w z t):=by
   unfold hV at e
   obtain⟨b,hb,rfl⟩:=Og.mp e
   have:=vf hb
   rw[Oa,NQ this]
   exact OB this
  obtain⟨n,hp,_⟩:=h.at (OE.mp hm).1
  exact⟨(OE.mp hm).1,n,hp,(OE.mp hm).2⟩
theorem tR {l:List PV} {ns:List Int} (h:aX l ns) (hr:Reads l) (z:Str) (t:Int):(six l "read" z t= .aE∧iG l t z=none)∨∃ a b c d v,six l "read" z t= .tup [a,b,c,d,.int v]∧iG l t z=some v:=by
 rcases fU h "read" z t with e|⟨hm,n,hp,hh⟩
 ·exact .inl ⟨e,by unfold iG;rw[e]⟩
 ·right
  obtain⟨z',m,r,e,hk,_⟩:=n6 hp hh
  rcases hk with⟨hw,_⟩|⟨_,v,rfl,_⟩
  ·exact absurd hw (by decide +kernel)
  ·rw[e] at hm
   obtain⟨i,rfl⟩:=hr _ _ _ _ hm
   exact⟨_,_,_,_,i,e,by unfold iG;rw[e]⟩
theorem tS {l:List PV} {ns:List Int} (h:aX l ns) (z:Str) (t:Int):(six l "look" z t= .aE∧ff l t z=none)∨∃ a b m r,six l "look" z t= .tup (a::b::.int m::r)∧ff l t z=some m:=by
 rcases fU h "look" z t with e|⟨hm,n,hp,hh⟩
 ·exact .inl ⟨e,by unfold ff;rw[e]⟩
 ·right
  obtain⟨z',m,r,e,_⟩:=n6 hp hh
  exact⟨_,_,m,_,e,by unfold ff;rw[e]⟩
theorem qp {l:List PV} {ns:List Int} {nm:Str} {t:Int} {os:List Str} (h:aX l ns) (hl:l.length≤1000) (hr:Reads l) (r:Ru):
  cA [.lst l,.str nm,r.pv,.int t,.lst (os.map PV.str)]= .ret (.bl (r.hold (iG l t) (ff l t nm) t (dX os))):=by
 unfold cA iT
 cases r with
 |g9 a b=>
  show (au _ _ [val (.lst l),val (.str nm),val (.tup [.str "hours",.int a,.int b]),val (.int t),val (.lst (os.map PV.str)),un,un]).bind bu=_
  refine cW ?_
  rw[d5 rfl]
  refine aU ?_
  show chain _ _ _ _ _ [val (.lst l),val (.str nm),val (.tup [.str "hours",.int a,.int b]),val (.int t),val (.lst (os.map PV.str)),un,un]=_
  simp only[chain,ab,aL,aT,M.rZ,az,oR,vj,M.bO,h9,Ru.hold]
  by_cases c:a≤t
  ·simp[c];rfl
  ·simp[c]
 |looked n=>
  show (au _ _ [val (.lst l),val (.str nm),val (.tup [.str "looked",.int n]),val (.int t),val (.lst (os.map PV.str)),un,un]).bind bu=_
  refine aw (ρ':=[val (.lst l),val (.str nm),val (.tup [.str "looked",.int n]),val (.int t),val (.lst (os.map PV.str)),un,un]) rfl ?_
  refine cW ?_
  rw[d5 rfl]
  have pg:=BH h hl "look" nm t
  rcases tS h nm t with⟨e,e2⟩|⟨a,b,m,r,e,e2⟩
  ·rw[e] at pg
   unfold au
   simp only[ax,aa,aL,aT,M.rZ,pg,Ru.hold,e2]
   rfl
  ·rw[e] at pg
   unfold au
   simp only[ax,aa,aL,aT,M.rZ,pg,Ru.hold,e2,Oz,N0]
   refine aU ?_
   show fh _ _ [val (.lst l),val (.str nm),val (.tup [.str "looked",.int n]),val (.int t),val (.lst (os.map PV.str)),val (.tup (a::b::.int m::r)),un]=_
   have c1:aK (ab (iW true) (fun ρ=>aq ρ 5) (fun _=>M.ret .aE)) [val (.lst l),val (.str nm),val (.tup [.str "looked",.int n]),val (.int t),val (.lst (os.map PV.str)),val (.tup (a::b::.int m::r)),un]= .ret true:=rfl
   unfold fh
   rw[c1,M.rZ,OG rfl]
   simp only[ab,aL,aT,M.rZ,az,oR,vj,M.bO]
   rfl
 |never=>rfl
 |xN o=>
  show (au _ _ [val (.lst l),val (.str nm),val (.tup [.str "with",.str o]),val (.int t),val (.lst (os.map PV.str)),un,un]).bind bu=_
  refine aw (ρ':=[val (.lst l),val (.str nm),val (.tup [.str "with",.str o]),val (.int t),val (.lst (os.map PV.str)),un,un]) rfl ?_
  refine aw (ρ':=[val (.lst l),val (.str nm),val (.tup [.str "with",.str o]),val (.int t),val (.lst (os.map PV.str)),un,un]) rfl ?_
  refine aw (ρ':=[val (.lst l),val (.str nm),val (.tup [.str "with",.str o]),val (.int t),val (.lst (os.map PV.str)),un,un]) rfl ?_
  refine bA (aU ?_)
  show fh _ _ [val (.lst l),val (.str nm),val (.tup [.str "with",.str o]),val (.int t),val (.lst (os.map PV.str)),un,un]=_
  have c1:aK (ab (cC false) (ab az (fun ρ=>aq ρ 2) (fun _=>M.ret (.int 0))) (fun _=>M.ret (.str "with"))) [val (.lst l),val (.str nm),val (.tup [.str "with",.str o]),val (.int t),val (.lst (os.map PV.str)),un,un]= .ret true:=rfl
  unfold fh
  rw[c1,M.rZ,OG rfl]
  simp only[ab,aL,aT,M.rZ,az,oR,M.bO,nZ,Ru.hold]
  simp
 |post L p n=>
  obtain⟨w,hw,ew⟩: ∃ w:Str,(w="least"∧L=true∨w="most"∧L=false)∧(Ru.post L p n).pv= .tup [.str w,.str p,.int n]:=by
   cases L
   ·exact⟨"most",.inr ⟨rfl,rfl⟩,rfl⟩
   ·exact⟨"least",.inl ⟨rfl,rfl⟩,rfl⟩
  rw[ew]
  show (au _ _ [val (.lst l),val (.str nm),val (.tup [.str w,.str p,.int n]),val (.int t),val (.lst (os.map PV.str)),un,un]).bind bu=_
  refine aw (ρ':=[val (.lst l),val (.str nm),val (.tup [.str w,.str p,.int n]),val (.int t),val (.lst (os.map PV.str)),un,un]) (by rcases hw with⟨rfl,_⟩|⟨rfl,_⟩<;>rfl) ?_
  refine aw (ρ':=[val (.lst l),val (.str nm),val (.tup [.str w,.str p,.int n]),val (.int t),val (.lst (os.map PV.str)),un,un]) (by rcases hw with⟨rfl,_⟩|⟨rfl,_⟩<;>rfl) ?_
  have pg:=BH h hl "read" p t
  refine cW ?_
  rw[d5 (by rcases hw with⟨rfl,_⟩|⟨rfl,_⟩<;>rfl)]
  rcases tR h hr p t with⟨e,e2⟩|⟨a,b,c,d,v,e,e2⟩
  ·rw[e] at pg
   unfold au
   simp only[ax,aa,ab,aL,aT,M.rZ,az,oR,M.bO,pg,Ru.hold,e2]
   rfl
  ·rw[e] at pg
   unfold au
   simp only[ax,aa,ab,aL,aT,M.rZ,az,oR,M.bO,pg,Ru.hold,e2]
   rcases hw with⟨rfl,rfl⟩|⟨rfl,rfl⟩<;>rfl
section
variable {l:List PV} {ns:List Int} {t:Int}
theorem v8 {p:Str} (h:aX l ns) (hr:Reads l):eG [.tup (aM l),.str p,.int t]= .ret (match iG l t p with|none=>.aE|some v=>.int v):=by
 have s:=seen h "read" p t
 unfold eG lu
 show (au _ _ [val (.tup (aM l)),val (.str p),val (.int t),un]).bind bu=_
 rcases tR h hr p t with⟨e,e2⟩|⟨a,b,c,d,v,e,e2⟩
 ·rw[e] at s
  refine aw (ρ':=[val (.tup (aM l)),val (.str p),val (.int t),val .aE]) ?_ ?_
  ·simp only[ax,aa,aL,aT,M.rZ,s]
   rfl
  ·rw[e2];exact bA (aU rfl)
 ·rw[e] at s
  refine aw (ρ':=[val (.tup (aM l)),val (.str p),val (.int t),val (.tup [a,b,c,d,.int v])]) ?_ ?_
  ·simp only[ax,aa,aL,aT,M.rZ,s]
   rfl
  ·rw[e2];exact bA (aU rfl)
theorem zN {z:Str} (h:aX l ns):cz [.tup (aM l),.str z,.int t]= .ret (match ff l t z with|none=>.aE|some v=>.int v):=by
 have s:=seen h "look" z t
 unfold cz iO
 show (au _ _ [val (.tup (aM l)),val (.str z),val (.int t),un]).bind bu=_
 rcases tS h z t with⟨e,e2⟩|⟨a,b,m,r,e,e2⟩
 ·rw[e] at s
  refine aw (ρ':=[val (.tup (aM l)),val (.str z),val (.int t),val .aE]) ?_ ?_
  ·simp only[ax,aa,aL,aT,M.rZ,s]
   rfl
  ·rw[e2];exact bA (aU rfl)
 ·rw[e] at s
  refine aw (ρ':=[val (.tup (aM l)),val (.str z),val (.int t),val (.tup (a::b::.int m::r))]) ?_ ?_
  ·simp only[ax,aa,aL,aT,M.rZ,s]
   rfl
  ·rw[e2]
   refine bA (aU ?_)
   show o6 _ _ _ [val (.tup (aM l)),val (.str z),val (.int t),val (.tup (a::b::.int m::r))]=_
   rw[yH rfl]
   simp only[ab,aL,aT,M.rZ,az,vj,M.bO]
theorem xC {B y:PV} {o:Str}:aF [B,y,.tup [.str "with",.str o],.int t]= .ret (.bl false):=by
 unfold aF bK
 show (au _ _ [val B,val y,val (.tup [.str "with",.str o]),val (.int t),un]).bind bu=_
 refine aw (ρ':=[val B,val y,val (.tup [.str "with",.str o]),val (.int t),val (.str "with")]) rfl ?_
 refine aw (ρ':=[val B,val y,val (.tup [.str "with",.str o]),val (.int t),val (.str "with")]) rfl ?_
 refine aw (ρ':=[val B,val y,val (.tup [.str "with",.str o]),val (.int t),val (.str "with")]) rfl ?_
 refine aw (ρ':=[val B,val y,val (.tup [.str "with",.str o]),val (.int t),val (.str "with")]) rfl ?_
 exact bA (aU rfl)
theorem EW {B:PV} {z kd:Str} {q:List PV} {n:Int} {y:PV} (hk:(kd==("slope":Str))=false) (h:cz [B,.str z,.int t]= .ret y):bx [B,.tup (.str z::.str kd::q),.int n,.int t]= .ret (.bl false):=by
 unfold bx cY
 show (au _ _ [val B,val (.tup (.str z::.str kd::q)),val (.int n),val (.int t),un]).bind bu=_
 refine aw (ρ':=[val B,val (.tup (.str z::.str kd::q)),val (.int n),val (.int t),val y]) ?_ ?_
 ·simp only[ax,aa,ab,aL,aT,M.rZ,az,j4,M.bO]
  rw[h]
  rfl
 ·refine bA (aU ?_)
  have c1:aK (ab (cC false) (ab az (fun ρ=>aq ρ 1) (fun _=>M.ret (.int 1))) (fun _=>M.ret (.str "slope"))) [val B,val (.tup (.str z::.str kd::q)),val (.int n),val (.int t),val y]= .ret false:=by
   simp only[aK,ab,aL,aT,M.rZ,az,oR,M.bO,wU,hk]
  show fh _ _ [val B,val (.tup (.str z::.str kd::q)),val (.int n),val (.int t),val y]=_
  unfold fh
  rw[c1]
  rfl
theorem vp {z kd:Str} {q:List PV} (h:aX l ns) (hr:Reads l) (hs:(kd==("slope":Str))=false→ff l t z=none) (r:Ru):
  aF [.tup (aM l),.tup (.str z::.str kd::q),r.pv,.int t]= .ret (.bl (r.hold (iG l t) (ff l t z) t (fun _=>false))):=by
 cases r with
 |g9 a b=>exact vq
 |never=>exact vo
 |xN o=>exact xC
 |looked n=>
  have lo:=zN (z:=z) (t:=t) h
  cases ck:(kd==("slope":Str)) with
  |true=>
   obtain rfl:kd="slope":=by simpa using ck
   refine kN ?_
   cases e:ff l t z with
   |none=>rw[e] at lo;simp only[Ru.hold];exact EY lo
   |some m=>rw[e] at lo;simp only[Ru.hold];exact EX lo
  |false=>
   refine kN ?_
   simp only[Ru.hold,hs ck]
   exact EW ck lo
 |post L p n=>
  have re:=v8 (p:=p) (t:=t) h hr
  cases L
  ·refine oS (w:="most") (.inr rfl) ?_
   cases e:iG l t p with
   |none=>rw[e] at re;simp only[Ru.hold,e];exact Bo (.inr rfl) re
   |some v=>rw[e] at re;simp only[Ru.hold,e];exact Bn (.inr rfl) re
  ·refine oS (w:="least") (.inl rfl) ?_
   cases e:iG l t p with
   |none=>rw[e] at re;simp only[Ru.hold,e];exact Bo (.inl rfl) re
   |some v=>rw[e] at re;simp only[Ru.hold,e];exact Bn (.inl rfl) re
end
theorem kA {α:Type} {m:α→PV} {k:Nat} {tt:ae→M Bool} {te:ae→M PV} {p:α→Bool} {g:α→PV} {ρ:ae}: ∀ (rs:List α) (ρ':ae),(∀ e,ρ'.set k e=ρ.set k e)→(∀ r∈rs,tt (ρ.set k (.val (m r)))= .ret (p r))→(∀ r∈rs,p r=true→te (ρ.set k (.val (m r)))= .ret (g r))→
  pQ (aA k) tt te (rs.map m) ρ'= .ret ((rs.filter p).map g)
 |[],ρ',_,_,_=>rfl
 |r::rs,ρ',hρ,h1,h2=>by
  have ih:=kA (m:=m) (k:=k) (tt:=tt) (te:=te) (p:=p) (g:=g) (ρ:=ρ) rs (ρ.set k (.val (m r))) (fun e=>by rw[List.set_set]) (fun r hr=>h1 r (NV _ hr)) (fun r hr=>h2 r (NV _ hr))
  rw[N1]
  unfold pQ
  simp only[aA,M.rZ,hρ,h1 r NS]
  cases c:p r with
  |true=>
   rw[OG rfl,h2 r NS c,M.rZ,ih,M.rZ,List.filter_cons_of_pos c]
   rfl
  |false=>
   rw[OH (by decide),ih,List.filter_cons_of_neg (by rw[c];decide)]
def Ru.yC:Ru→Bool
 | .xN _=>true
 |_=>false
def Ru.h8:Ru→Str
 | .xN o=>o
 |_=>""
theorem Ru.head (r:Ru): ∃ w q,r.pv= .tup (.str w::q)∧(w==("with":Str))=r.yC:=by
 cases r with
 |g9 a b=>exact⟨"hours",_,rfl,by show (("hours":Str)==("with":Str))=false;decide +kernel⟩
 |post L p n=>
  cases L
  ·exact⟨"most",_,rfl,by show (("most":Str)==("with":Str))=false;decide +kernel⟩
  ·exact⟨"least",_,rfl,by show (("least":Str)==("with":Str))=false;decide +kernel⟩
 |looked n=>exact⟨"looked",_,rfl,by show (("looked":Str)==("with":Str))=false;decide +kernel⟩
 |xN o=>exact⟨"with",_,rfl,by show (("with":Str)==("with":Str))=true;decide +kernel⟩
 |never=>exact⟨"never",_,rfl,by show (("never":Str)==("with":Str))=false;decide +kernel⟩
def MR:ae→M Bool:=(aK (ab (cC true) (ab az (fun ρ=>aq ρ 0) (fun _=>M.ret (.int 0))) (fun _=>M.ret (.str "with"))))
def MS:ae→M PV:=(fun ρ=>((aa (fun ρ=>aq ρ 1) (aa (fun ρ=>aq ρ 2) (aa (fun ρ=>aq ρ 0) (aa (fun ρ=>aq ρ 3) (fun _=>M.ret []))))) ρ).bind aF)
def xw (hd:Ru→Bool) (rs:List Ru):Option (List Str):=if(rs.filter fun r=>!r.yC).all hd=true then some ((rs.filter Ru.yC).map Ru.h8) else none
def MQ:ae→M Bool:=(aK (ab (cC false) (ab az (fun ρ=>aq ρ 0) (fun _=>M.ret (.int 0))) (fun _=>M.ret (.str "with"))))
def Nx:ae→M PV:=(ab az (fun ρ=>aq ρ 0) (fun _=>M.ret (.int 1)))
theorem xu {B:PV} {z:Str} {t:Int} {r:List PV} {rs:List Ru} {hd:Ru→Bool} (hl:rs.length≤1000) (h:bL [B,.str z,.int t]= .ret (.tup (rs.map Ru.pv))) (ha: ∀ u∈rs,u.yC=false→aF [B,.tup (.str z::r),u.pv,.int t]= .ret (.bl (hd u))):
  bc [B,.tup (.str z::r),.int t]= .ret (vm (xw hd rs)):=by
 have hlen:(rs.map Ru.pv).length≤100000:=by rw[NT];lia
 unfold bc eO
 show (au _ _ [val B,val (.tup (.str z::r)),val (.int t),un]).bind bu=_
 refine aw (ρ':=[val B,val (.tup (.str z::r)),val (.int t),val (.tup (rs.map Ru.pv))]) ?_ ?_
 ·simp only[ax,aa,ab,aL,aT,M.rZ,az,j4,M.bO]
  rw[h]
  rfl
 have ec:c9 [none,some 0,some 1,some 2] [val B,val (.tup (.str z::r)),val (.int t),val (.tup (rs.map Ru.pv))]=[un,val B,val (.tup (.str z::r)),val (.int t)]:=rfl
 have q1:=kA (m:=Ru.pv) (k:=0) (tt:=MR) (te:=MS) (p:=fun u=>!u.yC) (g:=fun u=>.bl (hd u)) (ρ:=[un,val B,val (.tup (.str z::r)),val (.int t)]) rs [un,val B,val (.tup (.str z::r)),val (.int t)] (fun _=>rfl) (fun u hu=>by
  obtain⟨w,q,e,hw⟩:=u.head
  have e1:cC true (.str w) (.str "with")= .ret (.bl (!u.yC)):=by
   show M.ret (PV.bl (xor true (w=="with")))=_
   rw[hw];simp
  rw[e]
  simp only[MR,aK,ab,N0,aL,M.rZ,az,j4,M.bO,e1]) (fun u hu hp=>by
  simp only[MS,aa,N0,aL,aT,M.rZ]
  exact ha u hu (by simpa using hp))
 have eall: ∀ us:List Ru,kO [.lst (us.map fun u=>PV.bl (hd u))]= .ret (.bl (us.all hd)):=fun us=>by
  have:hM (us.map fun u=>PV.bl (hd u))=some (us.map hd):=by
   induction us with
   |nil=>rfl
   |cons u us ih=>simp only[N1,hM,ih];rfl
  simp only[kO,this,M.bO,M.rZ,List.all_map]
  rfl
 have tst:(pP (aK (fun ρ=>((aa (aG (bf [none,some 0,some 1,some 2] (fun ρ=>((fun ρ=>aq ρ 3) ρ).bind aH) (aA 0) MR MS)) (fun _=>M.ret [])) ρ).bind kO))) [val B,val (.tup (.str z::r)),val (.int t),val (.tup (rs.map Ru.pv))]= .ret (!((rs.filter fun u=>!u.yC).all hd)):=by
  unfold pP
  unfold aK
  simp only[aa,aG,bf,aL,aT,M.rZ,aH,ec,OG hlen]
  rw[q1]
  simp only[M.rZ,eall]
 cases c:(rs.filter fun u=>!u.yC).all hd with
 |true=>
  rw[c] at tst
  refine aw (ρ':=[val B,val (.tup (.str z::r)),val (.int t),val (.tup (rs.map Ru.pv))]) (eP tst) ?_
  refine bA (aU ?_)
  have ec2:c9 [none] [val B,val (.tup (.str z::r)),val (.int t),val (.tup (rs.map Ru.pv))]=[un]:=rfl
  have q2:=kA (m:=Ru.pv) (k:=0) (tt:=MQ) (te:=Nx) (p:=Ru.yC) (g:=fun u=>.str u.h8) (ρ:=[un]) rs [un] (fun _=>rfl) (fun u hu=>by
   obtain⟨w,q,e,hw⟩:=u.head
   rw[e]
   simp only[MQ,aK,ab,N0,aL,M.rZ,az,j4,M.bO,wU,hw]) (fun u hu hp=>by
   cases u<;>first|rfl|cases hp)
  show aG (bf [none] (fun ρ=>((fun ρ=>aq ρ 3) ρ).bind aH) (aA 0) MQ Nx) [val B,val (.tup (.str z::r)),val (.int t),val (.tup (rs.map Ru.pv))]=_
  simp only[aG,bf,aL,aT,M.rZ,aH,ec2,OG hlen]
  rw[q2]
  unfold xw
  rw[OG c]
  simp only[M.rZ,vm,List.map_map]
  rfl
 |false=>
  rw[c] at tst
  refine cW (Eq.trans (d5 tst) ?_)
  unfold xw
  rw[OH (by rw[c];decide)]
  exact aU rfl
theorem uR (k:Nat): ∀ a b:List Str,eqs (wV (k+1)) (a.map PV.str) (b.map PV.str)=some (decide (a=b))
 |[],[]=>rfl
 |[],_::_=>rfl
 |_::_,[]=>rfl
 |x::a,y::b=>by
  have e:wV (k+1) (.str x) (.str y)=some (x==y):=rfl
  simp only[N1,eqs,e,uR k a b,Option.bind_some]
  by_cases c:x=y
  ·subst c
   by_cases c2:a=b
   ·subst c2;simp
   ·simp[c2]
  ·simp[c]
theorem EK (a b:List Str):cC true (.lst (a.map PV.str)) (.lst (b.map PV.str))= .ret (.bl (!decide (a=b))):=by
 have e:wV 20 (.lst (a.map PV.str)) (.lst (b.map PV.str))=some (decide (a=b)):=uR 18 a b
 unfold cC
 rw[e]
 simp[M.bO]
def M3:ae→M PV:=(fun ρ=>((aa (fun ρ=>aq ρ 1) (aa (fun ρ=>aq ρ 2) (aa (fun ρ=>aq ρ 0) (aa (fun ρ=>aq ρ 3) (aa (fun ρ=>aq ρ 4) (fun _=>M.ret [])))))) ρ).bind cA)
def M0:ae→M Bool:=(aK (fun ρ=>((aa (aG (bf [none,some 1,some 6,some 2,some 4] (fun ρ=>((fun ρ=>aq ρ 7) ρ).bind aH) (aA 0) cF M3)) (fun _=>M.ret [])) ρ).bind kO))
def Kb:ae→M Fl:=(dO M0 (dR 5 (fun ρ=>aq ρ 6)) (fun ρ=>M.ret (.nx ρ)))
def M1:ae→M Fl:=(au (CC (ax 4 (fun ρ=>aq ρ 5))) (au (h7 5 (fun ρ=>((fun _=>M.ret []) ρ).bind aO)) (aP (fun ρ=>((fun ρ=>aq ρ 3) ρ).bind aH) (de [6,7]) Kb)))
def MZ:ae→M Bool:=(aK (ab (cC true) (fun ρ=>aq ρ 4) (fun ρ=>fF ρ 5)))
def pN (l:List PV) (t:Int) (ru:Str→List Ru) (S:List Str) (z:Str):Bool:=(ru z).all fun r=>r.hold (iG l t) (ff l t z) t (dX S)
def hZ (ru:Str→List Ru) (z:Str):PV:=.tup [.str z,.tup ((ru z).map Ru.pv)]
section
variable {l:List PV} {ns:List Int} {t:Int} {ru:Str→List Ru} {hl R:PV}
theorem IH {S:List Str} {z:Str} {acc:List PV} (h:aX l ns) (hn:l.length≤1000) (hr:Reads l) (hu: ∀ z,(ru z).length≤1000):
  M0 [val hl,val (.lst l),val (.int t),val R,val (.lst (S.map PV.str)),Ent.own acc,val (.str z),val (.tup ((ru z).map Ru.pv))]= .ret (pN l t ru S z):=by
 have hlen:((ru z).map Ru.pv).length≤100000:=by rw[NT];have:=hu z;lia
 have ec:c9 [none,some 1,some 6,some 2,some 4] [val hl,val (.lst l),val (.int t),val R,val (.lst (S.map PV.str)),Ent.own acc,val (.str z),val (.tup ((ru z).map Ru.pv))]=[un,val (.lst l),val (.str z),val (.int t),val (.lst (S.map PV.str))]:=rfl
 have q:=kA (m:=Ru.pv) (k:=0) (tt:=cF) (te:=M3) (p:=fun _=>true) (g:=fun r=>.bl (r.hold (iG l t) (ff l t z) t (dX S))) (ρ:=[un,val (.lst l),val (.str z),val (.int t),val (.lst (S.map PV.str))]) (ru z) [un,val (.lst l),val (.str z),val (.int t),val (.lst (S.map PV.str))] (fun _=>rfl) (fun _ _=>rfl) (fun r _ _=>by
  simp only[M3,aa,N0,aL,aT,M.rZ]
  exact qp h hn hr r)
 have eall: ∀ us:List Ru,kO [.lst (us.map fun r=>PV.bl (r.hold (iG l t) (ff l t z) t (dX S)))]= .ret (.bl (us.all fun r=>r.hold (iG l t) (ff l t z) t (dX S))):=fun us=>by
  have:hM (us.map fun r=>PV.bl (r.hold (iG l t) (ff l t z) t (dX S)))=some (us.map fun r=>r.hold (iG l t) (ff l t z) t (dX S)):=by
   induction us with
   |nil=>rfl
   |cons u us ih=>simp only[N1,hM,ih];rfl
  simp only[kO,this,M.bO,M.rZ,List.all_map]
  rfl
 have hf:(ru z).filter (fun _=>true)=ru z:=by simp
 unfold M0 aK
 simp only[aa,aG,bf,aL,aT,M.rZ,aH,ec,OG hlen]
 rw[q,hf]
 simp only[M.rZ,eall,pN]
theorem r9 {S:List Str} (h:aX l ns) (hn:l.length≤1000) (hr:Reads l) (hu: ∀ z,(ru z).length≤1000): ∀ (zs acc:List Str) (e6 e7:Ent),acc.length+zs.length < 1000→
  ∃ e6' e7',bD (de [6,7]) Kb (zs.map (hZ ru)) [val hl,val (.lst l),val (.int t),val R,val (.lst (S.map PV.str)),Ent.own (acc.map PV.str),e6,e7]= .ret (.nx [val hl,val (.lst l),val (.int t),val R,val (.lst (S.map PV.str)),Ent.own ((acc++zs.filter (pN l t ru S)).map PV.str),e6',e7'])
 |[],acc,e6,e7,_=>⟨e6,e7,by simp[bD]⟩
 |z::zs,acc,e6,e7,hz=>by
  have tst:=IH (hl:=hl) (R:=R) (S:=S) (z:=z) (acc:=acc.map PV.str) h hn hr hu (t:=t)
  rw[N1]
  unfold bD
  have eb:de [6,7] (hZ ru z) [val hl,val (.lst l),val (.int t),val R,val (.lst (S.map PV.str)),Ent.own (acc.map PV.str),e6,e7]= .ret [val hl,val (.lst l),val (.int t),val R,val (.lst (S.map PV.str)),Ent.own (acc.map PV.str),val (.str z),val (.tup ((ru z).map Ru.pv))]:=rfl
  rw[eb,M.rZ]
  cases c:pN l t ru S z with
  |true=>
   rw[c] at tst
   obtain⟨e6',e7',ih⟩:=r9 h hn hr hu zs (acc++[z]) (val (.str z)) (val (.tup ((ru z).map Ru.pv))) (by simp at hz ⊢;lia)
   refine⟨e6',e7',?_⟩
   have cU:(acc.map PV.str).length < 100000:=by rw[NT];simp at hz;lia
   have st:Kb [val hl,val (.lst l),val (.int t),val R,val (.lst (S.map PV.str)),Ent.own (acc.map PV.str),val (.str z),val (.tup ((ru z).map Ru.pv))]= .ret (.nx [val hl,val (.lst l),val (.int t),val R,val (.lst (S.map PV.str)),Ent.own ((acc++[z]).map PV.str),val (.str z),val (.tup ((ru z).map Ru.pv))]):=by
    unfold Kb
    rw[d5 tst]
    simp only[dR,N7,N8,aL,aT,M.rZ,OG cU,Oz,N0,List.map_append,N1,List.map_nil]
   rw[st,M.rZ,List.filter_cons_of_pos c]
   refine Eq.trans ih ?_
   rw[List.append_assoc]
   rfl
  |false=>
   rw[c] at tst
   obtain⟨e6',e7',ih⟩:=r9 h hn hr hu zs acc (val (.str z)) (val (.tup ((ru z).map Ru.pv))) (by simp at hz ⊢;lia)
   refine⟨e6',e7',?_⟩
   have st:Kb [val hl,val (.lst l),val (.int t),val R,val (.lst (S.map PV.str)),Ent.own (acc.map PV.str),val (.str z),val (.tup ((ru z).map Ru.pv))]= .ret (.nx [val hl,val (.lst l),val (.int t),val R,val (.lst (S.map PV.str)),Ent.own (acc.map PV.str),val (.str z),val (.tup ((ru z).map Ru.pv))]):=by
    unfold Kb
    rw[eP tst]
   rw[st,M.rZ,List.filter_cons_of_neg (by rw[c];decide)]
   exact ih
end
def sQ:Option (List Str)→PV
 |none=>.aE
 |some b=>.lst (b.map PV.str)
def zu (f:List Str→Str→Bool) (names S:List Str):List Str:=names.filter (f S)
def J1 (f:List Str→Str→Bool) (names:List Str):Nat→Option (List Str)→List Str→Option (List Str)
 |0,_,_=>none
 |k+1,b,cur=>if b=some cur then some cur else J1 f names k (some cur) (zu f names cur)
section
variable {l:List PV} {ns:List Int} {t:Int} {ru:Str→List Ru} {hl:PV} {names:List Str}
theorem IG {R:PV} {b:Option (List Str)} {cur:List Str} {e6 e7:Ent}:MZ [val hl,val (.lst l),val (.int t),val R,val (sQ b),Ent.own (cur.map PV.str),e6,e7]= .ret (!decide (b=some cur)):=by
 unfold MZ aK
 cases b with
 |none=>
  simp only[ab,aL,aT,M.rZ,fF,N7,N8,sQ]
  rfl
 |some b=>
  simp only[ab,aL,aT,M.rZ,fF,N7,N8,sQ,EK,Option.some.injEq]
theorem uD (h:aX l ns) (hn:l.length≤1000) (hr:Reads l) (hu: ∀ z,(ru z).length≤1000) (hm:names.length < 900): ∀ (k:Nat) (b:Option (List Str)) (cur cur':List Str) (e6 e7:Ent),J1 (pN l t ru) names k b cur=some cur'→
  ∃ b' e6' e7',y6 MZ M1 k [val hl,val (.lst l),val (.int t),val (.lst (names.map (hZ ru))),val (sQ b),Ent.own (cur.map PV.str),e6,e7]= .ret (.nx [val hl,val (.lst l),val (.int t),val (.lst (names.map (hZ ru))),val b',Ent.own (cur'.map PV.str),e6',e7'])
 |0,b,cur,cur',e6,e7,h0=>by cases h0
 |k+1,b,cur,cur',e6,e7,h0=>by
  unfold J1 at h0
  rw[Gg,IG,M.rZ]
  by_cases c:b=some cur
  ·rw[OG c] at h0
   cases h0
   rw[OH (by simp[c])]
   exact⟨_,e6,e7,rfl⟩
  ·rw[OH c] at h0
   rw[OG (by simp[c])]
   obtain⟨x6,x7,lp⟩:=r9 (hl:=hl) (R:=.lst (names.map (hZ ru))) (S:=cur) (t:=t) h hn hr hu names [] e6.freeze e7.freeze (by simp;lia)
   have st:M1 [val hl,val (.lst l),val (.int t),val (.lst (names.map (hZ ru))),val (sQ b),Ent.own (cur.map PV.str),e6,e7]= .ret (.nx [val hl,val (.lst l),val (.int t),val (.lst (names.map (hZ ru))),val (sQ (some cur)),Ent.own ((zu (pN l t ru) names cur).map PV.str),x6,x7]):=by
    unfold M1 au
    have e1:CC (ax 4 (fun ρ=>aq ρ 5)) [val hl,val (.lst l),val (.int t),val (.lst (names.map (hZ ru))),val (sQ b),Ent.own (cur.map PV.str),e6,e7]= .ret (.nx [val hl,val (.lst l),val (.int t),val (.lst (names.map (hZ ru))),val (.lst (cur.map PV.str)),val (.lst (cur.map PV.str)),e6.freeze,e7.freeze]):=rfl
    rw[e1,M.rZ]
    have e2:h7 5 (fun ρ=>((fun _=>M.ret []) ρ).bind aO) [val hl,val (.lst l),val (.int t),val (.lst (names.map (hZ ru))),val (.lst (cur.map PV.str)),val (.lst (cur.map PV.str)),e6.freeze,e7.freeze]= .ret (.nx [val hl,val (.lst l),val (.int t),val (.lst (names.map (hZ ru))),val (.lst (cur.map PV.str)),Ent.own ([].map PV.str),e6.freeze,e7.freeze]):=by
     simp only[h7,M.rZ,IB]
     rfl
    show (h7 5 (fun ρ=>((fun _=>M.ret []) ρ).bind aO) [val hl,val (.lst l),val (.int t),val (.lst (names.map (hZ ru))),val (.lst (cur.map PV.str)),val (.lst (cur.map PV.str)),e6.freeze,e7.freeze]).bind _=_
    rw[e2,M.rZ]
    show aP _ _ _ _=_
    simp only[aP,aL,aT,M.rZ,aH]
    refine Eq.trans lp ?_
    rfl
   rw[st,M.rZ]
   exact uD h hn hr hu hm k (some cur) _ cur' x6 x7 h0
end
section
variable {f:List Str→Str→Bool} {names:List Str}
theorem CH {p q:Str→Bool} (h: ∀ z∈names,p z=true→q z=true):(names.filter p).Sublist (names.filter q):=by
 have:names.filter p=(names.filter q).filter p:=by
  rw[List.filter_filter]
  apply List.filter_congr
  intro z hz
  cases c:p z with
  |false=>simp
  |true=>simp[h z hz c]
 rw[this]
 exact List.filter_sublist
theorem tG (mono: ∀ S S':List Str,(∀ x∈S,x∈S')→∀ z∈names,f S z=true→f S' z=true): ∀ (k:Nat) (b:Option (List Str)) (cur:List Str),(∃ p:Str→Bool,cur=names.filter p∧∀ z∈names,p z=true→f cur z=true)→(∀ B,b=some B→cur=zu f names B)→names.length+2≤cur.length+k→
  ∃ S,J1 f names k b cur=some S∧S=zu f names S∧∀ T:Str→Prop,(∀ z∈names,∀ S':List Str,(∀ x∈S',T x)→f S' z=true→T z)→(∀ x∈cur,T x)→∀ x∈S,T x
 |0,b,cur,⟨p,hp,_⟩,_,hk=>by
  have:cur.length≤names.length:=by rw[hp];exact List.length_filter_le ..
  lia
 |k+1,b,cur,⟨p,hp,hf⟩,hb,hk=>by
  unfold J1
  by_cases c:b=some cur
  ·rw[OG c]
   exact⟨cur,rfl,hb cur c,fun T _ hc=>hc⟩
  ·rw[OH c]
   have sub:cur.Sublist (zu f names cur):=by
    unfold zu
    conv=>lhs;rw[hp]
    exact CH hf
   have up: ∀ z∈names,f cur z=true→f (zu f names cur) z=true:=mono _ _ fun x hx=>sub.subset hx
   have step: ∀ T:Str→Prop,(∀ z∈names,∀ S':List Str,(∀ x∈S',T x)→f S' z=true→T z)→(∀ x∈cur,T x)→∀ x∈zu f names cur,T x:=fun T hT hc x hx=>by
    obtain⟨h1,h2⟩:=OE.mp hx
    exact hT x h1 cur hc h2
   by_cases ce:cur.length=(zu f names cur).length
   ·have e:cur=zu f names cur:=sub.eq_of_length ce
    cases k with
    |zero=>
     have:cur.length≤names.length:=by rw[hp];exact List.length_filter_le ..
     lia
    |succ k=>
     refine⟨zu f names cur,?_,?_,step⟩
     ·unfold J1
      rw[OG (by rw[←e])]
     ·rw[←e];exact e
   ·have cU:cur.length < (zu f names cur).length:=by have:=sub.length_le;lia
    obtain⟨S,h1,h2,h3⟩:=tG mono k (some cur) (zu f names cur) ⟨f cur,rfl,up⟩ (fun B hB=>by cases hB;rfl) (by lia)
    exact⟨S,h1,h2,fun T hT hc=>h3 T hT (step T hT hc)⟩
end
theorem Cn {S S':List Str} (h: ∀ x∈S,x∈S') {o:Str} (ho:dX S o=true):dX S' o=true:=gA.mpr (h o (gA.mp ho))
theorem Ru.mono {rd:Str→Option Int} {lk:Option Int} {t:Int} {i i':Str→Bool} (h: ∀ o,i o=true→i' o=true) (r:Ru) (hr:r.hold rd lk t i=true):r.hold rd lk t i'=true:=by
 cases r with
 |xN o=>exact h o hr
 |_=>exact hr
theorem uq {l:List PV} {t:Int} {ru:Str→List Ru} {S S':List Str} (h: ∀ x∈S,x∈S') (z:Str) (hz:pN l t ru S z=true):pN l t ru S' z=true:=by
 unfold pN at hz ⊢
 exact List.all_eq_true.mpr fun r hr=>r.mono (fun o ho=>Cn h ho) (List.all_eq_true.mp hz r hr)
theorem B9 {l:List PV} {ns:List Int} {t:Int} {ru:Str→List Ru} {hm dk:PV} {ws:List (Str×List PV)} (h:aX l ns) (hn:l.length≤1000) (hr:Reads l) (hu: ∀ z,(ru z).length≤1000) (hw:ws.length < 900)
  (hru: ∀ z,bC [.lst l,.str z,.int t]= .ret (.tup ((ru z).map Ru.pv))):
  ∃ S:List Str,dC [.tup [.tup (ws.map bG),hm,dk],.lst l,.int t]= .ret (.lst (S.map PV.str))∧S=(ws.map (·.1)).filter (pN l t ru S)∧
   ∀ T:Str→Prop,(∀ z∈ws.map (·.1),∀ S':List Str,(∀ x∈S',T x)→pN l t ru S' z=true→T z)→∀ x∈S,T x:=by
 obtain⟨S,h1,h2,h3⟩:=tG (f:=pN l t ru) (names:=ws.map (·.1)) (fun S S' hs z _ hz=>uq hs z hz) 1000 none [] ⟨fun _=>false,by simp,fun z _ hz=>by cases hz⟩ (fun B hB=>by cases hB) (by simp;lia)
 refine⟨S,?_,h2,fun T hT=>h3 T hT fun x hx=>absurd hx N3⟩
 obtain⟨hl,ehl⟩: ∃ hl,hl=PV.tup [.tup (ws.map bG),hm,dk]:=⟨_,rfl⟩
 have i0:az hl (.int 0)= .ret (.tup (ws.map bG)):=by rw[ehl];simp only[az,j4,M.bO]
 rw[←ehl]
 unfold dC jM
 show (au _ _ [val hl,val (.lst l),val (.int t),un,un,un,un,un]).bind bu=_
 have hlen:(ws.map bG).length≤100000:=by rw[NT];lia
 refine aw (ρ':=[val hl,val (.lst l),val (.int t),val (.lst ((ws.map (fun p:Str×List PV=>p.1)).map (hZ ru))),un,un,un,un]) ?_ ?_
 ·have ec:c9 [none,some 1,some 2] [val hl,val (.lst l),val (.int t),un,un,un,un,un]=[un,val (.lst l),val (.int t)]:=rfl
  have q:=kA (m:=bG) (k:=0) (tt:=cF) (te:=fun ρ=>((aa (ab az (fun ρ=>aq ρ 0) (fun _=>M.ret (.int 0))) (aa (fun ρ=>((aa (fun ρ=>aq ρ 1) (aa (ab az (fun ρ=>aq ρ 0) (fun _=>M.ret (.int 0))) (aa (fun ρ=>aq ρ 2) (fun _=>M.ret [])))) ρ).bind bC) (fun _=>M.ret []))) ρ).bind aS) (p:=fun _=>true) (g:=fun p=>hZ ru p.1) (ρ:=[un,val (.lst l),val (.int t)]) ws [un,val (.lst l),val (.int t)] (fun _=>rfl) (fun _ _=>rfl) (fun p _ _=>by
   simp only[aa,ab,N0,aL,aT,M.rZ,az,j4,M.bO,hru,Iz,hZ])
  have hf:ws.filter (fun _=>true)=ws:=by simp
  unfold ax aG bf
  dsimp only
  rw[show (ab az (fun ρ=>aq ρ 0) (fun _=>M.ret (.int 0))) [val hl,val (.lst l),val (.int t),un,un,un,un,un]= .ret (.tup (ws.map bG)) by simp only[ab,aL,M.rZ,i0]]
  simp only[M.rZ,aH,OG hlen,ec]
  rw[q,hf,List.map_map]
  rfl
 refine aw (ρ':=[val hl,val (.lst l),val (.int t),val (.lst ((ws.map (fun p:Str×List PV=>p.1)).map (hZ ru))),val (sQ none),un,un,un]) rfl ?_
 refine aw (ρ':=[val hl,val (.lst l),val (.int t),val (.lst ((ws.map (fun p:Str×List PV=>p.1)).map (hZ ru))),val (sQ none),Ent.own (([]:List Str).map PV.str),un,un]) (by simp only[h7,M.rZ,IB];rfl) ?_
 obtain⟨b',e6',e7',w⟩:=uD (hl:=hl) (t:=t) h hn hr hu (by rw[NT];exact hw) 1000 none [] S un un h1
 refine aw (ρ':=[val hl,val (.lst l),val (.int t),val (.lst ((ws.map (fun p:Str×List PV=>p.1)).map (hZ ru))),val b',Ent.own (S.map PV.str),e6',e7']) w ?_
 exact bA (aU rfl)
theorem rM {ot:Str×List PV→Option (List Str)}: ∀ {ws:List (Str×List PV)} {p:Str×List PV} {os:List Str},(ws.map (·.1)).Nodup→p∈ws→ot p=some os→ug (df ot ws) p.1=os
 |w::ws,p,os,nd,hp,ho=>by
  rw[N1,List.nodup_cons] at nd
  rcases N2.mp hp with rfl|hp
  ·unfold ug df
   simp[ho]
  ·have bP:w.1≠p.1:=fun z=>nd.1 (z▸Oq hp)
   have ih:=rM (ot:=ot) nd.2 hp ho
   unfold ug df at ih ⊢
   cases c:ot w with
   |none=>simp only[List.filterMap_cons,c,Option.map_none];exact ih
   |some os'=>
    simp only[List.filterMap_cons,c,Option.map_some,List.find?_cons,Oh bP]
    exact ih
theorem FL {ot:Str×List PV→Option (List Str)} {ws:List (Str×List PV)} {z:Str}:(∃ a∈df ot ws,a.1=z)→∃ p∈ws,p.1=z∧∃ os,ot p=some os:=by
 rintro⟨a,ha,rfl⟩
 unfold df at ha
 obtain⟨p,hp,e⟩:=List.mem_filterMap.mp ha
 obtain⟨os,ho,rfl⟩:=Og.mp e
 exact⟨p,hp,rfl,os,ho⟩
theorem ER {ot:Str×List PV→Option (List Str)} {ws:List (Str×List PV)} {p:Str×List PV} {os:List Str} (hp:p∈ws) (ho:ot p=some os): ∃ a∈df ot ws,a.1=p.1:=
 ⟨(p.1,os),List.mem_filterMap.mpr ⟨p,hp,by rw[ho];rfl⟩,rfl⟩
theorem Io {rd:Str→Option Int} {lk:Option Int} {t:Int} {i:Str→Bool} {rs:List Ru}:(rs.all fun r=>r.hold rd lk t i)=true↔∃ os,xw (fun r=>r.hold rd lk t fun _=>false) rs=some os∧∀ o∈os,i o=true:=by
 have key: ∀ r:Ru,r.yC=false→r.hold rd lk t i=r.hold rd lk t fun _=>false:=fun r hr=>by
  cases r<;>first|rfl|cases hr
 unfold xw
 constructor
 ·intro h
  have h1:((rs.filter fun r=>!r.yC).all fun r=>r.hold rd lk t fun _=>false)=true:=List.all_eq_true.mpr fun r hr=>by
   obtain⟨h2,h3⟩:=OE.mp hr
   rw[←key r (by simpa using h3)]
   exact List.all_eq_true.mp h r h2
  refine⟨_,by rw[OG h1],fun o ho=>?_⟩
  obtain⟨r,hr,rfl⟩:=N4.mp ho
  obtain⟨h2,h3⟩:=OE.mp hr
  have:=List.all_eq_true.mp h r h2
  cases r<;>first|exact this|cases h3
 ·rintro⟨os,h,ho⟩
  by_cases c:((rs.filter fun r=>!r.yC).all fun r=>r.hold rd lk t fun _=>false)=true
  ·rw[OG c] at h
   cases h
   refine List.all_eq_true.mpr fun r hr=>?_
   cases cw:r.yC with
   |true=>
    have:=ho r.h8 (Oq (OE.mpr ⟨hr,cw⟩))
    cases r<;>first|exact this|cases cw
   |false=>
    show r.hold rd lk t i=true
    rw[key r cw]
    exact List.all_eq_true.mp c r (OE.mpr ⟨hr,by simp[cw]⟩)
  ·rw[OH c] at h;cases h
section
variable {l:List PV} {ns:List Int} {t:Int} {ru:Str→List Ru} {hm dk:PV} {ws:List (Str×List PV)}
theorem zy (h:aX l ns) (hr:Reads l) (hu: ∀ z,(ru z).length≤1000) (hw:ws.length≤90) (nd:(ws.map (·.1)).Nodup)
  (hk: ∀ p∈ws,∃ kd q,p.2= .str kd::q∧((kd==("slope":Str))=false→ff l t p.1=none))
  (hru: ∀ z,bL [.tup (aM l),.str z,.int t]= .ret (.tup ((ru z).map Ru.pv)))
  {S:List Str} (hS:S=(ws.map (·.1)).filter (pN l t ru S)) (hT: ∀ T:Str→Prop,(∀ z∈ws.map (·.1),∀ S':List Str,(∀ x∈S',T x)→pN l t ru S' z=true→T z)→∀ x∈S,T x):
  cy [.tup [.tup (ws.map bG),hm,dk],.tup (aM l),.int t]= .ret (.tup (S.map PV.str)):=by
 obtain⟨ot,hot⟩: ∃ ot:Str×List PV→Option (List Str),ot=fun p=>xw (fun r=>r.hold (iG l t) (ff l t p.1) t fun _=>false) (ru p.1):=⟨_,rfl⟩
 have asked: ∀ p∈ws,bc [.tup (aM l),bG p,.int t]= .ret (vm (ot p)):=fun p hp=>by
  obtain⟨kd,q,e,hs⟩:=hk p hp
  rw[hot]
  show bc [.tup (aM l),.tup (.str p.1::p.2),.int t]=_
  rw[e]
  exact xu (hu p.1) (hru p.1) fun u _ _=>vp h hr hs u
 have hlen: ∀ a∈df ot ws,a.2.length≤1000:=fun a ha=>by
  unfold df at ha
  obtain⟨p,hp,e⟩:=List.mem_filterMap.mp ha
  obtain⟨os,ho,rfl⟩:=Og.mp e
  rw[hot] at ho
  unfold xw at ho
  dsimp only at ho ⊢
  split at ho
  ·cases ho
   rw[NT]
   exact Od (List.length_filter_le ..) (hu p.1)
  ·cases ho
 have hA:(df ot ws).length≤90:=Od (List.length_filterMap_le _ _) hw
 obtain⟨xs,_,hwh,hclo,hleast⟩:=zY hlen hA
 rw[Ew asked nd hw hlen hwh]
 have okI: ∀ (p:Str×List PV) (S':List Str),pN l t ru S' p.1=true↔∃ os,ot p=some os∧∀ o∈os,o∈S':=fun p S'=>by
  unfold pN
  rw[Io,hot]
  simp only[gA]
 have s1: ∀ x∈xs,x∈S:=hleast (·∈S) fun x hx ho=>by
  obtain⟨p,hp,rfl,os,e⟩:=FL hx
  rw[rM nd hp e] at ho
  rw[hS]
  exact OE.mpr ⟨Oq hp,(okI p S).mpr ⟨os,e,ho⟩⟩
 have s2: ∀ x∈S,x∈xs:=hT (·∈xs) fun z hz S' hS' a7=>by
  obtain⟨p,hp,rfl⟩:=N4.mp hz
  obtain⟨os,e,ho⟩:=(okI p S').mp a7
  exact hclo p.1 (ER hp e) (by rw[rM nd hp e];exact fun o h'=>hS' o (ho o h'))
 have e:(ws.map (·.1)).filter (gC (pS xs))=S:=by
  conv=>rhs;rw[hS]
  apply List.filter_congr
  intro z hz
  rw[uN]
  have:z∈S↔pN l t ru S z=true:=by
   conv=>lhs;rw[hS]
   rw[OE]
   exact⟨fun h=>h.2,fun h=>⟨hz,h⟩⟩
  cases c:pN l t ru S z with
  |true=>simp[s2 z (this.mpr c)]
  |false=>
   have:z∉xs:=fun h=>by have:=this.mp (s1 z h);rw[c] at this;cases this
   simp[this]
 rw[e]
end
def DF (j:Nat):List Ru→List PV
 |[]=>[]
 |r::rs=>.tup [.int j,r.pv]::DF (j+1) rs
theorem CS: ∀ (rs:List Ru) (j:Nat),(rs.map Ru.pv).mapIdx (fun i x=>PV.tup [.int ((i+j:Nat):Int),x])=DF j rs
 |[],j=>rfl
 |r::rs,j=>by
  rw[N1,List.mapIdx_cons]
  unfold DF
  have e:(0+j:Nat)=j:=by lia
  rw[e,←CS rs (j+1)]
  congr 1
  congr 1
  funext i x
  have:(i+1+j:Nat)=i+(j+1):=by lia
  rw[this]
theorem oz (rs:List Ru):l7 (rs.map Ru.pv)=DF 0 rs:=by
 rw[←CS rs 0]
 rfl
def bad (g:Ru→Bool) (j:Nat):List Ru→PV
 |[]=>.aE
 |r::rs=>if g r=true then bad g (j+1) rs else .int j
def Kt:ae→M PV:=(o6 (aK (ab (cC false) (ab az (fun ρ=>aq ρ 7) (fun _=>M.ret (.int 0))) (fun _=>M.ret (.str "with")))) (ab (o5 false) (ab az (fun ρ=>aq ρ 7) (fun _=>M.ret (.int 1))) (fun ρ=>aq ρ 5)) (fun ρ=>((aa (fun ρ=>aq ρ 1) (aa (fun ρ=>aq ρ 4) (aa (fun ρ=>aq ρ 7) (aa (fun ρ=>aq ρ 3) (fun _=>M.ret []))))) ρ).bind aF))
def G8:ae→M Fl:=(au (ax 8 Kt) (dO (pP (aK (fun ρ=>aq ρ 8))) (aV (fun ρ=>aq ρ 6)) (fun ρ=>M.ret (.nx ρ))))
section
variable {B hl z wy tv:PV} {S:List Str} {g:Ru→Bool}
theorem xK {h0:Ent}: ∀ (rs:List Ru) (j:Nat) (e6 e7 e8:Ent),(∀ r∈rs,∀ (i:Int) (e8:Ent),Kt [val hl,val B,val z,val tv,val wy,val (.tup (S.map PV.str)),val (.int i),val r.pv,e8]= .ret (.bl (g r)))→
  ∃ e6' e7' e8',bD (de [6,7]) G8 (DF j rs) [val hl,val B,val z,val tv,val wy,val (.tup (S.map PV.str)),e6,e7,e8]=(match bad g j rs with| .aE=>.ret (.nx [val hl,val B,val z,val tv,val wy,val (.tup (S.map PV.str)),e6',e7',e8'])|y=>.ret (.rt y))
 |[],j,e6,e7,e8,_=>⟨e6,e7,e8,rfl⟩
 |r::rs,j,e6,e7,e8,h=>by
  obtain⟨e6',e7',e8',ih⟩:=xK (h0:=h0) rs (j+1) (val (.int j)) (val r.pv) (val (.bl true)) fun r' hr'=>h r' (NV _ hr')
  refine⟨e6',e7',e8',?_⟩
  have eb:de [6,7] (.tup [.int j,r.pv]) [val hl,val B,val z,val tv,val wy,val (.tup (S.map PV.str)),e6,e7,e8]= .ret [val hl,val B,val z,val tv,val wy,val (.tup (S.map PV.str)),val (.int j),val r.pv,e8]:=rfl
  have t:=h r NS j e8
  unfold DF bD
  rw[eb,M.rZ]
  unfold bad
  cases c:g r with
  |true=>
   rw[c] at t
   have st:G8 [val hl,val B,val z,val tv,val wy,val (.tup (S.map PV.str)),val (.int j),val r.pv,e8]= .ret (.nx [val hl,val B,val z,val tv,val wy,val (.tup (S.map PV.str)),val (.int j),val r.pv,val (.bl true)]):=by
    unfold G8 au ax
    rw[t]
    rfl
   rw[st,M.rZ,OG rfl]
   exact ih
  |false=>
   rw[c] at t
   have st:G8 [val hl,val B,val z,val tv,val wy,val (.tup (S.map PV.str)),val (.int j),val r.pv,e8]= .ret (.rt (.int j)):=by
    unfold G8 au ax
    rw[t]
    rfl
   rw[st,M.rZ,OH (by decide)]
end
theorem sR {g:Ru→Bool}: ∀ (rs:List Ru) (j:Nat),(bad g j rs= .aE∧rs.all g=true)∨∃ i:Nat,bad g j rs= .int i∧rs.all g=false
 |[],j=>.inl ⟨rfl,rfl⟩
 |r::rs,j=>by
  unfold bad
  cases c:g r with
  |true=>
   rw[OG rfl]
   rcases sR rs (j+1) with⟨h1,h2⟩|⟨i,h1,h2⟩
   ·exact .inl ⟨h1,by simp[c,h2]⟩
   ·exact .inr ⟨i,h1,by simp[c,h2]⟩
  |false=>
   rw[OH (by decide)]
   exact .inr ⟨j,rfl,by simp[c]⟩
theorem zT (x:Str) (zs:List Str) (b:Bool):o5 b (.str x) (.tup (zs.map PV.str))= .ret (.bl (xor b (dX zs x))):=by
 have e:mB (.str x) (zs.map PV.str)=dX zs x:=by
  unfold mB dX
  rw[List.any_map]
  rfl
 unfold o5
 dsimp only
 rw[qD,e]
 simp[aQ,toV,cE]
theorem nJ {hl:PV}: ∀ (ws:List (Str×List PV)) (p:Str×List PV) (e2:Ent),(ws.map (·.1)).Nodup→p∈ws→
  bD (aA 2) (dO (aK (ab (cC false) (ab az (fun ρ=>aq ρ 2) (fun _=>M.ret (.int 0))) (fun ρ=>aq ρ 1))) (aV (fun ρ=>aq ρ 2)) (fun ρ=>M.ret (.nx ρ))) (ws.map bG) [val hl,val (.str p.1),e2]= .ret (.rt (bG p))
 |w::ws,p,e2,nd,hp=>by
  rw[N1,List.nodup_cons] at nd
  rw[N1]
  unfold bD
  simp only[aA,M.rZ,Oz,N0]
  rcases N2.mp hp with rfl|hp
  ·rw[d5 (by simp only[aK,ab,aL,aT,M.rZ,az,j4,M.bO,wU,beq_self_eq_true]),aU (y:=bG p) rfl]
   rfl
  ·have bP:(w.1==p.1)=false:=by
    simp only[beq_eq_false_iff_ne]
    exact fun z=>nd.1 (z▸Oq hp)
   rw[eP (by simp only[aK,ab,aL,aT,M.rZ,az,j4,M.bO,wU,bP]),M.rZ]
   exact nJ ws p _ nd.2 hp
theorem B4 {hm dk:PV} {ws:List (Str×List PV)} {p:Str×List PV} (nd:(ws.map (·.1)).Nodup) (hp:p∈ws):fA [.tup [.tup (ws.map bG),hm,dk],.str p.1]= .ret (bG p):=by
 obtain⟨hl,ehl⟩: ∃ hl,hl=PV.tup [.tup (ws.map bG),hm,dk]:=⟨_,rfl⟩
 have i0:az hl (.int 0)= .ret (.tup (ws.map bG)):=by rw[ehl];simp only[az,j4,M.bO]
 rw[←ehl]
 unfold fA iM
 show (au _ _ [val hl,val (.str p.1),un]).bind bu=_
 refine cW ?_
 simp only[aP,ab,aL,M.rZ,i0,aH]
 exact nJ ws p un nd hp
section
variable {l:List PV} {ns:List Int} {t:Int} {ru:Str→List Ru} {hm dk:PV} {ws:List (Str×List PV)}
theorem G7 {hl:PV} {z kd:Str} {q:List PV} {S:List Str} {i:Int} {e8:Ent} (h:aX l ns) (hr:Reads l) (hs:(kd==("slope":Str))=false→ff l t z=none) (r:Ru):
  Kt [val hl,val (.tup (aM l)),val (.str z),val (.int t),val (.tup (.str z::.str kd::q)),val (.tup (S.map PV.str)),val (.int i),val r.pv,e8]= .ret (.bl (r.hold (iG l t) (ff l t z) t (dX S))):=by
 cases c:r.yC with
 |true=>
  cases r with
  |xN o=>
   unfold Kt
   rw[Co rfl]
   show o5 false (.str o) (.tup (S.map PV.str))=_
   rw[zT]
   simp[Ru.hold]
  |_=>cases c
 |false=>
  have al:=vp (q:=q) h hr hs r
  have key:r.hold (iG l t) (ff l t z) t (fun _=>false)=r.hold (iG l t) (ff l t z) t (dX S):=by cases r<;>first|rfl|cases c
  rw[key] at al
  obtain⟨w,q',e,hw⟩:=r.head
  unfold Kt
  rw[yH (by rw[e];simp only[aK,ab,aL,aT,M.rZ,az,j4,M.bO,wU,hw,c])]
  simp only[aa,aL,aT,M.rZ]
  exact al
theorem Hb {p:Str×List PV} {S:List Str} {kd:Str} {q:List PV} (h:aX l ns) (hr:Reads l) (nd:(ws.map (·.1)).Nodup) (hp:p∈ws) (e2:p.2= .str kd::q) (hs:(kd==("slope":Str))=false→ff l t p.1=none)
  (ho:cy [.tup [.tup (ws.map bG),hm,dk],.tup (aM l),.int t]= .ret (.tup (S.map PV.str))) (hru:bL [.tup (aM l),.str p.1,.int t]= .ret (.tup ((ru p.1).map Ru.pv))):
  bF [.tup [.tup (ws.map bG),hm,dk],.tup (aM l),.str p.1,.int t]= .ret (bad (fun r=>r.hold (iG l t) (ff l t p.1) t (dX S)) 0 (ru p.1)):=by
 have nm:=B4 (hm:=hm) (dk:=dk) nd hp
 obtain⟨hl,ehl⟩: ∃ hl,hl=PV.tup [.tup (ws.map bG),hm,dk]:=⟨_,rfl⟩
 rw[←ehl] at nm ho ⊢
 unfold bF jI
 show (au _ _ [val hl,val (.tup (aM l)),val (.str p.1),val (.int t),un,un,un,un,un]).bind bu=_
 refine aw (ρ':=[val hl,val (.tup (aM l)),val (.str p.1),val (.int t),val (bG p),un,un,un,un]) ?_ ?_
 ·simp only[ax,aa,aL,aT,M.rZ,nm]
  rfl
 refine aw (ρ':=[val hl,val (.tup (aM l)),val (.str p.1),val (.int t),val (bG p),val (.tup (S.map PV.str)),un,un,un]) ?_ ?_
 ·simp only[ax,aa,aL,aT,M.rZ,ho]
  rfl
 have ew:bG p= .tup (.str p.1::.str kd::q):=by show PV.tup (.str p.1::p.2)=_;rw[e2]
 rw[ew]
 obtain⟨e6,e7,e8,lp⟩:=xK (h0:=un) (hl:=hl) (B:=.tup (aM l)) (z:=.str p.1) (wy:=.tup (.str p.1::.str kd::q)) (tv:=.int t) (S:=S) (g:=fun r=>r.hold (iG l t) (ff l t p.1) t (dX S)) (ru p.1) 0 un un un (fun r _ i e8=>G7 h hr hs r)
 have lp': ∀ Y:M Fl,bD (de [6,7]) G8 (DF 0 (ru p.1)) [val hl,val (.tup (aM l)),val (.str p.1),val (.int t),val (.tup (.str p.1::.str kd::q)),val (.tup (S.map PV.str)),un,un,un]=Y→aP (fun ρ=>((aa (fun ρ=>((aa (fun ρ=>aq ρ 1) (aa (fun ρ=>aq ρ 2) (aa (fun ρ=>aq ρ 3) (fun _=>M.ret [])))) ρ).bind bL) (fun _=>M.ret [])) ρ).bind sA) (de [6,7]) G8 [val hl,val (.tup (aM l)),val (.str p.1),val (.int t),val (.tup (.str p.1::.str kd::q)),val (.tup (S.map PV.str)),un,un,un]=Y:=fun Y hY=>by
  simp only[aP,aa,aL,aT,M.rZ,hru,sA,oz]
  exact hY
 rcases sR (g:=fun r=>r.hold (iG l t) (ff l t p.1) t (dX S)) (ru p.1) 0 with⟨hb,_⟩|⟨i,hb,_⟩
 ·rw[hb] at lp ⊢
  exact aw (lp' _ lp) (bA (aU rfl))
 ·rw[hb] at lp ⊢
  exact cW (lp' _ lp)
end
theorem GJ {k:Nat} {mb:ae→M Fl} {c:Nat} {Iv:Nat→ae→Prop}: ∀ (l:List PV) (i:Nat) (ρ:ae),Iv i ρ→(∀ j y,l[j]?=some y→∀ ρ,Iv (i+j) ρ→Gen (mb (ρ.set k (.val y))) c fun f=> ∃ ρ',f= .nx ρ'∧Iv (i+j+1) ρ')→Gen (bD (aA k) mb l ρ) (l.length * c) fun f=> ∃ ρ',f= .nx ρ'∧Iv (i+l.length) ρ'
 |[],i,ρ,h,_=>Gen.le (Gen.eq rfl ⟨ρ,rfl,h⟩) (Ol _)
 |y::l,i,ρ,h,hs=>by
  unfold bD
  simp only[aA,M.rZ]
  refine Gen.le (Gen.bind (hs 0 y rfl ρ h) (d:=l.length * c) ?_) (by rw[N5,Nat.add_mul];lia)
  rintro _ ⟨ρ',rfl,h'⟩
  have:=GJ (k:=k) (mb:=mb) (c:=c) (Iv:=Iv) l (i+1) ρ' h' fun j z hj ρ hi=>by
   have e:i+1+j=i+(j+1):=by lia
   rw[e] at hi ⊢
   exact hs (j+1) z hj ρ hi
  have e:i+1+l.length=i+(y::l).length:=by simp only[N5];lia
  rw[e] at this
  exact this
def fz (h:PV) (ws:List (Str×List PV)) (aC:Int):Prop:= ∃ hm,h= .tup [.tup (ws.map fun p=>.tup (.str p.1::p.2)),hm,.int aC]∧0 < ws.length∧ws.length≤12∧(∀ p∈ws,Wd p.1∧∃ (k:Str) (r:List PV),p.2= .str k::r)∧1≤aC∧aC≤1000000∧(ws.map (·.1)).Nodup
theorem sr {l:List PV} {n:Int} (hn:(l.length:Int)=n) (h0:0 < l.length) (h1:l.length < 1000):Gen ((l8 [.br,.int n]).bind fun i=>az (.lst l) i) 1 (fun y=>y∈l):=IZ hn h0 h1
theorem Cy {most sc:Int} (m0:1≤most) (m1:most≤12) (s0:1≤sc) (s1:sc≤33333):Gen (gX [.br,.int most,.int sc]) 300 (fun h=> ∃ ws aC,fz h ws aC):=by
 unfold gX jN
 show Gen ((au _ _ [val .br,val (.int most),val (.int sc),un,un,un,un,un,un]).bind bu) 300 _
 refine Gen.le (cq (c:=1+5 * 9) (d:=200) (I:=fun ρ=> ∃ sp:List Str,2≤sp.length∧sp.length≤5∧ρ=[val .br,val (.int most),val (.int sc),val (.lst (sp.map PV.str)),un,un,un,un,un]) ?_ ?_) (by decide)
 ·simp only[ax,ab,aa,aL,aT,M.rZ,af,M.bZ]
  refine Gen.le (Gen.bind (Gen.draw (by lia) (by lia)) (d:=5 * 9) ?_) (by decide)
  rintro _ ⟨d,rfl,d0,d1⟩
  have ea:cu (.int 2) (.int d)= .ret (.int (2+d)):=rfl
  simp only[ea,M.rZ]
  refine Gen.le (Gen.bind (lF (k:=2+d) (by lia) (by lia)) (d:=0) ?_) (by lia)
  rintro _ ⟨sp,rfl,hl,_⟩
  exact Gen.eq (y:=.nx _) rfl ⟨_,rfl,sp,by lia,by lia,rfl⟩
 rintro _ ⟨sp,p0,p1,rfl⟩
 refine Gen.le (cq (c:=1+12 * 9) (d:=90) (I:=fun ρ=> ∃ nm:List Str,1≤nm.length∧nm.length≤12∧((∀ z∈nm,Wd z)∧nm.Nodup)∧ρ=[val .br,val (.int most),val (.int sc),val (.lst (sp.map PV.str)),val (.lst (nm.map PV.str)),un,un,un,un]) ?_ ?_) (by decide)
 ·simp only[ax,ab,aa,aL,aT,M.rZ,af,M.bZ]
  refine Gen.le (Gen.bind (Gen.draw (by lia) (by lia)) (d:=12 * 9) ?_) (by decide)
  rintro _ ⟨d,rfl,d0,d1⟩
  have ea:cu (.int 1) (.int d)= .ret (.int (1+d)):=rfl
  simp only[ea,M.rZ]
  refine Gen.le (Gen.bind (lF (k:=1+d) (by lia) (by lia)) (d:=0) ?_) (by lia)
  rintro _ ⟨nm,rfl,hl,hw⟩
  exact Gen.eq (y:=.nx _) rfl ⟨_,rfl,nm,by lia,by lia,hw,rfl⟩
 rintro _ ⟨nm,n0,n1,nw,rfl⟩
 refine Gen.le (cq (c:=0) (d:=90) (I:=fun ρ=>ρ=[val .br,val (.int most),val (.int sc),val (.lst (sp.map PV.str)),val (.lst (nm.map PV.str)),Ent.own [],un,un,un]) (Cu (by simp[h7,aO]) rfl) ?_) (by decide)
 rintro _ rfl
 refine Gen.le (cq (c:=12 * 5) (d:=2) (I:=fun ρ=> ∃ (ws:List (Str×List PV)) (e6 e7 e8:Ent),ws.length=nm.length∧ws.map (·.1)=nm∧(∀ p∈ws,Wd p.1∧∃ (k:Str) (r:List PV),p.2= .str k::r)∧ρ=[val .br,val (.int most),val (.int sc),val (.lst (sp.map PV.str)),val (.lst (nm.map PV.str)),Ent.own (ws.map fun p=>.tup (.str p.1::p.2)),e6,e7,e8]) ?_ ?_) (by decide)
 ·simp only[aP,aL,aT,M.rZ,aH]
  refine Gen.mono (GJ (k:=6) (c:=5) (Iv:=fun i ρ=> ∃ (ws:List (Str×List PV)) (e6 e7 e8:Ent),ws.length=i∧ws.map (·.1)=nm.take i∧(∀ p∈ws,Wd p.1∧∃ (k:Str) (r:List PV),p.2= .str k::r)∧ρ=[val .br,val (.int most),val (.int sc),val (.lst (sp.map PV.str)),val (.lst (nm.map PV.str)),Ent.own (ws.map fun p=>.tup (.str p.1::p.2)),e6,e7,e8]) (nm.map PV.str) 0 _ ⟨[],_,_,_,rfl,rfl,fun p hp=>absurd hp N3,rfl⟩ ?_) (by rw[NT];lia) ?_
  rotate_left
  ·rintro f ⟨ρ',rfl,ws,e6,e7,e8,hn,ht,hw,rfl⟩
   rw[NT,Nat.zero_add] at hn ht
   rw[List.take_length] at ht
   exact⟨_,rfl,ws,e6,e7,e8,hn,ht,hw,rfl⟩
  ·rintro j y hy _ ⟨ws,e6,e7,e8,hn,ht,hw,rfl⟩
   rw[Nat.zero_add] at hn ht
   rw[Oc] at hy
   obtain⟨z,hzj,rfl⟩:=Og.mp hy
   have hz:z∈nm:=List.mem_of_getElem? hzj
   have hj:j < nm.length:=(NY.mp hzj).1
   show Gen (au _ _ [val .br,val (.int most),val (.int sc),val (.lst (sp.map PV.str)),val (.lst (nm.map PV.str)),Ent.own (ws.map fun p=>.tup (.str p.1::p.2)),val (.str z),e7,e8]) 5 _
   refine Gen.le (lE (c:=1) (d:=4) (I:=fun ρ=> ∃ kd:Str,ρ=[val .br,val (.int most),val (.int sc),val (.lst (sp.map PV.str)),val (.lst (nm.map PV.str)),Ent.own (ws.map fun p=>.tup (.str p.1::p.2)),val (.str z),val (.str kd),e8]) ?_ ?_) (by decide)
   ·simp only[ax,ab,aG,aa,aL,aT,M.rZ,IA,af,M.bZ]
    refine Gen.le (Gen.bind (Gen.draw (by lia) (by lia)) (d:=0) ?_) (by decide)
    rintro _ ⟨d,rfl,d0,d1⟩
    obtain⟨v,hv,e⟩:=eV (l:=[PV.str "slope",PV.str "slope",PV.str "lift",PV.str "path"]) d0 d1
    obtain⟨kd,rfl⟩: ∃ kd:Str,v= .str kd:=by
     simp only[N2,N3,or_false] at hv
     rcases hv with rfl|rfl|rfl|rfl<;>exact⟨_,rfl⟩
    exact Gen.eq (y:=.nx _) (by simp only[az,e,M.bO,M.rZ];rfl) ⟨_,rfl,kd,rfl⟩
   rintro _ ⟨kd,rfl⟩
   refine Gen.le (lE (c:=2) (d:=2) (I:=fun ρ=> ∃ a b:PV,ρ=[val .br,val (.int most),val (.int sc),val (.lst (sp.map PV.str)),val (.lst (nm.map PV.str)),Ent.own (ws.map fun p=>.tup (.str p.1::p.2)),val (.str z),val (.str kd),val (.lst [a,b])]) ?_ ?_) (by decide)
   ·have er:bN [.int 2]= .ret [.int 0,.int 1]:=rfl
    have ec:c9 [none,some 3,some 0] [val .br,val (.int most),val (.int sc),val (.lst (sp.map PV.str)),val (.lst (nm.map PV.str)),Ent.own (ws.map fun p=>.tup (.str p.1::p.2)),val (.str z),val (.str kd),e8]=[un,val (.lst (sp.map PV.str)),val .br]:=rfl
    unfold ax aG bf
    simp only[aa,aL,aT,M.rZ,er,ec,M.bZ]
    rw[OG (by decide)]
    refine Gen.le (Gen.bind (Gen.lc (ρ:=[un,val (.lst (sp.map PV.str)),val .br]) (c:=1) (Pr:=fun _=>True) _ _ (fun _=>rfl) (fun y hy=>?_)) (d:=0) ?_) (by decide)
    ·simp only[N0,ab,aL,aT,M.rZ,dA,af,NT]
     refine Gen.mono (sr (l:=sp.map PV.str) (by rw[NT]) (by rw[NT];lia) (by rw[NT];lia)) (NZ _) fun _ _=>trivial
    ·rintro us ⟨z1,_⟩
     match us,z1 with
     |[a,b],_=>exact Gen.eq (y:=.nx _) rfl ⟨_,rfl,a,b,rfl⟩
   rintro _ ⟨a,b,rfl⟩
   have i0:az (.lst [a,b]) (.int 0)= .ret a:=rfl
   have i1:az (.lst [a,b]) (.int 1)= .ret b:=rfl
   have hl:(ws.map fun p=>PV.tup (.str p.1::p.2)).length < 100000:=by rw[NT];lia
   simp only[dR,N7,N8,aa,ab,aL,aT,M.rZ,i0,i1,af,M.bZ]
   refine Gen.le (Gen.bind (Gen.draw (by lia) (by lia)) (d:=1) ?_) (by decide)
   rintro _ ⟨u,rfl,u0,u1⟩
   rw[ux (by lia) (by lia)]
   simp only[M.rZ]
   refine Gen.le (Gen.bind (Gen.draw (by lia) (by lia)) (d:=0) ?_) (by decide)
   rintro _ ⟨v,rfl,v0,v1⟩
   rw[ux (by lia) (by lia)]
   refine Gen.eq (y:=.nx _) (by simp only[M.rZ,MW,OG hl];rfl) ⟨_,rfl,ws++[(z,[.str kd,a,b,.int (sc * u),.int (sc * v)])],_,_,_,by simp[hn],by rw[List.map_append,ht,Nat.zero_add,List.take_succ,hzj];rfl,fun p hp=>?_,by rw[List.map_append];rfl⟩
   rcases OF.mp hp with hp|hp
   ·exact hw p hp
   ·rw[Om.mp hp]
    exact⟨nw.1 z hz,kd,_,rfl⟩
 rintro _ ⟨ws,e6,e7,e8,hn,ht,hw,rfl⟩
 simp only[aV,N1,List.map_nil,Ent.freeze,aa,ab,aL,aT,M.rZ,mW,dA,af,NT,M.bZ]
 refine Gen.le (Gen.bind (Gen.draw (by lia) (by lia)) (d:=1) ?_) (by decide)
 rintro _ ⟨d,rfl,d0,d1⟩
 obtain⟨hm,_,e⟩:=eV (l:=sp.map PV.str) d0 (by rw[NT];exact d1)
 simp only[az,e,M.bO,M.rZ]
 refine Gen.le (Gen.bind (Gen.draw (by lia) (by lia)) (d:=0) ?_) (by decide)
 rintro _ ⟨g,rfl,g0,g1⟩
 have ea:cu (.int 1) (.int g)= .ret (.int (1+g)):=rfl
 have hp:0 < sc * (1+g):=Int.mul_pos (by lia) (by lia)
 have hq:sc * (1+g)≤33333 * 30:=Int.mul_le_mul s1 (by lia) (by lia) (by lia)
 rw[ea]
 simp only[M.rZ]
 rw[ux (by lia) (by lia)]
 exact Gen.eq (y:=.tup [.tup (ws.map fun p=>.tup (.str p.1::p.2)),hm,.int (sc * (1+g))]) (by simp only[M.rZ,uz];rfl) ⟨ws,_,hm,rfl,by lia,by lia,hw,by lia,by lia,by rw[ht];exact nw.2⟩
theorem gB {h:PV} {ws:List (Str×List PV)} {aC:Int} (H:fz h ws aC):az h (.int 0)= .ret (.tup (ws.map fun p=>.tup (.str p.1::p.2)))∧az h (.int 2)= .ret (.int aC):=by
 obtain⟨hm,rfl,_⟩:=H
 exact⟨rfl,rfl⟩
theorem wN {h:PV} {ws:List (Str×List PV)} {aC sc:Int} (H:fz h ws aC) (s0:1≤sc) (s1:sc≤33333):Gen (dn [.br,h,.int sc]) 2 (fun y=> ∃ i:Int,y= .int i∧0≤i∧i≤1000000):=by
 obtain⟨_,h2⟩:=gB H
 obtain⟨_,_,_,_,_,k0,k1⟩:=H
 unfold dn gs
 show Gen ((aV _ [val .br,val h,val (.int sc)]).bind bu) 2 _
 have en:nH (.int 1)= .ret (.int (-1)):=rfl
 simp only[aV,N1,List.map_nil,Ent.freeze,ab,aG,aa,aL,aT,M.rZ,h2,en,IA,af,M.bZ]
 refine Gen.le (Gen.bind (Gen.draw (by lia) (by lia)) (d:=1) ?_) (by decide)
 rintro _ ⟨d,rfl,d0,d1⟩
 rw[ux (by lia) (by lia)]
 simp only[M.rZ]
 refine Gen.le (Gen.bind (Gen.draw (by lia) (by lia)) (d:=0) ?_) (by decide)
 rintro _ ⟨g,rfl,g0,g1⟩
 obtain⟨y,hy,e⟩:=eV (l:=[PV.int 0,PV.int 0,PV.int 1,PV.int (-1)]) g0 g1
 obtain⟨i,rfl⟩: ∃ i:Int,y= .int i:=by
  simp only[N2,N3,or_false] at hy
  rcases hy with rfl|rfl|rfl|rfl<;>exact⟨_,rfl⟩
 have ea:cu (.int (sc * d)) (.int i)= .ret (.int (sc * d+i)):=rfl
 generalize sc * d+i=v at ea
 refine Gen.eq (y:=.int (if(if v > 0 then v else 0) < aC then(if v > 0 then v else 0) else aC)) (by simp only[az,e,M.bO,M.rZ,ea,qo,nK];rfl) ⟨_,rfl,?_,?_⟩
 ·split<;>split<;>lia
 ·split<;>split<;>lia
theorem AA {h:PV} {ws:List (Str×List PV)} {aC:Int} (H:fz h ws aC):Gen ((l8 [.br,.int ws.length]).bind fun i=>(az (.tup (ws.map fun p=>.tup (.str p.1::p.2))) i).bind fun y=>az y (.int 0)) 1 (fun y=> ∃ x,y= .str x∧Wd x):=by
 obtain⟨_,_,w0,w1,hw,_⟩:=H
 refine Gen.le (Gen.bind (Gen.draw (by lia) (by lia)) (d:=0) ?_) (by decide)
 rintro _ ⟨d,rfl,d0,d1⟩
 obtain⟨y,hy,e⟩:=eV (l:=ws.map fun p=>PV.tup (.str p.1::p.2)) d0 (by rw[NT];exact d1)
 obtain⟨p,hp,rfl⟩:=N4.mp hy
 exact Gen.eq (y:=.str p.1) (by simp only[az,e,M.bO,M.rZ,j4]) ⟨p.1,rfl,(hw p hp).1⟩
def GX (y:PV):Prop:=oV 400 1 y
theorem rt {w:Str} {r:List PV} (hw:Sh w) (hr:r.length≤3) (h: ∀ x∈r,oV 82 0 x):GX (.tup (.str w::r)):=by
 refine(mG (c:=82) (dp:=0) (n:=4) (fun z hz=>?_) (by simp;lia)).mono (by lia) (NZ _)
 rcases N2.mp hz with rfl|hz
 ·exact ss hw
 ·exact h z hz
def Ki (y:PV):Prop:=GX y∧∃ r:Ru,y=r.pv
theorem Cw {h:PV} {ws:List (Str×List PV)} {aC sc:Int} {ps:List Str} (H:fz h ws aC) (s0:1≤sc) (s1:sc≤33333) (p0:0 < ps.length) (p1:ps.length≤20) (pw: ∀ z∈ps,Wd z):Gen (fb [.br,h,.lst (ps.map PV.str),.int sc]) 7 Ki:=by
 obtain⟨h0,_⟩:=gB H
 have wa:=AA H
 unfold fb jL
 show Gen ((au _ _ [val .br,val h,val (.lst (ps.map PV.str)),val (.int sc),un,un,un,un,un,un]).bind bu) 7 _
 refine Gen.le (cq (c:=1) (d:=6) (I:=fun ρ=> ∃ w:Int,0≤w∧w < 12∧ρ=[val .br,val h,val (.lst (ps.map PV.str)),val (.int sc),val (.int w),un,un,un,un,un]) ?_ ?_) (by decide)
 ·simp only[ax,aa,aL,aT,M.rZ,af]
  refine Gen.le (Gen.bind (Gen.draw (by lia) (by lia)) (d:=0) ?_) (by decide)
  rintro _ ⟨w,rfl,w0,w1⟩
  exact Gen.eq (y:=.nx _) rfl ⟨_,rfl,w,w0,w1,rfl⟩
 rintro _ ⟨w,w0,w1,rfl⟩
 refine Gen.le (cq (c:=1) (d:=5) (I:=fun ρ=> ∃ x:Str,Wd x∧ρ=[val .br,val h,val (.lst (ps.map PV.str)),val (.int sc),val (.int w),val (.str x),un,un,un,un]) ?_ ?_) (by decide)
 ·simp only[ax,ab,aa,aL,aT,M.rZ,dA,af,NT,M.bZ]
  rw[←M.bZ]
  refine Gen.le (Gen.bind (sr (l:=ps.map PV.str) (by rw[NT]) (by rw[NT];lia) (by rw[NT];lia)) (d:=0) ?_) (by decide)
  intro y hy
  obtain⟨x,hx,rfl⟩:=N4.mp hy
  exact Gen.eq (y:=.nx _) rfl ⟨_,rfl,x,pw x hx,rfl⟩
 rintro _ ⟨x,hx,rfl⟩
 refine Gen.le (cq (c:=1) (d:=4) (I:=fun ρ=> ∃ n:Int,-3≤n∧n≤3∧ρ=[val .br,val h,val (.lst (ps.map PV.str)),val (.int sc),val (.int w),val (.str x),val (.int n),un,un,un]) ?_ ?_) (by decide)
 ·simp only[ax,ab,aa,aL,aT,M.rZ,af,M.bZ]
  refine Gen.le (Gen.bind (Gen.draw (by lia) (by lia)) (d:=0) ?_) (by decide)
  rintro _ ⟨n,rfl,n0,n1⟩
  exact Gen.eq (y:=.nx _) rfl ⟨_,rfl,n - 3,by lia,by lia,rfl⟩
 rintro _ ⟨n,n0,n1,rfl⟩
 refine Gen.le (cq (c:=3) (d:=1) (I:=fun ρ=> ∃ a b:Int,0≤a∧a≤1000000∧-1≤b∧b≤1000000∧ρ=[val .br,val h,val (.lst (ps.map PV.str)),val (.int sc),val (.int w),val (.str x),val (.int n),val (.int a),val (.int b),un]) ?_ ?_) (by decide)
 ·simp only[Es,ab,aa,aL,aT,M.rZ,af,M.bZ]
  refine Gen.le (Gen.bind (Gen.draw (by lia) (by lia)) (d:=2) ?_) (by decide)
  rintro _ ⟨a,rfl,a0,a1⟩
  rw[ux (by lia) (by lia)]
  simp only[M.rZ]
  refine Gen.le (Gen.bind (Gen.draw (by lia) (by lia)) (d:=1) ?_) (by decide)
  rintro _ ⟨b,rfl,b0,b1⟩
  have ea:cu (.int 1) (.int b)= .ret (.int (1+b)):=rfl
  rw[ea]
  simp only[M.rZ]
  rw[ux (by lia) (by lia)]
  simp only[M.rZ]
  refine Gen.le (Gen.bind (Gen.draw (by lia) (by lia)) (d:=0) ?_) (by decide)
  rintro _ ⟨c,rfl,c0,c1⟩
  have q0:0≤sc * a:=Int.mul_nonneg (by lia) a0
  have q1:sc * a≤33333 * 30:=Int.mul_le_mul s1 (by lia) a0 (by lia)
  have q2:0≤sc * (1+b):=Int.mul_nonneg (by lia) (by lia)
  have q3:sc * (1+b)≤33333 * 12:=Int.mul_le_mul s1 (by lia) (by lia) (by lia)
  exact Gen.eq (y:=.nx _) rfl ⟨_,rfl,sc * a,sc * (1+b)+c - 1,q0,by lia,by lia,by lia,rfl⟩
 rintro _ ⟨a,b,a0,a1,b0,b1,rfl⟩
 refine Gen.le (cq (c:=1) (d:=0) (I:=fun ρ=> ∃ z:Str,Wd z∧ρ=[val .br,val h,val (.lst (ps.map PV.str)),val (.int sc),val (.int w),val (.str x),val (.int n),val (.int a),val (.int b),val (.str z)]) ?_ ?_) (by decide)
 ·simp only[ax,ab,aa,aL,aT,M.rZ,h0,dA,af,NT,M.bZ]
  have wa':Gen (((l8 [.br,.int ws.length]).bind fun i=>(az (.tup (ws.map fun p=>.tup (.str p.1::p.2))) i).bind fun y=>az y (.int 0)).bind fun y=>M.ret (Fl.nx ([val .br,val h,val (.lst (ps.map PV.str)),val (.int sc),val (.int w),val (.str x),val (.int n),val (.int a),val (.int b),un].set 9 (val y)))) 1 (fun f=> ∃ ρ',f= .nx ρ'∧∃ z:Str,Wd z∧ρ'=[val .br,val h,val (.lst (ps.map PV.str)),val (.int sc),val (.int w),val (.str x),val (.int n),val (.int a),val (.int b),val (.str z)]):=by
   refine Gen.le (Gen.bind wa (d:=0) ?_) (by decide)
   rintro _ ⟨z,rfl,hz⟩
   exact Gen.eq (y:=.nx _) rfl ⟨_,rfl,z,hz,rfl⟩
  simp only[M.bZ] at wa'
  exact wa'
 rintro _ ⟨z,hz,rfl⟩
 have lt: ∀ k:Int,aK (ab r8 (fun ρ=>aq ρ 4) (fun _=>M.ret (.int k))) [val .br,val h,val (.lst (ps.map PV.str)),val (.int sc),val (.int w),val (.str x),val (.int n),val (.int a),val (.int b),val (.str z)]= .ret (decide (w < k)):=by intro k;simp[aK,ab,aq,r8,wD]
 have em:qo [.int 1,.int b]= .ret (.int (if b > 1 then b else 1)):=rfl
 have mb0:1≤(if b > 1 then b else 1)∧(if b > 1 then b else 1)≤1000000:=by split<;>lia
 generalize (if b > 1 then b else 1)=mb at em mb0
 by_cases c3:w < 3
 ·unfold au
  rw[d5 (by rw[lt,decide_eq_true c3])]
  have ea:cu (.int a) (.int mb)= .ret (.int (a+mb)):=rfl
  have e2:nK [.int 1000001,.int (a+mb)]= .ret (.int (if a+mb < 1000001 then a+mb else 1000001)):=rfl
  refine Gen.eq (y:=.tup [.str "hours",.int a,.int (if a+mb < 1000001 then a+mb else 1000001)]) (by simp only[aV,N1,List.map_nil,Ent.freeze,aa,ab,aL,aT,M.rZ,em,ea,e2,uz];rfl) ⟨rt (by decide) (by simp) fun v hv=>?_,.g9 a _,rfl⟩
  simp only[N2,N3,or_false] at hv
  rcases hv with rfl|rfl
  ·exact si (by lia)
  ·exact si (by split<;>lia)
 refine Gen.le (cq (c:=0) (d:=0) (I:=fun ρ=>ρ=[val .br,val h,val (.lst (ps.map PV.str)),val (.int sc),val (.int w),val (.str x),val (.int n),val (.int a),val (.int b),val (.str z)]) (Cu (eP (by rw[lt,Oh c3])) rfl) ?_) (by decide)
 rintro _ rfl
 by_cases c8:w < 8
 ·unfold au
  rw[d5 (by rw[lt,decide_eq_true c8])]
  have e2:uy (.int w) (.int 2)= .ret (.int (w % 2)):=by unfold uy wC;simp
  obtain⟨v,hv,e⟩:=eV (l:=[PV.tup [.str "least",.str x,.int n],PV.tup [.str "most",.str x,.int n]]) (d:=w % 2) (by lia) (by simp;lia)
  have hv':Ki v:=by
   simp only[N2,N3,or_false] at hv
   rcases hv with rfl|rfl
   ·refine⟨rt (by decide) (by simp) fun u hu=>?_,.post true x n,rfl⟩
    simp only[N2,N3,or_false] at hu
    rcases hu with rfl|rfl
    ·exact ss hx.sh
    ·exact si (by lia)
   ·refine⟨rt (by decide) (by simp) fun u hu=>?_,.post false x n,rfl⟩
    simp only[N2,N3,or_false] at hu
    rcases hu with rfl|rfl
    ·exact ss hx.sh
    ·exact si (by lia)
  exact Gen.eq (y:=v) (by simp only[aV,N1,List.map_nil,Ent.freeze,aG,aa,ab,aL,aT,M.rZ,uz,EO,e2,az,e,M.bO];rfl) hv'
 refine Gen.le (cq (c:=0) (d:=0) (I:=fun ρ=>ρ=[val .br,val h,val (.lst (ps.map PV.str)),val (.int sc),val (.int w),val (.str x),val (.int n),val (.int a),val (.int b),val (.str z)]) (Cu (eP (by rw[lt,Oh c8])) rfl) ?_) (by decide)
 rintro _ rfl
 by_cases c10:w < 10
 ·unfold au
  rw[d5 (by rw[lt,decide_eq_true c10])]
  refine Gen.eq (y:=.tup [.str "looked",.int mb]) (by simp only[aV,N1,List.map_nil,Ent.freeze,aa,aL,aT,M.rZ,em,Iz];rfl) ⟨rt (by decide) (by simp) fun v hv=>?_,.looked mb,rfl⟩
  simp only[N2,N3,or_false] at hv
  subst hv
  exact si (by lia)
 refine Gen.le (cq (c:=0) (d:=0) (I:=fun ρ=>ρ=[val .br,val h,val (.lst (ps.map PV.str)),val (.int sc),val (.int w),val (.str x),val (.int n),val (.int a),val (.int b),val (.str z)]) (Cu (eP (by rw[lt,Oh c10])) rfl) ?_) (by decide)
 rintro _ rfl
 have eb: ∃ q:Bool,fh (ab (cC false) (fun ρ=>aq ρ 4) (fun _=>M.ret (.int 11))) (ab Av (fun ρ=>aq ρ 6) (fun _=>M.ret (.int 0))) [val .br,val h,val (.lst (ps.map PV.str)),val (.int sc),val (.int w),val (.str x),val (.int n),val (.int a),val (.int b),val (.str z)]= .ret (.bl q):=by
  have g1:ab Av (fun ρ=>aq ρ 6) (fun _=>M.ret (.int 0)) [val .br,val h,val (.lst (ps.map PV.str)),val (.int sc),val (.int w),val (.str x),val (.int n),val (.int a),val (.int b),val (.str z)]= .ret (.bl (decide (0 < n))):=by simp[ab,aq,Av,wD]
  have g2:ab (cC false) (fun ρ=>aq ρ 4) (fun _=>M.ret (.int 11)) [val .br,val h,val (.lst (ps.map PV.str)),val (.int sc),val (.int w),val (.str x),val (.int n),val (.int a),val (.int b),val (.str z)]= .ret (.bl (w==11)):=by simp[ab,aq,NK]
  cases c:(w==11) with
  |true=>
   refine⟨decide (0 < n),?_⟩
   unfold fh aK
   rw[g2,c]
   simp only[M.rZ,if_true]
   exact g1
  |false=>
   refine⟨false,?_⟩
   unfold fh aK
   rw[g2,c]
   simp only[M.rZ,OA,if_false]
 obtain⟨q,eb⟩:=eb
 have ei:wK [.bl q]= .ret (.int (if q then 1 else 0)):=rfl
 obtain⟨v,hv,e⟩:=eV (l:=[PV.tup [.str "with",.str z],PV.tup [.str "never"]]) (d:=if q then 1 else 0) (by split<;>lia) (by simp;split<;>lia)
 have hv':Ki v:=by
  simp only[N2,N3,or_false] at hv
  rcases hv with rfl|rfl
  ·refine⟨rt (by decide) (by simp) fun u hu=>?_,.xN z,rfl⟩
   simp only[N2,N3,or_false] at hu
   subst hu
   exact ss hz.sh
  ·exact⟨rt (by decide) (by simp) fun u hu=>absurd hu N3,.never,rfl⟩
 refine Gen.eq (y:=v) (bA (aU ?_)) hv'
 simp only[N1,List.map_nil,Ent.freeze]
 show ab az (aG (fun ρ=>((aa (fun ρ=>((aa (fun _=>M.ret (.str "with")) (aa (fun ρ=>aq ρ 9) (fun _=>M.ret []))) ρ).bind aS) (aa (fun ρ=>((aa (fun _=>M.ret (.str "never")) (fun _=>M.ret [])) ρ).bind aS) (fun _=>M.ret []))) ρ).bind aO)) (fun ρ=>(aa (fh (ab (cC false) (fun ρ=>aq ρ 4) (fun _=>M.ret (.int 11))) (ab Av (fun ρ=>aq ρ 6) (fun _=>M.ret (.int 0)))) (fun _=>M.ret []) ρ).bind wK) _=_
 unfold ab
 rw[show aG (fun ρ=>((aa (fun ρ=>((aa (fun _=>M.ret (PV.str "with")) (aa (fun ρ=>aq ρ 9) (fun _=>M.ret []))) ρ).bind aS) (aa (fun ρ=>((aa (fun _=>M.ret (PV.str "never")) (fun _=>M.ret [])) ρ).bind aS) (fun _=>M.ret []))) ρ).bind aO) [val .br,val h,val (.lst (ps.map PV.str)),val (.int sc),val (.int w),val (.str x),val (.int n),val (.int a),val (.int b),val (.str z)]= .ret (.lst [.tup [.str "with",.str z],.tup [.str "never"]]) by simp only[aG,aa,aL,aT,M.rZ,Iz,MY,EO]]
 rw[M.rZ]
 unfold aa
 unfold ab at eb
 dsimp only at eb ⊢
 rw[eb]
 simp only[M.rZ,ei,az,e,M.bO]
theorem EI {ns:List Int} {n:Int} {k:Nat} (hk:k≤1000) (hl:ns.length < k) (h: ∀ t:Nat,t < k→(n+t) % 1000000∈ns):False:=by
 have:=sub_len ((List.range k).map fun t:Nat=>(n+t) % 1000000) ns (by
  unfold List.Nodup
  rw[List.pairwise_map]
  refine List.Pairwise.imp_of_mem ?_ List.nodup_range
  intro a b ha hb ne e
  rw[List.mem_range] at ha hb
  lia) (fun x hx=>by
  obtain⟨t,ht,rfl⟩:=N4.mp hx
  exact h t (List.mem_range.mp ht))
 rw[NT,List.length_range] at this
 lia
def Ir:ae→M PV:=ab uy (ab cu (fun ρ=>aq ρ 1) (fun ρ=>aq ρ 0)) (fun _=>M.ret (.int 1000000))
def Iq:ae→M Bool:=aK (ab (o5 true) (fun ρ=>aq ρ 0) (fun ρ=>aq ρ 1))
theorem BN (x:Int) (ns:List Int):o5 true (.int x) (.lst (ns.map PV.int))= .ret (.bl (!decide (x∈ns))):=by
 have h:=Fb x ns
 unfold o5 at h ⊢
 dsimp only at h ⊢
 split at h
 ·rename_i c
  rw[OG c]
  simp at h ⊢
  exact h
 ·cases h
theorem wM {ns:List Int} (hn:ns.length < 70):Gen (di [.br,.lst (ns.map PV.int)]) 2 (fun y=> ∃ n:Int,y= .int n∧n∉ns∧0≤n∧n < 1000000):=by
 unfold di gq
 show Gen ((au _ _ [val .br,val (.lst (ns.map PV.int)),un,un]).bind bu) 2 _
 refine Gen.le (cq (c:=2) (d:=0) (I:=fun ρ=> ∃ n:Int,ρ=[val .br,val (.lst (ns.map PV.int)),val (.int n),un]) ?_ ?_) (by decide)
 ·simp only[ax,ab,aG,aa,aL,aT,M.rZ,EO,af,M.bZ]
  refine Gen.le (Gen.bind (Gen.draw (by lia) (by lia)) (d:=1) ?_) (by decide)
  rintro _ ⟨d,rfl,d0,d1⟩
  obtain⟨y,hy,e⟩:=eV (l:=[PV.int 20,PV.int 1000000]) d0 d1
  obtain⟨m,rfl,m0,m1⟩: ∃ m:Int,y= .int m∧0 < m∧m≤1000000:=by
   simp only[N2,N3,or_false] at hy
   rcases hy with rfl|rfl<;>exact⟨_,rfl,by decide,by decide⟩
  simp only[az,e,M.bO,M.rZ]
  refine Gen.le (Gen.bind (Gen.draw m0 (by lia)) (d:=0) ?_) (by decide)
  rintro _ ⟨n,rfl,n0,n1⟩
  exact Gen.eq (y:=.nx _) rfl ⟨_,rfl,n,rfl⟩
 rintro _ ⟨n,rfl⟩
 have q1:=kz (k:=0) (te:=Ir) (f:=fun y=>match y with| .int t=>.int ((n+t) % 1000000)|_=>.aE) (ρ:=[un,val (.int n)]) (bo 0 70) [un,val (.int n)] (fun _=>rfl) (fun y hy=>by
   obtain⟨t,ht,rfl⟩:=N4.mp hy
   have ea:cu (.int n) (.int (0+(t:Nat)))= .ret (.int (n+(0+(t:Nat)))):=rfl
   have em:uy (.int (n+(0+(t:Nat)))) (.int 1000000)= .ret (.int ((n+(0+(t:Nat))) % 1000000)):=by unfold uy wC;simp
   unfold Ir
   simp only[N0,ab,aL,aT,M.rZ,ea,em])
 have em:((bo 0 70).map fun y=>match y with|PV.int t=>PV.int ((n+t) % 1000000)|_=>.aE)=((List.range 70).map fun t:Nat=>(n+t) % 1000000).map PV.int:=by
  unfold bo
  rw[List.map_map,List.map_map]
  apply List.map_congr_left
  intro t _
  show PV.int ((n+(0+(t:Nat))) % 1000000)=PV.int ((n+(t:Nat)) % 1000000)
  rw[Int.zero_add]
 rw[em] at q1
 generalize hC:((List.range 70).map fun t:Nat=>(n+t) % 1000000)=C at q1
 have q2:=bU (k:=0) (tt:=Iq) (te:=fun ρ=>aq ρ 0) (p:=fun y=>match y with| .int x=>!decide (x∈ns)|_=>false) (f:=id) (ρ:=[un,val (.lst (ns.map PV.int))]) (C.map PV.int) [un,val (.lst (ns.map PV.int))] (fun _=>rfl) (fun y hy=>by
   obtain⟨x,hx,rfl⟩:=N4.mp hy
   unfold Iq
   simp only[aK,ab,N0,aL,aT,M.rZ,BN]) (fun y hy _=>by simp only[aL,N0];rfl)
 have hCl:C.length=70:=by rw[←hC];simp
 obtain⟨x,hx,hnx⟩: ∃ x∈C,x∉ns:=by
  apply Classical.byContradiction
  intro hno
  refine EI (k:=70) (n:=n) (by decide) hn fun t ht=>Classical.byContradiction fun hc=>hno ⟨(n+t) % 1000000,?_,hc⟩
  rw[←hC]
  exact N4.mpr ⟨t,List.mem_range.mpr ht,rfl⟩
 generalize hF:(C.map PV.int).filter (fun y=>match y with| .int x=>!decide (x∈ns)|_=>false)=F at q2
 have hFx:PV.int x∈F:=by
  rw[←hF]
  refine OE.mpr ⟨Oq hx,?_⟩
  show (!decide (x∈ns))=true
  rw[Oh hnx]
  rfl
 match F,hF,hFx,q2 with
 |y::F,hF,_,q2=>
 have hy:=OE.mp (show y∈(C.map PV.int).filter (fun y=>match y with| .int x=>!decide (x∈ns)|_=>false) by rw[hF];exact NS)
 obtain⟨v,hv,rfl⟩:=N4.mp hy.1
 have hvn:v∉ns:=by
  have:(!decide (v∈ns))=true:=hy.2
  simpa using this
 have hvb:0≤v∧v < 1000000:=by
  rw[←hC] at hv
  obtain⟨t,_,rfl⟩:=N4.mp hv
  exact⟨Int.emod_nonneg _ (by decide),Int.emod_lt_of_pos _ (by decide)⟩
 refine Gen.le (cq (c:=0) (d:=0) (I:=fun ρ=>ρ=[val .br,val (.lst (ns.map PV.int)),val (.int n),val (.lst (C.map PV.int))]) ?_ ?_) (by decide)
 ·refine Cu (I:=fun ρ=>ρ=_) ?_ rfl
  show ax 3 (aG (bf [none,some 2] (fun ρ=>((aa (fun _=>M.ret (.int 70)) (fun _=>M.ret [])) ρ).bind bN) (aA 0) cF Ir)) [val .br,val (.lst (ns.map PV.int)),val (.int n),un]=_
  have er:bN [.int 70]= .ret (bo 0 70):=by simp only[bN];rfl
  have ec:c9 [none,some 2] [val .br,val (.lst (ns.map PV.int)),val (.int n),un]=[un,val (.int n)]:=rfl
  simp only[ax,aG,bf,aa,M.rZ,er,ec]
  rw[OG (by simp[bo]),q1]
  rfl
 rintro _ rfl
 refine Gen.eq (y:=.int v) (bA (aU ?_)) ⟨v,rfl,hvn,hvb.1,hvb.2⟩
 show ab az (aG (bf [none,some 1] (fun ρ=>((fun ρ=>aq ρ 3) ρ).bind aH) (aA 0) Iq (fun ρ=>aq ρ 0))) (fun _=>M.ret (.int 0)) [val .br,val (.lst (ns.map PV.int)),val (.int n),val (.lst (C.map PV.int))]=_
 have ec:c9 [none,some 1] [val .br,val (.lst (ns.map PV.int)),val (.int n),val (.lst (C.map PV.int))]=[un,val (.lst (ns.map PV.int))]:=rfl
 simp only[ab,aG,bf,aL,aT,M.rZ,aH,ec]
 rw[OG (by rw[NT,hCl];decide),q2]
 simp only[M.rZ,List.map_id,az,j4,M.bO]
def mm (ws:List (Str×List PV)) (y:PV):Prop:=(∃ (n m:Int) (z:Str) (rs:List Ru),y= .tup [.str "rule",.int n,.int m,.str z,.tup (rs.map Ru.pv)]∧rs.length≤6)∨(∃ (n m:Int) (z:Str) (i:Int),y= .tup [.str "read",.int n,.int m,.str z,.int i])∨(∃ (n m:Int) (z:Str) (q:List PV),y= .tup [.str "look",.int n,.int m,.str z]∧(z,.str "slope"::q)∈ws)
def vv (ws:List (Str×List PV)) (l:List PV) (ns:List Int):Prop:=aX l ns∧∀ y∈l,mm ws y
theorem Ct {ws:List (Str×List PV)} {l:List PV} {y:PV} (h: ∀ y∈l,mm ws y) (g:mm ws y): ∀ z∈l++[y],mm ws z:=fun z hz=>by
 rcases OF.mp hz with hz|hz
 ·exact h z hz
 ·rw[Om.mp hz];exact g
theorem NH {rs:List PV} (h: ∀ z∈rs,Ki z): ∃ us:List Ru,rs=us.map Ru.pv:=by
 induction rs with
 |nil=>exact⟨[],rfl⟩
 |cons r rs ih=>
  obtain⟨us,rfl⟩:=ih fun z hz=>h z (NV _ hz)
  obtain⟨_,u,rfl⟩:=h r NS
  exact⟨u::us,rfl⟩
theorem JG {α:Type} (l:List α) (x:α):j3 (l++[x]) (-1)=some x:=by
 unfold j3 Cm
 rw[OH (by decide)]
 have h1:(l++[x]).length=l.length+1:=by simp
 by_cases c: -((l++[x]).length:Int)≤-1
 ·rw[OG c]
  show (l++[x])[((-1:Int)+((l++[x]).length:Int)).toNat]?=some x
  rw[h1]
  have:((-1:Int)+((l.length+1:Nat):Int)).toNat=l.length:=by lia
  rw[this]
  simp
 ·rw[h1] at c
  lia
theorem zi {ws:List (Str×List PV)} {h:PV} {aC:Int} (H:fz h ws aC): ∃ sl:List Str,(∀ z∈sl,∃ q,(z,PV.str "slope"::q)∈ws)∧sl.length≤12∧pQ (aA 0) (aK (ab (cC false) (ab az (fun ρ=>aq ρ 0) (fun _=>M.ret (.int 1))) (fun _=>M.ret (.str "slope")))) (ab az (fun ρ=>aq ρ 0) (fun _=>M.ret (.int 0))) (ws.map fun p=>.tup (.str p.1::p.2)) [un]= .ret (sl.map PV.str):=by
 obtain⟨_,_,_,w1,hw,_⟩:=H
 have q:=bU (k:=0) (tt:=aK (ab (cC false) (ab az (fun ρ=>aq ρ 0) (fun _=>M.ret (.int 1))) (fun _=>M.ret (.str "slope")))) (te:=ab az (fun ρ=>aq ρ 0) (fun _=>M.ret (.int 0))) (p:=fun y=>match y with| .tup (_::.str k::_)=>k=="slope"|_=>false) (f:=fun y=>match y with| .tup (a::_)=>a|_=>.aE) (ρ:=[un]) (ws.map fun p=>PV.tup (.str p.1::p.2)) [un] (fun _=>rfl) (fun y hy=>by
  obtain⟨p,hp,rfl⟩:=N4.mp hy
  obtain⟨_,k,r,e⟩:=hw p hp
  rw[e]
  simp only[aK,ab,N0,aL,M.rZ,az,oR,M.bO,wU]) (fun y hy _=>by
  obtain⟨p,hp,rfl⟩:=N4.mp hy
  simp only[ab,aL,N0,M.rZ,az,j4,M.bO])
 refine⟨(ws.filter fun p=>match p.2 with| .str k::_=>k=="slope"|_=>false).map (·.1),fun z hz=>?_,?_,?_⟩
 ·obtain⟨p,hp,rfl⟩:=N4.mp hz
  obtain⟨hp1,hp2⟩:=OE.mp hp
  obtain⟨_,k,r,e⟩:=hw p hp1
  rw[e] at hp2
  dsimp only at hp2
  rw[eq_of_beq hp2] at e
  exact⟨r,by rw[←e];exact hp1⟩
 ·rw[NT]
  exact Od (List.length_filter_le _ _) w1
 ·rw[q,List.filter_map,List.map_map,List.map_map]
  congr 1
  have:((fun y=>match y with|PV.tup (_::.str k::_)=>k==("slope":Str)|_=>false)∘fun p:Str×List PV=>PV.tup (.str p.1::p.2))=(fun p:Str×List PV=>match p.2 with| .str k::_=>k==("slope":Str)|_=>false):=by
   funext p
   obtain⟨a,b⟩:=p
   cases b with
   |nil=>rfl
   |cons c d=>cases c<;>rfl
  rw[this]
  rfl
abbrev o1 (h:PV) (sc k:Int) (ps sl:List Str) (l:List PV) (ns:List Int) (r:List Ent):ae:=val .br::val h::val (.int sc)::val (.int k)::val (.lst (ps.map PV.str))::val (.lst (sl.map PV.str))::Ent.own l::Ent.own (ns.map PV.int)::r
def Mk:ae→M Fl:=(au (ax 9 (fun ρ=>((aa (fun ρ=>aq ρ 0) (aa (fun _=>M.ret (.int 8)) (fun _=>M.ret []))) ρ).bind af))
  (au (ax 10 (ab jo (fun ρ=>((aa (fun ρ=>aq ρ 0) (aa (fun ρ=>aq ρ 1) (aa (fun ρ=>aq ρ 2) (fun _=>M.ret [])))) ρ).bind dn) (fun ρ=>((aa (ab Av (fun ρ=>((aa (fun ρ=>aq ρ 0) (aa (fun _=>M.ret (.int 3)) (fun _=>M.ret []))) ρ).bind af) (fun _=>M.ret (.int 0))) (fun _=>M.ret [])) ρ).bind wK)))
  (au (dR 7 (fun ρ=>((aa (fun ρ=>aq ρ 0) (aa (fun ρ=>fF ρ 7) (fun _=>M.ret []))) ρ).bind fun l=>(di l).bind l6))
  (dO (aK (ab r8 (fun ρ=>aq ρ 9) (fun _=>M.ret (.int 3))))
  (au (ax 11 (ab az (ab az (ab az (fun ρ=>aq ρ 1) (fun _=>M.ret (.int 0))) (fun ρ=>((aa (fun ρ=>aq ρ 0) (aa (fun ρ=>((aa (ab az (fun ρ=>aq ρ 1) (fun _=>M.ret (.int 0))) (fun _=>M.ret [])) ρ).bind dA) (fun _=>M.ret []))) ρ).bind af)) (fun _=>M.ret (.int 0))))
  (au (ax 12 (ab az (aG (fun ρ=>((aa (fun _=>M.ret (.int 0)) (aa (fun _=>M.ret (.int 1)) (aa (fun _=>M.ret (.int 1)) (aa (fun _=>M.ret (.int 1)) (aa (fun _=>M.ret (.int 2)) (aa (fun _=>M.ret (.int 2)) (aa (fun _=>M.ret (.int 3)) (aa (fun _=>M.ret (.int 6)) (fun _=>M.ret []))))))))) ρ).bind aO)) (fun ρ=>((aa (fun ρ=>aq ρ 0) (aa (fun _=>M.ret (.int 8)) (fun _=>M.ret []))) ρ).bind af)))
  (au (ax 13 (aG (bf [none,some 0,some 1,some 4,some 2] (fun ρ=>((aa (fun ρ=>aq ρ 12) (fun _=>M.ret [])) ρ).bind bN) (aA 0) cF (fun ρ=>((aa (fun ρ=>aq ρ 1) (aa (fun ρ=>aq ρ 2) (aa (fun ρ=>aq ρ 3) (aa (fun ρ=>aq ρ 4) (fun _=>M.ret []))))) ρ).bind fb))))
  (dR 6 (fun ρ=>((aa (fun _=>M.ret (.str "rule")) (aa (ab az (fun ρ=>fF ρ 7) (fun ρ=>((fun _=>M.ret (.int 1)) ρ).bind nH)) (aa (fun ρ=>aq ρ 10) (aa (fun ρ=>aq ρ 11) (aa (fun ρ=>((aa (fun ρ=>aq ρ 13) (fun _=>M.ret [])) ρ).bind mW) (fun _=>M.ret [])))))) ρ).bind aS)))))
  (dO (Ig (aK (ab r8 (fun ρ=>aq ρ 9) (fun _=>M.ret (.int 6)))) (aK (ab (cC false) (fun ρ=>aq ρ 5) (aG (fun ρ=>((fun _=>M.ret []) ρ).bind aO)))))
  (au (ax 14 (ab jo (ab zd (fun ρ=>((aa (fun ρ=>aq ρ 0) (aa (fun _=>M.ret (.int 7)) (fun _=>M.ret []))) ρ).bind af) (fun _=>M.ret (.int 3))) (ab az (aG (fun ρ=>((aa (fun _=>M.ret (.int 1)) (aa (fun _=>M.ret (.int 1)) (aa (fun _=>M.ret (.int 1)) (aa (ab Bm (fun _=>M.ret (.int 10)) (fun _=>M.ret (.int 50))) (fun _=>M.ret []))))) ρ).bind aO)) (fun ρ=>((aa (fun ρ=>aq ρ 0) (aa (fun _=>M.ret (.int 4)) (fun _=>M.ret []))) ρ).bind af))))
  (dR 6 (fun ρ=>((aa (fun _=>M.ret (.str "read")) (aa (ab az (fun ρ=>fF ρ 7) (fun ρ=>((fun _=>M.ret (.int 1)) ρ).bind nH)) (aa (fun ρ=>aq ρ 10) (aa (ab az (fun ρ=>aq ρ 4) (fun ρ=>((aa (fun ρ=>aq ρ 0) (aa (fun ρ=>((aa (fun ρ=>aq ρ 4) (fun _=>M.ret [])) ρ).bind dA) (fun _=>M.ret []))) ρ).bind af)) (aa (fun ρ=>aq ρ 14) (fun _=>M.ret [])))))) ρ).bind aS)))
  (dR 6 (fun ρ=>((aa (fun _=>M.ret (.str "look")) (aa (ab az (fun ρ=>fF ρ 7) (fun ρ=>((fun _=>M.ret (.int 1)) ρ).bind nH)) (aa (fun ρ=>aq ρ 10) (aa (ab az (fun ρ=>aq ρ 5) (fun ρ=>((aa (fun ρ=>aq ρ 0) (aa (fun ρ=>((aa (fun ρ=>aq ρ 5) (fun _=>M.ret [])) ρ).bind dA) (fun _=>M.ret []))) ρ).bind af)) (fun _=>M.ret []))))) ρ).bind aS)))))))
theorem Fd {h:PV} {ws:List (Str×List PV)} {aC sc k:Int} {ps sl:List Str} {l:List PV} {ns:List Int} {e8 e9 e10 e11 e12 e13 e14:Ent} (H:fz h ws aC) (s0:1≤sc) (s1:sc≤33333) (p0:0 < ps.length) (p1:ps.length≤20) (pw: ∀ z∈ps,Wd z) (sw: ∀ z∈sl,∃ q,(z,PV.str "slope"::q)∈ws) (sz:sl.length≤12) (hg:vv ws l ns) (hl:l.length < 65):
  Gen (Mk (o1 h sc k ps sl l ns [e8,e9,e10,e11,e12,e13,e14])) 60 (fun f=> ∃ (l':List PV) (ns':List Int) (e9 e10 e11 e12 e13 e14:Ent),f= .nx (o1 h sc k ps sl l' ns' [e8,e9,e10,e11,e12,e13,e14])∧l'.length=l.length+1∧vv ws l' ns'):=by
 obtain⟨h0,_⟩:=gB H
 have hp:=hg.1
 have hgs:=hg.2
 have hnl:ns.length=l.length:=hp.1
 unfold Mk
 refine Gen.le (lE (c:=1) (d:=59) (I:=fun ρ=> ∃ w:Int,0≤w∧w < 8∧ρ=o1 h sc k ps sl l ns [e8,val (.int w),e10,e11,e12,e13,e14]) ?_ ?_) (by decide)
 ·simp only[ax,aa,aL,aT,M.rZ,af]
  refine Gen.le (Gen.bind (Gen.draw (by lia) (by lia)) (d:=0) ?_) (by decide)
  rintro _ ⟨w,rfl,w0,w1⟩
  exact Gen.eq (y:=.nx _) rfl ⟨_,rfl,w,w0,w1,rfl⟩
 rintro _ ⟨w,w0,w1,rfl⟩
 refine Gen.le (lE (c:=3) (d:=56) (I:=fun ρ=> ∃ m:Int,0≤m∧m≤1000000∧ρ=o1 h sc k ps sl l ns [e8,val (.int w),val (.int m),e11,e12,e13,e14]) ?_ ?_) (by decide)
 ·simp only[ax,ab,aa,aL,aT,M.rZ,af,M.bZ]
  refine Gen.le (Gen.bind (wN H s0 s1) (d:=1) ?_) (by decide)
  rintro _ ⟨m,rfl,m0,m1⟩
  refine Gen.le (Gen.bind (Gen.draw (by lia) (by lia)) (d:=0) ?_) (by decide)
  rintro _ ⟨d,rfl,d0,d1⟩
  have eg:Av (.int d) (.int 0)= .ret (.bl (decide (0 < d))):=rfl
  have ei:wK [.bl (decide (0 < d))]= .ret (.int (if decide (0 < d) then 1 else 0)):=rfl
  simp only[eg,M.rZ,ei]
  rw[ux (by lia) (by lia)]
  refine Gen.eq (y:=.nx _) rfl ⟨_,rfl,m * (if decide (0 < d) then 1 else 0),?_,?_,rfl⟩
  ·by_cases c:decide (0 < d)=true
   ·rw[OG c];lia
   ·rw[OH c];lia
  ·by_cases c:decide (0 < d)=true
   ·rw[OG c];lia
   ·rw[OH c];lia
 rintro _ ⟨m,m0,m1,rfl⟩
 refine Gen.le (lE (c:=2) (d:=54) (I:=fun ρ=> ∃ n:Int,n∉ns∧0≤n∧n < 1000000∧ρ=o1 h sc k ps sl l (ns++[n]) [e8,val (.int w),val (.int m),e11,e12,e13,e14]) ?_ ?_) (by decide)
 ·simp only[dR,N7,N8,aa,aL,aT,CA,Ly,M.rZ,M.bZ]
  refine Gen.le (Gen.bind (wM (ns:=ns) (by lia)) (d:=0) ?_) (by decide)
  rintro _ ⟨n,rfl,nn,n0,n1⟩
  have hf:l6 (.int n)= .ret (.int n):=rfl
  have hz:(ns.map PV.int).length < 100000:=by rw[NT];lia
  exact Gen.eq (y:=.nx _) (by simp only[hf,M.rZ,OG hz];rfl) ⟨_,rfl,n,nn,n0,n1,by simp[o1]⟩
 rintro _ ⟨n,nn,n0,n1,rfl⟩
 have ee:az (.lst ((ns++[n]).map PV.int)) (.int (-1))= .ret (.int n):=by
  rw[List.map_append]
  simp only[az,N1,List.map_nil,JG,M.bO]
 have en:nH (.int 1)= .ret (.int (-1)):=rfl
 have lt: ∀ q:Int,aK (ab r8 (fun ρ=>aq ρ 9) (fun _=>M.ret (.int q))) (o1 h sc k ps sl l (ns++[n]) [e8,val (.int w),val (.int m),e11,e12,e13,e14])= .ret (decide (w < q)):=by intro q;simp[aK,ab,aq,r8,wD]
 have hlz:l.length < 100000:=by lia
 by_cases c3:w < 3
 ·rw[d5 (by rw[lt,decide_eq_true c3])]
  refine Gen.le (lE (c:=1) (d:=53) (I:=fun ρ=> ∃ x:Str,Wd x∧ρ=o1 h sc k ps sl l (ns++[n]) [e8,val (.int w),val (.int m),val (.str x),e12,e13,e14]) ?_ ?_) (by decide)
  ·have wa:=AA H
   simp only[ax,ab,aa,aL,aT,M.rZ,h0,dA,af,NT,M.bZ]
   have wa':Gen (((l8 [.br,.int ws.length]).bind fun i=>(az (.tup (ws.map fun p=>.tup (.str p.1::p.2))) i).bind fun y=>az y (.int 0)).bind fun y=>M.ret (Fl.nx ((o1 h sc k ps sl l (ns++[n]) [e8,val (.int w),val (.int m),e11,e12,e13,e14]).set 11 (val y)))) 1 (fun f=> ∃ ρ',f= .nx ρ'∧∃ z:Str,Wd z∧ρ'=o1 h sc k ps sl l (ns++[n]) [e8,val (.int w),val (.int m),val (.str z),e12,e13,e14]):=by
    refine Gen.le (Gen.bind wa (d:=0) ?_) (by decide)
    rintro _ ⟨z,rfl,hz⟩
    exact Gen.eq (y:=.nx _) rfl ⟨_,rfl,z,hz,rfl⟩
   simp only[M.bZ] at wa'
   exact wa'
  rintro _ ⟨x,hx,rfl⟩
  have e8': ∀ a b c d e f g i:PV,aO [a,b,c,d,e,f,g,i]= .ret [a,b,c,d,e,f,g,i]:=by intros;simp[aO]
  refine Gen.le (lE (c:=1) (d:=52) (I:=fun ρ=> ∃ q:Int,0≤q∧q≤6∧ρ=o1 h sc k ps sl l (ns++[n]) [e8,val (.int w),val (.int m),val (.str x),val (.int q),e13,e14]) ?_ ?_) (by decide)
  ·simp only[ax,ab,aG,aa,aL,aT,M.rZ,e8',af,M.bZ]
   refine Gen.le (Gen.bind (Gen.draw (by lia) (by lia)) (d:=0) ?_) (by decide)
   rintro _ ⟨d,rfl,d0,d1⟩
   obtain⟨y,hy,e⟩:=eV (l:=[PV.int 0,PV.int 1,PV.int 1,PV.int 1,PV.int 2,PV.int 2,PV.int 3,PV.int 6]) d0 d1
   obtain⟨q,rfl,q0,q1⟩: ∃ q:Int,y= .int q∧0≤q∧q≤6:=by
    simp only[N2,N3,or_false] at hy
    rcases hy with rfl|rfl|rfl|rfl|rfl|rfl|rfl|rfl<;>exact⟨_,rfl,by decide,by decide⟩
   exact Gen.eq (y:=.nx _) (by simp only[az,e,M.bO,M.rZ];rfl) ⟨_,rfl,q,q0,q1,rfl⟩
  rintro _ ⟨q,q0,q1,rfl⟩
  refine Gen.le (lE (c:=42) (d:=0) (I:=fun ρ=> ∃ rs:List PV,rs.length≤6∧(∀ z∈rs,Ki z)∧ρ=o1 h sc k ps sl l (ns++[n]) [e8,val (.int w),val (.int m),val (.str x),val (.int q),val (.lst rs),e14]) ?_ ?_) (by decide)
  ·have hlen:(bo 0 q.toNat).length=q.toNat:=by simp[bo]
   have er:bN [.int q]= .ret (bo 0 q.toNat):=by simp only[bN,OG (by lia: -1000000≤q∧q≤100000)]
   have ec:c9 [none,some 0,some 1,some 4,some 2] (o1 h sc k ps sl l (ns++[n]) [e8,val (.int w),val (.int m),val (.str x),val (.int q),e13,e14])=[un,val .br,val h,val (.lst (ps.map PV.str)),val (.int sc)]:=rfl
   unfold ax aG bf
   simp only[aa,aL,aT,M.rZ,er,ec,OG (by lia:(bo 0 q.toNat).length≤100000),M.bZ]
   refine Gen.le (Gen.bind (Gen.lc (ρ:=[un,val .br,val h,val (.lst (ps.map PV.str)),val (.int sc)]) (c:=7) (Pr:=Ki) _ _ (fun _=>rfl) (fun y hy=>?_)) (d:=0) ?_) (by rw[hlen];lia)
   ·simp only[N0,aL,aT,M.rZ]
    exact Cw H s0 s1 p0 p1 pw
   ·rintro rs ⟨z1,z2⟩
    exact Gen.eq (y:=.nx _) rfl ⟨_,rfl,rs,by rw[z1,hlen];lia,z2,rfl⟩
  rintro _ ⟨rs,r0,r1,rfl⟩
  obtain⟨us,hus⟩:=NH r1
  have hrs:oV 2500 2 (.tup rs):=(mG (c:=400) (dp:=1) (n:=6) (fun z hz=>(r1 z hz).1) r0).mono (by lia) (by lia)
  refine Gen.eq (y:=.nx (o1 h sc k ps sl (l++[.tup [.str "rule",.int n,.int m,.str x,.tup rs]]) (ns++[n]) [e8,val (.int w),val (.int m),val (.str x),val (.int q),val (.lst rs),e14])) ?_ ⟨_,_,_,_,_,_,_,_,rfl,by simp,⟨hp.snoc nn n0 n1 ⟨"rule",x,m,[.tup rs],rfl,.inr ⟨.inr rfl,_,rfl,hrs,rfl⟩,m0,m1⟩,Ct hgs (.inl ⟨n,m,x,us,by rw[←hus],by rw[hus,NT] at r0;exact r0⟩)⟩⟩
  simp only[dR,N7,N8,aa,ab,aL,aT,CA,Ly,M.rZ,en,ee,mW,Ll,OG hlz]
  rfl
 rw[eP (by rw[lt,Oh c3])]
 have e6:aK (ab (cC false) (fun ρ=>aq ρ 5) (aG (fun ρ=>((fun _=>M.ret []) ρ).bind aO))) (o1 h sc k ps sl l (ns++[n]) [e8,val (.int w),val (.int m),e11,e12,e13,e14])= .ret sl.isEmpty:=by
  simp only[aK,ab,aG,aL,aT,M.rZ,IB]
  cases sl<;>rfl
 have eor:Ig (aK (ab r8 (fun ρ=>aq ρ 9) (fun _=>M.ret (.int 6)))) (aK (ab (cC false) (fun ρ=>aq ρ 5) (aG (fun ρ=>((fun _=>M.ret []) ρ).bind aO)))) (o1 h sc k ps sl l (ns++[n]) [e8,val (.int w),val (.int m),e11,e12,e13,e14])= .ret (decide (w < 6)||sl.isEmpty):=by
  unfold Ig
  rw[lt,e6]
  cases decide (w < 6)<;>rfl
 cases c6:(decide (w < 6)||sl.isEmpty) with
 |true=>
  rw[d5 (by rw[eor,c6])]
  refine Gen.le (lE (c:=2) (d:=1) (I:=fun ρ=> ∃ v:Int,v.natAbs < 10 ^ 61∧ρ=o1 h sc k ps sl l (ns++[n]) [e8,val (.int w),val (.int m),e11,e12,e13,val (.int v)]) ?_ ?_) (by decide)
  ·have ep:Bm (.int 10) (.int 50)= .ret (.int (10 ^ 50)):=by
    unfold Bm wC
    dsimp only
    rw[OG (by decide +kernel)]
    rfl
   simp only[ax,ab,aG,aa,aL,aT,M.rZ,ep,IA,af,M.bZ]
   refine Gen.le (Gen.bind (Gen.draw (by lia) (by lia)) (d:=1) ?_) (by decide)
   rintro _ ⟨d,rfl,d0,d1⟩
   have es:zd (.int d) (.int 3)= .ret (.int (d - 3)):=rfl
   simp only[es,M.rZ]
   refine Gen.le (Gen.bind (Gen.draw (by lia) (by lia)) (d:=0) ?_) (by decide)
   rintro _ ⟨g,rfl,g0,g1⟩
   obtain⟨y,hy,e⟩:=eV (l:=[PV.int 1,PV.int 1,PV.int 1,PV.int (10 ^ 50)]) g0 g1
   obtain⟨u,rfl,hu⟩: ∃ u:Int,y= .int u∧(u=1∨u=10 ^ 50):=by
    simp only[N2,N3,or_false] at hy
    rcases hy with rfl|rfl|rfl|rfl
    ·exact⟨_,rfl,.inl rfl⟩
    ·exact⟨_,rfl,.inl rfl⟩
    ·exact⟨_,rfl,.inl rfl⟩
    ·exact⟨_,rfl,.inr rfl⟩
   simp only[az,e,M.bO,M.rZ]
   rw[ux (by lia) (by lia)]
   refine Gen.eq (y:=.nx _) rfl ⟨_,rfl,(d - 3) * u,?_,rfl⟩
   rcases hu with rfl|rfl
   ·lia
   ·lia
  rintro _ ⟨v,hv,rfl⟩
  simp only[dR,N7,N8,aa,ab,aL,aT,CA,Ly,M.rZ,en,ee,dA,af,NT,M.bZ]
  rw[←M.bZ]
  refine Gen.le (Gen.bind (sr (l:=ps.map PV.str) (by rw[NT]) (by rw[NT];lia) (by rw[NT];lia)) (d:=0) ?_) (by decide)
  intro y hy
  obtain⟨x,hx,rfl⟩:=N4.mp hy
  refine Gen.eq (y:=.nx (o1 h sc k ps sl (l++[.tup [.str "read",.int n,.int m,.str x,.int v]]) (ns++[n]) [e8,val (.int w),val (.int m),e11,e12,e13,val (.int v)])) ?_ ⟨_,_,_,_,_,_,_,_,rfl,by simp,⟨hp.snoc nn n0 n1 ⟨"read",x,m,[.int v],rfl,.inr ⟨.inl rfl,_,rfl,big (c:=0) (si hv),rfl⟩,m0,m1⟩,Ct hgs (.inr (.inl ⟨n,m,x,v,rfl⟩))⟩⟩
  simp only[M.rZ,Ll,OG hlz]
  rfl
 |false=>
  rw[eP (by rw[eor,c6])]
  have hse:0 < sl.length:=by
   rw[Bool.or_eq_false_iff] at c6
   cases sl with
   |nil=>exact absurd c6.2 (by decide)
   |cons a b=>simp
  simp only[dR,N7,N8,aa,ab,aL,aT,CA,Ly,M.rZ,en,ee,dA,af,NT,M.bZ]
  rw[←M.bZ]
  refine Gen.le (Gen.bind (sr (l:=sl.map PV.str) (by rw[NT]) (by rw[NT];lia) (by rw[NT];lia)) (d:=0) ?_) (by decide)
  intro y hy
  obtain⟨x,hx,rfl⟩:=N4.mp hy
  refine Gen.eq (y:=.nx (o1 h sc k ps sl (l++[.tup [.str "look",.int n,.int m,.str x]]) (ns++[n]) [e8,val (.int w),val (.int m),e11,e12,e13,e14])) ?_ ⟨_,_,_,_,_,_,_,_,rfl,by simp,⟨hp.snoc nn n0 n1 ⟨"look",x,m,[],rfl,.inl ⟨rfl,rfl⟩,m0,m1⟩,Ct hgs (.inr (.inr ((sw x hx).elim fun q hq=>⟨n,m,x,q,rfl,hq⟩)))⟩⟩
  simp only[M.rZ,MX,OG hlz]
  rfl
theorem zW {h:PV} {ws:List (Str×List PV)} {aC sc k:Int} (H:fz h ws aC) (s0:1≤sc) (s1:sc≤33333) (k0:0≤k) (k1:k≤60):Gen (fB [.br,h,.int sc,.int k]) (29+k.toNat * 60) (fun y=> ∃ l ns,y= .lst l∧l.length=k.toNat∧vv ws l ns):=by
 obtain⟨h0,_⟩:=gB H
 obtain⟨p,ws',rfl⟩: ∃ p ws',ws=p::ws':=by
  obtain⟨_,_,w0,_⟩:=H
  match ws,w0 with
  |p::ws',_=>exact⟨p,ws',rfl⟩
 have hw0:Wd p.1:=by
  obtain⟨_,_,_,_,hw,_⟩:=H
  exact(hw p NS).1
 unfold fB iS
 show Gen ((au _ _ [val .br,val h,val (.int sc),val (.int k),un,un,un,un,un,un,un,un,un,un,un]).bind bu) _ _
 refine Gen.le (cq (c:=29) (d:=k.toNat * 60) (I:=fun ρ=> ∃ ps:List Str,0 < ps.length∧ps.length≤20∧(∀ z∈ps,Wd z)∧ρ=[val .br,val h,val (.int sc),val (.int k),val (.lst (ps.map PV.str)),un,un,un,un,un,un,un,un,un,un]) ?_ ?_) (by lia)
 ·have i0:az (.tup ((p::ws').map fun p=>PV.tup (.str p.1::p.2))) (.int 0)= .ret (.tup (.str p.1::p.2)):=by simp only[az,N1,j4,M.bO]
  have i1:az (.tup (.str p.1::p.2)) (.int 0)= .ret (.str p.1):=by simp only[az,j4,M.bO]
  simp only[ax,aG,sL,ab,aa,aL,aT,M.rZ,h0,i0,i1,Lm,af,M.bZ]
  refine Gen.le (Gen.bind (Gen.draw (by lia) (by lia)) (d:=28) ?_) (by decide)
  rintro _ ⟨d,rfl,d0,d1⟩
  have ea:cu (.int 1) (.int d)= .ret (.int (1+d)):=rfl
  simp only[ea,M.rZ]
  refine Gen.le (Gen.bind (lF (k:=1+d) (by lia) (by lia)) (d:=1) ?_) (by lia)
  rintro _ ⟨zs,rfl,hl,hz,_⟩
  refine Gen.le (Gen.bind (Gen.draw (by lia) (by lia)) (d:=0) ?_) (by decide)
  rintro _ ⟨g,rfl,g0,g1⟩
  obtain⟨ps',hps',em⟩: ∃ ps':List Str,(ps'=[]∨ps'=[p.1])∧jo (.lst [.str p.1]) (.int g)= .ret (.lst (ps'.map PV.str)):=by
   obtain rfl|rfl:g=0∨g=1:=by lia
   ·exact⟨[],.inl rfl,rfl⟩
   ·exact⟨[p.1],.inr rfl,rfl⟩
  have hlen:(zs.map PV.str).length+(ps'.map PV.str).length≤100000:=by
   rcases hps' with rfl|rfl<;>simp<;>lia
  refine Gen.eq (y:=.nx _) (by simp only[em,M.rZ,OG hlen];rfl) ⟨_,rfl,zs++ps',?_,?_,fun z hz'=>?_,by rw[List.map_append];rfl⟩
  ·rw[Oi];lia
  ·rcases hps' with rfl|rfl<;>simp<;>lia
  ·rcases OF.mp hz' with hz'|hz'
   ·exact hz z hz'
   ·rcases hps' with rfl|rfl
    ·exact absurd hz' N3
    ·rw[Om.mp hz'];exact hw0
 rintro _ ⟨ps,p0,p1,pw,rfl⟩
 obtain⟨sl,sw,sz,esl⟩:=zi H
 refine Gen.le (cq (c:=0) (d:=k.toNat * 60) (I:=fun ρ=>ρ=[val .br,val h,val (.int sc),val (.int k),val (.lst (ps.map PV.str)),val (.lst (sl.map PV.str)),un,un,un,un,un,un,un,un,un]) ?_ ?_) (by lia)
 ·refine Cu (I:=fun ρ=>ρ=_) ?_ rfl
  have hwl:((p::ws').map fun p=>PV.tup (.str p.1::p.2)).length≤100000:=by
   obtain⟨_,_,_,w1,_⟩:=H
   rw[NT];lia
  have ec:c9 [none] [val .br,val h,val (.int sc),val (.int k),val (.lst (ps.map PV.str)),un,un,un,un,un,un,un,un,un,un]=[un]:=rfl
  unfold ax aG bf
  dsimp only
  rw[show ((ab az (fun ρ=>aq ρ 1) (fun _=>M.ret (.int 0))) [val .br,val h,val (.int sc),val (.int k),val (.lst (ps.map PV.str)),un,un,un,un,un,un,un,un,un,un])= .ret (.tup ((p::ws').map fun p=>.tup (.str p.1::p.2))) by simp only[ab,aL,aT,M.rZ,h0]]
  simp only[M.rZ,aH,OG hwl,ec]
  rw[esl]
  rfl
 rintro _ rfl
 refine Gen.le (cq (c:=0) (d:=k.toNat * 60) (I:=fun ρ=>ρ=[val .br,val h,val (.int sc),val (.int k),val (.lst (ps.map PV.str)),val (.lst (sl.map PV.str)),Ent.own [],un,un,un,un,un,un,un,un]) (Cu (by simp[h7,aO]) rfl) ?_) (by lia)
 rintro _ rfl
 refine Gen.le (cq (c:=0) (d:=k.toNat * 60) (I:=fun ρ=>ρ=o1 h sc k ps sl [] [] [un,un,un,un,un,un,un]) (Cu (by simp[h7,aO]) rfl) ?_) (by lia)
 rintro _ rfl
 have hint:(bo 0 k.toNat).length=k.toNat:=by simp[bo]
 have er:bN [.int k]= .ret (bo 0 k.toNat):=by simp only[bN,OG (by lia: -1000000≤k∧k≤100000)]
 refine Gen.le (cq (c:=k.toNat * 60) (d:=0) (I:=fun ρ=> ∃ (l:List PV) (ns:List Int) (r:List Ent),l.length=k.toNat∧vv (p::ws') l ns∧ρ=o1 h sc k ps sl l ns r) ?_ ?_) (by lia)
 ·show Gen (aP (fun ρ=>((aa (fun ρ=>aq ρ 3) (fun _=>M.ret [])) ρ).bind bN) (aA 8) Mk _) _ _
  unfold aP
  simp only[aa,aL,aT,M.rZ,er]
  refine Gen.mono (Ja (k:=8) (c:=60) (Iv:=fun i ρ=> ∃ (l:List PV) (ns:List Int) (e8 e9 e10 e11 e12 e13 e14:Ent),l.length=i∧vv (p::ws') l ns∧ρ=o1 h sc k ps sl l ns [e8,e9,e10,e11,e12,e13,e14]) (bo 0 k.toNat) 0 _ ⟨[],[],_,_,_,_,_,_,_,rfl,⟨⟨rfl,List.nodup_nil,fun z hz=>absurd hz N3,fun i n z e=>by simp at e⟩,fun z hz=>absurd hz N3⟩,rfl⟩ ?_) (by rw[hint];exact NZ _) ?_
  rotate_left
  ·rintro f ⟨ρ',rfl,l,ns,e8,e9,e10,e11,e12,e13,e14,hl,hp,rfl⟩
   rw[hint,Nat.zero_add] at hl
   exact⟨_,rfl,l,ns,_,hl,hp,rfl⟩
  ·rintro y hy j hj _ ⟨l,ns,e8,e9,e10,e11,e12,e13,e14,hl,hp,rfl⟩
   rw[hint] at hj
   show Gen (Mk (o1 h sc k ps sl l ns [val y,e9,e10,e11,e12,e13,e14])) 60 _
   refine Gen.mono (Fd H s0 s1 p0 p1 pw sw sz hp (by lia)) (NZ _) ?_
   rintro f ⟨l',ns',e9,e10,e11,e12,e13,e14,rfl,hl',hp'⟩
   exact⟨_,rfl,l',ns',_,_,_,_,_,_,_,by lia,hp',rfl⟩
 ·rintro _ ⟨l,ns,r,hl,hp,rfl⟩
  exact Gen.eq (bA (aU rfl)) ⟨l,ns,rfl,hl,hp⟩
theorem Au {a b:Str} {r r':List PV} (e:PV.tup (.str a::r)= .tup (.str b::r')) (h:a≠b):False:=by
 injection e with e
 injection e with e
 injection e with e
 exact h e
theorem lD: ∀ {ws:List (Str×List PV)} {p q:Str×List PV},(ws.map (·.1)).Nodup→p∈ws→q∈ws→p.1=q.1→p=q
 |[],_,_,_,hp,_,_=>absurd hp N3
 |w::ws,p,q,nd,hp,hq,e=>by
  rw[N1,List.nodup_cons] at nd
  rcases N2.mp hp with rfl|hp
  ·rcases N2.mp hq with rfl|hq
   ·rfl
   ·exact absurd (e▸Oq hq) nd.1
  ·rcases N2.mp hq with e2|hq
   ·rw[←e2,←e] at nd
    exact absurd (Oq hp) nd.1
   ·exact lD nd.2 hp hq e
theorem NI (x:Str):cC true (.str x) (.str x)= .ret (.bl false):=by
 show M.ret (PV.bl (xor true (x==x)))=_
 simp
theorem FI {l:List PV} {ns:List Int} (h:aX l ns) (hl:l.length < 64):gZ [.lst l]= .ret (.tup (aM l)):=by
 have a7:J9 l=true:=by
  unfold J9
  simp only[Ov,decide_eq_true_eq,List.all_eq_true]
  exact⟨⟨hl,fun z hz=>h.Nw hz⟩,h.nd⟩
 have es:qc (.lst l)= .ret (aM l):=by
  unfold qc
  show (if J9 l then M.ret (aM l) else .fail)=_
  rw[OG a7]
 unfold gZ gx
 show (aV _ [val (.lst l)]).bind bu=_
 refine bA (aU ?_)
 simp only[List.map,Ent.freeze,aG,aa,aL,aT,M.rZ,es,mW]
def Ru.dec:PV→Ru
 | .tup [.str _,.int a,.int b]=>.g9 a b
 | .tup [.str w,.str p,.int n]=>.post (w==("least":Str)) p n
 | .tup [.str _,.int n]=>.looked n
 | .tup [.str _,.str o]=>.xN o
 |_=>.never
theorem Jt (r:Ru):Ru.dec r.pv=r:=by
 cases r with
 |post b p n=>
  cases b with
  |true=>show Ru.post (("least":Str)==("least":Str)) p n=_;rw[show (("least":Str)==("least":Str))=true by decide +kernel]
  |false=>show Ru.post (("most":Str)==("least":Str)) p n=_;rw[show (("most":Str)==("least":Str))=false by decide +kernel]
 |_=>rfl
def dM:PV→List Ru
 | .tup [_,_,_,_,.tup vs]=>vs.map Ru.dec
 |_=>[]
theorem qd (a b c d:PV) (rs:List Ru):dM (.tup [a,b,c,d,.tup (rs.map Ru.pv)])=rs:=by
 show (rs.map Ru.pv).map Ru.dec=rs
 rw[List.map_map]
 exact(List.map_congr_left fun r _=>Jt r).trans (List.map_id rs)
theorem nr {ws:List (Str×List PV)} {l:List PV} {ns:List Int} (hg:vv ws l ns) (hl:l.length≤1000) (z:Str) (t:Int):
  (dM (six l "rule" z t)).length≤6∧bL [.tup (aM l),.str z,.int t]= .ret (.tup ((dM (six l "rule" z t)).map Ru.pv))∧bC [.lst l,.str z,.int t]= .ret (.tup ((dM (six l "rule" z t)).map Ru.pv)):=by
 have s1:=seen hg.1 "rule" z t
 have s2:=BH hg.1 hl "rule" z t
 have fin: ∀ v:PV,(∀ e0 e1 e2:Ent,o6 (aK (ab (iW false) (fun ρ=>aq ρ 3) (fun _=>M.ret .aE))) (fun ρ=>((fun _=>M.ret []) ρ).bind aS) (ab az (fun ρ=>aq ρ 3) (fun _=>M.ret (.int 4))) [e0,e1,e2,val (six l "rule" z t)]= .ret v)→bL [.tup (aM l),.str z,.int t]= .ret v∧bC [.lst l,.str z,.int t]= .ret v:=fun v hv=>by
  constructor
  ·unfold bL jJ
   show (au _ _ [val (.tup (aM l)),val (.str z),val (.int t),un]).bind bu=_
   refine aw (ρ':=[val (.tup (aM l)),val (.str z),val (.int t),val (six l "rule" z t)]) ?_ (bA (aU (hv _ _ _)))
   simp only[ax,aa,aL,aT,M.rZ,s1]
   rfl
  ·unfold bC iQ
   show (au _ _ [val (.lst l),val (.str z),val (.int t),un]).bind bu=_
   refine aw (ρ':=[val (.lst l),val (.str z),val (.int t),val (six l "rule" z t)]) ?_ (bA (aU (hv _ _ _)))
   simp only[ax,aa,aL,aT,M.rZ,s2]
   rfl
 rcases fU hg.1 "rule" z t with e|⟨hm,n,hp,hh⟩
 ·rw[e] at fin ⊢
  exact⟨by simp[dM],fin _ fun e0 e1 e2=>rfl⟩
 ·obtain⟨z',m,r,e,_⟩:=n6 hp hh
  rcases hg.2 _ hm with⟨n',m',z'',rs,e',hr⟩|⟨n',m',z'',i,e'⟩|⟨n',m',z'',q,e',_⟩
  ·rw[e'] at fin ⊢
   rw[qd]
   exact⟨hr,fin _ fun e0 e1 e2=>rfl⟩
  ·rw[e] at e';exact(Au e' (by decide +kernel)).elim
  ·rw[e] at e';exact(Au e' (by decide +kernel)).elim
def pM (l:List PV) (t:Int):List Str→Str→Bool:=pN l t fun z=>dM (six l "rule" z t)
def Dx (h:PV) (ws:List (Str×List PV)) (l:List PV) (t:Int) (S:List Str):Prop:=
 dC [h,.lst l,.int t]= .ret (.lst (S.map PV.str))∧cy [h,.tup (aM l),.int t]= .ret (.tup (S.map PV.str))∧S=(ws.map (·.1)).filter (pM l t S)∧
  ∀ T:Str→Prop,(∀ z∈ws.map (·.1),∀ S':List Str,(∀ x∈S',T x)→pM l t S' z=true→T z)→∀ x∈S,T x
theorem kj {ws:List (Str×List PV)} {l:List PV} {ns:List Int} (hg:vv ws l ns):Reads l:=fun n m z v hv=>by
 rcases hg.2 _ hv with⟨n',m',z'',rs,e',hr⟩|⟨n',m',z'',i,e'⟩|⟨n',m',z'',q,e',_⟩
 ·exact(Au e' (by decide +kernel)).elim
 ·refine⟨i,?_⟩
  simp at e'
  exact e'.2.2.2
 ·exact(Au e' (by decide +kernel)).elim
theorem yo {h:PV} {ws:List (Str×List PV)} {aC:Int} {l:List PV} {ns:List Int} (H:fz h ws aC) (hg:vv ws l ns) (hl:l.length < 64) (t:Int): ∃ S,Dx h ws l t S:=by
 obtain⟨hm,rfl,w0,w1,hw,d0,d1,nd⟩:=H
 have rp:=fun z=>nr hg (by lia) z t
 have hk: ∀ p∈ws,∃ kd q,p.2= .str kd::q∧((kd==("slope":Str))=false→ff l t p.1=none):=fun p hp=>by
  obtain⟨_,kd,q,e⟩:=hw p hp
  refine⟨kd,q,e,fun hk=>?_⟩
  unfold ff
  rcases fU hg.1 "look" p.1 t with e'|⟨hm,n,hpt,hh⟩
  ·rw[e']
  ·exfalso
   obtain⟨z',m,r,e1,_⟩:=n6 hpt hh
   have hz:z'=p.1:=by
    rw[e1] at hh
    simp[hit] at hh
    exact hh.1
   rcases hg.2 _ hm with⟨n',m',z'',rs,e2,hr⟩|⟨n',m',z'',i,e2⟩|⟨n',m',z'',q',e2,hs⟩
   ·rw[e1] at e2;exact(Au e2 (by decide +kernel)).elim
   ·rw[e1] at e2;exact(Au e2 (by decide +kernel)).elim
   ·rw[e1] at e2
    simp at e2
    have hz2:z''=p.1:=by rw[←e2.2.2.1];exact hz
    rw[hz2] at hs
    have this:=congrArg Prod.snd (lD nd hs hp rfl)
    rw[e] at this
    simp at this
    rw[←this.1] at hk
    exact absurd hk (by decide +kernel)
 obtain⟨S,lo,hS,hT⟩:=B9 (hm:=hm) (dk:=.int aC) (ws:=ws) (ru:=fun z=>dM (six l "rule" z t)) hg.1 (by lia) (kj hg) (fun z=>Od (rp z).1 (by decide)) (by lia) (fun z=>(rp z).2.2)
 exact⟨S,lo,zy (hm:=hm) (dk:=.int aC) hg.1 (kj hg) (fun z=>Od (rp z).1 (by decide)) (by lia) nd hk (fun z=>(rp z).2.1) hS hT,hS,hT⟩
theorem zz {h:PV} {ws:List (Str×List PV)} {l:List PV} {t m:Int} {S S':List Str} (e:pM l t=pM l m) (h1:Dx h ws l t S) (h2:Dx h ws l m S'):S=S':=by
 obtain⟨_,_,a1,a2⟩:=h1
 obtain⟨_,_,b1,b2⟩:=h2
 rw[e] at a1 a2
 have mono: ∀ (A B:List Str),(∀ x∈A,x∈B)→∀ z,pM l m A z=true→pM l m B z=true:=fun A B hs z hz=>uq hs z hz
 have half: ∀ {A B:List Str},(∀ T:Str→Prop,(∀ z∈ws.map (·.1),∀ S':List Str,(∀ x∈S',T x)→pM l m S' z=true→T z)→∀ x∈A,T x)→B=(ws.map (·.1)).filter (pM l m B)→∀ x∈A,x∈B:=fun {A B} hA hB x hx=>by
  refine hA (·∈B) (fun z hz S'' hs a7=>?_) x hx
  rw[hB]
  exact OE.mpr ⟨hz,mono _ _ hs z a7⟩
 have i1:=half a2 b1
 have i2:=half b2 a1
 rw[a1,b1]
 refine List.filter_congr fun z hz=>?_
 have c1:z∈S↔pM l m S z=true:=by
  conv=>lhs;rw[a1]
  rw[OE]
  exact⟨fun h=>h.2,fun h=>⟨hz,h⟩⟩
 have c2:z∈S'↔pM l m S' z=true:=by
  conv=>lhs;rw[b1]
  rw[OE]
  exact⟨fun h=>h.2,fun h=>⟨hz,h⟩⟩
 have c3:z∈S↔z∈S':=⟨i1 z,i2 z⟩
 rw[←Bool.coe_iff_coe]
 exact c1.symm.trans (c3.trans c2)
set_option genInjectivity false in
structure Calm (l:List PV) (m t:Int):Prop where
 le:m≤t
 pg: ∀ (w:Str) (n p:Int) (z:Str) (r:List PV),PV.tup (.str w::.int n::.int p::.str z::r)∈l→p≤t→p≤m
 hr: ∀ (n p:Int) (z:Str) (rs:List Ru) (a b:Int),PV.tup [.str "rule",.int n,.int p,.str z,.tup (rs.map Ru.pv)]∈l→Ru.g9 a b∈rs→(a≤t→a≤m)∧(b≤t→b≤m)
 lk: ∀ (n p:Int) (z:Str) (rs:List Ru) (k n' p':Int),PV.tup [.str "rule",.int n,.int p,.str z,.tup (rs.map Ru.pv)]∈l→Ru.looked k∈rs→PV.tup [.str "look",.int n',.int p',.str z]∈l→p'+k≤t→p'+k≤m
theorem A3 {l:List PV} {ns:List Int} {m t:Int} (h:aX l ns) (c:Calm l m t) (w z:Str):six l w z t=six l w z m:=by
 have e:l.filter (hit w z t)=l.filter (hit w z m):=List.filter_congr fun y hy=>by
  obtain⟨n,⟨w',z',p,r,rfl,_⟩,_⟩:=h.at hy
  show (w'==w&&(z'==z&&decide (p≤t)))=(w'==w&&(z'==z&&decide (p≤m)))
  have:(p≤t)↔(p≤m):=⟨fun q=>c.pg w' n p z' r hy q,fun q=>Int.le_trans q c.le⟩
  rw[decide_eq_decide.mpr this]
 unfold six
 rw[e]
theorem B1 {ws:List (Str×List PV)} {l:List PV} {ns:List Int} {m t:Int} (hg:vv ws l ns) (c:Calm l m t):pM l t=pM l m:=by
 have e6:=A3 hg.1 c
 have e1:iG l t=iG l m:=funext fun p=>by unfold iG;rw[e6]
 have e2: ∀ z,ff l t z=ff l m z:=fun z=>by unfold ff;rw[e6]
 funext S z
 unfold pM pN
 dsimp only
 rw[e6,e1,e2]
 rw[Bool.eq_iff_iff,List.all_eq_true,List.all_eq_true]
 have one: ∀ r∈dM (six l "rule" z m),r.hold (iG l m) (ff l m z) t (dX S)=r.hold (iG l m) (ff l m z) m (dX S):=fun r hr=>by
  rcases fU hg.1 "rule" z m with e|⟨hm,n,hp,hh⟩
  ·rw[e] at hr;exact absurd hr N3
  ·obtain⟨z',p,q,e,_⟩:=n6 hp hh
   have ez:z'=z:=by
    rw[e] at hh
    simp[hit] at hh
    exact hh.1
   rcases hg.2 _ hm with⟨n',m',z'',rs,e',_⟩|⟨n',m',z'',i,e'⟩|⟨n',m',z'',q,e',_⟩
   rotate_left
   ·rw[e] at e';exact(Au e' (by decide +kernel)).elim
   ·rw[e] at e';exact(Au e' (by decide +kernel)).elim
   have ez2:z''=z:=by
    rw[e] at e'
    simp at e'
    rw[←e'.2.2.1];exact ez
   rw[e'] at hr hm
   rw[qd] at hr
   rw[ez2] at hm
   cases r with
   |g9 a b=>
    obtain⟨h1,h2⟩:=c.hr _ _ _ _ a b hm hr
    have:=c.le
    show (decide (a≤t)&&decide (t < b))=(decide (a≤m)&&decide (m < b))
    rw[decide_eq_decide.mpr (⟨h1,fun q=>Int.le_trans q this⟩:a≤t↔a≤m),decide_eq_decide.mpr (⟨fun q=>by lia,fun q=>by lia⟩:t < b↔m < b)]
   |post L p k=>rfl
   |looked k=>
    rcases fU hg.1 "look" z m with e4|⟨hm4,n4,hp4,hh4⟩
    ·have:ff l m z=none:=by unfold ff;rw[e4]
     rw[this];rfl
    ·obtain⟨z4,p4,q4,e5,hk⟩:=n6 hp4 hh4
     have ez4:z4=z:=by
      rw[e5] at hh4
      simp[hit] at hh4
      exact hh4.1
     have:ff l m z=some p4:=by unfold ff;rw[e5]
     rw[this]
     rcases hg.2 _ hm4 with⟨n',m',z'',rs,e',_⟩|⟨n',m',z'',i,e'⟩|⟨n',m',z'',q,e',_⟩
     ·rw[e5] at e';exact(Au e' (by decide +kernel)).elim
     ·rw[e5] at e';exact(Au e' (by decide +kernel)).elim
     ·rw[e5] at e'
      simp at e'
      rw[e5,e'.2.2.2,ez4] at hm4
      have q1:=c.lk _ _ _ _ k _ p4 hm hr hm4
      have:=c.le
      show decide (t < p4+k)=decide (m < p4+k)
      exact decide_eq_decide.mpr ⟨fun q=>by lia,fun q=>by lia⟩
   |xN o=>rfl
   |never=>rfl
 exact⟨fun h r hr=>by rw[←one r hr];exact h r hr,fun h r hr=>by rw[one r hr];exact h r hr⟩
def yu:PV→Int
 | .tup (_::_::.int p::_)=>p
 |_=>0
def nameOf:PV→Str
 | .tup (_::_::_::.str z::_)=>z
 |_=>""
def nX (z:Str):PV→Bool
 | .tup (.str w::_::_::.str z'::_)=>w==("look":Str)&&z'==z
 |_=>false
def wJ:PV→Bool
 | .tup (.str w::_)=>w==("rule":Str)
 |_=>false
def eM (B:List PV) (z:Str):Ru→List Int
 | .g9 a b=>[a,b]
 | .looked n=>(B.filter (nX z)).map fun y=>yu y+n
 |_=>[]
def cG (B:List PV) (y:PV):List Int:=yu y::(if wJ y=true then(dM y).flatMap (eM B (nameOf y)) else[])
theorem v3 {B:List PV} {z:Str} (hB: ∀ y∈B,∃ n,el n y) (hl:B.length≤1000) (r:Ru):bw [.tup B,.str z,r.pv]= .ret (.lst ((eM B z r).map PV.int)):=by
 have look: ∀ {v:PV} {w:Str},az v (.int 0)= .ret (.str w)→∀ (x:Str) (ρ:ae),aq ρ 2= .ret v→aK (ab (cC false) (ab az (fun ρ=>aq ρ 2) (fun _=>M.ret (.int 0))) (fun _=>M.ret (.str x))) ρ= .ret (w==x):=fun {v w} hv x ρ hρ=>by
  simp only[aK,ab,hρ,M.rZ,hv,wU]
 have no: ∀ {v:PV} {w:Str},az v (.int 0)= .ret (.str w)→(w==("hours":Str))=false→(w==("looked":Str))=false→bw [.tup B,.str z,v]= .ret (.lst []):=fun {v w} hv h1 h2=>by
  unfold bw cX
  show (au _ _ [val (.tup B),val (.str z),val v]).bind bu=_
  refine aw (ρ':=[val (.tup B),val (.str z),val v]) (eP (by rw[look hv _ _ rfl,h1])) ?_
  refine aw (ρ':=[val (.tup B),val (.str z),val v]) (eP (by rw[look hv _ _ rfl,h2])) ?_
  exact bA (aU rfl)
 cases r with
 |g9 a b=>
  unfold bw cX
  show (au _ _ [val (.tup B),val (.str z),val (.tup [.str "hours",.int a,.int b])]).bind bu=_
  refine cW ?_
  rw[d5 rfl]
  exact aU rfl
 |looked n=>
  unfold bw cX
  show (au _ _ [val (.tup B),val (.str z),val (.tup [.str "looked",.int n])]).bind bu=_
  refine aw (ρ':=[val (.tup B),val (.str z),val (.tup [.str "looked",.int n])]) rfl ?_
  refine cW ?_
  rw[d5 rfl]
  refine aU ?_
  have ec:c9 [none,some 2,some 1] (List.map Ent.freeze [val (.tup B),val (.str z),val (.tup [.str "looked",.int n])])=[un,val (.tup [.str "looked",.int n]),val (.str z)]:=rfl
  unfold aG bf
  rw[ec]
  have q:=bU (k:=0) (tt:=fI (aK (ab (cC false) (ab az (fun ρ=>aq ρ 0) (fun _=>M.ret (.int 0))) (fun _=>M.ret (.str "look")))) (aK (ab (cC false) (ab az (fun ρ=>aq ρ 0) (fun _=>M.ret (.int 3))) (fun ρ=>aq ρ 2)))) (te:=ab cu (ab az (fun ρ=>aq ρ 0) (fun _=>M.ret (.int 2))) (ab az (fun ρ=>aq ρ 1) (fun _=>M.ret (.int 1)))) (p:=nX z) (f:=fun y=>.int (yu y+n)) (ρ:=[un,val (.tup [.str "looked",.int n]),val (.str z)]) B [un,val (.tup [.str "looked",.int n]),val (.str z)] (fun _=>rfl) (fun y hy=>by
   obtain⟨i,w,z',m,r,rfl,_⟩:=hB y hy
   show _=M.ret (w==("look":Str)&&z'==z)
   simp only[fI,aK,ab,N0,aL,aT,M.rZ,az,j4,JH,M.bO,wU]
   cases w==("look":Str)<;>rfl) (fun y hy _=>by
   obtain⟨i,w,z',m,r,rfl,_⟩:=hB y hy
   simp only[ab,N0,aL,aT,M.rZ,az,vj,oR,M.bO]
   rfl)
  simp only[N1,List.map_nil,Ent.freeze,aL,M.rZ,aH]
  rw[OG (by lia),q,M.rZ]
  show M.ret (PV.lst _)=M.ret (PV.lst (((B.filter (nX z)).map fun y=>yu y+n).map PV.int))
  rw[List.map_map]
  rfl
 |post L p n=>
  cases L with
  |true=>exact no (v:=Ru.pv (.post true p n)) rfl (by decide +kernel) (by decide +kernel)
  |false=>exact no (v:=Ru.pv (.post false p n)) rfl (by decide +kernel) (by decide +kernel)
 |xN o=>exact no (v:=Ru.pv (.xN o)) rfl (by decide +kernel) (by decide +kernel)
 |never=>exact no (v:=Ru.pv .never) rfl (by decide +kernel) (by decide +kernel)
theorem k6 {B:List PV} {z:Str} (r:Ru):(eM B z r).length≤B.length+2:=by
 cases r with
 |g9 a b=>simp[eM]
 |looked n=>
  show ((B.filter (nX z)).map _).length≤_
  rw[NT]
  have:=List.length_filter_le (nX z) B
  lia
 |_=>simp[eM]
def Mf:ae→M Fl:=(zZ 2 (fun ρ=>((aa (fun ρ=>aq ρ 1) (aa (ab az (fun ρ=>aq ρ 3) (fun _=>M.ret (.int 3))) (aa (fun ρ=>aq ρ 4) (fun _=>M.ret [])))) ρ).bind bw))
def J5:ae→M Fl:=(au (dR 2 (ab az (fun ρ=>aq ρ 3) (fun _=>M.ret (.int 2))))
  (dO (aK (ab (cC false) (ab az (fun ρ=>aq ρ 3) (fun _=>M.ret (.int 0))) (fun _=>M.ret (.str "rule"))))
  (aP (fun ρ=>((ab az (fun ρ=>aq ρ 3) (fun _=>M.ret (.int 4))) ρ).bind aH) (aA 4)
  (zZ 2 (fun ρ=>((aa (fun ρ=>aq ρ 1) (aa (ab az (fun ρ=>aq ρ 3) (fun _=>M.ret (.int 3))) (aa (fun ρ=>aq ρ 4) (fun _=>M.ret [])))) ρ).bind bw)))
  (fun ρ=>M.ret (.nx ρ))))
section
variable {h:PV} {B:List PV}
theorem tK (hB: ∀ y∈B,∃ n,el n y) (hl:B.length≤100) {y:PV} {z:Str} (hy:az y (.int 3)= .ret (.str z)): ∀ (rs:List Ru) (xs:List Int) (e4:Ent),xs.length+rs.length * (B.length+2)≤90000→
  ∃ e4',bD (aA 4) Mf (rs.map Ru.pv) [val h,val (.tup B),Ent.own (xs.map PV.int),val y,e4]= .ret (.nx [val h,val (.tup B),Ent.own ((xs++rs.flatMap (eM B z)).map PV.int),val y,e4'])
 |[],xs,e4,_=>⟨e4,by simp[bD]⟩
 |r::rs,xs,e4,hz=>by
  have rl:=k6 (B:=B) (z:=z) r
  simp only[N5,Nat.add_mul,Nat.one_mul] at hz
  obtain⟨e4',ih⟩:=tK hB hl hy rs (xs++eM B z r) (val r.pv) (by rw[Oi];lia)
  refine⟨e4',?_⟩
  rw[N1]
  unfold bD
  have st:Mf [val h,val (.tup B),Ent.own (xs.map PV.int),val y,val r.pv]= .ret (.nx [val h,val (.tup B),Ent.own ((xs++eM B z r).map PV.int),val y,val r.pv]):=by
   unfold Mf zZ
   have hc:(xs.map PV.int).length+((eM B z r).map PV.int).length≤100000:=by rw[NT,NT];lia
   simp only[N7,N8,aa,ab,aL,aT,M.rZ,hy,v3 hB (by lia:B.length≤1000),Lu,OG hc,List.map_append]
   rfl
  simp only[aA,M.rZ,Oz,N0,st]
  rw[ih,List.flatMap_cons,List.append_assoc]
theorem Hl {ws:List (Str×List PV)} (hB: ∀ y∈B,∃ n,el n y) (hl:B.length≤100) {y:PV} (hy:mm ws y) {xs:List Int} (e4:Ent) (hz:xs.length+1+6 * (B.length+2)≤80000):
  ∃ e4',J5 [val h,val (.tup B),Ent.own (xs.map PV.int),val y,e4]= .ret (.nx [val h,val (.tup B),Ent.own ((xs++cG B y).map PV.int),val y,e4']):=by
 have app: ∀ {w:Str} {n m:Int} {z:Str} {r:List PV},dR 2 (ab az (fun ρ=>aq ρ 3) (fun _=>M.ret (.int 2))) [val h,val (.tup B),Ent.own (xs.map PV.int),val (.tup (.str w::.int n::.int m::.str z::r)),e4]= .ret (.nx [val h,val (.tup B),Ent.own ((xs++[m]).map PV.int),val (.tup (.str w::.int n::.int m::.str z::r)),e4]):=fun {w n m z r}=>by
  have hc:(xs.map PV.int).length < 100000:=by rw[NT];lia
  unfold dR
  simp only[N7,N8,ab,aL,aT,M.rZ,az,vj,M.bO,OG hc,List.map_append]
  rfl
 have tst: ∀ {w:Str} {r:List PV} {e0 e1 e2 e3:Ent},aK (ab (cC false) (ab az (fun ρ=>aq ρ 3) (fun _=>M.ret (.int 0))) (fun _=>M.ret (.str "rule"))) [e0,e1,e2,val (.tup (.str w::r)),e3]= .ret (w==("rule":Str)):=fun {w r e0 e1 e2 e3}=>by
  simp only[aK,ab,aL,aT,M.rZ,az,j4,M.bO,wU]
 have other: ∀ {w:Str} {n m:Int} {z:Str} {r:List PV},(w==("rule":Str))=false→J5 [val h,val (.tup B),Ent.own (xs.map PV.int),val (.tup (.str w::.int n::.int m::.str z::r)),e4]= .ret (.nx [val h,val (.tup B),Ent.own ((xs++cG B (.tup (.str w::.int n::.int m::.str z::r))).map PV.int),val (.tup (.str w::.int n::.int m::.str z::r)),e4]):=fun {w n m z r} hw=>by
  have ep:cG B (.tup (.str w::.int n::.int m::.str z::r))=[m]:=by
   show m::(if(w==("rule":Str))=true then _ else[])=_
   rw[hw];rfl
  rw[ep]
  unfold J5 au
  rw[app,M.rZ]
  show dO _ _ _ _=_
  rw[eP (by rw[tst,hw])]
 rcases hy with⟨n,m,z,rs,rfl,hr⟩|⟨n,m,z,i,rfl⟩|⟨n,m,z,q,rfl,_⟩
 ·obtain⟨e4',lp⟩:=tK (h:=h) hB hl (y:=.tup [.str "rule",.int n,.int m,.str z,.tup (rs.map Ru.pv)]) (z:=z) rfl rs (xs++[m]) e4 (by
   rw[Oi,List.length_singleton]
   have:rs.length * (B.length+2)≤6 * (B.length+2):=Nat.mul_le_mul_right _ hr
   lia)
  refine⟨e4',?_⟩
  have ep:cG B (.tup [.str "rule",.int n,.int m,.str z,.tup (rs.map Ru.pv)])=[m]++rs.flatMap (eM B z):=by
   show m::(if(("rule":Str)==("rule":Str))=true then(dM _).flatMap (eM B z) else[])=_
   rw[qd,OG (by decide +kernel)]
   rfl
  rw[ep,←List.append_assoc]
  unfold J5 au
  rw[app,M.rZ]
  show dO _ _ _ _=_
  rw[d5 (by rw[tst];exact congrArg M.ret (by decide +kernel))]
  show aP _ (aA 4) Mf _=_
  unfold aP
  simp only[ab,aL,aT,M.rZ,az,Nq,M.bO,aH]
  exact lp
 ·exact⟨e4,other (by decide +kernel)⟩
 ·exact⟨e4,other (by decide +kernel)⟩
theorem xS {ws:List (Str×List PV)} (hB: ∀ y∈B,∃ n,el n y) (hl:B.length≤100): ∀ (C:List PV) (xs:List Int) (e3 e4:Ent),(∀ y∈C,mm ws y)→xs.length+C.length * (1+6 * (B.length+2))≤80000→
  ∃ e3' e4',bD (aA 3) J5 C [val h,val (.tup B),Ent.own (xs.map PV.int),e3,e4]= .ret (.nx [val h,val (.tup B),Ent.own ((xs++C.flatMap (cG B)).map PV.int),e3',e4'])
 |[],xs,e3,e4,_,_=>⟨e3,e4,by simp[bD]⟩
 |y::C,xs,e3,e4,hC,hz=>by
  have pl:(cG B y).length≤1+6 * (B.length+2):=by
   have fm: ∀ rs:List Ru,(rs.flatMap (eM B (nameOf y))).length≤rs.length * (B.length+2):=fun rs=>by
    induction rs with
    |nil=>simp
    |cons r rs ih=>
     rw[List.flatMap_cons,Oi,N5,Nat.add_mul]
     have:=k6 (B:=B) (z:=nameOf y) r
     lia
   unfold cG
   rw[N5]
   by_cases c:wJ y=true
   ·rw[OG c]
    have f1:=fm (dM y)
    have:(dM y).length≤6:=by
     rcases hC y NS with⟨n,m,z,rs,rfl,hr⟩|⟨n,m,z,i,rfl⟩|⟨n,m,z,q,rfl,_⟩
     ·rw[qd];exact hr
     ·simp[dM]
     ·simp[dM]
    have:(dM y).length * (B.length+2)≤6 * (B.length+2):=Nat.mul_le_mul_right _ this
    lia
   ·rw[OH c];simp
  simp only[N5,Nat.add_mul,Nat.one_mul] at hz
  obtain⟨x4,st⟩:=Hl (h:=h) (xs:=xs) hB hl (hC y NS) e4 (by lia)
  obtain⟨e3',e4',ih⟩:=xS hB hl C (xs++cG B y) (val y) x4 (fun z hz=>hC z (NV _ hz)) (by rw[Oi];lia)
  refine⟨e3',e4',?_⟩
  unfold bD
  simp only[aA,M.rZ,Oz,N0,st]
  rw[ih,List.flatMap_cons,List.append_assoc]
end
theorem qr: ∀ is:List Int,nR (is.map Sum.inl)=some is
 |[]=>rfl
 |i::is=>by
  show (nR (is.map Sum.inl)).map (i:: ·)=_
  rw[qr is]
  rfl
theorem sD: ∀ (xs js:List Int),∃ is:List Int,(xs.map PV.int).foldl (fun ks z=>if se ks (keyOf z)=true then ks else ks++[keyOf z]) (js.map Sum.inl)=is.map Sum.inl∧∀ i,i∈is↔i∈js∨i∈xs
 |[],js=>⟨js,rfl,fun i=>by simp⟩
 |x::xs,js=>by
  rw[N1,List.foldl_cons]
  have mem:se (js.map Sum.inl) (keyOf (.int x))=true↔x∈js:=by
   show (List.any (js.map Sum.inl) fun k'=>decide (k'=Sum.inl x))=true↔_
   rw[List.any_eq_true]
   constructor
   ·rintro⟨k,hk,e⟩
    obtain⟨j,hj,rfl⟩:=N4.mp hk
    have:=of_decide_eq_true e
    cases this
    exact hj
   ·exact fun hx=>⟨Sum.inl x,Oq hx,by simp⟩
  by_cases c:x∈js
  ·rw[OG (mem.mpr c)]
   obtain⟨is,e,hi⟩:=sD xs js
   refine⟨is,e,fun i=>?_⟩
   rw[hi,N2]
   constructor
   ·rintro(h|h)
    ·exact .inl h
    ·exact .inr (.inr h)
   ·rintro(h|rfl|h)
    ·exact .inl h
    ·exact .inl c
    ·exact .inr h
  ·rw[OH (fun h=>c (mem.mp h))]
   have ej:js.map Sum.inl++[keyOf (.int x)]=(js++[x]).map (Sum.inl:Int→Key):=by rw[List.map_append];rfl
   rw[ej]
   obtain⟨is,e,hi⟩:=sD xs (js++[x])
   refine⟨is,e,fun i=>?_⟩
   rw[hi,OF,Om,N2]
   constructor
   ·rintro((h|h)|h)
    ·exact .inl h
    ·exact .inr (.inl h)
    ·exact .inr (.inr h)
   ·rintro(h|h|h)
    ·exact .inl (.inl h)
    ·exact .inl (.inr h)
    ·exact .inr h
theorem oh: ∀ (n:Nat) (l:List Int),l.Nodup→(∀ i∈l,0≤i∧i < n)→l.length≤n
 |0,l,_,h=>by
  match l with
  |[]=>exact NZ _
  |i::l=>
   have:=h i NS
   lia
 |n+1,l,nd,h=>by
  by_cases c:(n:Int)∈l
  ·have e:=List.length_erase_of_mem c
   have ih:=oh n (l.erase (n:Int)) (nd.erase _) fun i hi=>by
    obtain⟨h1,h2⟩:=(nd.mem_erase_iff).mp hi
    have:=h i h2
    lia
   lia
  ·have ih:=oh n l nd fun i hi=>by
    have:=h i hi
    have:i≠n:=fun z=>c (z▸hi)
    lia
   lia
theorem AI {h:PV} {ws:List (Str×List PV)} {aC:Int} {l:List PV} {ns:List Int} (H:fz h ws aC) (hg:vv ws l ns) (hl:l.length≤14) (hd:aC≤40):
  ∃ τ:List Int,kR [h,.tup (aM l)]= .ret (.lst (τ.map PV.int))∧τ.Pairwise (· < ·)∧∀ i,i∈τ↔(0≤i∧i≤aC)∧i∈0::(aM l).flatMap (cG (aM l)):=by
 obtain⟨h0,h2⟩:=gB H
 have pm:=cR l
 have hB: ∀ y∈aM l,∃ n,el n y:=fun y hy=>(hg.1.at (pm.mem_iff.mp hy)).imp fun n hn=>hn.1
 have hG: ∀ y∈aM l,mm ws y:=fun y hy=>hg.2 y (pm.mem_iff.mp hy)
 have hlB:(aM l).length≤14:=by rw[pm.length_eq];exact hl
 obtain⟨B,eB⟩: ∃ B,B=aM l:=⟨_,rfl⟩
 rw[←eB] at hB hG hlB ⊢
 have lenb:B.length * (1+6 * (B.length+2))≤14 * (1+6 * (14+2)):=Nat.mul_le_mul hlB (by lia)
 obtain⟨e3,e4,lp⟩:=xS (h:=h) (ws:=ws) hB (by lia) B [0] un un hG (by simp only[List.length_singleton];lia)
 have flen: ∀ C:List PV,(∀ y∈C,mm ws y)→(C.flatMap (cG B)).length≤C.length * (1+6 * (B.length+2)):=fun C=>by
  induction C with
  |nil=>simp
  |cons y C ih=>
   intro hC
   have i1:=ih fun z hz=>hC z (NV _ hz)
   have fm: ∀ rs:List Ru,(rs.flatMap (eM B (nameOf y))).length≤rs.length * (B.length+2):=fun rs=>by
    induction rs with
    |nil=>simp
    |cons r rs ih=>
     rw[List.flatMap_cons,Oi,N5,Nat.add_mul]
     have:=k6 (B:=B) (z:=nameOf y) r
     lia
   rw[List.flatMap_cons,Oi,N5,Nat.add_mul,Nat.one_mul]
   have:(cG B y).length≤1+6 * (B.length+2):=by
    unfold cG
    rw[N5]
    by_cases c:wJ y=true
    ·rw[OG c]
     have f1:=fm (dM y)
     have:(dM y).length≤6:=by
      rcases hC y NS with⟨n,m,z,rs,rfl,hr⟩|⟨n,m,z,i,rfl⟩|⟨n,m,z,q,rfl,_⟩
      ·rw[qd];exact hr
      ·simp[dM]
      ·simp[dM]
     have:(dM y).length * (B.length+2)≤6 * (B.length+2):=Nat.mul_le_mul_right _ this
     lia
    ·rw[OH c];simp
   lia
 have fl:=flen B hG
 obtain⟨xs,exs⟩: ∃ xs,xs=0::B.flatMap (cG B):=⟨_,rfl⟩
 have exs':[0]++B.flatMap (cG B)=xs:=by rw[exs];rfl
 have xl:xs.length≤4000:=by rw[exs,N5];lia
 rw[exs'] at lp
 rw[←exs]
 obtain⟨is,ei,mi⟩:=sD (xs.filter fun i=>decide (0≤i)&&decide (i≤aC)) []
 have ei':dk ((xs.filter fun i=>decide (0≤i)&&decide (i≤aC)).map PV.int)=is.map Sum.inl:=ei
 have nd:is.Nodup:=by
  have:=uX ((xs.filter fun i=>decide (0≤i)&&decide (i≤aC)).map PV.int)
  rw[ei'] at this
  exact List.Pairwise.of_map Sum.inl (fun a b h z=>h (by rw[z])) this
 have mem: ∀ i,i∈is↔(0≤i∧i≤aC)∧i∈xs:=fun i=>by
  rw[mi i]
  simp only[N3,false_or,OE,Ov,decide_eq_true_eq]
  exact⟨fun q=>⟨q.2,q.1⟩,fun q=>⟨q.2,q.1⟩⟩
 have few:=oh 41 is nd fun i hi=>by
  have:=((mem i).mp hi).1
  lia
 have srt:sortI ((xs.filter fun i=>decide (0≤i)&&decide (i≤aC)).map PV.int)= .ret ((iq is).map PV.int):=by
  unfold sortI
  rw[ei',qr]
  show (if is.length < 64 then M.ret _ else M.fail)=_
  rw[OG (by lia)]
 refine⟨iq is,?_,?_,fun i=>?_⟩
 ·unfold kR rY
  show (au _ _ [val h,val (.tup B),un,un,un]).bind bu=_
  refine aw (ρ':=[val h,val (.tup B),Ent.own ([0].map PV.int),un,un]) rfl ?_
  refine aw (ρ':=[val h,val (.tup B),Ent.own (xs.map PV.int),e3,e4]) ?_ ?_
  ·show aP _ (aA 3) J5 _=_
   unfold aP
   simp only[aL,aT,M.rZ,aH]
   exact lp
  ·refine bA (aU ?_)
   have ec:c9 [none,some 0] (List.map Ent.freeze [val h,val (.tup B),Ent.own (xs.map PV.int),e3,e4])=[un,val h]:=rfl
   unfold aG B5
   dsimp only
   rw[ec]
   have q:=bU (k:=0) (tt:=aK (chain h9 h9 (fun _=>M.ret (.int 0)) (fun ρ=>aq ρ 0) (ab az (fun ρ=>aq ρ 1) (fun _=>M.ret (.int 2))))) (te:=fun ρ=>(aq ρ 0).bind E8) (p:=fun y=>match y with| .int i=>decide (0≤i)&&decide (i≤aC)|_=>false) (f:=fun y=>y) (ρ:=[un,val h]) (xs.map PV.int) [un,val h] (fun _=>rfl) (fun y hy=>by
    obtain⟨i,_,rfl⟩:=N4.mp hy
    show _=M.ret (decide (0≤i)&&decide (i≤aC))
    simp only[aK,chain,ab,N0,aL,aT,M.rZ,h2,h9]
    by_cases c:(0:Int)≤i
    ·simp[c]
    ·simp[c]) (fun y hy _=>by
    obtain⟨i,_,rfl⟩:=N4.mp hy
    rfl)
   have eg:gv 2 (List.map Ent.freeze [val h,val (.tup B),Ent.own (xs.map PV.int),e3,e4])= .ret (.lst (xs.map PV.int)):=rfl
   rw[eg]
   simp only[M.rZ,aH]
   rw[OG (by rw[NT];exact xl),q,M.rZ,List.map_id',List.filter_map]
   have ef:((fun y=>match y with|PV.int i=>decide (0≤i)&&decide (i≤aC)|_=>false)∘PV.int)=fun i:Int=>decide (0≤i)&&decide (i≤aC):=rfl
   rw[ef,srt]
   rfl
 ·have nds:(iq is).Nodup:=(fT is).nodup_iff.mpr nd
  have le:=m6 is
  exact(le.and nds).imp fun bt=>by obtain⟨a,b⟩:=bt;lia
 ·rw[(fT is).mem_iff,mem]
theorem FE {ws:List (Str×List PV)} {aC:Int} {l:List PV} {ns:List Int} (hg:vv ws l ns) {τ:List Int} (hτ: ∀ i,i∈τ↔(0≤i∧i≤aC)∧i∈0::(aM l).flatMap (cG (aM l))) {m t:Int} (m0:0≤m) (hmt:m≤t) (ht:t≤aC) (hlast: ∀ i∈τ,i≤t→i≤m):Calm l m t:=by
 have pm:=cR l
 have key: ∀ (y:PV) (i:Int),y∈l→i∈cG (aM l) y→i≤t→i≤m:=fun y i hy hi hit=>by
  by_cases c:0≤i
  ·exact hlast i ((hτ i).mpr ⟨⟨c,by lia⟩,NV _ (List.mem_flatMap.mpr ⟨y,pm.mem_iff.mpr hy,hi⟩)⟩) hit
  ·lia
 have rl: ∀ (n p:Int) (z:Str) (rs:List Ru) (r:Ru) (i:Int),PV.tup [.str "rule",.int n,.int p,.str z,.tup (rs.map Ru.pv)]∈l→r∈rs→i∈eM (aM l) z r→i≤t→i≤m:=fun n p z rs r i hy hr hi=>by
  refine key _ i hy ?_
  show i∈p::(if(("rule":Str)==("rule":Str))=true then(dM _).flatMap (eM (aM l) z) else[])
  rw[qd,OG (by decide +kernel)]
  exact NV _ (List.mem_flatMap.mpr ⟨r,hr,hi⟩)
 refine⟨hmt,fun w n p z r hy=>key _ p hy NS,fun n p z rs a b hy hr=>⟨rl _ _ _ _ _ a hy hr NS,rl _ _ _ _ _ b hy hr (NV _ NS)⟩,fun n p z rs k n' p' hy hr hy'=>rl _ _ _ _ _ _ hy hr ?_⟩
 refine N4.mpr ⟨.tup [.str "look",.int n',.int p',.str z],OE.mpr ⟨pm.mem_iff.mpr hy',?_⟩,rfl⟩
 show (("look":Str)==("look":Str)&&z==z)=true
 rw[show (("look":Str)==("look":Str))=true by decide +kernel]
 simp
theorem E6 {ws:List (Str×List PV)} {l:List PV} {ns:List Int} {t:Int} (hw: ∀ p∈ws,Wd p.1∧∃ kd q,p.2=PV.str kd::q) (nd:(ws.map (·.1)).Nodup) (hg:vv ws l ns): ∀ p∈ws,∃ kd q,p.2= .str kd::q∧((kd==("slope":Str))=false→ff l t p.1=none):=fun p hp=>by
  obtain⟨_,kd,q,e⟩:=hw p hp
  refine⟨kd,q,e,fun hk=>?_⟩
  unfold ff
  rcases fU hg.1 "look" p.1 t with e'|⟨hm,n,hpt,hh⟩
  ·rw[e']
  ·exfalso
   obtain⟨z',m,r,e1,_⟩:=n6 hpt hh
   have hz:z'=p.1:=by
    rw[e1] at hh
    simp[hit] at hh
    exact hh.1
   rcases hg.2 _ hm with⟨n',m',z'',rs,e2,hr⟩|⟨n',m',z'',i,e2⟩|⟨n',m',z'',q',e2,hs⟩
   ·rw[e1] at e2;exact(Au e2 (by decide +kernel)).elim
   ·rw[e1] at e2;exact(Au e2 (by decide +kernel)).elim
   ·rw[e1] at e2
    simp at e2
    have hz2:z''=p.1:=by rw[←e2.2.2.1];exact hz
    rw[hz2] at hs
    have this:=congrArg Prod.snd (lD nd hs hp rfl)
    rw[e] at this
    simp at this
    rw[←this.1] at hk
    exact absurd hk (by decide +kernel)
theorem Dp {g:Ru→Bool}: ∀ (rs:List Ru) (j i:Nat),bad g j rs= .int i→i < j+rs.length
 |[],j,i,e=>by cases e
 |r::rs,j,i,e=>by
  unfold bad at e
  cases c:g r with
  |true=>
   rw[OG c] at e
   have:=Dp rs (j+1) i e
   simp only[N5]
   lia
  |false=>
   rw[OH (by rw[c];decide)] at e
   injection e with e
   simp only[N5]
   lia
theorem m7:oV 82 0 .aE:=⟨.none,by simp only[toD],by simp only[PyData.showable],by simp only[PyData.hasDict],by simp only[PyData.shown];decide,by simp only[PyData.depth];lia⟩
def xo (g:Ru→Bool) (j:Nat):List Ru→List Int
 |[]=>[]
 |r::rs=>if g r=true then xo g (j+1) rs else(j:Int)::xo g (j+1) rs
theorem vh {g:Ru→Bool}: ∀ (rs:List Ru) (j:Nat),bad g j rs=(match xo g j rs with|[]=>.aE|i::_=>.int i)
 |[],j=>rfl
 |r::rs,j=>by
  unfold bad xo
  cases c:g r with
  |true=>rw[OG rfl,OG rfl];exact vh rs (j+1)
  |false=>rw[OH (by decide),OH (by decide)]
def Ml:ae→M Bool:=(pP (aK (fun ρ=>((aa (fun ρ=>aq ρ 2) (aa (fun ρ=>aq ρ 3) (aa (fun ρ=>aq ρ 1) (aa (fun ρ=>aq ρ 4) (aa (fun ρ=>aq ρ 5) (fun _=>M.ret [])))))) ρ).bind cA)))
section
variable {l:List PV} {ns:List Int} {t:Int} {ru:Str→List Ru} {hl:PV} {S:List Str} {z:Str}
theorem yw (h:aX l ns) (hn:l.length≤1000) (hr:Reads l): ∀ (rs:List Ru) (j:Nat) (e0 e1:Ent),pQ (de [0,1]) Ml (fun ρ=>aq ρ 0) (DF j rs) [e0,e1,val (.lst l),val (.str z),val (.int t),val (.lst (S.map PV.str))]= .ret ((xo (fun r=>r.hold (iG l t) (ff l t z) t (dX S)) j rs).map PV.int)
 |[],j,e0,e1=>rfl
 |r::rs,j,e0,e1=>by
  have ih:=yw h hn hr rs (j+1) (val (.int j)) (val r.pv)
  have eb:de [0,1] (.tup [.int j,r.pv]) [e0,e1,val (.lst l),val (.str z),val (.int t),val (.lst (S.map PV.str))]= .ret [val (.int j),val r.pv,val (.lst l),val (.str z),val (.int t),val (.lst (S.map PV.str))]:=rfl
  have lh:=qp (nm:=z) (t:=t) (os:=S) h hn hr r
  have tst:Ml [val (.int j),val r.pv,val (.lst l),val (.str z),val (.int t),val (.lst (S.map PV.str))]= .ret (!(r.hold (iG l t) (ff l t z) t (dX S))):=by
   simp only[Ml,pP,aK,aa,aL,aT,M.rZ,lh]
  unfold DF pQ
  rw[eb,M.rZ,tst,M.rZ]
  unfold xo
  cases c:r.hold (iG l t) (ff l t z) t (dX S) with
  |true=>
   rw[OH (by decide),OG rfl]
   exact ih
  |false=>
   rw[OG (by decide),OH (by decide)]
   simp only[aL,M.rZ,ih,N1]
theorem ET (h:aX l ns) (hn:l.length≤1000) (hr:Reads l) (hu:(ru z).length≤1000) (hru:bC [.lst l,.str z,.int t]= .ret (.tup ((ru z).map Ru.pv))):
  eJ [.lst l,.lst (S.map PV.str),.str z,.int t]= .ret (bad (fun r=>r.hold (iG l t) (ff l t z) t (dX S)) 0 (ru z)):=by
 unfold eJ ly
 show (au _ _ [val (.lst l),val (.lst (S.map PV.str)),val (.str z),val (.int t),un]).bind bu=_
 obtain⟨fs,hfs⟩: ∃ fs,fs=xo (fun r=>r.hold (iG l t) (ff l t z) t (dX S)) 0 (ru z):=⟨_,rfl⟩
 refine aw (ρ':=[val (.lst l),val (.lst (S.map PV.str)),val (.str z),val (.int t),val (.lst (fs.map PV.int))]) ?_ ?_
 ·have ec:c9 [none,none,some 0,some 2,some 3,some 1] [val (.lst l),val (.lst (S.map PV.str)),val (.str z),val (.int t),un]=[un,un,val (.lst l),val (.str z),val (.int t),val (.lst (S.map PV.str))]:=rfl
  have q:=yw (z:=z) (S:=S) (t:=t) h hn hr (ru z) 0 un un
  have hlen:(DF 0 (ru z)).length≤100000:=by
   rw[←oz,lI,NT];lia
  show ax 4 (aG (bf [none,none,some 0,some 2,some 3,some 1] (fun ρ=>((aa (fun ρ=>((aa (fun ρ=>aq ρ 0) (aa (fun ρ=>aq ρ 2) (aa (fun ρ=>aq ρ 3) (fun _=>M.ret [])))) ρ).bind bC) (fun _=>M.ret [])) ρ).bind sA) (de [0,1]) Ml (fun ρ=>aq ρ 0))) [val (.lst l),val (.lst (S.map PV.str)),val (.str z),val (.int t),un]=_
  simp only[ax,aG,bf,aa,aL,aT,M.rZ,hru,sA,oz,OG hlen,ec]
  rw[q,←hfs]
  rfl
 refine bA (aU ?_)
 rw[vh,←hfs]
 show o6 _ _ _ [val (.lst l),val (.lst (S.map PV.str)),val (.str z),val (.int t),val (.lst (fs.map PV.int))]=_
 cases fs with
 |nil=>rw[yH rfl]
 |cons i fs=>
  rw[Co rfl]
  simp only[ab,aL,aT,M.rZ,N1,az,j4,M.bO]
end
def mV (l:List PV) (f:Int→List Str) (w:Str) (u:Int):PV:=bad (fun r=>r.hold (iG l u) (ff l u w) u (dX (f u))) 0 (dM (six l "rule" w u))
theorem EU {ws:List (Str×List PV)} {l:List PV} {ns:List Int} (hg:vv ws l ns) (hl:l.length≤1000) (f:Int→List Str) (w:Str) (u:Int):eJ [.lst l,.lst ((f u).map PV.str),.str w,.int u]= .ret (mV l f w u):=by
 have rp:=nr hg hl w u
 exact ET (ru:=fun z=>dM (six l "rule" z u)) hg.1 hl (kj hg) (Od rp.1 (by decide)) rp.2.2
theorem Hc {h:PV} {ws:List (Str×List PV)} {aC:Int} {l:List PV} {ns:List Int} (H:fz h ws aC) (hg:vv ws l ns) (hl:l.length < 64) {f:Int→List Str} (hf: ∀ t,Dx h ws l t (f t)) {p:Str×List PV} (hp:p∈ws) (u:Int):
  bF [h,.tup (aM l),.str p.1,.int u]= .ret (mV l f p.1 u)∧iW false (mV l f p.1 u) .aE= .ret (.bl (dX (f u) p.1))∧iW true (mV l f p.1 u) .aE= .ret (.bl (!dX (f u) p.1))∧oV 82 0 (mV l f p.1 u):=by
 obtain⟨hm,rfl,w0,w1,hw,d0,d1,nd⟩:=H
 have rp:=nr hg (by lia) p.1 u
 obtain⟨kd,q,e,hk⟩:=E6 (t:=u) hw nd hg p hp
 refine⟨Hb (hm:=hm) (dk:=.int aC) (ru:=fun z=>dM (six l "rule" z u)) hg.1 (kj hg) nd hp e hk (hf u).2.1 rp.2.1,?_⟩
 have m:p.1∈f u↔pM l u (f u) p.1=true:=by
  conv=>lhs;rw[(hf u).2.2.1]
  rw[OE]
  exact⟨fun h=>h.2,fun h=>⟨Oq hp,h⟩⟩
 have inS:dX (f u) p.1=pM l u (f u) p.1:=by
  cases c:pM l u (f u) p.1 with
  |true=>exact gA.mpr (m.mpr c)
  |false=>
   cases c2:dX (f u) p.1 with
   |false=>rfl
   |true=>rw[m.mp (gA.mp c2)] at c;cases c
 rw[inS]
 unfold pM pN mV
 rcases sR (g:=fun r=>r.hold (iG l u) (ff l u p.1) u (dX (f u))) (dM (six l "rule" p.1 u)) 0 with⟨hb,ha⟩|⟨i,hb,ha⟩
 ·rw[hb,ha]
  exact⟨rfl,rfl,m7⟩
 ·have hi:=Dp (g:=fun r=>r.hold (iG l u) (ff l u p.1) u (dX (f u))) (dM (six l "rule" p.1 u)) 0 i hb
  rw[hb,ha]
  refine⟨rfl,rfl,si ?_⟩
  have:=rp.1
  rw[Int.natAbs_natCast]
  have h2:(7:Nat) < 10 ^ 61:=by decide
  lia
def oF:Option Int→PV
 |none=>.aE
 |some m=>.int m
def oW (W:Int→PV):Option Int→PV
 |none=>.aE
 |some m=>W m
def pE (g:Int→Bool) (W:Int→PV) (t:Int) (o:Option Int):PV:=if g t=true then .tup [.str "open",oF o,oW W o] else .tup [.str "shut",W t,oF o]
def h8 (g:Int→Bool) (t m:Int):Bool:=g m !=g t
def Il:ae→M Fl:=(dO (aK (ab Av (gv 5) (gv 3)))
  (au (ax 6 (fun ρ=>((aa (gv 0) (aa (gv 1) (aa (gv 2) (aa (gv 5) aN)))) ρ).bind bF))
  (au (dO (fI (aK (ab (iW false) (gv 4) (fun _=>M.ret .aE))) (aK (ab (iW true) (gv 6) (fun _=>M.ret .aE))))
  (aV (fun ρ=>((aa (cS "open") (aa (gv 5) (aa (gv 6) aN))) ρ).bind aS))
  (fun ρ=>M.ret (.nx ρ)))
  (dO (fI (aK (ab (iW true) (gv 4) (fun _=>M.ret .aE))) (aK (ab (iW false) (gv 6) (fun _=>M.ret .aE))))
  (aV (fun ρ=>((aa (cS "shut") (aa (gv 4) (aa (gv 5) aN))) ρ).bind aS))
  (fun ρ=>M.ret (.nx ρ)))))
  (fun ρ=>M.ret (.nx ρ)))
section
variable {h B:PV} {w:Str} {g:Int→Bool} {W:Int→PV} {t:Int}
abbrev An (h B:PV) (w:Str) (t:Int) (y:PV) (e5 e6:Ent):ae:=[val h,val B,val (.str w),val (.int t),val y,e5,e6]
theorem Ik (hw: ∀ u,bF [h,B,.str w,.int u]= .ret (W u)) (hT: ∀ u,iW false (W u) .aE= .ret (.bl (g u))) (hF: ∀ u,iW true (W u) .aE= .ret (.bl (!g u))) (m:Int) (e6:Ent):
  ((decide (t < m)&&h8 g t m)=true∧Il (An h B w t (W t) (val (.int m)) e6)= .ret (.rt (pE g W t (some m))))∨((decide (t < m)&&h8 g t m)=false∧∃ e6',Il (An h B w t (W t) (val (.int m)) e6)= .ret (.nx (An h B w t (W t) (val (.int m)) e6'))):=by
 have gt:aK (ab Av (fun ρ=>aq ρ 5) (fun ρ=>aq ρ 3)) (An h B w t (W t) (val (.int m)) e6)= .ret (decide (t < m)):=rfl
 unfold Il
 by_cases c:t < m
 ·rw[d5 (by rw[gt,decide_eq_true c]),decide_eq_true c,Bool.true_and]
  have st:ax 6 (fun ρ=>((aa (fun ρ=>aq ρ 0) (aa (fun ρ=>aq ρ 1) (aa (fun ρ=>aq ρ 2) (aa (fun ρ=>aq ρ 5) (fun _=>M.ret []))))) ρ).bind bF) (An h B w t (W t) (val (.int m)) e6)= .ret (.nx (An h B w t (W t) (val (.int m)) (val (W m)))):=by
   simp only[ax,aa,aL,aT,M.rZ,hw]
   rfl
  have t1: ∀ (a b:Bool),fI (aK (ab (iW a) (fun ρ=>aq ρ 4) (fun _=>M.ret .aE))) (aK (ab (iW b) (fun ρ=>aq ρ 6) (fun _=>M.ret .aE))) (An h B w t (W t) (val (.int m)) (val (W m)))= .ret ((xor a (g t))&&(xor b (g m))):=fun a b=>by
   cases a<;>cases b<;>(simp only[fI,aK,ab,aL,aT,M.rZ,hT,hF];cases g t<;>simp)
  unfold au
  rw[st,M.rZ]
  dsimp only
  unfold pE h8
  cases ct:g t with
  |true=>
   cases cm:g m with
   |true=>
    refine .inr ⟨rfl,val (W m),?_⟩
    rw[eP (by rw[t1,ct,cm];rfl),M.rZ]
    show dO _ _ _ _=_
    rw[eP (by rw[t1,ct,cm];rfl)]
   |false=>
    refine .inl ⟨rfl,?_⟩
    rw[d5 (by rw[t1,ct,cm];rfl),aU (y:=.tup [.str "open",.int m,W m]) (by
     simp only[N1,List.map_nil,Ent.freeze,aa,aL,aT,M.rZ,uz])]
    rfl
  |false=>
   cases cm:g m with
   |true=>
    refine .inl ⟨rfl,?_⟩
    rw[eP (by rw[t1,ct,cm];rfl),M.rZ]
    show dO _ _ _ _=_
    rw[d5 (by rw[t1,ct,cm];rfl),aU (y:=.tup [.str "shut",W t,.int m]) (by
     simp only[N1,List.map_nil,Ent.freeze,aa,aL,aT,M.rZ,uz])]
    rfl
   |false=>
    refine .inr ⟨rfl,val (W m),?_⟩
    rw[eP (by rw[t1,ct,cm];rfl),M.rZ]
    show dO _ _ _ _=_
    rw[eP (by rw[t1,ct,cm];rfl)]
 ·rw[eP (by rw[gt,Oh c]),Oh c,Bool.false_and]
  exact .inr ⟨rfl,e6,rfl⟩
theorem yt (hw: ∀ u,bF [h,B,.str w,.int u]= .ret (W u)) (hT: ∀ u,iW false (W u) .aE= .ret (.bl (g u))) (hF: ∀ u,iW true (W u) .aE= .ret (.bl (!g u))): ∀ (τ:List Int) (e5 e6:Ent),
  (∃ m,τ.find? (fun m=>decide (t < m)&&h8 g t m)=some m∧bD (aA 5) Il (τ.map PV.int) (An h B w t (W t) e5 e6)= .ret (.rt (pE g W t (some m))))∨(τ.find? (fun m=>decide (t < m)&&h8 g t m)=none∧∃ e5' e6',bD (aA 5) Il (τ.map PV.int) (An h B w t (W t) e5 e6)= .ret (.nx (An h B w t (W t) e5' e6')))
 |[],e5,e6=>.inr ⟨rfl,e5,e6,rfl⟩
 |m::τ,e5,e6=>by
  rw[N1]
  unfold bD
  simp only[aA,M.rZ,Oz,N0]
  rcases Ik (t:=t) hw hT hF m e6 with⟨c,st⟩|⟨c,e6',st⟩
  ·refine .inl ⟨m,List.find?_cons_of_pos (p:=fun m=>decide (t < m)&&h8 g t m) c,?_⟩
   rw[st]
   rfl
  ·rw[List.find?_cons_of_neg (p:=fun m=>decide (t < m)&&h8 g t m) (by rw[c];decide),st,M.rZ]
   exact yt hw hT hF τ (val (.int m)) e6'
theorem wo (hw: ∀ u,bF [h,B,.str w,.int u]= .ret (W u)) (hT: ∀ u,iW false (W u) .aE= .ret (.bl (g u))) (hF: ∀ u,iW true (W u) .aE= .ret (.bl (!g u))) {τ:List Int} (hτ:kR [h,B]= .ret (.lst (τ.map PV.int))):
  eI [h,B,.str w,.int t]= .ret (pE g W t (τ.find? fun m=>decide (t < m)&&h8 g t m)):=by
 unfold eI lx
 show (au _ _ [val h,val B,val (.str w),val (.int t),un,un,un]).bind bu=_
 refine aw (ρ':=An h B w t (W t) un un) ?_ ?_
 ·simp only[ax,aa,aL,aT,M.rZ,hw]
  rfl
 rcases yt (t:=t) hw hT hF τ un un with⟨m,e,lp⟩|⟨e,e5,e6,lp⟩
 ·rw[e]
  refine cW ?_
  show aP _ (aA 5) Il _=_
  simp only[aP,aa,aL,aT,M.rZ,hτ,aH]
  exact lp
 ·rw[e]
  refine aw (ρ':=An h B w t (W t) e5 e6) ?_ ?_
  ·show aP _ (aA 5) Il _=_
   simp only[aP,aa,aL,aT,M.rZ,hτ,aH]
   exact lp
  ·refine bA (aU ?_)
   unfold pE o6
   have:aK (ab (iW false) (fun ρ=>aq ρ 4) (fun _=>M.ret .aE)) (List.map Ent.freeze (An h B w t (W t) e5 e6))= .ret (g t):=by
    simp only[N1,List.map_nil,Ent.freeze,aK,ab,aL,aT,M.rZ,hT]
   rw[this,M.rZ]
   cases g t with
   |true=>rfl
   |false=>rfl
end
def Mv (g:Int→Bool) (t aC:Int):Option Int→Prop
 |none=> ∀ u,t < u→u≤aC→g u=g t
 |some m=>t < m∧m≤aC∧g m≠g t∧∀ u,t < u→u < m→g u=g t
theorem Fe {g:Int→Bool} {t aC:Int}: ∀ {o o':Option Int},Mv g t aC o→Mv g t aC o'→o=o'
 |none,none,_,_=>rfl
 |none,some m,h,h'=>absurd (h m h'.1 h'.2.1) h'.2.2.1
 |some m,none,h,h'=>absurd (h' m h.1 h.2.1) h.2.2.1
 |some m,some m',h,h'=>by
  rcases Int.lt_trichotomy m m' with c|c|c
  ·exact absurd (h'.2.2.2 m h.1 c) h.2.2.1
  ·rw[c]
  ·exact absurd (h.2.2.2 m' h'.1 c) h'.2.2.1
theorem qq {u:Int}: ∀ (τ:List Int),(∃ i∈τ,i≤u)→∃ i∈τ,i≤u∧∀ j∈τ,j≤u→j≤i
 |[],h=>by obtain⟨i,hi,_⟩:=h;exact absurd hi N3
 |x::τ,h=>by
  by_cases c: ∃ i∈τ,i≤u
  ·obtain⟨i,hi,h1,h2⟩:=qq τ c
   by_cases d:x≤u∧i < x
   ·refine⟨x,NS,d.1,fun j hj hju=>?_⟩
    rcases N2.mp hj with rfl|hj
    ·lia
    ·have:=h2 j hj hju
     lia
   ·refine⟨i,NV _ hi,h1,fun j hj hju=>?_⟩
    rcases N2.mp hj with rfl|hj
    ·lia
    ·exact h2 j hj hju
  ·obtain⟨i,hi,hiu⟩:=h
   rcases N2.mp hi with rfl|hi
   ·refine⟨i,NS,hiu,fun j hj hju=>?_⟩
    rcases N2.mp hj with rfl|hj
    ·lia
    ·exact absurd ⟨j,hj,hju⟩ c
   ·exact absurd ⟨i,hi,hiu⟩ c
theorem zX {g:Int→Bool} {t aC:Int} {τ:List Int} (t0:0≤t) (pw:τ.Pairwise (· < ·)) (z0:(0:Int)∈τ) (hb: ∀ i∈τ,0≤i∧i≤aC) (cst: ∀ i∈τ,∀ u,i≤u→u≤aC→(∀ j∈τ,j≤u→j≤i)→g u=g i) (ht:t≤aC):Mv g t aC (τ.find? fun m=>decide (t < m)&&h8 g t m):=by
 have key: ∀ u,t < u→u≤aC→(∀ i∈τ,t < i→i≤u→g i=g t)→g u=g t:=fun u h1 h2 h3=>by
  obtain⟨i,hi,q1,q2⟩:=qq (u:=u) τ ⟨0,z0,by lia⟩
  rw[cst i hi u q1 h2 q2]
  by_cases c:t < i
  ·exact h3 i hi c q1
  ·exact(cst i hi t (by lia) ht fun j hj hjt=>q2 j hj (by lia)).symm
 cases e:τ.find? (fun m=>decide (t < m)&&h8 g t m) with
 |none=>
  rw[List.find?_eq_none] at e
  refine fun u h1 h2=>key u h1 h2 fun i hi hti hiu=>?_
  have:=e i hi
  rw[decide_eq_true hti,Bool.true_and] at this
  unfold h8 at this
  simpa using this
 |some m=>
  obtain⟨c,as,bs,eq,ha⟩:=List.find?_eq_some_iff_append.mp e
  rw[Ov,decide_eq_true_eq] at c
  have hm:m∈τ:=by rw[eq];simp
  refine⟨c.1,(hb m hm).2,by simpa[h8] using c.2,fun u h1 h2=>key u h1 (by have:=(hb m hm).2;lia) fun i hi hti hiu=>?_⟩
  have him:i < m:=by lia
  have hia:i∈as:=by
   rw[eq] at hi pw
   rcases OF.mp hi with hi|hi
   ·exact hi
   ·rcases N2.mp hi with rfl|hi
    ·lia
    ·have:=(OJ.mp (List.pairwise_append.mp pw).2.1).1 i hi
     lia
  have:=ha i hia
  rw[decide_eq_true hti,Bool.true_and] at this
  simpa[h8] using this
theorem CB {g:Int→Bool} {t aC:Int} {n:Nat} (hn:(n:Int)=aC - t):Mv g t aC (((List.range n).map fun i:Nat=>t+1+(i:Int)).find? fun m=>h8 g t m):=by
 have mem: ∀ u,t < u→u≤aC→u∈(List.range n).map fun i:Nat=>t+1+(i:Int):=fun u h1 h2=>N4.mpr ⟨(u - t - 1).toNat,List.mem_range.mpr (by lia),by lia⟩
 have bd: ∀ u∈(List.range n).map fun i:Nat=>t+1+(i:Int),t < u∧u≤aC:=fun u hu=>by
  obtain⟨i,hi,rfl⟩:=N4.mp hu
  have:=List.mem_range.mp hi
  lia
 have pw:((List.range n).map fun i:Nat=>t+1+(i:Int)).Pairwise (· < ·):=by
  rw[List.pairwise_map]
  exact List.pairwise_lt_range.imp fun {a b} q=>by lia
 cases e:((List.range n).map fun i:Nat=>t+1+(i:Int)).find? fun m=>h8 g t m with
 |none=>
  rw[List.find?_eq_none] at e
  exact fun u h1 h2=>by simpa[h8] using e u (mem u h1 h2)
 |some m=>
  obtain⟨c,as,bs,eq,ha⟩:=List.find?_eq_some_iff_append.mp e
  have hm:m∈(List.range n).map fun i:Nat=>t+1+(i:Int):=by rw[eq];simp
  have bm:=bd m hm
  refine⟨bm.1,bm.2,by simpa[h8] using c,fun u h1 h2=>?_⟩
  have hu:=mem u h1 (by lia)
  have hua:u∈as:=by
   rw[eq] at hu pw
   rcases OF.mp hu with hu|hu
   ·exact hu
   ·rcases N2.mp hu with rfl|hu
    ·lia
    ·have:=(OJ.mp (List.pairwise_append.mp pw).2.1).1 u hu
     lia
  simpa[h8] using ha u hua
theorem aX.drop {l:List PV} {ns:List Int} (h:aX l ns):aX (l.drop 1) (ns.drop 1):=by
 obtain⟨g1,g2,g3,g4⟩:=h
 refine⟨by rw[List.length_drop,List.length_drop,g1],List.Pairwise.sublist (List.drop_sublist 1 ns) g2,fun n hn=>g3 n (List.mem_of_mem_drop hn),fun i n z hn hz=>?_⟩
 rw[List.getElem?_drop] at hn hz
 exact g4 _ n z hn hz
theorem LM (l:List PV):mF l (some 1) none=l.drop 1:=by
 unfold mF
 have e:HT.cb l.length 0 (some 1)=min 1 l.length:=HT.jj _ _ 1
 rw[HT.ki,e]
 cases l with
 |nil=>rfl
 |cons a r=>
  rw[show min 1 (a::r).length=1 by simp]
  exact List.take_of_length_le (by simp)
def C7 (ts:List Int):List Int:=(ts.drop (min 1 ts.length)).take (min 3 ts.length - min 1 ts.length)
theorem C5 (ts:List Int):mF (ts.map PV.int) (some 1) (some 3)=(C7 ts).map PV.int:=by
 unfold mF C7
 have e1:HT.cb (ts.map PV.int).length 0 (some 1)=min 1 (ts.map PV.int).length:=HT.jj _ _ 1
 have e3:HT.cb (ts.map PV.int).length (ts.map PV.int).length (some 3)=min 3 (ts.map PV.int).length:=HT.jj _ _ 3
 rw[e1,e3,NT,List.map_take,List.map_drop]
theorem C6 (ts:List Int) (t:Int) (h:t∈C7 ts):t∈ts:=List.mem_of_mem_drop (List.mem_of_mem_take h)
theorem Hn {f:Int→List Str} {n:Nat} {u:Int} (u0:0≤u) (u1:u < n):az (.lst ((List.range n).map fun i:Nat=>PV.lst ((f i).map PV.str))) (.int u)= .ret (.lst ((f u).map PV.str)):=by
 obtain⟨k,rfl⟩: ∃ k:Nat,u=k:=⟨u.toNat,by lia⟩
 have hk:k < n:=by lia
 have e:((List.range n).map fun i:Nat=>PV.lst ((f i).map PV.str))[k]?=some (PV.lst ((f k).map PV.str)):=by simp[hk]
 simp only[az,gN e,M.bO]
theorem Jp {ws:List (Str×List PV)} {l:List PV} {ns:List Int} (hg:vv ws l ns) (hl:l.length≤1000) {f:Int→List Str} {w:Str} {g:Int→Bool} (hgf: ∀ u,g u=dX (f u) w) {aC t:Int} {n k:Nat} (hn:(n:Int)=aC+1) (hd:aC≤40) (t0:0≤t) (ht:t≤aC) (hk:(k:Int)=aC - t):
  eK [.lst l,.lst ((List.range n).map fun i:Nat=>PV.lst ((f i).map PV.str)),.str w,.int t]= .ret (pE g (mV l f w) t (((List.range k).map fun i:Nat=>t+1+(i:Int)).find? fun m=>h8 g t m)):=by
 have hw:=EU hg hl f w
 have ta: ∀ u,0≤u→u≤aC→az (.lst ((List.range n).map fun i:Nat=>PV.lst ((f i).map PV.str))) (.int u)= .ret (.lst ((f u).map PV.str)):=fun u q1 q2=>Hn q1 (by lia)
 have tl:dA [.lst ((List.range n).map fun i:Nat=>PV.lst ((f i).map PV.str))]= .ret (.int n):=by
  show M.ret (PV.int (((List.range n).map fun i:Nat=>PV.lst ((f i).map PV.str)).length:Nat))=_
  simp
 obtain⟨T,eT⟩: ∃ T,T=PV.lst ((List.range n).map fun i:Nat=>PV.lst ((f i).map PV.str)):=⟨_,rfl⟩
 rw[←eT] at ta tl ⊢
 obtain⟨us,eus⟩: ∃ us,us=(List.range k).map fun i:Nat=>t+1+(i:Int):=⟨_,rfl⟩
 have ub: ∀ u∈us,0≤u∧u≤aC:=fun u hu=>by
  rw[eus] at hu
  obtain⟨i,hi,rfl⟩:=N4.mp hu
  have:=List.mem_range.mp hi
  lia
 rw[←eus]
 have ea:cu (.int t) (.int 1)= .ret (.int (t+1)):=rfl
 have hkn:k≤41:=by lia
 have er:t7 [.int (t+1),.int n]= .ret (us.map PV.int):=by
  have e1:((n:Int) - (t+1)).toNat=k:=by lia
  simp only[t7,OG (by lia: -1000000≤t+1∧t+1≤10000000∧-1000000≤(n:Int)∧(n:Int)≤10000000∧(n:Int) - (t+1)≤100000),e1]
  rw[eus,List.map_map]
  rfl
 have ul:(us.map PV.int).length≤100000:=by rw[eus];simp;lia
 have inL: ∀ u,o5 false (.str w) (.lst ((f u).map PV.str))= .ret (.bl (g u)):=fun u=>by rw[nZ,hgf];simp
 have ne: ∀ a b:Bool,cC true (.bl a) (.bl b)= .ret (.bl (a !=b)):=fun a b=>by cases a<;>cases b<;>rfl
 unfold eK lz
 show (au _ _ [val (.lst l),val T,val (.str w),val (.int t),un,un,un]).bind bu=_
 refine aw (ρ':=[val (.lst l),val T,val (.str w),val (.int t),val (.bl (g t)),un,un]) ?_ ?_
 ·simp only[ax,ab,aL,aT,M.rZ,ta t t0 ht,inL]
  rfl
 refine aw (ρ':=[val (.lst l),val T,val (.str w),val (.int t),val (.bl (g t)),val (.lst ((us.filter fun u=>h8 g t u).map PV.int)),un]) ?_ ?_
 ·have ec:c9 [none,some 2,some 1,some 4] [val (.lst l),val T,val (.str w),val (.int t),val (.bl (g t)),un,un]=[un,val (.str w),val T,val (.bl (g t))]:=rfl
  have q:=bU (k:=0) (tt:=aK (ab (cC true) (ab (o5 false) (fun ρ=>aq ρ 1) (ab az (fun ρ=>aq ρ 2) (fun ρ=>aq ρ 0))) (fun ρ=>aq ρ 3))) (te:=fun ρ=>aq ρ 0) (p:=fun y=>match y with| .int u=>h8 g t u|_=>false) (f:=fun y=>y) (ρ:=[un,val (.str w),val T,val (.bl (g t))]) (us.map PV.int) [un,val (.str w),val T,val (.bl (g t))] (fun _=>rfl) (fun y hy=>by
   obtain⟨u,hu,rfl⟩:=N4.mp hy
   have b:=ub u hu
   show _=M.ret (g u !=g t)
   simp only[aK,ab,N0,aL,aT,M.rZ,ta u b.1 b.2,inL,ne]) (fun y hy _=>by
   simp only[N0,aL])
  unfold ax aG bf
  dsimp only
  rw[ec]
  simp only[aa,ab,aL,aT,M.rZ,ea,tl,er] at q ⊢
  rw[OG ul,q,M.rZ,List.map_id',List.filter_map]
  rfl
 have hd6:(us.filter fun u=>h8 g t u).head?=us.find? fun u=>h8 g t u:=List.head?_filter
 refine aw (ρ':=[val (.lst l),val T,val (.str w),val (.int t),val (.bl (g t)),val (.lst ((us.filter fun u=>h8 g t u).map PV.int)),val (oF (us.find? fun u=>h8 g t u))]) ?_ ?_
 ·rw[←hd6]
  cases us.filter fun u=>h8 g t u with
  |nil=>rfl
  |cons a r=>
   unfold ax
   rw[Co rfl]
   simp only[ab,aL,aT,M.rZ,N1,az,j4,M.bO]
   rfl
 have ob: ∀ m,us.find? (fun u=>h8 g t u)=some m→0≤m∧m≤aC:=fun m e=>ub m (List.mem_of_find?_eq_some e)
 generalize us.find? (fun u=>h8 g t u)=o at ob ⊢
 generalize (us.filter fun u=>h8 g t u).map PV.int=fs
 unfold pE
 have asg: ∀ b:Bool,aK (fun ρ=>aq ρ 4) [val (.lst l),val T,val (.str w),val (.int t),val (.bl b),val (.lst fs),val (oF o)]= .ret b:=fun b=>rfl
 cases c:g t with
 |true=>
  rw[OG rfl]
  refine cW ?_
  rw[d5 (asg true)]
  refine aU ?_
  cases o with
  |none=>rfl
  |some m=>
   have b:=ob m rfl
   simp only[N1,List.map_nil,Ent.freeze,aa,aL,aT,M.rZ]
   rw[yH rfl]
   simp only[ab,aa,aL,aT,M.rZ,oF,ta m b.1 b.2,hw,uz,oW]
 |false=>
  rw[OH (by decide)]
  refine aw (ρ':=[val (.lst l),val T,val (.str w),val (.int t),val (.bl false),val (.lst fs),val (oF o)]) (eP (asg false)) ?_
  refine bA (aU ?_)
  simp only[N1,List.map_nil,Ent.freeze,ab,aa,aL,aT,M.rZ,ta t t0 ht,hw,uz]
def MM:ae→M Fl:=(aP (fun ρ=>((ab az (gv 0) (cI 0)) ρ).bind aH) (aA 6)
  (dO (aK (ab (cC true) (fun ρ=>((aa (fun ρ=>((aa (gv 0) (aa (gv 3) (aa (ab az (gv 6) (cI 0)) (aa (gv 5) aN)))) ρ).bind eI) aN) ρ).bind ju) (fun ρ=>((aa (fun ρ=>((aa (gv 1) (aa (gv 4) (aa (ab az (gv 6) (cI 0)) (aa (gv 5) aN)))) ρ).bind eK) aN) ρ).bind ju)))
  (aV (fun _=>M.ret (.bl false)))
  (fun ρ=>M.ret (.nx ρ))))
def Mj:ae→M Fl:=(dO (aK (ab (cC true) (fun ρ=>((aa (fun ρ=>((aa (gv 0) (aa (gv 3) (aa (ab az (gv 6) (cI 0)) (aa (gv 5) aN)))) ρ).bind eI) aN) ρ).bind ju) (fun ρ=>((aa (fun ρ=>((aa (gv 1) (aa (gv 4) (aa (ab az (gv 6) (cI 0)) (aa (gv 5) aN)))) ρ).bind eK) aN) ρ).bind ju)))
  (aV (fun _=>M.ret (.bl false)))
  (fun ρ=>M.ret (.nx ρ)))
theorem t8 {h:PV} {ws:List (Str×List PV)} {aC:Int} {l:List PV} {ns:List Int} (H:fz h ws aC) (hg:vv ws l ns) (hl:l.length≤14) (hd:aC≤40) {ts:List Int} (hts: ∀ t∈ts,0≤t∧t≤aC):dW [h,.lst l,.lst (ts.map PV.int)]= .ret (.bl true):=by
 obtain⟨h0,h2⟩:=gB H
 obtain⟨f,hf⟩: ∃ f:Int→List Str,∀ t,Dx h ws l t (f t):=⟨fun t=>Classical.choose (yo H hg (by lia) t),fun t=>Classical.choose_spec (yo H hg (by lia) t)⟩
 have d0:1≤aC:=by obtain⟨_,_,_,_,_,d0,_⟩:=H;exact d0
 obtain⟨τ,et,pw,hτ⟩:=AI H hg hl hd
 have z0:(0:Int)∈τ:=(hτ 0).mpr ⟨⟨Int.le_refl _,by lia⟩,NS⟩
 obtain⟨n,hn⟩: ∃ n:Nat,n=(aC+1).toNat:=⟨_,rfl⟩
 obtain⟨T,eT⟩: ∃ T,T=PV.lst ((List.range n).map fun i:Nat=>PV.lst ((f i).map PV.str)):=⟨_,rfl⟩
 unfold dW iR
 show (au _ _ [val h,val (.lst l),val (.lst (ts.map PV.int)),un,un,un,un]).bind bu=_
 refine aw (ρ':=[val h,val (.lst l),val (.lst (ts.map PV.int)),val (.tup (aM l)),un,un,un]) ?_ ?_
 ·simp only[ax,aa,aL,aT,M.rZ,FI hg.1 (by lia:l.length < 64)]
  rfl
 refine aw (ρ':=[val h,val (.lst l),val (.lst (ts.map PV.int)),val (.tup (aM l)),val T,un,un]) ?_ ?_
 ·have ea:cu (.int aC) (.int 1)= .ret (.int (aC+1)):=rfl
  have er:bN [.int (aC+1)]= .ret (bo 0 n):=by simp only[bN,OG (by lia: -1000000≤aC+1∧aC+1≤100000),hn]
  have ec:c9 [none,some 0,some 1] [val h,val (.lst l),val (.lst (ts.map PV.int)),val (.tup (aM l)),un,un,un]=[un,val h,val (.lst l)]:=rfl
  have q:=kz (k:=0) (te:=fun ρ=>((aa (fun ρ=>aq ρ 1) (aa (fun ρ=>aq ρ 2) (aa (fun ρ=>aq ρ 0) (fun _=>M.ret [])))) ρ).bind dC) (f:=fun y=>match y with| .int m=>.lst ((f m).map PV.str)|_=>.aE) (ρ:=[un,val h,val (.lst l)]) (bo 0 n) [un,val h,val (.lst l)] (fun _=>rfl) (fun y hy=>by
   obtain⟨m,_,rfl⟩:=N4.mp hy
   have ho:=(hf (0+(m:Int))).1
   simp only[N0,aa,aL,aT,M.rZ,ho])
  have em:(bo 0 n).map (fun y=>match y with|PV.int m=>PV.lst ((f m).map PV.str)|_=>.aE)=(List.range n).map fun i:Nat=>PV.lst ((f i).map PV.str):=by
   unfold bo
   rw[List.map_map]
   refine List.map_congr_left fun i _=>?_
   show PV.lst ((f (0+(i:Int))).map PV.str)=_
   rw[Int.zero_add]
  have hlen:(bo 0 n).length≤100000:=by simp[bo];lia
  unfold ax aG bf
  dsimp only
  rw[ec]
  simp only[aa,ab,aL,aT,M.rZ,h2,ea,er] at q ⊢
  rw[OG hlen,q,M.rZ,em,←eT]
  rfl
 have one: ∀ p∈ws,∀ t,0≤t→t≤aC→Mj [val h,val (.lst l),val (.lst (ts.map PV.int)),val (.tup (aM l)),val T,val (.int t),val (bG p)]= .ret (.nx [val h,val (.lst l),val (.lst (ts.map PV.int)),val (.tup (aM l)),val T,val (.int t),val (bG p)]):=fun p hp t t0 ht=>by
  have ix:az (bG p) (.int 0)= .ret (.str p.1):=by simp only[az,j4,M.bO]
  have wa:=fun u=>Hc H hg (by lia) hf hp u
  have e1:=wo (h:=h) (B:=.tup (aM l)) (w:=p.1) (g:=fun u=>dX (f u) p.1) (W:=mV l f p.1) (t:=t) (fun u=>(wa u).1) (fun u=>(wa u).2.1) (fun u=>(wa u).2.2.1) et
  have e2:=Jp hg (by lia) (f:=f) (w:=p.1) (g:=fun u=>dX (f u) p.1) (fun _=>rfl) (aC:=aC) (t:=t) (n:=n) (k:=(aC - t).toNat) (by lia) hd t0 ht (by lia)
  have cst: ∀ i∈τ,∀ u,i≤u→u≤aC→(∀ j∈τ,j≤u→j≤i)→dX (f u) p.1=dX (f i) p.1:=fun i hi u q1 q2 q3=>by
   have c:=FE hg hτ ((hτ i).mp hi).1.1 q1 q2 q3
   rw[zz (B1 hg c) (hf u) (hf i)]
  have f1:=zX (g:=fun u=>dX (f u) p.1) t0 pw z0 (fun i hi=>((hτ i).mp hi).1) cst ht
  have f2:=CB (g:=fun u=>dX (f u) p.1) (t:=t) (aC:=aC) (n:=(aC - t).toNat) (by lia)
  rw[←Fe f1 f2,←eT] at e2
  generalize τ.find? (fun m=>decide (t < m)&&h8 (fun u=>dX (f u) p.1) t m)=o at e1 e2 f1
  have ob: ∀ m,o=some m→0≤m∧m≤40:=fun m e=>by
   rw[e] at f1
   have:=f1.1
   have:=f1.2.1
   lia
  have sF:oV 82 0 (oF o):=by
   cases o with
   |none=>exact m7
   |some m=>exact si (by have:=ob m rfl;lia)
  have sW:oV 82 0 (oW (mV l f p.1) o):=by
   cases o with
   |none=>exact m7
   |some m=>exact(wa m).2.2.2
  have so:oV 300 1 (pE (fun u=>dX (f u) p.1) (mV l f p.1) t o)∧Ka (pE (fun u=>dX (f u) p.1) (mV l f p.1) t o)=true:=by
   unfold pE
   split
   ·refine⟨(mG (c:=82) (dp:=0) (n:=3) (fun z hz=>?_) (by simp)).mono (by lia) (by lia),rfl⟩
    simp only[N2,N3,or_false] at hz
    rcases hz with rfl|rfl|rfl
    ·exact ss (by decide)
    ·exact sF
    ·exact sW
   ·refine⟨(mG (c:=82) (dp:=0) (n:=3) (fun z hz=>?_) (by simp)).mono (by lia) (by lia),rfl⟩
    simp only[N2,N3,or_false] at hz
    rcases hz with rfl|rfl|rfl
    ·exact ss (by decide)
    ·exact(wa t).2.2.2
    ·exact sF
  obtain⟨tx,rx⟩:=A8 so.1 so.2 (by lia) (by lia)
  unfold Mj
  refine eP ?_
  simp only[aK,aa,ab,aL,aT,M.rZ,ix,e1,e2,rx,NI]
 have lp: ∀ (vs:List (Str×List PV)) (t:Int),0≤t→t≤aC→∀ e6:Ent,(∀ p∈vs,p∈ws)→∃ e6',bD (aA 6) Mj (vs.map bG) [val h,val (.lst l),val (.lst (ts.map PV.int)),val (.tup (aM l)),val T,val (.int t),e6]= .ret (.nx [val h,val (.lst l),val (.lst (ts.map PV.int)),val (.tup (aM l)),val T,val (.int t),e6']):=fun vs t t0 ht=>by
  induction vs with
  |nil=>exact fun e6 _=>⟨e6,rfl⟩
  |cons p vs ih=>
   intro e6 hs
   obtain⟨e6',ih⟩:=ih (val (bG p)) fun q hq=>hs q (NV _ hq)
   refine⟨e6',?_⟩
   rw[N1]
   unfold bD
   simp only[aA,M.rZ,Oz,N0]
   rw[one p (hs p NS) t t0 ht,M.rZ]
   exact ih
 have lo: ∀ (vs:List Int) (e5 e6:Ent),(∀ t∈vs,0≤t∧t≤aC)→∃ e5' e6',bD (aA 5) MM (vs.map PV.int) [val h,val (.lst l),val (.lst (ts.map PV.int)),val (.tup (aM l)),val T,e5,e6]= .ret (.nx [val h,val (.lst l),val (.lst (ts.map PV.int)),val (.tup (aM l)),val T,e5',e6']):=fun vs=>by
  induction vs with
  |nil=>exact fun e5 e6 _=>⟨e5,e6,rfl⟩
  |cons t vs ih=>
   intro e5 e6 hs
   have b:=hs t NS
   obtain⟨x6,lp1⟩:=lp ws t b.1 b.2 e6 fun p hp=>hp
   obtain⟨e5',e6',ih⟩:=ih (val (.int t)) x6 fun q hq=>hs q (NV _ hq)
   refine⟨e5',e6',?_⟩
   rw[N1]
   unfold bD
   simp only[aA,M.rZ,Oz,N0]
   have st:MM [val h,val (.lst l),val (.lst (ts.map PV.int)),val (.tup (aM l)),val T,val (.int t),e6]= .ret (.nx [val h,val (.lst l),val (.lst (ts.map PV.int)),val (.tup (aM l)),val T,val (.int t),x6]):=by
    show aP _ (aA 6) Mj _=_
    simp only[aP,ab,aL,M.rZ,h0,aH]
    exact lp1
   rw[st,M.rZ]
   exact ih
 obtain⟨e5',e6',lo'⟩:=lo ts un un hts
 refine aw (ρ':=[val h,val (.lst l),val (.lst (ts.map PV.int)),val (.tup (aM l)),val T,e5',e6']) ?_ (bA (aU rfl))
 show aP _ (aA 5) MM _=_
 simp only[aP,aL,aT,M.rZ,aH]
 exact lo'
theorem Ce:(nL ((List.replicate 8 un).set 1 (.val .br))).wp 1000000 fun f _=>f= .rt (.bl true):=by
 have g:Gen (nL ((List.replicate 8 un).set 1 (.val .br))) 2000 (fun f=>f= .rt (.bl true)):=by
  show Gen (nL [un,val .br,un,un,un,un,un,un]) 2000 _
  unfold nL
  refine Gen.le (lE (c:=300) (d:=1600) (I:=fun ρ=> ∃ (hm:PV) (ws:List (Str×List PV)) (aC:Int),fz (.tup [.tup (ws.map bG),hm,.int aC]) ws aC∧ρ=[un,val .br,val (.tup (ws.map bG)),val hm,val (.int aC),un,un,un]) ?_ ?_) (by decide)
  ·simp only[AG,aa,aL,aT,M.rZ]
   refine Gen.le (Gen.bind (Cy (most:=4) (sc:=1) (by decide) (by decide) (by decide) (by decide)) (d:=0) ?_) (by decide)
   rintro h ⟨ws,aC,H⟩
   obtain⟨hm,rfl,r⟩:=id H
   exact Gen.eq (y:=.nx _) rfl ⟨_,rfl,hm,ws,aC,H,rfl⟩
  rintro _ ⟨hm,ws,aC,H,rfl⟩
  obtain⟨_,_,w0,w1,hw,d0,d1,nd⟩:=id H
  obtain⟨d,ed,db0,db1⟩: ∃ d:Int,nK [.int aC,.int 20]= .ret (.int d)∧1≤d∧d≤20:=⟨if 20 < aC then 20 else aC,rfl,by split<;>lia,by split<;>lia⟩
  have H':fz (.tup [.tup (ws.map bG),hm,.int d]) ws d:=⟨hm,rfl,w0,w1,hw,db0,by lia,nd⟩
  obtain⟨h,eh⟩: ∃ h,h=PV.tup [.tup (ws.map bG),hm,.int d]:=⟨_,rfl⟩
  rw[←eh] at H'
  obtain⟨h0,h2⟩:=gB H'
  refine Gen.le (lE (c:=0) (d:=1600) (I:=fun ρ=>ρ=[un,val .br,val (.tup (ws.map bG)),val hm,val (.int aC),val h,un,un]) (Cu ?_ rfl) ?_) (by decide)
  ·simp only[ax,aa,aL,aT,M.rZ,ed,uz,eh]
   rfl
  rintro _ rfl
  refine Gen.le (lE (c:=1500) (d:=100) (I:=fun ρ=> ∃ l ns,l.length≤12∧vv ws l ns∧ρ=[un,val .br,val (.tup (ws.map bG)),val hm,val (.int aC),val h,val (.lst l),un]) ?_ ?_) (by decide)
  ·simp only[ax,aa,aL,aT,M.rZ,af,M.bZ]
   refine Gen.le (Gen.bind (Gen.draw (by lia) (by lia)) (d:=1000) ?_) (by decide)
   rintro _ ⟨k,rfl,k0,k1⟩
   refine Gen.le (Gen.bind (zW (sc:=1) H' (by decide) (by decide) k0 (by lia)) (d:=0) ?_) (by lia)
   rintro _ ⟨l,ns,rfl,hl,hg⟩
   exact Gen.eq (y:=.nx _) rfl ⟨_,rfl,l,ns,by lia,hg,rfl⟩
  rintro _ ⟨l,ns,hl,hg,rfl⟩
  refine Gen.le (lE (c:=3) (d:=90) (I:=fun ρ=> ∃ ts:List Int,(∀ t∈ts,0≤t∧t≤d)∧ρ=[un,val .br,val (.tup (ws.map bG)),val hm,val (.int aC),val h,val (.lst l),val (.lst (ts.map PV.int))]) ?_ ?_) (by decide)
  ·have er:bN [.int 3]= .ret (bo 0 3):=rfl
   have ec:c9 [none,some 1,some 5] [un,val .br,val (.tup (ws.map bG)),val hm,val (.int aC),val h,val (.lst l),un]=[un,val .br,val h]:=rfl
   have ea:cu (.int d) (.int 1)= .ret (.int (d+1)):=rfl
   unfold ax aG sL bf
   dsimp only
   rw[ec]
   simp only[aa,ab,aL,aT,M.rZ,h2,EO,er,OG (by decide:(bo 0 3).length≤100000),M.bZ]
   refine Gen.le (Gen.bind (Gen.lc (ρ:=[un,val .br,val h]) (c:=1) (Pr:=fun y=> ∃ i:Int,y= .int i∧0≤i∧i≤d) _ _ (fun _=>rfl) (fun y hy=>?_)) (d:=0) ?_) (by decide)
   ·simp only[N0,ab,aL,aT,M.rZ,af,h2,ea]
    refine Gen.mono (Gen.draw (m:=d+1) (by lia) (by lia)) (NZ _) ?_
    rintro _ ⟨i,rfl,i0,i1⟩
    exact⟨i,rfl,i0,by lia⟩
   ·rintro rs ⟨z1,z2⟩
    obtain⟨is,rfl,hi⟩: ∃ is:List Int,rs=is.map PV.int∧∀ i∈is,0≤i∧i≤d:=by
     clear z1
     induction rs with
     |nil=>exact⟨[],rfl,fun i hi=>absurd hi N3⟩
     |cons r rs ih=>
      obtain⟨is,rfl,h1⟩:=ih fun z hz=>z2 z (NV _ hz)
      obtain⟨i,rfl,h2⟩:=z2 r NS
      exact⟨i::is,rfl,fun j hj=>by
       rcases N2.mp hj with rfl|hj
       ·exact h2
       ·exact h1 j hj⟩
    have hc:[PV.int 0,PV.int d].length+(is.map PV.int).length≤100000:=by
     rw[z1];simp[bo]
    refine Gen.eq (y:=.nx _) (by simp only[M.rZ,OG hc];rfl) ⟨_,rfl,0::d::is,fun t ht=>?_,rfl⟩
    rcases N2.mp ht with rfl|ht
    ·lia
    ·rcases N2.mp ht with rfl|ht
     ·lia
     ·exact hi t ht
  rintro _ ⟨ts,hts,rfl⟩
  have r1:=t8 H' hg (by lia) (by lia) hts
  have ec:mF (ts.map PV.int) (some 1) (some 3)=(C7 ts).map PV.int:=C5 ts
  have r2:=t8 H' (l:=l.drop 1) (ns:=ns.drop 1) ⟨hg.1.drop,fun y hy=>hg.2 y (List.mem_of_mem_drop hy)⟩ (by rw[List.length_drop];lia) (by lia) (ts:=C7 ts) fun t ht=>hts t (C6 ts t ht)
  refine Gen.le (Gen.eq (y:=.rt (.bl true)) (aU ?_) rfl) (Ol _)
  simp only[N1,List.map_nil,Ent.freeze,fh,aK,Gn,aa,aL,aT,M.rZ,uL,D7,LM,ec,r1,r2,if_true]
 exact M.wp_mono (g.h 1000000 (by decide)) fun f n h=>h.2
theorem Me {α:Type} {us:List α} (h:us.length=1): ∃ a,us=[a]:=by
 match us,h with
 |[a],_=>exact⟨_,rfl⟩
theorem J4 {α:Type} {us:List α} (h:us.length=2): ∃ a b,us=[a,b]:=by
 match us,h with
 |[a,b],_=>exact⟨_,_,rfl⟩
theorem Ar {α:Type} {us:List α} (h:us.length=3): ∃ a b c,us=[a,b,c]:=by
 match us,h with
 |[a,b,c],_=>exact⟨_,_,_,rfl⟩
theorem DD {α:Type} {us:List α} (h:us.length=4): ∃ a b c d,us=[a,b,c,d]:=by
 match us,h with
 |[a,b,c,d],_=>exact⟨_,_,_,_,rfl⟩
theorem NB {α:Type} {us:List α} (h:us.length=5): ∃ a b c d e,us=[a,b,c,d,e]:=by
 match us,h with
 |[a,b,c,d,e],_=>exact⟨_,_,_,_,_,rfl⟩
theorem all_mk {l:PySem.W.OpenLaw} {w:World} {K:Frag} {h:Heap} {mg:Str→Option Value} {q:Program} {fa i8 jb lP j6 ja gR gU fJ eW gV i9 j5 gQ tu lQ jl oO xp sT xt oQ xq oP sX j0 jZ sY sU xr Dq Dr sV qP bR ak bQ ah:Addr} (X:K.In h) (G:h.Ns mainGlobals mg) (hfa:mg "law"=some (.ref fa))
  {od24 an24 od25 an25 od32 an32:Option Addr} {sl24 sl25 sl32:Array (Option Value)} {oc24 kV24 dc24 pm24 cd24 ct24 oc25 kV25 dc25 pm25 cd25 ct25 oc32 kV32 dc32 pm32 cd32 ct32:Value}
  (w0:cO K "way_named" iw i8)
  (w1:cO K "last_page" iF jb)
  (w2:cO K "reading" kY lP)
  (w3:cO K "rules_at" jz j6)
  (w4:cO K "looked_at" iz ja)
  (w5:cO K "post_holds" fW gR)
  (w6:cO K "look_holds" fX gU)
  (w7:cO K "holds_alone" fD fJ)
  (w8:cO K "others_asked" eL eW)
  (w9:cO K "found_open" f6 gV)
  (w10:cO K "open_ways" iy i9)
  (w11:cO K "why_shut" jy j5)
  (w12:cO K "rule_turns" fV gQ)
  (w13:cO K "turns" rD tu)
  (w14:cO K "outlook" kZ lQ)
  (w15:cO K "_law_start" dJ jl)
  (w16:cO K "_law_pick" jC oO)
  (w17:cO K "_law_word" jA xp)
  (w18:cO K "_law_words" iA sT)
  (w19:cO K "_law_hill" jE xt)
  (w20:cO K "_law_moment" fZ oQ)
  (w21:cO K "_law_rule" jB xq)
  (w22:cO K "_law_number" fY oP)
  (w23:cO K "_law_pages" iD sX)
  (x24:nsIn K mainGlobals "_law_book"=some (some (.ref j0))) (l24:K.lookup j0=some ⟨oc24,od24,.func (fnOf "_law_book" "_law_book" (dD bT) (bg bT) (ao bT) .none kV24 dc24 pm24 an24 cd24 ct24),sl24⟩) (c24:codeIn K cd24 "_law_book"=true) (k24:keepIn K (.ref j0)=true)
  (x25:nsIn K mainGlobals "_law_page"=some (some (.ref jZ))) (l25:K.lookup jZ=some ⟨oc25,od25,.func (fnOf "_law_page" "_law_page" (dD bJ) (bg bJ) (ao bJ) .none kV25 dc25 pm25 an25 cd25 ct25),sl25⟩) (c25:codeIn K cd25 "_law_page"=true) (k25:keepIn K (.ref jZ)=true)
  (w26:cO K "_law_holds" iE sY)
  (w27:cO K "_law_rules" iB sU)
  (w28:cO K "_law_open" jD xr)
  (w29:cO K "_law_why" k4 Dq)
  (w30:cO K "_law_due" k5 Dr)
  (w31:cO K "_law_right" iC sV)
  (x32:nsIn K mainGlobals "law"=some (some (.ref qP))) (l32:K.lookup qP=some ⟨oc32,od32,.func (fnOf "law" "law" (dD g8) (bg g8) (ao g8) .none kV32 dc32 pm32 an32 cd32 ct32),sl32⟩) (c32:codeIn K cd32 "law"=true) (k32:keepIn K (.ref qP)=true)
  (z0:nsIn K mainGlobals "len"=some none)
  (z1:nsIn K mainGlobals "abs"=some none)
  (z2:nsIn K mainGlobals "all"=some none)
  (z3:nsIn K mainGlobals "range"=some none)
  (z4:nsIn K mainGlobals "int"=some none)
  (z5:nsIn K mainGlobals "tuple"=some none)
  (z6:nsIn K mainGlobals "max"=some none)
  (z7:nsIn K mainGlobals "min"=some none)
  (z8:nsIn K mainGlobals "sorted"=some none)
  (z9:nsIn K mainGlobals "enumerate"=some none)
  (z10:nsIn K mainGlobals "reversed"=some none)
  (z11:nsIn K mainGlobals "repr"=some none)
  {ov24:Value} {oo24:Option Addr} {fv24:Array Value} {os24:Array (Option Value)} (tc24:cd24= .ref bR) (tv24:K.lookup bR=some ⟨ov24,oo24,.fields fv24,os24⟩) (tw24:fv24[11]?=some (Value.ref ak)) (tt24:PySem.W.tabIn K "_law_book"=some (bR,ak)) (th24:PySem.W.codeHdIn K bR ak=true) (tn24:K.lookup ak=none) (tr24:((recsOf q).find? fun r=>r.name==("_law_book":Str)).isSome=true)
  {ov25:Value} {oo25:Option Addr} {fv25:Array Value} {os25:Array (Option Value)} (tc25:cd25= .ref bQ) (tv25:K.lookup bQ=some ⟨ov25,oo25,.fields fv25,os25⟩) (tw25:fv25[11]?=some (Value.ref ah)) (tt25:PySem.W.tabIn K "_law_page"=some (bQ,ah)) (th25:PySem.W.codeHdIn K bQ ah=true) (tn25:K.lookup ah=none) (tr25:((recsOf q).find? fun r=>r.name==("_law_page":Str)).isSome=true) (cg:ak≠ah) (cf:ah≠ak):
  ∃ (fd:FuncData) (ts:List (Str×Addr×Addr)),(∀ e∈ts,PySem.W.tabIn K e.1=some e.2∧K.lookup e.2.2=none∧((recsOf q).find? fun r=>r.name==e.1).isSome=true)∧(∀ (s:Shared) (v:Value),BindsTo s fd ⟨[v],[]⟩ [("_law_script",v)])∧∀ base:Heap,K.In base→base.Ns mainGlobals mg→DL base mg→cP l.prog w K mg base ig 10 fa fd ["_law_script"] (kX K (ts.map (·.2.2))):=by
 subst tc24
 subst tc25
 have e:=hfa.symm.trans (OD X G x32)
 cases e
 obtain⟨_,F0⟩:=w0.F
 have b0:=F0.binds (ps:=["hill","name"]) fun _ _ _ _ _ _ us hl=>by obtain⟨_,_,rfl⟩:=J4 hl;rfl
 obtain⟨_,F1⟩:=w1.F
 have b1:=F1.binds (ps:=["book","kind","name","t"]) fun _ _ _ _ _ _ us hl=>by obtain⟨_,_,_,_,rfl⟩:=DD hl;rfl
 obtain⟨_,F2⟩:=w2.F
 have b2:=F2.binds (ps:=["book","post","t"]) fun _ _ _ _ _ _ us hl=>by obtain⟨_,_,_,rfl⟩:=Ar hl;rfl
 obtain⟨_,F3⟩:=w3.F
 have b3:=F3.binds (ps:=["book","w","t"]) fun _ _ _ _ _ _ us hl=>by obtain⟨_,_,_,rfl⟩:=Ar hl;rfl
 obtain⟨_,F4⟩:=w4.F
 have b4:=F4.binds (ps:=["book","w","t"]) fun _ _ _ _ _ _ us hl=>by obtain⟨_,_,_,rfl⟩:=Ar hl;rfl
 obtain⟨_,F5⟩:=w5.F
 have b5:=F5.binds (ps:=["book","rule","t"]) fun _ _ _ _ _ _ us hl=>by obtain⟨_,_,_,rfl⟩:=Ar hl;rfl
 obtain⟨_,F6⟩:=w6.F
 have b6:=F6.binds (ps:=["book","way","n","t"]) fun _ _ _ _ _ _ us hl=>by obtain⟨_,_,_,_,rfl⟩:=DD hl;rfl
 obtain⟨_,F7⟩:=w7.F
 have b7:=F7.binds (ps:=["book","way","rule","t"]) fun _ _ _ _ _ _ us hl=>by obtain⟨_,_,_,_,rfl⟩:=DD hl;rfl
 obtain⟨_,F8⟩:=w8.F
 have b8:=F8.binds (ps:=["book","way","t"]) fun _ _ _ _ _ _ us hl=>by obtain⟨_,_,_,rfl⟩:=Ar hl;rfl
 obtain⟨_,F9⟩:=w9.F
 have b9:=F9.binds (ps:=["asked"]) fun _ _ _ _ _ _ us hl=>by obtain⟨_,rfl⟩:=Me hl;rfl
 obtain⟨_,F10⟩:=w10.F
 have b10:=F10.binds (ps:=["hill","book","t"]) fun _ _ _ _ _ _ us hl=>by obtain⟨_,_,_,rfl⟩:=Ar hl;rfl
 obtain⟨_,F11⟩:=w11.F
 have b11:=F11.binds (ps:=["hill","book","w","t"]) fun _ _ _ _ _ _ us hl=>by obtain⟨_,_,_,_,rfl⟩:=DD hl;rfl
 obtain⟨_,F12⟩:=w12.F
 have b12:=F12.binds (ps:=["book","w","rule"]) fun _ _ _ _ _ _ us hl=>by obtain⟨_,_,_,rfl⟩:=Ar hl;rfl
 obtain⟨_,F13⟩:=w13.F
 have b13:=F13.binds (ps:=["hill","book"]) fun _ _ _ _ _ _ us hl=>by obtain⟨_,_,rfl⟩:=J4 hl;rfl
 obtain⟨_,F14⟩:=w14.F
 have b14:=F14.binds (ps:=["hill","book","w","t"]) fun _ _ _ _ _ _ us hl=>by obtain⟨_,_,_,_,rfl⟩:=DD hl;rfl
 obtain⟨_,F15⟩:=w15.F
 have b15:=F15.binds (ps:=["_law_script"]) fun _ _ _ _ _ _ us hl=>by obtain⟨_,rfl⟩:=Me hl;rfl
 obtain⟨_,F16⟩:=w16.F
 have b16:=F16.binds (ps:=["_law_state","_law_many"]) fun _ _ _ _ _ _ us hl=>by obtain⟨_,_,rfl⟩:=J4 hl;rfl
 obtain⟨_,F17⟩:=w17.F
 have b17:=F17.binds (ps:=["_law_state","_law_taken"]) fun _ _ _ _ _ _ us hl=>by obtain⟨_,_,rfl⟩:=J4 hl;rfl
 obtain⟨_,F18⟩:=w18.F
 have b18:=F18.binds (ps:=["_law_state","_law_many"]) fun _ _ _ _ _ _ us hl=>by obtain⟨_,_,rfl⟩:=J4 hl;rfl
 obtain⟨_,F19⟩:=w19.F
 have b19:=F19.binds (ps:=["_law_state","_law_most","_law_scale"]) fun _ _ _ _ _ _ us hl=>by obtain⟨_,_,_,rfl⟩:=Ar hl;rfl
 obtain⟨_,F20⟩:=w20.F
 have b20:=F20.binds (ps:=["_law_state","_law_hill_here","_law_scale"]) fun _ _ _ _ _ _ us hl=>by obtain⟨_,_,_,rfl⟩:=Ar hl;rfl
 obtain⟨_,F21⟩:=w21.F
 have b21:=F21.binds (ps:=["_law_state","_law_hill_here","_law_posts","_law_scale"]) fun _ _ _ _ _ _ us hl=>by obtain⟨_,_,_,_,rfl⟩:=DD hl;rfl
 obtain⟨_,F22⟩:=w22.F
 have b22:=F22.binds (ps:=["_law_state","_law_taken"]) fun _ _ _ _ _ _ us hl=>by obtain⟨_,_,rfl⟩:=J4 hl;rfl
 obtain⟨_,F23⟩:=w23.F
 have b23:=F23.binds (ps:=["_law_state","_law_hill_here","_law_scale","_law_many"]) fun _ _ _ _ _ _ us hl=>by obtain⟨_,_,_,_,rfl⟩:=DD hl;rfl
 have F24:=su (st:=bT) l24 c24 k24
 have b24:=F24.binds (ps:=["_law_pages_here"]) fun _ _ _ _ _ _ us hl=>by obtain⟨_,rfl⟩:=Me hl;rfl
 have F25:=su (st:=bJ) l25 c25 k25
 have b25:=F25.binds (ps:=["_law_pages_here","_law_kind","_law_name","_law_t"]) fun _ _ _ _ _ _ us hl=>by obtain⟨_,_,_,_,rfl⟩:=DD hl;rfl
 obtain⟨_,F26⟩:=w26.F
 have b26:=F26.binds (ps:=["_law_pages_here","_law_name","_law_rule_here","_law_t","_law_opened"]) fun _ _ _ _ _ _ us hl=>by obtain⟨_,_,_,_,_,rfl⟩:=NB hl;rfl
 obtain⟨_,F27⟩:=w27.F
 have b27:=F27.binds (ps:=["_law_pages_here","_law_name","_law_t"]) fun _ _ _ _ _ _ us hl=>by obtain⟨_,_,_,rfl⟩:=Ar hl;rfl
 obtain⟨_,F28⟩:=w28.F
 have b28:=F28.binds (ps:=["_law_hill_here","_law_pages_here","_law_t"]) fun _ _ _ _ _ _ us hl=>by obtain⟨_,_,_,rfl⟩:=Ar hl;rfl
 obtain⟨_,F29⟩:=w29.F
 have b29:=F29.binds (ps:=["_law_pages_here","_law_opened","_law_w","_law_t"]) fun _ _ _ _ _ _ us hl=>by obtain⟨_,_,_,_,rfl⟩:=DD hl;rfl
 obtain⟨_,F30⟩:=w30.F
 have b30:=F30.binds (ps:=["_law_pages_here","_law_table","_law_w","_law_t"]) fun _ _ _ _ _ _ us hl=>by obtain⟨_,_,_,_,rfl⟩:=DD hl;rfl
 obtain⟨_,F31⟩:=w31.F
 have b31:=F31.binds (ps:=["_law_hill_here","_law_pages_here","_law_some"]) fun _ _ _ _ _ _ us hl=>by obtain⟨_,_,_,rfl⟩:=Ar hl;rfl
 have F32:=su (st:=g8) l32 c32 k32
 have b32:=F32.binds (ps:=["_law_script"]) fun _ _ _ _ _ _ us hl=>by obtain⟨_,rfl⟩:=Me hl;rfl
 have T:Txt K mg ⟨_,_,_,_,_,_,_,_,_,_,_,_,_,_,_,_,_,_,_,_,_,_,_,_,_,_,_,_,_,_,_,_,_,bR,ak,bQ,ah⟩ ⟨_,_,_,_,_,_,_,_,_,_,_,_,_,_,_,_,_,_,_,_,_,_,_,_,_,_,_,_,_,_,_,_,_⟩:=⟨⟨F0,OD X G w0.n,b0⟩,⟨F1,OD X G w1.n,b1⟩,⟨F2,OD X G w2.n,b2⟩,⟨F3,OD X G w3.n,b3⟩,⟨F4,OD X G w4.n,b4⟩,⟨F5,OD X G w5.n,b5⟩,⟨F6,OD X G w6.n,b6⟩,⟨F7,OD X G w7.n,b7⟩,⟨F8,OD X G w8.n,b8⟩,⟨F9,OD X G w9.n,b9⟩,⟨F10,OD X G w10.n,b10⟩,⟨F11,OD X G w11.n,b11⟩,⟨F12,OD X G w12.n,b12⟩,⟨F13,OD X G w13.n,b13⟩,⟨F14,OD X G w14.n,b14⟩,⟨F15,OD X G w15.n,b15⟩,⟨F16,OD X G w16.n,b16⟩,⟨F17,OD X G w17.n,b17⟩,⟨F18,OD X G w18.n,b18⟩,⟨F19,OD X G w19.n,b19⟩,⟨F20,OD X G w20.n,b20⟩,⟨F21,OD X G w21.n,b21⟩,⟨F22,OD X G w22.n,b22⟩,⟨F23,OD X G w23.n,b23⟩,⟨F24,OD X G x24,b24⟩,⟨F25,OD X G x25,b25⟩,⟨F26,OD X G w26.n,b26⟩,⟨F27,OD X G w27.n,b27⟩,⟨F28,OD X G w28.n,b28⟩,⟨F29,OD X G w29.n,b29⟩,⟨F30,OD X G w30.n,b30⟩,⟨F31,OD X G w31.n,b31⟩,⟨F32,OD X G x32,b32⟩,OC X G z0,OC X G z1,OC X G z2,OC X G z3,OC X G z4,OC X G z5,OC X G z6,OC X G z7,OC X G z8,OC X G z9,OC X G z10,OC X G z11,⟨⟨_,_,_,_,_,_,_,_,rfl,l24,c24⟩,th24⟩,⟨⟨_,_,_,_,_,_,_,_,rfl,l25,c25⟩,th25⟩,cg,cf⟩
 refine⟨fnOf "law" "law" (dD g8) (bg g8) (ao g8) .none kV32 dc32 pm32 an32 cd32 ct32,[("_law_book",bR,ak),("_law_page",bQ,ah)],?_,fun s v=>.of_eq rfl,fun base kb _ hB=>?_⟩
 ·intro e he
  simp only[N2,N3,or_false] at he
  rcases he with rfl|rfl
  ·exact⟨tt24,tn24,tr24⟩
  ·exact⟨tt25,tn25,tr25⟩
 show cP _ _ _ _ _ _ _ _ _ _ (kX K [ak,ah])
 have av:=Ab (φ:=cK ak ah K) (EG (P:=l.prog) (w:=w) (base:=base) T)
 have je:=B0 (P:=l.prog) (w:=w) (base:=base) T
 exact Im T av kb hB je Ce
theorem walk {l:PySem.W.OpenLaw} {q:Program} {loose:List Str} {XP:(Str→Option Value)→Heap→Prop} {YP:World→Heap→Prop} {d:DefRec} {K:Params→Frag} (hn:l.most=some 63) (hdf:d.params.defaults=[])
  (hY: ∀ (w:World) (h:Heap),YP w h→(K w.params).In h)
  (F: ∀ (w:World) (mg:Str→Option Value) (fa:Addr) (h:Heap),(K w.params).In h→h.Ns mainGlobals mg→mg d.name=some (.ref fa)→
   ∃ (fd:FuncData) (ts:List (Str×Addr×Addr)),(∀ e∈ts,PySem.W.tabIn (K w.params) e.1=some e.2∧(K w.params).lookup e.2.2=none∧((recsOf q).find? fun r=>r.name==e.1).isSome=true)∧(∀ (s:Shared) (u:Value),BindsTo s fd ⟨[u],[]⟩ [("_law_script",u)])∧
    ∀ base:Heap,(K w.params).In base→base.Ns mainGlobals mg→DL base mg→cP l.prog w (K w.params) mg base ig 10 fa fd ["_law_script"] (kX (K w.params) (ts.map (·.2.2)))):
  PySem.W.WalkO q loose XP YP l.row.toRowW d [] (fun f vs=>PySem.call f vs):=
 L2.y8 (n:=63) (k:=10) (x:="_law_script") (CX:=fun _=>ig) (sp:=fun w tbs=>kX (K w.params) tbs) hn (by decide) hdf ⟨rfl,by decide,by decide,rfl⟩ hY F (fun _ _ a ns tbs hl ht hS=>⟨a,ns,rfl,hS,hl,ht,fun _=>rfl⟩) fun _ _ _ _ _ z=>z
end K15
end
def PySem.W.Fast.tw16554362108534120524:=0
def PySem.W.Fast.tw12749344132200066609:=0
def PySem.W.Fast.tw9833902715436666615:=0
def PySem.W.Fast.tw2438004403422093712:=0
def PySem.W.Fast.tw12533023654235239064:=0
def PySem.W.Fast.tw12236592399112120182:=0
def PySem.W.Fast.tw13275908806527732713:=0
def PySem.W.Fast.tw1041179338228321400:=0
def PySem.W.Fast.tw17836341744954133645:=0
open PySem PySem.W PyProof.Rows
set_option maxRecDepth 100000 in
set_option maxHeartbeats 0 in
theorem PySem.Challenge.cw_homeslopes_k15_outlooks_holds : PySem.Challenge.rw_homeslopes_k15_outlooks.Holds := by
 w_on;o_law;k_head;(case hw=>w_witness2)
 k_fill
 refine K15.walk (l:=PySem.Challenge.rw_homeslopes_k15_outlooks) rfl rfl (fun w h Y=>PySem.W.km_in_of Y) ?F
 case F=>
  intro w mg fa h KX G hmg
  refine' K15.all_mk KX G hmg ?w0 ?w1 ?w2 ?w3 ?w4 ?w5 ?w6 ?w7 ?w8 ?w9 ?w10 ?w11 ?w12 ?w13 ?w14 ?w15 ?w16 ?w17 ?w18 ?w19 ?w20 ?w21 ?w22 ?w23 ?x24 ?l24 ?c24 ?k24 ?x25 ?l25 ?c25 ?k25 ?w26 ?w27 ?w28 ?w29 ?w30 ?w31 ?x32 ?l32 ?c32 ?k32 ?z0 ?z1 ?z2 ?z3 ?z4 ?z5 ?z6 ?z7 ?z8 ?z9 ?z10 ?z11 ?tc24 ?tv24 ?tw24 ?tt24 ?th24 ?tn24 ?tr24 ?tc25 ?tv25 ?tw25 ?tt25 ?th25 ?tn25 ?tr25 ?cg ?cf
  (case w0=>refine' L2.cV ?x ?l ?c ?k;(case x=>k_is);(case l=>k_is);(case c=>k_is);(case k=>k_is))
  (case w1=>refine' L2.cV ?x ?l ?c ?k;(case x=>k_is);(case l=>k_is);(case c=>k_is);(case k=>k_is))
  (case w2=>refine' L2.cV ?x ?l ?c ?k;(case x=>k_is);(case l=>k_is);(case c=>k_is);(case k=>k_is))
  (case w3=>refine' L2.cV ?x ?l ?c ?k;(case x=>k_is);(case l=>k_is);(case c=>k_is);(case k=>k_is))
  (case w4=>refine' L2.cV ?x ?l ?c ?k;(case x=>k_is);(case l=>k_is);(case c=>k_is);(case k=>k_is))
  (case w5=>refine' L2.cV ?x ?l ?c ?k;(case x=>k_is);(case l=>k_is);(case c=>k_is);(case k=>k_is))
  (case w6=>refine' L2.cV ?x ?l ?c ?k;(case x=>k_is);(case l=>k_is);(case c=>k_is);(case k=>k_is))
  (case w7=>refine' L2.cV ?x ?l ?c ?k;(case x=>k_is);(case l=>k_is);(case c=>k_is);(case k=>k_is))
  (case w8=>refine' L2.cV ?x ?l ?c ?k;(case x=>k_is);(case l=>k_is);(case c=>k_is);(case k=>k_is))
  (case w9=>refine' L2.cV ?x ?l ?c ?k;(case x=>k_is);(case l=>k_is);(case c=>k_is);(case k=>k_is))
  (case w10=>refine' L2.cV ?x ?l ?c ?k;(case x=>k_is);(case l=>k_is);(case c=>k_is);(case k=>k_is))
  (case w11=>refine' L2.cV ?x ?l ?c ?k;(case x=>k_is);(case l=>k_is);(case c=>k_is);(case k=>k_is))
  (case w12=>refine' L2.cV ?x ?l ?c ?k;(case x=>k_is);(case l=>k_is);(case c=>k_is);(case k=>k_is))
  (case w13=>refine' L2.cV ?x ?l ?c ?k;(case x=>k_is);(case l=>k_is);(case c=>k_is);(case k=>k_is))
  (case w14=>refine' L2.cV ?x ?l ?c ?k;(case x=>k_is);(case l=>k_is);(case c=>k_is);(case k=>k_is))
  (case w15=>refine' L2.cV ?x ?l ?c ?k;(case x=>k_is);(case l=>k_is);(case c=>k_is);(case k=>k_is))
  (case w16=>refine' L2.cV ?x ?l ?c ?k;(case x=>k_is);(case l=>k_is);(case c=>k_is);(case k=>k_is))
  (case w17=>refine' L2.cV ?x ?l ?c ?k;(case x=>k_is);(case l=>k_is);(case c=>k_is);(case k=>k_is))
  (case w18=>refine' L2.cV ?x ?l ?c ?k;(case x=>k_is);(case l=>k_is);(case c=>k_is);(case k=>k_is))
  (case w19=>refine' L2.cV ?x ?l ?c ?k;(case x=>k_is);(case l=>k_is);(case c=>k_is);(case k=>k_is))
  (case w20=>refine' L2.cV ?x ?l ?c ?k;(case x=>k_is);(case l=>k_is);(case c=>k_is);(case k=>k_is))
  (case w21=>refine' L2.cV ?x ?l ?c ?k;(case x=>k_is);(case l=>k_is);(case c=>k_is);(case k=>k_is))
  (case w22=>refine' L2.cV ?x ?l ?c ?k;(case x=>k_is);(case l=>k_is);(case c=>k_is);(case k=>k_is))
  (case w23=>refine' L2.cV ?x ?l ?c ?k;(case x=>k_is);(case l=>k_is);(case c=>k_is);(case k=>k_is))
  (case x24=>k_is);(case l24=>k_is);(case c24=>k_is);(case k24=>k_is)
  (case x25=>k_is);(case l25=>k_is);(case c25=>k_is);(case k25=>k_is)
  (case w26=>refine' L2.cV ?x ?l ?c ?k;(case x=>k_is);(case l=>k_is);(case c=>k_is);(case k=>k_is))
  (case w27=>refine' L2.cV ?x ?l ?c ?k;(case x=>k_is);(case l=>k_is);(case c=>k_is);(case k=>k_is))
  (case w28=>refine' L2.cV ?x ?l ?c ?k;(case x=>k_is);(case l=>k_is);(case c=>k_is);(case k=>k_is))
  (case w29=>refine' L2.cV ?x ?l ?c ?k;(case x=>k_is);(case l=>k_is);(case c=>k_is);(case k=>k_is))
  (case w30=>refine' L2.cV ?x ?l ?c ?k;(case x=>k_is);(case l=>k_is);(case c=>k_is);(case k=>k_is))
  (case w31=>refine' L2.cV ?x ?l ?c ?k;(case x=>k_is);(case l=>k_is);(case c=>k_is);(case k=>k_is))
  (case x32=>k_is);(case l32=>k_is);(case c32=>k_is);(case k32=>k_is)
  (case z0=>k_is)
  (case z1=>k_is)
  (case z2=>k_is)
  (case z3=>k_is)
  (case z4=>k_is)
  (case z5=>k_is)
  (case z6=>k_is)
  (case z7=>k_is)
  (case z8=>k_is)
  (case z9=>k_is)
  (case z10=>k_is)
  (case z11=>k_is)
  (case tc24=>rfl);(case tv24=>k_is);(case tw24=>rfl);(case tt24=>kernel_rfl);(case th24=>kernel_rfl);(case tn24=>kernel_rfl);(case tr24=>rfl)
  (case tc25=>rfl);(case tv25=>k_is);(case tw25=>rfl);(case tt25=>kernel_rfl);(case th25=>kernel_rfl);(case tn25=>kernel_rfl);(case tr25=>rfl)
  (case cg=>decide)
  (case cf=>decide)
