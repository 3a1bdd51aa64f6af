import PyProof.Rows.All
import PyProof.StrLawsIdx
import Wide.All
import OpenK.AllK
import Wide.FinOn
import Lean
import PyProof.EqAt
import PyProof.EqKinds
import PyProof.TupleCall
import PyProof.NeKinds
import PySem.Challenge.RW_homeslopes_k16_looks_one_behind_another
set_option Elab.async false
set_option linter.all false
set_option maxRecDepth 100000
set_option maxHeartbeats 4000000
set_option genSizeOf false
set_option genInjectivity false
noncomputable section
open PySem PySem.Spec PyProof.Rows
open PySem.W (Frag nsIn keepIn codeIn fnOf)
abbrev Ku:=@List.getElem?_eq_getElem
abbrev Kv:=@wpAny_bind
abbrev Kw:=@List.mem_cons_self
abbrev Kx:=@List.length_map
abbrev Ky:=@Heap.get?_push_of_some
abbrev Kz:=@List.mem_cons_of_mem
abbrev KA:=@wpAny_pure
abbrev KC:=@List.size_toArray
abbrev KD:=@List.getElem?_eq_some_iff
abbrev KG:=@Nat.le_refl
abbrev KH:=@List.set_cons_zero
abbrev KI:=@List.map_cons
abbrev KJ:=@List.mem_cons
abbrev KL:=@List.not_mem_nil
abbrev KN:=@List.mem_map
abbrev KO:=@List.length_cons
abbrev KP:=@Heap.get?_push_size
abbrev KQ:=@List.getElem?_cons_succ
abbrev KR:=@List.getElem?_cons_zero
abbrev KS:=@Heap.lt_size
abbrev KU:=@List.getD_eq_getElem?_getD
abbrev KW:=@List.mem_append_right
abbrev KY:=@List.getElem?_map
abbrev KZ:=@Nat.le_trans
abbrev K0:=@Array.getD_eq_getD_getElem?
abbrev K1:=@Nat.lt_of_lt_of_le
abbrev K2:=@Option.map_eq_some_iff
abbrev K3:=@decide_eq_false
abbrev K4:=@List.length_append
abbrev K5:=@Array.getElem?_eq_getElem
abbrev K6:=@Nat.zero_le
abbrev K7:=@List.mem_singleton
abbrev K8:=@Nat.ne_of_lt
abbrev K9:=@List.mem_map_of_mem
abbrev La:=@PySem.F.plainAttrs_list
abbrev Lb:=@List.getElem?_set_ne
abbrev Lc:=@PySem.F.type_list_append
abbrev Ld:=@PySem.F.slot_list_append
abbrev Le:=@Array.length_toList
abbrev Lf:=@Bool.and_eq_true
abbrev Lg:=@List.eq_nil_of_length_eq_zero
abbrev Lh:=@sizeLine_eq
abbrev Li:=@List.getElem?_append_left
abbrev Lj:=@List.set_cons_succ
abbrev Lk:=@Bool.false_eq_true
abbrev Ll:=@List.getElem_mem
abbrev Lm:=@PySem.W.mg_none_of
abbrev Ln:=@PySem.W.mg_of
abbrev Lo:=@List.mem_filter
abbrev Lp:=@List.mem_append
abbrev Lq:=@if_pos
abbrev Lr:=@if_neg
abbrev Ls:=@List.getElem?_set_self
abbrev Lu:=@List.pairwise_cons
abbrev Lv:=@Option.some.inj
section
namespace L2
open PySem PySem.Spec PyProof.Rows
abbrev Key:=Sum Int Str
def j7:Key→Value→Bool
 | .inl k,v=>Value.isInt k v
 | .inr x,v=>Value.isStrOf x v
def JB (w:World):Key→Int
 | .inl k=>hashInt k
 | .inr x=>hashStr w x
theorem cg: ∀ {k:Key} {v:Value},j7 k v=true→(∃ i t,k=Sum.inl i∧v=Value.int i t)∨(∃ x t,k=Sum.inr x∧v=Value.str x t)
 | .inl i,v,h=>by
  obtain⟨t,e⟩:=Value.isInt_shape (k:=i) (v:=v) h
  exact .inl ⟨i,t,rfl,e⟩
 | .inr x,v,h=>by
  obtain⟨t,e⟩:=Value.isStrOf_shape (x:=x) (v:=v) h
  exact .inr ⟨x,t,rfl,e⟩
theorem pq (i:Int) (t:Tok):j7 (.inl i) (.int i t)=true:=by simp[j7,Value.isInt]
theorem pk (x:Str) (t:Tok):j7 (.inr x) (.str x t)=true:=by simp[j7,Value.isStrOf]
theorem Fv (a b:Int):decide ((Sum.inl a:Key)=Sum.inl b)=(a==b):=by
 by_cases e:a=b
 ·subst e;simp
 ·have h: ¬ (Sum.inl a:Key)=Sum.inl b:=fun q=>e (Sum.inl.inj q)
  rw[K3 h]
  exact(beq_eq_false_iff_ne.mpr e).symm
theorem Aw (a b:Str):decide ((Sum.inr a:Key)=Sum.inr b)=decide (a=b):=by
 by_cases e:a=b
 ·subst e;simp
 ·have h: ¬ (Sum.inr a:Key)=Sum.inr b:=fun q=>e (Sum.inr.inj q)
  rw[K3 h,K3 e]
theorem Fu (a:Int) (b:Str):decide ((Sum.inl a:Key)=Sum.inr b)=false:=K3 (fun q=>nomatch q)
theorem Ft (a:Str) (b:Int):decide ((Sum.inr a:Key)=Sum.inl b)=false:=K3 (fun q=>nomatch q)
noncomputable def bz (prog:Program) (w:World):PySem.KeyKind prog w Key where
 is:=j7
 hash:=JB w
 inj:=fun v a b ha hb=>by
  rcases cg ha with⟨i,t,rfl,rfl⟩|⟨x,t,rfl,rfl⟩
  ·rcases cg hb with⟨j,u,rfl,e⟩|⟨y,u,rfl,e⟩
   ·injection e with e1 _;rw[e1]
   ·exact nomatch e
  ·rcases cg hb with⟨j,u,rfl,e⟩|⟨y,u,rfl,e⟩
   ·exact nomatch e
   ·injection e with e1 _;rw[e1]
 byValue:=fun k v h=>by
  rcases cg h with⟨i,t,rfl,rfl⟩|⟨x,t,rfl,rfl⟩<;>rfl
 pyHash:=fun hv h=>by
  rcases cg hv with⟨i,t,rfl,rfl⟩|⟨x,t,rfl,rfl⟩
  ·exact wpAny_pyHash_int h
  ·exact wpAny_pyHash_str h
 eqBool:=fun hu hv h=>by
  rcases cg hu with⟨i,t,rfl,rfl⟩|⟨x,t,rfl,rfl⟩
  ·rcases cg hv with⟨j,u,rfl,rfl⟩|⟨y,u,rfl,rfl⟩
   ·rw[Fv] at h;exact wpAny_eqBool_int h
   ·rw[Fu] at h;exact SeqAt.EqAt.int_str i t y u _ _ _ _ h
  ·rcases cg hv with⟨j,u,rfl,rfl⟩|⟨y,u,rfl,rfl⟩
   ·rw[Ft] at h;exact SeqAt.EqAt.str_int x t j u _ _ _ _ h
   ·rw[Aw] at h;exact wpAny_eqBool_str h
 «strs»:=fun k x t v h=>by
  rcases cg h with⟨i,u,rfl,e⟩|⟨y,u,rfl,e⟩
  ·exact nomatch e
  ·injection e with e1 _
   subst e1
   cases v<;>rfl
theorem uN (prog:Program) (w:World) (k:Key) (v:Value):(bz prog w).is k v=j7 k v:=rfl
theorem sD (prog:Program) (w:World) (i:Int) (t:Tok):(bz prog w).is (.inl i) (.int i t)=true:=pq i t
theorem sC (prog:Program) (w:World) (x:Str) (t:Tok):(bz prog w).is (.inr x) (.str x t)=true:=pk x t
end L2
namespace L2
open PySem PySem.Spec PyProof.Rows
set_option genInjectivity true in
inductive V where
 |aU|bl (b:Bool)|int (i:Int)|str (x:Str)|HU (b:Array UInt8)|JI (b:UInt64)|ref (a:Addr)|ty (n:String)
 deriving DecidableEq
noncomputable def RelV:V→Value→Prop
 | .aU,u=>u=Value.none
 | .bl b,u=>u=Value.bool b
 | .int i,u=> ∃ t,u=Value.int i t
 | .str x,u=> ∃ t,u=Value.str x t
 | .HU b,u=> ∃ t,u=Value.bytes b t
 | .JI b,u=> ∃ t,u=Value.float b t
 | .ref a,u=>u=Value.ref a
 | .ty n,u=>u=Value.type n
abbrev Vals:List V→List Value→Prop:=Paired RelV
theorem Vals.length {xs:List V} {us:List Value} (r:Vals xs us):xs.length=us.length:=Paired.length r
theorem Vals.get: ∀ {xs:List V} {us:List Value} {i:Nat} {x:V},Vals xs us→xs[i]?=some x→∃ u,us[i]?=some u∧RelV x u
 |_,_,_,_,.nil,e=>by simp at e
 |_,_,0,_,.cons r _,e=>by simp at e;subst e;exact⟨_,rfl,r⟩
 |_,_,i+1,x,.cons _ t,e=>by
  obtain⟨u,h1,h2⟩:=Vals.get (i:=i) (x:=x) t (by simpa using e)
  exact⟨u,by simpa using h1,h2⟩
theorem Vals.set (r:RelV x u): ∀ {xs:List V} {us:List Value} (i:Nat),Vals xs us→Vals (xs.set i x) (us.set i u)
 |_,_,_,.nil=>.nil
 |_,_,0,.cons _ t=>.cons r t
 |_,_,i+1,.cons q t=>.cons q (Vals.set r i t)
theorem Vals.append: ∀ {xs ys:List V} {us ws:List Value},Vals xs us→Vals ys ws→Vals (xs++ys) (us++ws)
 |_,_,_,_,.nil,s=>s
 |_,_,_,_,.cons r t,s=>.cons r (Vals.append t s)
theorem Vals.take: ∀ {xs:List V} {us:List Value} (n:Nat),Vals xs us→Vals (xs.take n) (us.take n)
 |_,_,0,_=>.nil
 |_,_,_+1,.nil=>.nil
 |_,_,n+1,.cons r t=>.cons r (Vals.take n t)
theorem Vals.drop: ∀ {xs:List V} {us:List Value} (n:Nat),Vals xs us→Vals (xs.drop n) (us.drop n)
 |_,_,0,r=>r
 |_,_,_+1,.nil=>.nil
 |_,_,n+1,.cons _ t=>Vals.drop n t
def oS:Option V→Option Value→Prop
 |some v,some u=>RelV v u
 |none,none=>True
 |_,_=>False
def KV {κ:Type}:List (κ×V)→List (κ×Value)→Prop:=Paired fun (p:κ×V) (q:κ×Value)=>p.1=q.1∧RelV p.2 q.2
def kV:Key→V
 | .inl i=>.int i
 | .inr x=>.str x
inductive HO where
  |lst (xs:List V)
  |tup (xs:List V)
  |dK (kvs:List (Key×V))|dT (kvs:List (List Key×V))
  |set (S:Int→Bool) (n:Nat)
  |ins (C dx:Addr) (fs:List (Str×V))
  |own (x:Addr)
  |xd (fs:List (Str×V))
  |met (f x:Addr)
  |uu (lo hi:Int)
  |f7 (o:Obj) (u:HO)
  |lP (ps:Array Value)
  |ext (φ:Heap→Prop)
abbrev Hp:=Addr→Option HO
def upd (H:Hp) (a:Addr) (o:HO):Hp:=fun b=>if b=a then some o else H b
theorem ay:upd H a o a=some o:=by unfold upd;rw[Lq rfl]
theorem aq (h:b≠a):upd H a o b=H b:=by unfold upd;rw[Lr h]
theorem BU:upd (upd H a o) a u=upd H a u:=by
 funext b;unfold upd;split<;>rfl
theorem Af {H:Hp} (h:H a=some o) (h':H b=some u) (d:o≠u):a≠b:=by
 intro e;subst e;rw[h] at h';exact d (Lv h')
theorem ba {H:Hp} (h:H a=some o) (h':H b=none):a≠b:=by
 intro e;subst e;rw[h] at h';cases h'
section
variable (P:Program) (w:World)
noncomputable def dn (H:Hp) (h:Heap) (a:Addr):HO→Prop
 | .lst xs=>xs.length≤sizeLine∧∃ (aC:List Value) (n:Nat),Vals xs aC∧h.get? a=some {cls:=.type "list",data:=.seq aC.toArray n}
 | .tup xs=>xs.length≤sizeLine∧∃ aC:List Value,Vals xs aC∧IsTup h a aC.toArray
 | .dK kvs=>kvs.length≤sizeLine∧(a==sysModules)=false∧∃ vs,KV kvs vs∧h.DictOf (bz P w) a vs
 | .dT kvs=>kvs.length≤sizeLine∧(a==sysModules)=false∧∃ xs:List (List Key×Addr×Value),
   Paired (fun (p:List Key×V) (q:List Key×Addr×Value)=>p.1=q.1∧H q.2.1=some (.tup (p.1.map kV))∧RelV p.2 q.2.2) kvs xs∧
   ∃ o es ep,h.get? a=some o∧o.ExactDict∧o.data= .dict es ep∧es.toList=xs.map (entryOfKey (tupleKind (bz P w)))∧(xs.map (·.1)).Nodup
 | .set S n=>h.SetOf (intKind P w) a S n
 | .ins C dx fs=>H dx=some (.own a)∧fs.length≤1000∧dx≠a∧h.get? a=some (PySem.W.instObj C dx)∧
   ∃ mA,h.Ns1 dx mA∧(∀ f,oS (fs.lookup f) (mA f))∧PySem.Within mA (fs.map (·.1))
 | .own _=> ∃ o,h.get? a=some o
 | .xd fs=> ∃ mA,h.Ns1 a mA∧∀ f,oS (fs.lookup f) (mA f)
 | .uu lo hi=> ∃ t u v,h.get? a=some {cls:=.type "range",data:=.fields #[.int lo t,.int hi u,.int 1 v]}
 | .f7 o u=>h.get? a=some o∧dn H h a u
 | .lP ps=>h.get? a=some {cls:=.none,data:=.fields ps}
 | .met f x=>h.get? a=some (PySem.W.methodObj (.ref f) (.ref x))
 | .ext φ=>φ h∧(∃ o,h.get? a=some o)∧∀ h1 h2:Heap,φ h1→(∀ o,h1.get? a=some o→h2.get? a=some o)→φ h2
def iY (H:Hp) (h:Heap):Prop:= ∀ a o,H a=some o→dn P w H h a o
end
section
variable {P:Program} {w:World} {H H':Hp} {h h':Heap} {a:Addr} {o:HO}
theorem dn.lt (x:dn P w H h a o):a < h.objs.size:=by
 cases o with
 |lst xs=>obtain⟨_,_,_,_,e⟩:=x;exact KS e
 |tup xs=>obtain⟨_,_,_,p⟩:=x;exact p.lt
 |dK kvs=>obtain⟨_,_,_,_,o,_,_,e,_⟩:=x;exact KS e
 |dT kvs=>obtain⟨_,_,_,_,o,_,_,e,_⟩:=x;exact KS e
 |set S n=>obtain⟨o,_,_,_,e,_⟩:=x;exact KS e
 |ins C dx fs=>obtain⟨_,_,_,e,_⟩:=x;exact KS e
 |own y=>obtain⟨_,e⟩:=x;exact KS e
 |xd fs=>obtain⟨_,⟨_,_,_,e,_⟩,_⟩:=x;exact KS e
 |uu lo hi=>obtain⟨_,_,_,e⟩:=x;exact KS e
 |f7 ob u=>obtain⟨e,_⟩:=x;exact KS e
 |lP ps=>exact KS (show h.get? a=some _ from x)
 |met f y=>exact KS (show h.get? a=some _ from x)
 |ext φ=>obtain⟨_,⟨_,e⟩,_⟩:=x;exact KS e
theorem Paired.Fo: ∀ {l₁:List α} {l₂:List β},Paired F l₁ l₂→(∀ a b,F a b→G a b)→Paired G l₁ l₂
 |_,_,.nil,_=>.nil
 |_,_,.cons r t,f=>.cons (f _ _ r) (Paired.Fo t f)
theorem dn.mz (x:dn P w H h a o) (k: ∀ b u,(b=a∨H b=some (.own a))→h.get? b=some u→h'.get? b=some u)
  (ho: ∀ b,H b=some (.own a)→H' b=some (.own a)) (ht: ∀ b xs,H b=some (.tup xs)→H' b=some (.tup xs)):dn P w H' h' a o:=by
 induction o with
 |lst xs=>obtain⟨z,aC,n,r,e⟩:=x;exact⟨z,aC,n,r,k _ _ (.inl rfl) e⟩
 |tup xs=>obtain⟨z,aC,r,ob,e,c⟩:=x;exact⟨z,aC,r,ob,k _ _ (.inl rfl) e,c⟩
 |dK kvs=>obtain⟨z,y,vs,r,ob,es,ep,e,c⟩:=x;exact⟨z,y,vs,r,ob,es,ep,k _ _ (.inl rfl) e,c⟩
 |dT kvs=>
  obtain⟨z,y,xs,r,ob,es,ep,e,c⟩:=x
  exact⟨z,y,xs,Paired.Fo r fun p q z=>⟨z.1,ht _ _ z.2.1,z.2.2⟩,ob,es,ep,k _ _ (.inl rfl) e,c⟩
 |set S n=>obtain⟨ob,es,ep,t,e,c⟩:=x;exact⟨ob,es,ep,t,k _ _ (.inl rfl) e,c⟩
 |ins C dx fs=>
  obtain⟨d,z,ne,e,mA,⟨od,es,ep,e2,c⟩,r⟩:=x
  exact⟨ho _ d,z,ne,k _ _ (.inl rfl) e,mA,⟨od,es,ep,k _ _ (.inr d) e2,c⟩,r⟩
 |own y=>obtain⟨ob,e⟩:=x;exact⟨ob,k _ _ (.inl rfl) e⟩
 |xd fs=>obtain⟨mA,⟨od,es,ep,e,c⟩,r⟩:=x;exact⟨mA,⟨od,es,ep,k _ _ (.inl rfl) e,c⟩,r⟩
 |uu lo hi=>obtain⟨t,u,v,e⟩:=x;exact⟨t,u,v,k _ _ (.inl rfl) e⟩
 |f7 ob u ih=>obtain⟨e,q⟩:=x;exact⟨k _ _ (.inl rfl) e,ih q⟩
 |lP ps=>
  have e:h.get? a=some {cls:=.none,data:=.fields ps}:=x
  show h'.get? a=some {cls:=.none,data:=.fields ps}
  exact k a _ (.inl rfl) e
 |met f y=>
  have e:h.get? a=some (PySem.W.methodObj (.ref f) (.ref y)):=x
  show h'.get? a=some (PySem.W.methodObj (.ref f) (.ref y))
  exact k a _ (.inl rfl) e
 |ext φ=>obtain⟨p,⟨o,e⟩,st⟩:=x;exact⟨st _ _ p fun o q=>k _ _ (.inl rfl) q,⟨o,k _ _ (.inl rfl) e⟩,st⟩
theorem iY.lt (x:iY P w H h) (e:H a=some o):a < h.objs.size:=(x a o e).lt
theorem iY.fresh (x:iY P w H h) (e:h.objs.size≤a):H a=none:=by
 cases q:H a with
 |none=>rfl
 |some u=>exact absurd (K1 (x.lt q) e) (Nat.lt_irrefl _)
theorem iY.kept (x:iY P w H h) (k: ∀ b u,h.get? b=some u→h'.get? b=some u):iY P w H h':=fun a o e=>
 (x a o e).mz (fun b u _ q=>k b u q) (fun _ q=>q) fun _ _ q=>q
theorem iY.laid (x:iY P w H h) (k: ∀ b u,h.get? b=some u→h'.get? b=some u) (hp:h.objs.size≤a) (new:dn P w (upd H a o) h' a o):iY P w (upd H a o) h':=fun b u e=>by
 have hn:=x.fresh hp
 by_cases hb:b=a
 ·subst hb;rw[ay] at e;cases e;exact new
 ·rw[aq hb] at e
  exact(x b u e).mz (fun c v _ q=>k c v q) (fun c q=>by rw[aq (ba q hn)];exact q) fun c xs q=>by rw[aq (ba q hn)];exact q
end
def Rd (H:Hp) (a:Addr) (u:HO):Prop:=H a=some u∨∃ o,H a=some (.f7 o u)
theorem Rd.ok {P:Program} {w:World} {H:Hp} {h:Heap} {a:Addr} {u:HO} (r:Rd H a u) (x:iY P w H h):dn P w H h a u:=by
 rcases r with r|⟨o,r⟩
 ·exact x a u r
 ·obtain⟨_,q⟩:=x a _ r
  exact q
def Ij:Option HO→Prop
 |some (.lst _)=>True
 |some (.dK _)=>True
 |some (.dT _)=>True
 |some (.set _ _)=>True
 |some (.ins _ _ _)=>True
 |some (.ext _)=>True
 |_=>False
section
variable {P:Program} {w:World} {H:Hp} {h h':Heap} {x e:Addr} {o':HO}
theorem iY.write (ok:iY P w H h) (mu:Ij (H x)) (he:e=x∨H e=some (.own x)) (k: ∀ b u,b≠e→h.get? b=some u→h'.get? b=some u) (heo: ∃ u,h'.get? e=some u)
  (new:dn P w (upd H x o') h' x o'):iY P w (upd H x o') h':=fun b u q=>by
 have nown: ∀ c y,H c=some (.own y)→c≠x:=fun c y r z=>by subst z;rw[r] at mu;exact mu
 have ntup: ∀ c xs,H c=some (.tup xs)→c≠x:=fun c xs r z=>by subst z;rw[r] at mu;exact mu
 by_cases hb:b=x
 ·subst hb;rw[ay] at q;cases q;exact new
 ·rw[aq hb] at q
  by_cases hbe:b=e
  ·have q':H b=some (.own x):=by
    rcases he with z|z
    ·exact absurd (hbe.trans z) hb
    ·rw[hbe];exact z
   rw[q] at q';cases q'
   obtain⟨v,hv⟩:=heo
   exact⟨v,by rw[hbe];exact hv⟩
  ·refine(ok b u q).mz (fun c v hc r=>k c v ?_ r) (fun c r=>by rw[aq (nown c b r)];exact r) fun c xs r=>by rw[aq (ntup c xs r)];exact r
   rcases hc with rfl|hc
   ·exact hbe
   ·rintro rfl
    rcases he with z|z
    ·exact nown c b hc z
    ·rw[hc] at z;cases z;exact hb rfl
end
structure Un (fs ex:List Addr) (H H':Hp) (h h':Heap):Prop where
 keep: ∀ b o,h.get? b=some o→H b=none→b∉fs→b∉ex→h'.get? b=some o
 slot: ∀ b o,h.get? b=some o→H b=none→b∈fs→b∉ex→∃ sl,h'.get? b=some {o with slots:=sl}
 free: ∀ b o,h.get? b=some o→H b=none→b∉ex→H' b=none
 there: ∀ b o,h.get? b=some o→b∉ex→∃ o',h'.get? b=some o'
 p8: ∀ b xs,H b=some (.tup xs)→H' b=some (.tup xs)
 kc: ∀ b o u,H b=some (.f7 o u)→H' b=some (.f7 o u)
 oh: ∀ b ps,H b=some (.lP ps)→∃ more,H' b=some (.lP (ps++more))
section
variable {fs fs' ex ex':List Addr} {H H1 H2:Hp} {h h1 h2 h':Heap} {a x e:Addr} {o:HO}
theorem Un.any (u:Un fs ex H H1 h h1) {b:Addr} {ob:Obj} (q:h.get? b=some ob) (n:H b=none) (hx:b∉ex): ∃ sl,h1.get? b=some {ob with slots:=sl}:=by
 by_cases hb:b∈fs
 ·exact u.slot b ob q n hb hx
 ·exact⟨ob.slots,u.keep b ob q n hb hx⟩
theorem Un.kept (k: ∀ b u,h.get? b=some u→h'.get? b=some u):Un fs ex H H h h':=
 ⟨fun b ob q _ _ _=>k b ob q,fun b ob q _ _ _=>⟨ob.slots,k b ob q⟩,fun _ _ _ n _=>n,fun b ob q _=>⟨ob,k b ob q⟩,fun _ _ q=>q,fun _ _ _ q=>q,fun _ ps q=>⟨#[],by rw[q];simp⟩⟩
theorem Un.refl:Un fs ex H H h h:=Un.kept fun _ _ q=>q
theorem Un.laid (k: ∀ b u,h.get? b=some u→h'.get? b=some u) (hp:h.objs.size≤a) (hn:H a=none):Un fs ex H (upd H a o) h h' where
 keep:=fun b u q _ _ _=>k b u q
 slot:=fun b u q _ _ _=>⟨u.slots,k b u q⟩
 free:=fun b u q n _=>by rw[aq (K8 (K1 (KS q) hp))];exact n
 there:=fun b u q _=>⟨u,k b u q⟩
 p8:=fun b xs q=>by rw[aq (ba q hn)];exact q
 kc:=fun b u xs q=>by rw[aq (ba q hn)];exact q
 oh:=fun b ps q=>⟨#[],by rw[aq (ba q hn),q];simp⟩
theorem Un.write (mu:Ij (H x)) (he:e=x∨H e=some (.own x)) (k: ∀ b u,b≠e→h.get? b=some u→h'.get? b=some u) (heo: ∃ u,h'.get? e=some u):Un fs ex H (upd H x o) h h':=by
 have hx: ∀ b,H b=none→b≠x:=fun b n z=>by subst z;rw[n] at mu;exact mu
 have hb: ∀ b,H b=none→b≠e:=fun b n z=>by
  subst z
  rcases he with r|r
  ·exact hx b n r
  ·rw[n] at r;cases r
 have hm: ∀ b u,H b=some u→¬ Ij (some u)→b≠x:=fun b u q nm z=>by subst z;rw[q] at mu;exact nm mu
 refine⟨fun b u q n _ _=>k b u (hb b n) q,fun b u q n _ _=>⟨u.slots,k b u (hb b n) q⟩,fun b u q n _=>by rw[aq (hx b n)];exact n,fun b u q _=>?_,
  fun b xs q=>by rw[aq (hm b _ q fun z=>z)];exact q,fun b u xs q=>by rw[aq (hm b _ q fun z=>z)];exact q,fun b ps q=>⟨#[],by rw[aq (hm b _ q fun z=>z),q];simp⟩⟩
 by_cases hbe:b=e
 ·subst hbe;exact heo
 ·exact⟨u,k b u hbe q⟩
end
def Iu (h:Heap) (H:Hp):List Addr:=(List.range h.objs.size).filter fun a=>(H a).isSome
def qQ (h:Heap) (H:Hp):Heap:=PySem.W.hideAll h (Iu h H)
theorem xP (h:Heap) (H:Hp):(qQ h H).objs.size=h.objs.size:=PySem.W.hideAll_size _ _
theorem nh (e:h.get? b=some o) (n:H b=none):(qQ h H).get? b=some o:=
 PySem.W.hideAll_get _ e fun hm=>by
  have q:(H b).isSome=true:=(Lo.mp hm).2
  rw[n] at q;simp at q
theorem CQ (e:(qQ h H).get? b=some o):h.get? b=some o∧H b=none:=by
 have e':h.get? b=some o:=PySem.W.of_hideAll (Iu h H) e
 refine⟨e',?_⟩
 cases q:H b with
 |none=>rfl
 |some x=>
  have hm:b∈Iu h H:=Lo.mpr ⟨List.mem_range.mpr (KS e'),by simp[q]⟩
  have z:(qQ h H).get? b=none:=PySem.W.hideAll_none (Iu h H) hm
  rw[z] at e;cases e
def Dz (g h:Heap) (L:Addr):List (Addr×Obj):=(List.range h.objs.size).filterMap fun a=>if a=L∨(g.get? a).isSome=true then none else(h.get? a).map fun o=>(a,o)
def rest (g h:Heap) (L d:Addr):List (Addr×Obj):=(Dz g h L).filter fun p=>decide (p.1≠d)
end L2
namespace L2
open PySem PySem.Spec PyProof.Rows
structure Mod (K:Frag) (mg:Str→Option Value) (base:Heap):Prop where
  JA:K.In base
  glob:base.Ns mainGlobals mg
  blt: ∃ mb,base.Ns builtinsNs mb∧∀ x:Str,x≠"__name__"→mb x=bootBuiltins x
  nolimit:base.NoLimit
structure Cx where
 prog:Program
 w:World
 K:Frag
 mg:Str→Option Value
 base:Heap
 A:Around
 N:List Str
 s₀:Shared
 H₀:Hp
 env:Env
 outer:List Env
 stack:List Env
 ex:List Addr
 fn:Str→Bool
 calm:Bool
 pn:List (Addr×Obj)
 xe:Value→Shared→Prop
def AQ (l:List Env):List Addr:=l.filterMap (·.frame)
abbrev Cx.fs (X:Cx):List Addr:=AQ X.outer
def IH (sc:Scope) (x:Str):Prop:=sc.names.lookup x=some .local∨sc.names.lookup x=some .cell∨sc.names.lookup x=some .free
def Loc (sc:Scope) (x:Str):Prop:=sc.names.lookup x=some .local∨sc.names.lookup x=some .cell
def Look (env:Env) (h:Heap) (m:Str→Option Value) (x:Str) (u:Value):Prop:=
 (env.kindOf x=some .local∧m x=some u)∨((env.kindOf x=some .cell∨env.kindOf x=some .free)∧∃ c,env.cells.lookup x=some c∧h.IsCell c (some u))
structure Cx.Ok (X:Cx):Prop where
 mod:Mod X.K X.mg X.base
 kind:X.env.scope.kind= .function
 glob:X.env.globals=mainGlobals
 blt:X.env.builtins=builtinsNs
 above:X.s₀.heap.objs.size≤X.env.locals
 inj: ∀ x y c,X.env.cells.lookup x=some c→X.env.cells.lookup y=some c→x=y
 has: ∀ x,(X.env.kindOf x=some .cell∨X.env.kindOf x=some .free)→∃ c,X.env.cells.lookup x=some c
 Gv: ∀ x c,X.fn x=true→X.env.cells.lookup x=some c→X.s₀.heap.objs.size≤c
 hd:X.calm=true→X.A.handled=none
 frames:X.A.frames=some X.stack
 GO:X.stack=X.outer∨(X.stack=X.env::X.outer∧X.env.frame=some X.env.locals)
 JJ: ∀ b∈X.ex,b≠X.env.locals∧∀ x c,X.env.cells.lookup x=some c→c≠b
 bs: ∀ b o,X.base.get? b=some o→X.s₀.heap.get? b=some o∧X.H₀ b=none
 BK:X.base.objs.size≤X.s₀.heap.objs.size
 xy: ∀ b o,X.base.get? b=some o→b∉X.ex
 AU: ∀ b∈X.ex,b∉X.fs
 kZ:X.s₀.heap.FunFrames X.base X.outer
 D8: ∀ b∈X.fs,X.H₀ b=none
structure Inv (X:Cx) (pZ:List (Addr×Obj)) (σ:List (Option V)) (H:Hp) (s:Shared):Prop where
 ok:X.Ok
 os:s.os=X.s₀.os
 bare:AllBare s.gens
 base:Un X.fs X.ex X.H₀ H X.s₀.heap s.heap
 loc: ∃ m,s.heap.Ns X.env.locals m∧∀ (i:Nat) (x:Str) (v:V),X.N[i]?=some x→σ[i]?=some (some v)→IH X.env.scope x→∃ u,RelV v u∧Look X.env s.heap m x u
 cell: ∀ x c,X.env.cells.lookup x=some c→∃ v,s.heap.IsCell c v
 free:H X.env.locals=none
 iT: ∀ x c,X.env.cells.lookup x=some c→H c=none
 pin: ∀ p∈X.pn++pZ,s.heap.get? p.1=some p.2∧H p.1=none∧p.1≠X.env.locals∧p.1∉X.fs∧∀ v,p.2.data≠.cell v
 bS:iY X.prog X.w H s.heap
 len:σ.length=X.N.length
section
variable {X:Cx} {pZ:List (Addr×Obj)} {σ:List (Option V)} {H H':Hp} {s:Shared} {h':Heap}
theorem Cx.Ok.Jq (ok:X.Ok) (e:X.base.get? b=some o):b∉X.fs:=fun hb=>by
 have:=(ok.kZ.mem hb).1
 rw[e] at this;cases this
theorem Inv.bs (I:Inv X pZ σ H s): ∀ b o,X.base.get? b=some o→s.heap.get? b=some o∧H b=none:=fun b o e=>
 ⟨I.base.keep b o (I.ok.bs b o e).1 (I.ok.bs b o e).2 (I.ok.Jq e) (I.ok.xy b o e),I.base.free b o (I.ok.bs b o e).1 (I.ok.bs b o e).2 (I.ok.xy b o e)⟩
theorem Inv.bk (I:Inv X pZ σ H s): ∀ b o,X.base.get? b=some o→s.heap.get? b=some o:=fun b o e=>(I.bs b o e).1
theorem Inv.mod (I:Inv X pZ σ H s):Mod X.K X.mg X.base:=I.ok.mod
theorem Inv.Gs (I:Inv X pZ σ H s):X.K.In s.heap:=I.ok.mod.JA.keeps I.bk
theorem Inv.lt (I:Inv X pZ σ H s):X.env.locals < s.heap.objs.size:=let ⟨_,hn,_⟩:=I.loc;hn.lt
theorem Inv.sz (I:Inv X pZ σ H s):X.s₀.heap.objs.size≤s.heap.objs.size:=KZ I.ok.above (Nat.le_of_lt I.lt)
theorem Inv.Jp (I:Inv X pZ σ H s) (h:s.heap.objs.size≤a):a∉X.fs:=fun hb=>by
 obtain⟨_,o,ho,_⟩:=I.ok.kZ.mem hb
 exact absurd (K1 (KS ho) (KZ I.sz h)) (Nat.lt_irrefl _)
theorem Inv.FP (I:Inv X pZ σ H s): ∀ x c,X.env.cells.lookup x=some c→c≠X.env.locals:=fun x c e z=>by
 obtain⟨v,o,ho,hd⟩:=I.cell x c e
 obtain⟨m,⟨o',es,ep,ho',hd',_⟩,_⟩:=I.loc
 rw[z,ho'] at ho;cases ho;rw[hd'] at hd;cases hd
theorem Inv.kZ (I:Inv X pZ σ H s):s.heap.FunFrames X.base X.outer:=by
 have all: ∀ (l:List Env),(∀ b∈AQ l,b∈X.fs)→X.s₀.heap.FunFrames X.base l→s.heap.FunFrames X.base l:=by
  intro l
  induction l with
  |nil=>intro _ _;trivial
  |cons env r ih=>
   intro hs hl
   obtain⟨hk,⟨L,o,hf,hn,ho,hd⟩,hr⟩:=hl
   have hL:L∈X.fs:=hs L (by unfold AQ;rw[List.filterMap_cons,hf];exact Kw)
   obtain⟨sl,e⟩:=I.base.slot L o ho (I.ok.D8 L hL) hL fun z=>I.ok.AU L z hL
   exact⟨hk,⟨L,_,hf,hn,e,hd⟩,ih (fun b hb=>hs b (by unfold AQ;rw[List.filterMap_cons,hf];exact Kz _ hb)) hr⟩
 exact all X.outer (fun _ hb=>hb) I.ok.kZ
theorem Inv.stack (I:Inv X pZ σ H s):s.heap.FunFrames X.base X.stack:=by
 rcases I.ok.GO with e|⟨e,hf⟩
 ·rw[e];exact I.kZ
 ·rw[e]
  obtain⟨m,hn,_⟩:=I.loc
  refine .cons (by rw[I.ok.kind];decide) hf hn ?_ I.kZ
  exact Heap.get?_none_of_le (KZ I.ok.BK I.ok.above)
theorem Inv.kA (I:Inv X pZ σ H s): ∀ b∈AQ X.stack,b∈X.env.locals::X.fs:=fun b hb=>by
 rcases I.ok.GO with e|⟨e,hf⟩
 ·rw[e] at hb;exact Kz _ hb
 ·rw[e] at hb
  unfold AQ at hb
  rw[List.filterMap_cons,hf] at hb
  exact hb
theorem Inv.vq (I:Inv X pZ σ H s): ∀ b∈AQ X.stack,H b=none:=fun b hb=>by
 rcases KJ.mp (I.kA b hb) with e|hb
 ·rw[e];exact I.free
 ·obtain⟨_,o,ho,_⟩:=I.ok.kZ.mem hb
  exact I.base.free b o ho (I.ok.D8 b hb) fun z=>I.ok.AU b z hb
theorem Inv.step {g':Array GenState} {t':Nat} {d':Drawn} {ch:List Addr} (I:Inv X pZ σ H s)
  (hch: ∀ b∈ch,(b∈X.ex∨X.s₀.heap.objs.size≤b)∧b≠X.env.locals∧(∀ x c,X.env.cells.lookup x=some c→c≠b)∧∀ p∈X.pn++pZ,p.1≠b)
  (keep: ∀ b o,b≠X.env.locals→b∉X.fs→b∉ch→s.heap.get? b=some o→H b=none→h'.get? b=some o)
  (slot: ∀ b o,b≠X.env.locals→b∈X.fs→b∉ch→s.heap.get? b=some o→H b=none→∃ sl,h'.get? b=some {o with slots:=sl}) (free: ∀ b o,b∉ch→s.heap.get? b=some o→H b=none→H' b=none)
  (there: ∀ b o,b∉ch→s.heap.get? b=some o→∃ o',h'.get? b=some o')
  (p8: ∀ b xs,H b=some (.tup xs)→H' b=some (.tup xs)) (kc: ∀ b o u,H b=some (.f7 o u)→H' b=some (.f7 o u)) (oh: ∀ b ps,H b=some (.lP ps)→∃ more,H' b=some (.lP (ps++more)))
  (ns: ∀ m,s.heap.Ns X.env.locals m→h'.Ns X.env.locals m) (bS:iY X.prog X.w H' h') (hg:AllBare g'):
  Inv X pZ σ H' {s with heap:=h',gens:=g',drawn:=d',toks:=t'}:=by
 have IB: ∀ b o,X.s₀.heap.get? b=some o→b≠X.env.locals:=fun b o e=>K8 (K1 (KS e) I.ok.above)
 have neC: ∀ b o,X.s₀.heap.get? b=some o→b∉X.ex→b∉ch:=fun b o e hx hb=>by
  rcases(hch b hb).1 with z|z
  ·exact hx z
  ·exact absurd (K1 (KS e) z) (Nat.lt_irrefl _)
 have cellK: ∀ x c,X.env.cells.lookup x=some c→∀ v,s.heap.IsCell c v→h'.IsCell c v:=fun x c e v cy=>by
  obtain⟨o,ho,hd⟩:=cy
  have nch:c∉ch:=fun z=>(hch c z).2.2.1 x c e rfl
  by_cases hc:c∈X.fs
  ·obtain⟨sl,q⟩:=slot c o (I.FP x c e) hc nch ho (I.iT x c e)
   exact⟨_,q,hd⟩
  ·exact⟨o,keep c o (I.FP x c e) hc nch ho (I.iT x c e),hd⟩
 refine⟨I.ok,I.os,hg,⟨fun b o e n hb hx=>?_,fun b o e n hb hx=>?_,fun b o e n hx=>?_,fun b o e hx=>?_,fun b xs e=>p8 b xs (I.base.p8 b xs e),fun b o xs e=>kc b o xs (I.base.kc b o xs e),fun b ps e=>?_⟩,?_,fun x c e=>?_,?_,fun x c e=>?_,fun p hp=>?_,bS,I.len⟩
 ·exact keep b o (IB b o e) hb (neC b o e hx) (I.base.keep b o e n hb hx) (I.base.free b o e n hx)
 ·obtain⟨sl,e1⟩:=I.base.slot b o e n hb hx
  obtain⟨sl',e2⟩:=slot b _ (IB b o e) hb (neC b o e hx) e1 (I.base.free b o e n hx)
  exact⟨sl',e2⟩
 ·obtain⟨o',e1⟩:=I.base.there b o e hx
  exact free b o' (neC b o e hx) e1 (I.base.free b o e n hx)
 ·obtain⟨o',e1⟩:=I.base.there b o e hx
  exact there b o' (neC b o e hx) e1
 ·obtain⟨m1,e1⟩:=I.base.oh b ps e
  obtain⟨m2,e2⟩:=oh b _ e1
  exact⟨m1++m2,by rw[e2,Array.append_assoc]⟩
 ·obtain⟨m,hn,hl⟩:=I.loc
  refine⟨m,ns m hn,fun i x v e1 e2 e3=>?_⟩
  obtain⟨u,r,l⟩:=hl i x v e1 e2 e3
  refine⟨u,r,?_⟩
  rcases l with l|⟨k,c,e,z⟩
  ·exact .inl l
  ·exact .inr ⟨k,c,e,cellK x c e _ z⟩
 ·obtain⟨v,z⟩:=I.cell x c e
  exact⟨v,cellK x c e v z⟩
 ·obtain⟨m,⟨o,_,_,ho,_⟩,_⟩:=I.loc
  exact free _ o (fun z=>(hch _ z).2.1 rfl) ho I.free
 ·obtain⟨v,o,ho,hd⟩:=I.cell x c e
  exact free c o (fun z=>(hch c z).2.2.1 x c e rfl) ho (I.iT x c e)
 ·obtain⟨e,n,ne,nf,d⟩:=I.pin p hp
  have nch:p.1∉ch:=fun z=>(hch p.1 z).2.2.2 p hp rfl
  exact⟨keep p.1 p.2 ne nf nch e n,free p.1 p.2 nch e n,ne,nf,d⟩
theorem Inv.un {t':Nat} (I:Inv X pZ σ H s) (u:Un X.fs [] H H' s.heap h') (bS:iY X.prog X.w H' h'):Inv X pZ σ H' {s with heap:=h',toks:=t'}:=by
 obtain⟨m,⟨o,es,ep,ho,r⟩,_⟩:=id I.loc
 obtain⟨sl,hL⟩:=u.any ho I.free (by simp)
 exact I.step (g':=s.gens) (d':=s.drawn) (ch:=[]) (fun _ z=>nomatch z) (fun b o _ hb _ e n=>u.keep b o e n hb (by simp)) (fun b o _ hb _ e n=>u.slot b o e n hb (by simp)) (fun b o _ e n=>u.free b o e n (by simp)) (fun b o _ e=>u.there b o e (by simp)) u.p8 u.kc u.oh (fun m' hm=>by
  obtain⟨o',es',ep',ho',r'⟩:=hm
  rw[ho] at ho';cases ho'
  exact⟨_,es',ep',hL,r'⟩) bS I.bare
theorem Inv.call {g':Array GenState} {t':Nat} {d':Drawn} {ch:List Addr} (I:Inv X pZ σ H s) (u:Un (AQ X.stack) ch H H' s.heap h') (bS:iY X.prog X.w H' h') (hg:AllBare g')
  (hch: ∀ b∈ch,(b∈X.ex∨X.s₀.heap.objs.size≤b)∧b≠X.env.locals∧(∀ x c,X.env.cells.lookup x=some c→c≠b)∧∀ p∈X.pn++pZ,p.1≠b):
  Inv X pZ σ H' {s with heap:=h',gens:=g',drawn:=d',toks:=t'}:=by
 obtain⟨m,⟨o,es,ep,ho,r⟩,_⟩:=id I.loc
 obtain⟨sl,hL⟩:=u.any ho I.free fun z=>(hch _ z).2.1 rfl
 exact I.step (ch:=ch) hch (fun b o hL hb hc e n=>u.keep b o e n (fun z=>(KJ.mp (I.kA b z)).elim hL hb) hc) (fun b o _ _ hc e n=>u.any e n hc) (fun b o hc e n=>u.free b o e n hc) (fun b o hc e=>u.there b o e hc) u.p8 u.kc u.oh (fun m' hm=>by
  obtain⟨o',es',ep',ho',r'⟩:=hm
  rw[ho] at ho';cases ho'
  exact⟨_,es',ep',hL,r'⟩) bS hg
theorem Inv.turned {t':Nat} {it:Addr} (I:Inv X pZ σ H s) (k: ∀ b o,b≠it→s.heap.get? b=some o→h'.get? b=some o) (hn:H it=none) (hL:it≠X.env.locals)
  (h1:it∈X.ex∨X.s₀.heap.objs.size≤it) (h2: ∀ x c,X.env.cells.lookup x=some c→c≠it) (h3: ∀ p∈X.pn++pZ,p.1≠it):Inv X pZ σ H {s with heap:=h',toks:=t'}:=by
 have nit: ∀ b u,H b=some u→b≠it:=fun b u e z=>by rw[z,hn] at e;cases e
 refine I.step (g':=s.gens) (d':=s.drawn) (ch:=[it]) (fun b hb=>?_) (fun b o _ _ hc e _=>k b o (fun z=>hc (by simp[z])) e) (fun b o _ _ hc e _=>⟨o.slots,k b o (fun z=>hc (by simp[z])) e⟩) (fun _ _ _ _ n=>n)
  (fun b o hc e=>⟨o,k b o (fun z=>hc (by simp[z])) e⟩) (fun _ _ e=>e) (fun _ _ _ e=>e) (fun b ps e=>⟨#[],by rw[e];simp⟩) (fun m hm=>?_) (fun b u e=>?_) I.bare
 ·have e:b=it:=by simpa using hb
  subst e
  exact⟨h1,hL,h2,h3⟩
 ·obtain⟨o,es,ep,ho,r⟩:=hm
  exact⟨o,es,ep,k _ o (Ne.symm hL) ho,r⟩
 ·refine(I.bS b u e).mz (fun c v hc q=>k c v ?_ q) (fun _ q=>q) fun _ _ q=>q
  rcases hc with z|z
  ·rw[z];exact nit b u e
  ·exact nit c _ z
theorem Inv.tok (I:Inv X pZ σ H s) (t:Nat):Inv X pZ σ H {s with toks:=t}:=I.un (h':=s.heap) (t':=t) Un.refl I.bS
theorem Inv.kept {t':Nat} (I:Inv X pZ σ H s) (k: ∀ b u,s.heap.get? b=some u→h'.get? b=some u):Inv X pZ σ H {s with heap:=h',toks:=t'}:=I.un (Un.kept k) (I.bS.kept k)
theorem Inv.laid {a:Addr} {o:HO} {t':Nat} (I:Inv X pZ σ H s) (k: ∀ b u,s.heap.get? b=some u→h'.get? b=some u) (hp:s.heap.objs.size≤a) (new:dn X.prog X.w (upd H a o) h' a o):
  Inv X pZ σ (upd H a o) {s with heap:=h',toks:=t'}:=I.un (Un.laid k hp (I.bS.fresh hp)) (I.bS.laid k hp new)
theorem Inv.write {t':Nat} (I:Inv X pZ σ H s) (mu:Ij (H x)) (he:e=x∨H e=some (.own x)) (k: ∀ b u,b≠e→s.heap.get? b=some u→h'.get? b=some u) (heo: ∃ u,h'.get? e=some u)
  (new:dn X.prog X.w (upd H x o) h' x o):Inv X pZ σ (upd H x o) {s with heap:=h',toks:=t'}:=I.un (Un.write mu he k heo) (I.bS.write mu he k heo new)
theorem Inv.i8 (I:Inv X pZ σ H s) (h: ∀ p∈lB,s.heap.get? p.1=some p.2∧H p.1=none∧p.1≠X.env.locals∧p.1∉X.fs∧∀ v,p.2.data≠.cell v):Inv X lB σ H s:=
 ⟨I.ok,I.os,I.bare,I.base,I.loc,I.cell,I.free,I.iT,fun p hp=>(Lp.mp hp).elim (fun z=>I.pin p (List.mem_append_left _ z)) (h p),I.bS,I.len⟩
theorem sx {N:List Str} (hN:N.Nodup) {i j:Nat} (a:N[i]?=some x) (b:N[j]?=some x):i=j:=by
 obtain⟨h1,e1⟩:=KD.mp a
 obtain⟨h2,e2⟩:=KD.mp b
 exact(List.getElem_inj hN).mp (e1.trans e2.symm)
theorem wX {i:Nat} {Q:Unit→Shared→Prop} (I:Inv X pZ σ H s) (hN:X.N.Nodup) (hi:X.N[i]?=some x) (hx:Loc X.env.scope x) (r:RelV v u)
  (h: ∀ s',Inv X pZ (σ.set i (some v)) H s'→(∃ a,Heap.SameBut a s.heap s'.heap∧(a=X.env.locals∨X.env.cells.lookup x=some a))→Q () s') (hf:X.fn x=true∨X.env.scope.names.lookup x=some .local:=by first|exact .inl rfl|exact .inr rfl|assumption):wpAny M A (storeName X.env x u) Q E s:=by
 obtain⟨m,hn,hl⟩:=id I.loc
 have hcls:(X.env.scope.kind== .class||(X.env.scope.kind== .module&&X.env.locals !=X.env.globals))=false:=by rw[I.ok.kind];rfl
 have hiσ:i < σ.length:=by rw[I.len];exact(KD.mp hi).1
 have FP:=I.FP
 have tracked: ∀ {a:Addr} {h':Heap},(∃ o,s.heap.get? a=some o∧H a=none)→Heap.SameBut a s.heap h'→iY X.prog X.w H h':=fun {a h'} ha hs b ob e=>by
  obtain⟨_,_,hfree⟩:=ha
  refine(I.bS b ob e).mz (fun c w' hc q=>(hs.2 c ?_).trans q) (fun _ q=>q) fun _ _ q=>q
  rintro rfl
  rcases hc with rfl|hc
  ·rw[hfree] at e;cases e
  ·rw[hfree] at hc;cases hc
 rcases hx with hk|hk
 ·refine wpAny_storeName_local hk hn (fun h' hn' hs=>?_) hcls
  obtain⟨oL,_,_,hoL,_⟩:=id hn
  refine h _ ⟨I.ok,I.os,I.bare,⟨fun b o e n hb hx=>?_,fun b o e n hb hx=>?_,I.base.free,fun b o e hx=>?_,I.base.p8,I.base.kc,I.base.oh⟩,⟨_,hn',fun j y v' e1 e2 e3=>?_⟩,fun y c e=>?_,I.free,I.iT,fun p hp=>?_,tracked ⟨oL,hoL,I.free⟩ hs,by simpa using I.len⟩ ⟨_,hs,.inl rfl⟩
  ·exact(hs.2 b (K8 (K1 (KS e) I.ok.above))).trans (I.base.keep b o e n hb hx)
  ·obtain⟨sl,e1⟩:=I.base.slot b o e n hb hx
   exact⟨sl,(hs.2 b (K8 (K1 (KS e) I.ok.above))).trans e1⟩
  ·obtain⟨o',e1⟩:=I.base.there b o e hx
   exact⟨o',(hs.2 b (K8 (K1 (KS e) I.ok.above))).trans e1⟩
  ·by_cases hj:j=i
   ·subst hj
    rw[hi] at e1;cases e1
    rw[Ls hiσ] at e2
    cases e2
    exact⟨u,r,.inl ⟨hk,by simp⟩⟩
   ·rw[Lb (Ne.symm hj)] at e2
    obtain⟨u',r',q⟩:=hl j y v' e1 e2 e3
    refine⟨u',r',?_⟩
    rcases q with⟨k,e⟩|⟨k,c,e,z⟩
    ·refine .inl ⟨k,?_⟩
     have:y≠x:=fun e=>hj (sx hN e1 (e▸hi))
     simp[this,e]
    ·exact .inr ⟨k,c,e,z.sameBut hs (FP y c e)⟩
  ·obtain⟨w',z⟩:=I.cell y c e
   exact⟨w',z.sameBut hs (FP y c e)⟩
  ·obtain⟨e,n,ne,nf,d⟩:=I.pin p hp
   exact⟨(hs.2 p.1 ne).trans e,n,ne,nf,d⟩
 ·have hfn:X.fn x=true:=by
   rcases hf with z|z
   ·exact z
   ·rw[z] at hk;cases hk
  obtain⟨c,hc⟩:=I.ok.has x (.inl hk)
  obtain⟨w',z⟩:=I.cell x c hc
  refine wpAny_storeName_cell I.ok.kind hk hc z (fun h' hc' hs=>?_)
  obtain⟨oc,hoc,hocd⟩:=id z
  refine h {s with heap:=h'} ⟨I.ok,I.os,I.bare,⟨fun b o e n hb hx=>?_,fun b o e n hb hx=>?_,I.base.free,fun b o e hx=>?_,I.base.p8,I.base.kc,I.base.oh⟩,⟨m,hn.sameBut hs (Ne.symm (FP x c hc)),fun j y v' e1 e2 e3=>?_⟩,fun y c' e=>?_,I.free,I.iT,fun p hp=>?_,tracked ⟨oc,hoc,I.iT x c hc⟩ hs,by simpa using I.len⟩ ⟨c,hs,.inr hc⟩
  ·exact(hs.2 b (K8 (K1 (KS e) (I.ok.Gv x c hfn hc)))).trans (I.base.keep b o e n hb hx)
  ·obtain⟨sl,e1⟩:=I.base.slot b o e n hb hx
   exact⟨sl,(hs.2 b (K8 (K1 (KS e) (I.ok.Gv x c hfn hc)))).trans e1⟩
  ·obtain⟨o',e1⟩:=I.base.there b o e hx
   exact⟨o',(hs.2 b (K8 (K1 (KS e) (I.ok.Gv x c hfn hc)))).trans e1⟩
  ·by_cases hj:j=i
   ·subst hj
    rw[hi] at e1;cases e1
    rw[Ls hiσ] at e2
    cases e2
    exact⟨u,r,.inr ⟨.inl hk,c,hc,hc'⟩⟩
   ·rw[Lb (Ne.symm hj)] at e2
    obtain⟨u',r',q⟩:=hl j y v' e1 e2 e3
    refine⟨u',r',?_⟩
    rcases q with q|⟨k,c',e,z'⟩
    ·exact .inl q
    ·refine .inr ⟨k,c',e,z'.sameBut hs ?_⟩
     rintro rfl
     exact hj (sx hN e1 (I.ok.inj _ _ _ e hc▸hi))
  ·by_cases hcc:c'=c
   ·subst hcc;exact⟨_,hc'⟩
   ·obtain⟨w2,z2⟩:=I.cell y c' e
    exact⟨w2,z2.sameBut hs hcc⟩
  ·obtain⟨e,n,ne,nf,d⟩:=I.pin p hp
   refine⟨(hs.2 p.1 ?_).trans e,n,ne,nf,d⟩
   intro q
   rw[q,hoc] at e
   have q':oc=p.2:=Lv e
   exact d w' (by rw[←q'];exact hocd)
theorem jU {M:Model} {A:Around} {E:Value→Shared→Prop} {i:Nat} {x:Str} {v:V} {u:Value} {Q:Unit→Shared→Prop} (I:Inv X pZ σ H s) (hN:X.N.Nodup) (hi:X.N[i]?=some x) (hx:Loc X.env.scope x) (r:RelV v u)
  (h: ∀ s',Inv X pZ (σ.set i (some v)) H s'→Q () s') (hf:X.fn x=true∨X.env.scope.names.lookup x=some .local:=by first|exact .inl rfl|exact .inr rfl|assumption):wpAny M A (storeName X.env x u) Q E s:=
 wX I hN hi hx r (fun s' I' _=>h s' I') hf
theorem Inv.HS (I:Inv X pZ σ H s) (ho:s'.os=s.os) (u:Un (AQ X.stack) ch H H' s.heap s'.heap) (bS:iY X.prog X.w H' s'.heap) (hg:AllBare s'.gens)
  (hch: ∀ b∈ch,(b∈X.ex∨X.s₀.heap.objs.size≤b)∧b≠X.env.locals∧(∀ x c,X.env.cells.lookup x=some c→c≠b)∧∀ p∈X.pn++pZ,p.1≠b):Inv X pZ σ H' s':=by
 obtain⟨h',g',d',t',o'⟩:=s'
 have e:o'=s.os:=ho
 subst e
 exact I.call (g':=g') (t':=t') (d':=d') u bS hg hch
end
abbrev XK:=Value→Option Addr→Hp→Prop
abbrev St:=List (Option V)
abbrev VK:=V→Hp→Prop
abbrev TE:=St→Hp→VK→Prop
abbrev TT:=St→Hp→(Bool→Hp→Prop)→Prop
abbrev TA:=St→Hp→(List V→Hp→Prop)→Prop
structure Ends where
 nx:St→Hp→Prop
 rt:VK
 bk:St→Hp→Prop:=fun _ _=>False
 ct:St→Hp→Prop:=fun _ _=>False
abbrev TS:=Ends→St→Hp→Prop
def EP (X:Cx) (pZ:List (Addr×Obj)) (σ:St) (Q:VK) (u:Value) (s':Shared):Prop:= ∃ v H',Inv X pZ σ H' s'∧RelV v u∧Q v H'
def TP (X:Cx) (pZ:List (Addr×Obj)) (σ:St) (Q:Bool→Hp→Prop) (b:Bool) (s':Shared):Prop:= ∃ H',Inv X pZ σ H' s'∧Q b H'
def AP (X:Cx) (pZ:List (Addr×Obj)) (σ:St) (Q:List V→Hp→Prop) (us:List Value) (s':Shared):Prop:= ∃ vs H',Inv X pZ σ H' s'∧Vals vs us∧Q vs H'
def SP (X:Cx) (pZ:List (Addr×Obj)) (D:Ends) (f:Flow) (s':Shared):Prop:=
 match f with
 | .next=> ∃ σ' H',Inv X pZ σ' H' s'∧D.nx σ' H'
 | .brk=> ∃ σ' H',Inv X pZ σ' H' s'∧D.bk σ' H'
 | .cont=> ∃ σ' H',Inv X pZ σ' H' s'∧D.ct σ' H'
 | .ret u=> ∃ v σ' H',Inv X pZ σ' H' s'∧RelV v u∧D.rt v H'
def PE (X:Cx) (e:Expr) (t:TE):Prop:=
 ∀ (pZ:List (Addr×Obj)) (s:Shared) (σ:St) (H:Hp) (Q:VK),Inv X pZ σ H s→t σ H Q→wpAny (model X.prog X.w) X.A (eval e X.env) (EP X pZ σ Q) X.xe s
def PT (X:Cx) (e:Expr) (t:TT):Prop:=
 ∀ (pZ:List (Addr×Obj)) (s:Shared) (σ:St) (H:Hp) (Q:Bool→Hp→Prop),Inv X pZ σ H s→t σ H Q→wpAny (model X.prog X.w) X.A (isTrue e X.env (eval e X.env)) (TP X pZ σ Q) X.xe s
def PW (X:Cx) (e:Expr) (t:TT):Prop:=
 ∀ (whole:Sem Value) (pZ:List (Addr×Obj)) (s:Shared) (σ:St) (H:Hp) (Q:Bool→Hp→Prop),Inv X pZ σ H s→t σ H Q→wpAny (model X.prog X.w) X.A (isTrue e X.env whole) (TP X pZ σ Q) X.xe s
theorem PW.pt {X:Cx} {e:Expr} {t:TT} (h:PW X e t):PT X e t:=h _
def PA (X:Cx) (es:List Expr) (t:TA):Prop:=
 ∀ (pos:Pos) (pZ:List (Addr×Obj)) (s:Shared) (σ:St) (H:Hp) (Q:List V→Hp→Prop),Inv X pZ σ H s→t σ H Q→wpAny (model X.prog X.w) X.A (spliced (backTo pos (starEach es X.env))) (AP X pZ σ Q) X.xe s
def PS (X:Cx) (st:Stmt) (t:TS):Prop:=
 ∀ (pZ:List (Addr×Obj)) (s:Shared) (σ:St) (H:Hp) (D:Ends),Inv X pZ σ H s→t D σ H→wpAny (model X.prog X.w) X.A (exec st X.env) (SP X pZ D) X.xe s
def ua (X:Cx) (st:List Stmt) (t:TS):Prop:=
 ∀ (pZ:List (Addr×Obj)) (s:Shared) (σ:St) (H:Hp) (D:Ends),Inv X pZ σ H s→t D σ H→wpAny (model X.prog X.w) X.A (execs st X.env) (SP X pZ D) X.xe s
theorem cn {α:Type} {t:Sem α} {Q Q':α→Shared→Prop} {M:Model} {A:Around} {E:Value→Shared→Prop} {s:Shared} (h:wpAny M A t Q E s) (hQ: ∀ a s,Q a s→Q' a s):wpAny M A t Q' E s:=wpAny_mono h hQ fun _ _ x=>x
end L2
namespace L2
open PySem PySem.Spec PyProof.Rows
section
variable {X:Cx}
def kz (i:Nat):TE:=fun σ H Q=> ∃ v,σ[i]?=some (some v)∧Q v H
def tC (v:V):TE:=fun _ H Q=>Q v H
theorem zL (hN:X.N[i]?=some x) (hv:IH X.env.scope x) (hd:(x==("__debug__":Str))=false:=by decide) (hcd:(x==("__classdict__":Str))=false:=by decide):PE X (.Name x pos) (kz i):=by
 intro pZ s σ H Q I h
 obtain⟨v,e,h⟩:=h
 obtain⟨m,hn,hl⟩:=I.loc
 obtain⟨u,r,l⟩:=hl i x v hN e hv
 have fin:EP X pZ σ Q u s:=⟨v,H,I,r,h⟩
 rcases l with⟨hk,hm⟩|⟨hk,c,hc,hcell⟩
 ·exact wpAny_Name (wpAny_loadName_local I.ok.kind hk hn hm fin) hd
 ·rcases hk with hk|hk
  ·exact wpAny_Name (wpAny_loadName_cell I.ok.kind hk hc hcell fin) hd
  ·exact wpAny_Name (wpAny_loadName_free I.ok.kind hk hc hcell fin hcd) hd
theorem aT {i j pos}:PE X (.Constant (.int i) j pos) (tC (.int i)):=fun _ _ _ H _ I h=>wpAny_Constant_int ⟨.int i,H,I.tok _,⟨_,rfl⟩,h⟩
theorem He {b j pos}:PE X (.Constant (.bool b) j pos) (tC (.bl b)):=fun _ _ _ H _ I h=>Constant_bool ⟨.bl b,H,I,rfl,h⟩
theorem E5 {j pos}:PE X (.Constant .none j pos) (tC .aU):=fun _ _ _ H _ I h=>Constant_none ⟨.aU,H,I,rfl,h⟩
theorem E3 {x j pos}:PE X (.Constant (.str x) j pos) (tC (.str x)):=fun _ _ _ H _ I h=>Calls.Constant_str ⟨.str x,H,I.tok _,⟨_,rfl⟩,h⟩
def Gl (X:Cx) (x:Str):Prop:=X.env.kindOf x=some .globalImplicit
theorem C5 {E:Value→Shared→Prop} {pZ:List (Addr×Obj)} {s:Shared} {σ:St} {H:Hp} {x:Str} {u:Value} {pos:Pos} {Q:Value→Shared→Prop} (I:Inv X pZ σ H s) (hg:Gl X x) (hm:X.mg x=some u) (h:Q u s)
  (hd:(x==("__debug__":Str))=false:=by decide):wpAny (model X.prog X.w) X.A (eval (.Name x pos) X.env) Q E s:=
 Calls.Name_function_global I.ok.kind hg (Calls.loadGlobal_global (by rw[I.ok.glob];exact I.mod.glob.keeps I.bk) hm h) hd
theorem kU {E:Value→Shared→Prop} {pZ:List (Addr×Obj)} {s:Shared} {σ:St} {H:Hp} {x:Str} {u:Value} {pos:Pos} {Q:Value→Shared→Prop} (I:Inv X pZ σ H s) (hg:Gl X x) (hm:X.mg x=none) (hv:bootBuiltins x=some u) (h:Q u s)
  (hn:x≠"__name__":=by decide) (hd:(x==("__debug__":Str))=false:=by decide):wpAny (model X.prog X.w) X.A (eval (.Name x pos) X.env) Q E s:=by
 obtain⟨mb,h1,h2⟩:=I.mod.blt
 exact Calls.Name_function_global I.ok.kind hg (Calls.loadGlobal_builtin (by rw[I.ok.glob];exact I.mod.glob.keeps I.bk) hm (by rw[I.ok.blt];exact h1.keeps I.bk) ((h2 x hn).trans hv) h) hd
variable {a b:Expr} {ta tb:TE} {pos:Pos}
def PC (X:Cx) (op:CmpOp) (a b:Expr) (t:TE):Prop:=
 ∀ (pZ:List (Addr×Obj)) (s:Shared) (σ:St) (H:Hp) (Q:VK),Inv X pZ σ H s→t σ H Q→
  wpAny (model X.prog X.w) X.A (eval a X.env) (fun v s₁=>wpAny (model X.prog X.w) X.A (eval b X.env) (fun u s₂=>wpAny (model X.prog X.w) X.A (compareOp op v u) (EP X pZ σ Q) X.xe s₂) X.xe s₁) X.xe s
theorem sy (b:Expr) {op:CmpOp} (h:op≠.In) (h2:op≠.NotIn):behindInMarks op b=false:=by
 have e1:(op==CmpOp.In)=false:=by cases op<;>first|rfl|exact absurd rfl h
 have e2:(op==CmpOp.NotIn)=false:=by cases op<;>first|rfl|exact absurd rfl h2
 cases b<;>simp[behindInMarks,e1,e2]
def tB (t:TE):TT:=fun σ H Q=>t σ H fun x H1=> ∃ c,x= .bl c∧Q c H1
theorem E6 (h:PC X op a b t) (h1:behindInMarks op b=false:=by first|exact sy _ (by decide) (by decide)|rfl):PE X (.Compare a [op] [b] pos) t:=fun pZ s σ H Q I hw=>wpAny_Compare1 (h pZ s σ H Q I hw) h1
theorem EY {op:CmpOp} {t:TE} (h:PC X op a b t) (h1:behindInMarks op b=false:=by first|exact sy _ (by decide) (by decide)|rfl):PT X (.Compare a [op] [b] pos) (tB t):=by
 intro pZ s σ H Q I hw
 refine wpAny_isTrue_Compare1 (cn (h pZ s σ H _ I hw) fun v s1 h1=>cn h1 fun u s2 h2=>cn h2 fun c s3 ⟨x,H1,I1,r1,q1⟩=>?_) h1
 obtain⟨d,rfl,q⟩:=q1
 cases r1
 exact wpAny_truthy_bool ⟨H1,I1,q⟩
theorem EW {e:Expr} {t:TE} (h:PE X e t) (he: ∀ whole,isTrue e X.env whole=(do let v ←whole;standAt e.pos;holding [v] (truthy v)):=by intro _;rfl):PT X e (tB t):=by
 intro pZ s σ H Q I hw
 refine isTrue_plain (cn (h pZ s σ H _ I hw) fun v s1 ⟨x,H1,I1,r1,q1⟩=>?_) (he _)
 obtain⟨d,rfl,q⟩:=q1
 cases r1
 exact wpAny_truthy_bool ⟨H1,I1,q⟩
variable {tA tB':TT} {rest:List Expr}
def Jd (t u:TT):TT:=fun σ H Q=>t σ H fun c H1=>if c=true then u σ H1 Q else Q false H1
def Ke (t u:TT):TT:=fun σ H Q=>t σ H fun c H1=>if c=true then Q true H1 else u σ H1 Q
def Jb (t:TT):TT:=fun σ H Q=>t σ H fun c H1=>Q (!c) H1
theorem vI (ha:PT X a tA):PW X (.BoolOp .And [a] pos) tA:=by
 intro wh pZ s σ H Q I h
 refine isTrue_and (cn (ha pZ s σ H Q I h) fun c s1 e=>?_)
 cases c with
 |true=>exact isTrue_and_nil e
 |false=>exact e
theorem EU (ha:PT X a tA):PW X (.BoolOp .Or [a] pos) tA:=by
 intro wh pZ s σ H Q I h
 refine isTrue_or (cn (ha pZ s σ H Q I h) fun c s1 e=>?_)
 cases c with
 |false=>exact isTrue_or_nil e
 |true=>exact e
theorem zu (ha:PT X a tA) (hb:PW X (.BoolOp .And (b::rest) pos) tB'):PW X (.BoolOp .And (a::b::rest) pos) (Jd tA tB'):=by
 intro wh pZ s σ H Q I h
 refine isTrue_and (cn (ha pZ s σ H _ I h) fun c s1 ⟨H1,I1,q1⟩=>?_)
 cases c with
 |true=>exact hb wh pZ s1 σ H1 Q I1 q1
 |false=>exact⟨H1,I1,q1⟩
theorem G8 (ha:PT X a tA) (hb:PW X (.BoolOp .Or (b::rest) pos) tB'):PW X (.BoolOp .Or (a::b::rest) pos) (Ke tA tB'):=by
 intro wh pZ s σ H Q I h
 refine isTrue_or (cn (ha pZ s σ H _ I h) fun c s1 ⟨H1,I1,q1⟩=>?_)
 cases c with
 |true=>exact⟨H1,I1,q1⟩
 |false=>exact hb wh pZ s1 σ H1 Q I1 q1
theorem EX (ha:PT X a tA):PT X (.UnaryOp .Not a pos) (Jb tA):=by
 intro pZ s σ H Q I h
 exact isTrue_not (ha pZ s σ H (fun c H1=>Q (!c) H1) I h)
def GN (ta tb:TE):TE:=fun σ H Q=>ta σ H fun x H1=> ∃ c,x= .bl c∧if c=true then tb σ H1 Q else Q (.bl false) H1
theorem E4 {op} (h:PE X a t):PE X (.BoolOp op [a] pos) t:=fun pZ s σ H Q I hw=>BoolOp_one (h pZ s σ H Q I hw)
theorem E8 (ha:PE X a ta) (hb:PE X (.BoolOp .And (b::rest) pos) tb):PE X (.BoolOp .And (a::b::rest) pos) (GN ta tb):=by
 intro pZ s σ H Q I h
 refine BoolOp_and (cn (ha pZ s σ H _ I h) fun v s1 ⟨x,H1,I1,r1,q1⟩=>?_)
 obtain⟨c,rfl,q1⟩:=q1
 cases r1
 refine wpAny_truthy_bool ?_
 cases c with
 |true=>exact hb pZ s1 σ H1 Q I1 q1
 |false=>exact⟨.bl false,H1,I1,rfl,q1⟩
def Kf (t:TT) (ta tb:TE):TE:=fun σ H Q=>t σ H fun c H1=>if c=true then ta σ H1 Q else tb σ H1 Q
theorem zO {c:Expr} (hc:PT X c tA) (ha:PE X a ta) (hb:PE X b tb):PE X (.IfExp c a b pos) (Kf tA ta tb):=by
 intro pZ s σ H Q I h
 refine wpAny_IfExp (cn (hc pZ s σ H _ I h) fun d s1 ⟨H1,I1,q1⟩=>?_)
 cases d with
 |true=>exact ha pZ s1 σ H1 Q I1 q1
 |false=>exact hb pZ s1 σ H1 Q I1 q1
end
end L2
namespace L2
open PySem PySem.Spec PyProof.Rows
def cV (K:Frag) (H:Hp) (a:Addr) (xs:List V):Prop:=
 Rd H a (.lst xs)∨
  ∃ (o:Obj) (aC:Array Value) (n:Nat),K.lookup a=some o∧o.cls= .type "list"∧o.dict=none∧o.data= .seq aC n∧aC.size≤sizeLine∧Vals xs aC.toList
def fu (K:Frag) (H:Hp) (a:Addr) (xs:List V):Prop:=
 Rd H a (.tup xs)∨
  ∃ (o:Obj) (aC:Array Value) (n:Nat),K.lookup a=some o∧o.cls= .type "tuple"∧o.data= .seq aC n∧aC.size≤sizeLine∧Vals xs aC.toList
noncomputable def JQ:Value→Option V
 | .none=>some .aU
 | .bool b=>some (.bl b)
 | .int i _=>some (.int i)
 | .str x _=>some (.str x)
 | .bytes b _=>some (.HU b)
 | .float b _=>some (.JI b)
 | .ref a=>some (.ref a)
 | .type n=>some (.ty n)
 |_=>none
theorem RelV.abs (r:RelV x u):JQ u=some x:=by
 cases x with
 |aU=>cases r;rfl
 |bl _=>cases r;rfl
 |int _=>obtain⟨t,rfl⟩:=r;rfl
 |str _=>obtain⟨t,rfl⟩:=r;rfl
 |HU _=>obtain⟨t,rfl⟩:=r;rfl
 |JI _=>obtain⟨t,rfl⟩:=r;rfl
 |ref _=>cases r;rfl
 |ty _=>cases r;rfl
theorem RelV.inj {x y:V} {u:Value} (r:RelV x u) (q:RelV y u):x=y:=Lv (r.abs.symm.trans q.abs)
theorem Vals.inj: ∀ {xs ys:List V} {us:List Value},Vals xs us→Vals ys us→xs=ys
 |_,_,_,.nil,.nil=>rfl
 |_,_,_,.cons r t,.cons r' t'=>by rw[r.inj r',Vals.inj t t']
section
variable {X:Cx} {pZ:List (Addr×Obj)} {σ:St} {H:Hp} {s:Shared} {a:Addr} {xs ys:List V}
theorem cV.of {K:Frag} (h:H a=some (.lst xs)):cV K H a xs:=.inl (.inl h)
theorem fu.of {K:Frag} (h:H a=some (.tup xs)):fu K H a xs:=.inl (.inl h)
theorem Inv.list (I:Inv X pZ σ H s) (h:cV X.K H a xs): ∃ aC:List Value,Vals xs aC∧PlainL s.heap a aC.toArray∧xs.length≤sizeLine:=by
 rcases h with h|⟨o,aC,n,hk,hc,hd,hs,hz,r⟩
 ·obtain⟨z,aC,n,r,e⟩:=h.ok I.bS
  exact⟨aC,r,⟨_,n,e,rfl,rfl,rfl⟩,z⟩
 ·refine⟨aC.toList,r,⟨o,n,I.Gs a o hk,hc,hd,by simpa using hs⟩,?_⟩
  have e:=r.length
  simp only[Le] at e
  lia
theorem Inv.tuple (I:Inv X pZ σ H s) (h:fu X.K H a xs): ∃ aC:List Value,Vals xs aC∧IsTup s.heap a aC.toArray∧xs.length≤sizeLine:=by
 rcases h with h|⟨o,aC,n,hk,hc,hs,hz,r⟩
 ·obtain⟨z,aC,r,p⟩:=h.ok I.bS
  exact⟨aC,r,p,z⟩
 ·refine⟨aC.toList,r,⟨o,I.Gs a o hk,hc,n,by simpa using hs⟩,?_⟩
  have e:=r.length
  simp only[Le] at e
  lia
theorem Inv.sI (I:Inv X pZ σ H s) (h:cV X.K H a xs) (h':cV X.K H a ys):xs=ys:=by
 obtain⟨aC,r,⟨o,n,e,_,_,d⟩,_⟩:=I.list h
 obtain⟨bQ,r',⟨o',n',e',_,_,d'⟩,_⟩:=I.list h'
 rw[e] at e';cases e'
 rw[d] at d'
 injection d' with d1 _
 have:aC=bQ:=by simpa using congrArg Array.toList d1
 subst this
 exact r.inj r'
theorem Inv.wV (I:Inv X pZ σ H s) (h:fu X.K H a xs) (h':fu X.K H a ys):xs=ys:=by
 obtain⟨aC,r,⟨o,e,_,n,d⟩,_⟩:=I.tuple h
 obtain⟨bQ,r',⟨o',e',_,n',d'⟩,_⟩:=I.tuple h'
 rw[e] at e';cases e'
 rw[d] at d'
 injection d' with d1 _
 have:aC=bQ:=by simpa using congrArg Array.toList d1
 subst this
 exact r.inj r'
end
abbrev Cx.mw (X:Cx) (E:Value→Shared→Prop):Cx:={X with xe:=E}
abbrev Cx.tZ (X:Cx):Cx:=X.mw fun _ _=>False
theorem Cx.Ok.mw {X:Cx} (ok:X.Ok) (E:Value→Shared→Prop):(X.mw E).Ok:=
 ⟨ok.mod,ok.kind,ok.glob,ok.blt,ok.above,ok.inj,ok.has,ok.Gv,ok.hd,ok.frames,ok.GO,ok.JJ,ok.bs,ok.BK,ok.xy,ok.AU,ok.kZ,ok.D8⟩
theorem Cx.Ok.hW {X:Cx} (ok:(X.mw E).Ok):X.Ok:=
 ⟨ok.mod,ok.kind,ok.glob,ok.blt,ok.above,ok.inj,ok.has,ok.Gv,ok.hd,ok.frames,ok.GO,ok.JJ,ok.bs,ok.BK,ok.xy,ok.AU,ok.kZ,ok.D8⟩
section
variable {X:Cx} {pZ:List (Addr×Obj)} {σ:St} {H:Hp} {s:Shared} {E:Value→Shared→Prop}
theorem Inv.mw (I:Inv X pZ σ H s) (E:Value→Shared→Prop):Inv (X.mw E) pZ σ H s:=⟨I.ok.mw E,I.os,I.bare,I.base,I.loc,I.cell,I.free,I.iT,I.pin,I.bS,I.len⟩
theorem Inv.hW (I:Inv (X.mw E) pZ σ H s):Inv X pZ σ H s:=⟨I.ok.hW,I.os,I.bare,I.base,I.loc,I.cell,I.free,I.iT,I.pin,I.bS,I.len⟩
theorem SP.hW (h:SP (X.mw E) pZ D f s'):SP X pZ D f s':=by
 cases f with
 |next=>obtain⟨σ',H',I,q⟩:=h;exact⟨σ',H',I.hW,q⟩
 |brk=>obtain⟨σ',H',I,q⟩:=h;exact⟨σ',H',I.hW,q⟩
 |cont=>obtain⟨σ',H',I,q⟩:=h;exact⟨σ',H',I.hW,q⟩
 |ret u=>obtain⟨v,σ',H',I,r,q⟩:=h;exact⟨v,σ',H',I.hW,r,q⟩
theorem PE.tZ (h:PE X.tZ e t):PE X e t:=fun pZ s σ H Q I hw=>
 wpAny_mono (h pZ s σ H Q (I.mw _) hw) (fun _ _ ⟨v,H',I',r,q⟩=>⟨v,H',I'.hW,r,q⟩) fun _ _ z=>False.elim z
theorem ua.tZ {st:List Stmt} {t:TS} (h:ua X.tZ st t):ua X st t:=fun pZ s σ H D I hw=>
 wpAny_mono (h pZ s σ H D (I.mw _) hw) (fun _ _ q=>q.hW) fun _ _ z=>False.elim z
end
section
variable {X:Cx} {st:Stmt} {rest:List Stmt} {t u:TS} {e:Expr} {te:TE} {pos:Pos}
def GL:TS:=fun D σ H=>D.nx σ H
def Ja (t u:TS):TS:=fun D σ H=>t {D with nx:=u D} σ H
theorem qq:ua X [] GL:=fun _ _ σ H _ I h=>wpAny_execs_nil ⟨σ,H,I,h⟩
theorem dC (h1:PS X st t) (h2:ua X rest u):ua X (st::rest) (Ja t u):=by
 intro pZ s σ H D I h
 refine wpAny_execs_cons (cn (h1 pZ s σ H {D with nx:=u D} I h) fun f s1 q=>?_)
 cases f with
 |next=>
  obtain⟨σ',H',I',q⟩:=q
  exact h2 pZ s1 σ' H' D I' q
 |ret v=>exact q
 |brk=>exact q
 |cont=>exact q
theorem ic (h1:PS X st t):ua X [st] t:=by
 intro pZ s σ H D I h
 refine wpAny_execs_cons (cn (h1 pZ s σ H D I h) fun f s1 q=>?_)
 cases f with
 |next=>exact wpAny_execs_nil q
 |ret v=>exact q
 |brk=>exact q
 |cont=>exact q
theorem Inv.quiet {pZ:List (Addr×Obj)} {σ:St} {H:Hp} {s:Shared} (I:Inv X pZ σ H s):interactive X.env=false:=by simp[interactive,I.ok.kind]
def rM (te:TE):TS:=fun D σ H=>te σ H fun _ H1=>D.nx σ H1
theorem Cs (he:PE X e te) (hs:swapsWith e none pos.line X.env=pure false:=by rfl):PS X (.Expr e pos) (rM te):=by
 intro pZ s σ H D I h
 exact wpAny_Expr_any (cn (he pZ s σ H _ I h) fun v s1 ⟨x,H1,I1,r1,q1⟩=>⟨σ,H1,I1,q1⟩) I.quiet hs
def Et (te:TE):TS:=fun D σ H=>te σ H D.rt
theorem qr (he:PE X e te):PS X (.Return (some e) pos) (Et te):=by
 intro pZ s σ H D I h
 exact wpAny_Return_some (cn (he pZ s σ H _ I h) fun v s1 ⟨x,H1,I1,r1,q1⟩=>⟨x,σ,H1,I1,r1,q1⟩)
def Eu (c:TT) (t u:TS):TS:=fun D σ H=>c σ H fun b H1=>if b=true then t D σ H1 else u D σ H1
theorem zB {c:Expr} {a b:List Stmt} {tc:TT} (hc:PT X c tc) (ha:ua X a t) (hb:ua X b u):PS X (.If c a b pos) (Eu tc t u):=by
 intro pZ s σ H D I h
 refine wpAny_If (cn (hc pZ s σ H _ I h) fun d s1 ⟨H1,I1,q1⟩=>?_)
 cases d with
 |true=>exact ha pZ s1 σ H1 D I1 q1
 |false=>exact hb pZ s1 σ H1 D I1 q1
end
abbrev TG:=V→St→Hp→(St→Hp→Prop)→Prop
abbrev BM:=List V→St→Hp→(St→Hp→Prop)→Prop
def PG (X:Cx) (target:Expr) (t:TG):Prop:=
 ∀ (pZ:List (Addr×Obj)) (s:Shared) (σ:St) (H:Hp) (v:V) (u:Value) (Q:St→Hp→Prop),Inv X pZ σ H s→RelV v u→t v σ H Q→
  wpAny (model X.prog X.w) X.A (assign target X.env u) (fun _ s'=> ∃ σ' H',Inv X pZ σ' H' s'∧Q σ' H') X.xe s
def Ii (X:Cx) (ts:List Expr) (t:BM):Prop:=
 ∀ (pZ:List (Addr×Obj)) (s:Shared) (σ:St) (H:Hp) (vs:List V) (us:List Value) (Q:St→Hp→Prop),Inv X pZ σ H s→Vals vs us→t vs σ H Q→
  wpAny (model X.prog X.w) X.A (assignInOrder ((assignEach ts X.env).map (·.2)) us) (fun _ s'=> ∃ σ' H',Inv X pZ σ' H' s'∧Q σ' H') X.xe s
abbrev DC:=V→V→V→Hp→(Hp→Prop)→Prop
def Gb (X:Cx) (t:DC):Prop:=
 ∀ (pZ:List (Addr×Obj)) (s:Shared) (σ:St) (H:Hp) (o i v:V) (ov iv u:Value) (Q:Hp→Prop),Inv X pZ σ H s→RelV o ov→RelV i iv→RelV v u→t o i v H Q→
  wpAny (model X.prog X.w) X.A (setItem ov iv u) (fun _ s'=> ∃ H',Inv X pZ σ H' s'∧Q H') X.xe s
section
variable {X:Cx} {pos:Pos}
def iS (i:Nat):TG:=fun v σ H Q=>Q (σ.set i (some v)) H
theorem lX (hN:X.N.Nodup) (hi:X.N[i]?=some x) (hx:Loc X.env.scope x) (hf:X.fn x=true∨X.env.scope.names.lookup x=some .local:=by first|exact .inl rfl|exact .inr rfl|assumption):PG X (.Name x pos) (iS i):=by
 intro pZ s σ H v u Q I r h
 exact wpAny_assign_Name (jU I hN hi hx r (fun s' I'=>⟨_,H,I',h⟩) hf)
def FD:BM:=fun vs σ H Q=>vs=[]∧Q σ H
def AO (t:TG) (u:BM):BM:=fun vs σ H Q=> ∃ v r,vs=v::r∧t v σ H fun σ' H'=>u r σ' H' Q
theorem vK:Ii X [] FD:=by
 intro pZ s σ H vs us Q I r h
 obtain⟨e,h⟩:=h
 subst e
 cases r
 exact assignInOrder_nil ⟨σ,H,I,h⟩
theorem mO {e:Expr} {es:List Expr} {t:TG} {u:BM} (h1:PG X e t) (h2:Ii X es u)
  (hs:(assignEach (e::es) X.env).map (·.2)=assign e X.env::(assignEach es X.env).map (·.2):=by rfl):Ii X (e::es) (AO t u):=by
 intro pZ s σ H vs us Q I r h
 obtain⟨v,vr,e1,h⟩:=h
 subst e1
 cases r with
 |cons r rr=>
  rw[hs]
  refine assignInOrder_cons (cn (h1 pZ s σ H _ _ _ I r h) fun _ s1 ⟨σ1,H1,I1,q1⟩=>?_)
  exact h2 pZ s1 σ1 H1 _ _ Q I1 rr q1
def AN (K:Frag) (n:Nat) (t:BM):TG:=fun v σ H Q=> ∃ a xs,v= .ref a∧fu K H a xs∧xs.length=n∧t xs σ H Q
theorem zJ (hc:X.calm=true) (h:Ii X es t)
  (hn:(assignEach es X.env).length=n:=by rfl) (hst:(assignEach es X.env).findIdx? (·.1)=none:=by rfl):PG X (.Tuple es k pos) (AN X.K n t):=by
 intro pZ s σ H v u Q I r hw
 obtain⟨a,xs,e1,hq,hl,hw⟩:=hw
 subst e1
 cases r
 obtain⟨aC,rv,ht,hz⟩:=I.tuple hq
 refine assign_Tuple_tuple (I.ok.hd hc) ht (by simp[hn,←hl,rv.length]) hst fun h' hx=>?_
 have I1:Inv X pZ σ H {s with heap:=h'}:=I.kept (t':=s.toks) fun b o e=>hx b o (K8 (KS e)) e
 exact h pZ _ σ H xs _ Q I1 (by simpa using rv) hw
def Dg (to ti:TE) (t:DC):TG:=fun v σ H Q=>to σ H fun o H1=>ti σ H1 fun i H2=>t o i v H2 fun H3=>Q σ H3
theorem uE {o i:Expr} {to ti:TE} {t:DC} (ho:PE X o to) (hi:PE X i ti) (hs:Gb X t)
  (ha: ∀ v,assign (.Subscript o i pos) X.env v=(do
   let ov ←holding [v] (eval o X.env)
   let iv ←holding [v,ov] (eval i X.env)
   standAt pos
   holding [v,ov,iv] (setItem ov iv v)
   release [v,ov,iv] []):=by intro _;rfl):PG X (.Subscript o i pos) (Dg to ti t):=by
 intro pZ s σ H v u Q I r h
 rw[ha]
 refine Kv (wpAny_holding (cn (ho pZ s σ H _ I h) fun ov s1 ⟨x,H1,I1,r1,q1⟩=>?_))
 refine Kv (wpAny_holding (cn (hi pZ s1 σ H1 _ I1 q1) fun iv s2 ⟨y,H2,I2,r2,q2⟩=>?_))
 refine Kv (wpAny_standAt (Kv (wpAny_holding (cn (hs pZ s2 σ H2 x y v ov iv u _ I2 r1 r2 r q2) fun _ s3 ⟨H3,I3,q3⟩=>?_))))
 exact wpAny_release ⟨σ,H3,I3,q3⟩
def om (te:TE) (g:TG):TS:=fun D σ H=>te σ H fun x H1=>g x σ H1 D.nx
theorem uC {tg e:Expr} {te:TE} {g:TG} (he:PE X e te) (hg:PG X tg g) (hs:swapsWithSole [tg] e pos.line X.env=pure false:=by rfl) (hw:swappedStores [tg] e X.env=pure none:=by rfl)
  (h1:(assignEach [tg] X.env).map (·.2)=[assign tg X.env]:=by rfl):PS X (.Assign [tg] e pos) (om te g):=by
 intro pZ s σ H D I h
 refine wpAny_Assign_stores (cn (he pZ s σ H _ I h) fun v s1 ⟨x,H1,I1,r1,q1⟩=>?_) hs hw
 rw[h1]
 exact cn (hg pZ s1 σ H1 x v _ I1 r1 q1) fun _ s2 q=>q
theorem iN {i:Nat} {x:Str} {e:Expr} {te:TE} {pos':Pos} (hN:X.N.Nodup) (hi:X.N[i]?=some x) (hx:Loc X.env.scope x) (he:PE X e te) (hs:swapsWith e (some (.Name x pos')) pos.line X.env=pure false:=by rfl) (hf:X.fn x=true∨X.env.scope.names.lookup x=some .local:=by first|exact .inl rfl|exact .inr rfl|assumption):
  PS X (.Assign [.Name x pos'] e pos) (om te (iS i)):=by
 intro pZ s σ H D I h
 refine wpAny_Assign_Name (cn (he pZ s σ H _ I h) fun v s1 ⟨y,H1,I1,r1,q1⟩=>?_) hs
 exact jU I1 hN hi hx r1 (fun s2 I2=>⟨_,H1,I2,q1⟩) hf
def BY (i j:Nat) (ta:TA):TS:=fun D σ H=>ta σ H fun vs H1=> ∃ v w,vs=[v,w]∧D.nx ((σ.set i (some v)).set j (some w)) H1
theorem EZ {i j:Nat} {x y:Str} {a b:Expr} {ta:TA} {px py pt:Pos} {kt k2 pt2} (hc:X.calm=true) (hN:X.N.Nodup) (hi:X.N[i]?=some x) (hj:X.N[j]?=some y) (hij:i≠j)
  (hx:X.env.scope.names.lookup x=some .local) (hy:X.env.scope.names.lookup y=some .local) (ha:PA X [a,b] ta)
  (hw:swappedStores [.Tuple [.Name x px,.Name y py] kt pt] (.Tuple [a,b] k2 pt2) X.env=pure (some [x,y]))
  (hs:swapsWithSole [.Tuple [.Name x px,.Name y py] kt pt] (.Tuple [a,b] k2 pt2) pos.line X.env=pure false:=by rfl):
  PS X (.Assign [.Tuple [.Name x px,.Name y py] kt pt] (.Tuple [a,b] k2 pt2) pos) (BY i j ta):=by
 intro pZ s σ H D I h
 rw[exec_Assign_arm]
 refine Kv (wpAny_standAt ?_)
 rw[hs]
 refine Kv (KA ?_)
 rw[Lr (by decide)]
 refine Kv (Tuple_ (cn (ha _ pZ s σ H _ I h) fun us s1 ⟨vs,H1,I1,r1,q1⟩=>?_))
 obtain⟨v,w,e1,q1⟩:=q1
 subst e1
 obtain⟨u1,u2,rfl,rv,rw'⟩: ∃ u1 u2,us=[u1,u2]∧RelV v u1∧RelV w u2:=by
  cases r1 with
  |cons p q=>
   cases q with
   |cons p' q'=>
    cases q'
    exact⟨_,_,rfl,p,p'⟩
 refine wpAny_newObj_type ?_ (by show 2≤sizeLine;decide)
 have I2:Inv X pZ σ H1 {s1 with heap:=s1.heap.push {cls:=.type "tuple",data:=.seq [u1,u2].toArray}}:=I1.kept (t':=s1.toks) fun b o e=>Ky _ e
 rw[hw]
 refine Kv (KA ?_)
 show wpAny (model X.prog X.w) X.A (do rule "assign.swapped-stores";let items ←unpackItems (.ref s1.heap.objs.size) 2 none;assignInOrder [fun v=>bindName X.env y v,fun v=>bindName X.env x v] items.reverse;pure Flow.next) _ _ _
 refine Kv (wpAny_rule (Kv (unpackItems_tuple (items:= #[u1,u2]) (I.ok.hd hc) (IsTup.new s1.heap _) fun h' hx'=>?_)))
 have I3:=I2.kept (h':=h') (t':=s1.toks) fun b o e=>hx' b o (K8 (KS e)) e
 show wpAny _ _ (assignInOrder [fun v=>bindName X.env y v,fun v=>bindName X.env x v] [u2,u1] >>= fun _=>pure Flow.next) _ _ _
 refine Kv (assignInOrder_cons (wpAny_bindName (jU I3 hN hj (.inl hy) rw' (fun s2 I4=>?_) (.inr hy))))
 refine assignInOrder_cons (wpAny_bindName (jU I4 hN hi (.inl hx) rv (fun s3 I5=>assignInOrder_nil (KA ?_)) (.inr hx)))
 rw[List.set_comm _ _ (Ne.symm hij)] at I5
 exact⟨_,H1,I5,q1⟩
end
section
variable {X:Cx} {pos:Pos}
noncomputable def uj (c:TT) (tb:TS):TS:=fun D σ H=> ∃ W:Nat→St→Hp→Prop,(∃ m,W m σ H)∧∀ m σ H,W m σ H→
 c σ H fun b H1=>if b=true then ∃ N:St→Hp→Prop,(∀ σ' H',N σ' H'→∃ m',m' < m∧W m' σ' H')∧tb {D with nx:=N,ct:=N,bk:=D.nx} σ H1 else D.nx σ H1
theorem zA {c:Expr} {body:List Stmt} {tc:TT} {tb:TS} (hp:PassesOwn (model X.prog X.w) X.A X.env X.xe) (hc:PT X c tc) (hb:ua X body tb):PS X (.While c body [] pos) (uj tc tb):=by
 intro pZ s σ H D I h
 obtain⟨W,⟨m0,w0⟩,turn⟩:=h
 refine wpAny_While (codeAny_whileLoop (fun n s'=> ∃ σ' H',Inv X pZ σ' H' s'∧W n σ' H') ?_ m0 ⟨σ,H,I,w0⟩)
 rintro n s1 ⟨σ1,H1,I1,w1⟩
 refine wpAny_passesOwn hp (cn (hc pZ s1 σ1 H1 _ I1 (turn n σ1 H1 w1)) fun b s2 ⟨H2,I2,q2⟩=>?_)
 cases b with
 |true=>
  obtain⟨N,hN,q2⟩:=q2
  rw[Lq rfl]
  refine wpAny_passesOwn hp (cn (hb pZ s2 σ1 H2 _ I2 q2) fun f s3 q3=>?_)
  cases f with
  |next=>
   obtain⟨σ3,H3,I3,n3⟩:=q3
   obtain⟨m',hm,w3⟩:=hN σ3 H3 n3
   exact⟨m',hm,σ3,H3,I3,w3⟩
  |cont=>
   obtain⟨σ3,H3,I3,n3⟩:=q3
   obtain⟨m',hm,w3⟩:=hN σ3 H3 n3
   exact⟨m',hm,σ3,H3,I3,w3⟩
  |brk=>exact q3
  |ret v=>exact q3
 |false=>
  rw[Lr Bool.false_ne_true]
  exact wpAny_execs_nil ⟨σ1,H2,I2,q2⟩
end
structure It where
 go:Nat→Hp→Prop
 yp:Nat→Hp→V→Hp→Prop
 stop:Nat→Hp→Prop
def d6 (X:Cx) (pZ:List (Addr×Obj)) (H:Hp) (b:Addr):Prop:=
 H b=none∧b≠X.env.locals∧b∉X.fs∧(b∈X.ex∨X.s₀.heap.objs.size≤b)∧(∀ x c,X.env.cells.lookup x=some c→c≠b)∧∀ p∈X.pn++pZ,p.1≠b
theorem Inv.oN {X:Cx} {pZ:List (Addr×Obj)} {σ:St} {H H':Hp} {s:Shared} {b:Addr} (I:Inv X pZ σ H s) (hb:s.heap.objs.size≤b) (hn:H' b=none):d6 X pZ H' b:=by
 refine⟨hn,Nat.ne_of_gt (K1 I.lt hb),I.Jp hb,.inr (KZ I.sz hb),fun x c e z=>?_,fun p hp z=>?_⟩
 ·obtain⟨v,q⟩:=I.cell x c e
  exact absurd (K1 q.lt (by rw[z];exact hb)) (Nat.lt_irrefl _)
 ·exact absurd (K1 (KS (I.pin p hp).1) (by rw[z];exact hb)) (Nat.lt_irrefl _)
structure Turn (P:Program) (w:World) (K:Frag) (tg:Expr) (J:It) (fp:List Addr) (it:Addr) (tn:Nat→Heap→Prop):Prop where
 mem:it∈fp
 obj: ∀ i h,tn i h→∀ b∈fp,∃ o,h.get? b=some o∧∀ v,o.data≠.cell v
 keep: ∀ i h h',tn i h→(∀ b∈fp,∀ o,h.get? b=some o→h'.get? b=some o)→tn i h'
 item: ∀ (X:Cx),X.prog=P→X.w=w→X.K=K→X.calm=true→∀ (i:Nat) (pZ:List (Addr×Obj)) (s:Shared) (σ:St) (H:Hp) (E:Value→Shared→Prop),Inv X pZ σ H s→(∀ b∈fp,d6 X pZ H b)→tn i s.heap→J.go i H→
  wpAny (model P w) X.A (pyNext (.ref it)) (fun r s1=> ∃ u,r=some u∧
   wpAny (model P w) X.A (letOwnedTupleGo tg (.ref it) u) (fun _ s2=> ∃ x H',Inv X pZ σ H' s2∧RelV x u∧J.yp i H x H'∧tn (i+1) s2.heap∧∀ b∈fp,H' b=none) E s1) E s
 done: ∀ (X:Cx),X.prog=P→X.w=w→X.K=K→X.calm=true→∀ (i:Nat) (pZ:List (Addr×Obj)) (s:Shared) (σ:St) (H:Hp) (E:Value→Shared→Prop),Inv X pZ σ H s→(∀ b∈fp,d6 X pZ H b)→tn i s.heap→J.stop i H→
  wpAny (model P w) X.A (pyNext (.ref it)) (fun r s1=>r=none∧Inv X pZ σ H s1) E s
 self: ∀ (A:Around) (i:Nat) (s:Shared) (Q:Value→Shared→Prop) (E:Value→Shared→Prop),tn i s.heap→Q (.ref it) s→wpAny (model P w) A (pyIter (.ref it)) Q E s
abbrev TI:=St→Hp→(It→Hp→Prop)→Prop
def IJ (X:Cx) (pZ:List (Addr×Obj)) (σ:St) (tg:Expr) (R:It→Hp→Prop) (itv:Value) (s2:Shared):Prop:=
 ∃ (it:Addr) (fp:List Addr) (tn:Nat→Heap→Prop) (J:It) (H':Hp),itv= .ref it∧Inv X pZ σ H' s2∧Turn X.prog X.w X.K tg J fp it tn∧tn 0 s2.heap∧(∀ b∈fp,d6 X pZ H' b)∧R J H'
def PI (X:Cx) (tg iter:Expr) (wi:TI):Prop:=
 ∀ (pZ:List (Addr×Obj)) (s:Shared) (σ:St) (H:Hp) (R:It→Hp→Prop),Inv X pZ σ H s→wi σ H R→
  wpAny (model X.prog X.w) X.A (eval iter X.env) (fun v s1=>wpAny (model X.prog X.w) X.A (pyIter v) (IJ X pZ σ tg R) X.xe s1) X.xe s
theorem pI (ho : s.heap.get? it = some o) (hc : o.cls = .type n) (hd : o.data = .fields vs)
    (hn : ["enumerate", "zip", "dict_itemiterator", "dict_reverseitemiterator", "odict_iterator", "itertools.zip_longest", "itertools.pairwise"].contains n = false) (hQ : Q () s): wpAny M A (letOwnedTupleGo tg (.ref it) u) Q E s := by
  unfold letOwnedTupleGo
  cases tg <;> first
    | exact KA hQ
    | (cases u <;> first
        | exact KA hQ
        | (refine Kv (wpAny_load ho ?_)
           rw [hc, hd]
           show wpAny M A (if (["enumerate", "zip", "dict_itemiterator", "dict_reverseitemiterator", "odict_iterator", "itertools.zip_longest", "itertools.pairwise"].contains n && vs[0]? == some (rawInt _)) = true then _ else _) Q E s
           rw [Lr (by intro h; rw [hn, Bool.false_and] at h; cases h)]
           exact KA hQ))
def IP (K:Frag) (a:Addr):It:=
 ⟨fun i H=> ∃ xs x,cV K H a xs∧xs[i]?=some x,fun i H x H'=>H'=H∧∀ xs,cV K H a xs→xs[i]?=some x,fun i H=> ∃ xs,cV K H a xs∧xs.length≤i⟩
def IL (K:Frag) (a:Addr):It:=
 ⟨fun i H=> ∃ xs x,fu K H a xs∧xs[i]?=some x,fun i H x H'=>H'=H∧∀ xs,fu K H a xs→xs[i]?=some x,fun i H=> ∃ xs,fu K H a xs∧xs.length≤i⟩
def IM (lo:Int) (n:Nat):It:=⟨fun i _=>i < n,fun i H x H'=>H'=H∧x= .int (lo+i),fun i _=>n≤i⟩
theorem wQ {P:Program} {w:World} {K:Frag} {tg:Expr} (a it:Addr):Turn P w K tg (IP K a) [it] it (fun i h=>h.IsListIter it a i) where
 mem:=by simp
 obj:=fun i h st b hb=>by
  have e:b=it:=by simpa using hb
  subst e
  obtain⟨o,e,c,d⟩:=st
  exact⟨o,e,fun v z=>by rw[d] at z;cases z⟩
 keep:=fun i h h' st k=>st.at fun o e=>k it (by simp) o e
 item:=by
  intro X hP hw hK hc i pZ s σ H E I hf st hg
  subst hP hw hK
  obtain⟨xs,x,hq,hx⟩:=hg
  obtain⟨aC,rv,p,hz⟩:=I.list hq
  obtain⟨u,hu,ru⟩:=rv.get hx
  obtain⟨f0,f1,f2,f3,f4,f5⟩:=hf it (by simp)
  refine wpAny_pyNext_list_item st p.isList (x:=u) (by simpa using hu) fun h' st' sb=>?_
  have I1:Inv X pZ σ H {s with heap:=h'}:=I.turned (t':=s.toks) (fun b o hb e=>(sb.2 b hb).trans e) f0 f1 f3 f4 f5
  obtain⟨o,e,c,d⟩:=id st'
  exact⟨u,rfl,pI (s:={s with heap:=h'}) e c d (by decide) ⟨x,H,I1,ru,⟨rfl,fun ys hy=>by rw[I.sI hy hq];exact hx⟩,st',fun b hb=>(hf b hb).1⟩⟩
 done:=by
  intro X hP hw hK hc i pZ s σ H E I hf st hg
  subst hP hw hK
  obtain⟨xs,hq,hx⟩:=hg
  obtain⟨aC,rv,p,hz⟩:=I.list hq
  obtain⟨f0,f1,f2,f3,f4,f5⟩:=hf it (by simp)
  have hl:=rv.length
  exact wpAny_pyNext_list_end (I.ok.hd hc) st p.isList (by simp;lia) fun h' eb=>⟨rfl,I.turned (t':=s.toks) (fun b o hb e=>eb b o hb e) f0 f1 f3 f4 f5⟩
 self:=fun _ _ _ _ _ st h=>wpAny_pyIter_listiter st h
theorem ud {P:Program} {w:World} {K:Frag} {tg:Expr} (a it:Addr):Turn P w K tg (IL K a) [it] it (fun i h=>h.IsTupleIter it a i) where
 mem:=by simp
 obj:=fun i h st b hb=>by
  have e:b=it:=by simpa using hb
  subst e
  obtain⟨o,e,c,d⟩:=st
  exact⟨o,e,fun v z=>by rw[d] at z;cases z⟩
 keep:=fun i h h' st k=>st.at fun o e=>k it (by simp) o e
 item:=by
  intro X hP hw hK hc i pZ s σ H E I hf st hg
  subst hP hw hK
  obtain⟨xs,x,hq,hx⟩:=hg
  obtain⟨aC,rv,p,hz⟩:=I.tuple hq
  obtain⟨u,hu,ru⟩:=rv.get hx
  obtain⟨f0,f1,f2,f3,f4,f5⟩:=hf it (by simp)
  refine wpAny_pyNext_tuple_item st (show s.heap.IsTuple a aC.toArray from p) (x:=u) (by simpa using hu) fun h' st' sb=>?_
  have I1:Inv X pZ σ H {s with heap:=h'}:=I.turned (t':=s.toks) (fun b o hb e=>(sb.2 b hb).trans e) f0 f1 f3 f4 f5
  obtain⟨o,e,c,d⟩:=id st'
  exact⟨u,rfl,pI (s:={s with heap:=h'}) e c d (by decide) ⟨x,H,I1,ru,⟨rfl,fun ys hy=>by rw[I.wV hy hq];exact hx⟩,st',fun b hb=>(hf b hb).1⟩⟩
 done:=by
  intro X hP hw hK hc i pZ s σ H E I hf st hg
  subst hP hw hK
  obtain⟨xs,hq,hx⟩:=hg
  obtain⟨aC,rv,p,hz⟩:=I.tuple hq
  obtain⟨f0,f1,f2,f3,f4,f5⟩:=hf it (by simp)
  have hl:=rv.length
  exact wpAny_pyNext_tuple_end (I.ok.hd hc) st (show s.heap.IsTuple a aC.toArray from p) (by simp;lia) fun h' eb=>⟨rfl,I.turned (t':=s.toks) (fun b o hb e=>eb b o hb e) f0 f1 f3 f4 f5⟩
 self:=fun _ _ _ _ _ st h=>wpAny_pyIter_tupleiter st h
theorem ue {P:Program} {w:World} {K:Frag} {tg:Expr} (it:Addr) (lo:Int) (n:Nat):Turn P w K tg (IM lo n) [it] it (fun i h=>IsRangeIter h it (lo+(i:Nat) * 1) ((n:Int) - (i:Nat)) 1) where
 mem:=by simp
 obj:=fun i h st b hb=>by
  have e:b=it:=by simpa using hb
  subst e
  exact⟨_,st,fun v z=>by
   have z':Data.fields _=Data.cell v:=z
   cases z'⟩
 keep:=fun i h h' st k=>k it (by simp) _ st
 item:=by
  intro X hP hw hK hc i pZ s σ H E I hf st hg
  subst hP hw hK
  obtain⟨f0,f1,f2,f3,f4,f5⟩:=hf it (by simp)
  have W:=Walks.range (prog:=X.prog) (w:=X.w) (I.ok.hd hc) it lo 1 n
  refine W.item i s _ _ hg st fun v h' tk hv st' kk=>?_
  obtain⟨t,rfl⟩:=hv
  have I1:Inv X pZ σ H {s with heap:=h',toks:=tk}:=I.turned (fun b o hb e=>kk b o (by simpa using hb) e) f0 f1 f3 f4 f5
  refine⟨_,rfl,pI (s:={s with heap:=h',toks:=tk}) (n:="range_iterator") st' rfl rfl (by decide) ⟨.int (lo+i),H,I1,⟨t,?_⟩,⟨rfl,rfl⟩,st',fun b hb=>(hf b hb).1⟩⟩
  rw[Int.mul_one]
 done:=by
  intro X hP hw hK hc i pZ s σ H E I hf st hg
  subst hP hw hK
  obtain⟨f0,f1,f2,f3,f4,f5⟩:=hf it (by simp)
  exact wpAny_pyNext_range_end (I.ok.hd hc) st (by have:n≤i:=hg;lia) fun h' eb=>⟨rfl,I.turned (t':=s.toks) (fun b o hb e=>eb b o hb e) f0 f1 f3 f4 f5⟩
 self:=fun _ _ _ _ _ st h=>wpAny_pyIter_rangeiter st h
end L2
namespace L2
open PySem PySem.Spec PyProof.Rows
section
variable {X:Cx} {tg:Expr}
theorem zo {pZ:List (Addr×Obj)} {σ:St} {H:Hp} {s:Shared} {R:It→Hp→Prop} {E:Value→Shared→Prop} {lo hi:Int} {t u v:Tok} {tk:Nat} (I:Inv X pZ σ H s) (h1: -(2 ^ 62)≤lo) (h2:lo < 2 ^ 62) (h3: -(2 ^ 62)≤hi) (h4:hi < 2 ^ 62)
  (q:R (IM lo (hi - lo).toNat) H):wpAny (model X.prog X.w) X.A (pyIter (.ref s.heap.objs.size)) (IJ X pZ σ tg R) E {s with heap:=s.heap.push {cls:=.type "range",data:=.fields #[.int lo t,.int hi u,.int 1 v]},toks:=tk}:=by
 refine wpAny_pyIter_range (IsRange.new ..) (small_one h1 h2 h3 h4) ?_
 have I1:Inv X pZ σ H {s with heap:=s.heap.push {cls:=.type "range",data:=.fields #[.int lo t,.int hi u,.int 1 v]},toks:=tk}:=I.kept fun b o e=>Ky _ e
 refine⟨(s.heap.push {cls:=.type "range",data:=.fields #[.int lo t,.int hi u,.int 1 v]}).objs.size,[(s.heap.push {cls:=.type "range",data:=.fields #[.int lo t,.int hi u,.int 1 v]}).objs.size],_,_,H,rfl,
  I1.kept (t':=tk) fun b o e=>Ky _ e,ue _ lo (hi - lo).toNat,?_,fun b hb=>?_,q⟩
 ·have e1:lo+((0:Nat):Int) * 1=lo:=by simp
  have e2:(((hi - lo).toNat:Nat):Int) - ((0:Nat):Int)=Builtin.Range.rangeSize lo hi 1:=by rw[rangeSize_one];split<;>lia
  show IsRangeIter _ _ (lo+((0:Nat):Int) * 1) ((((hi - lo).toNat:Nat):Int) - ((0:Nat):Int)) 1
  rw[e1,e2]
  exact KP _ rfl
 ·have e:b=(s.heap.push {cls:=.type "range",data:=.fields #[.int lo t,.int hi u,.int 1 v]}).objs.size:=by simpa using hb
  subst e
  exact I1.oN (KG _) (I1.bS.fresh (KG _))
def AI (ta:TA):TI:=fun σ H R=>ta σ H fun vs H1=> ∃ j:Int,vs=[.int j]∧-(2 ^ 62)≤j∧j < 2 ^ 62∧R (IM 0 j.toNat) H1
theorem xk {a:Expr} {ta:TA} {p pos:Pos} (hg:Gl X "range") (hm:X.mg "range"=none) (ha:PA X [a] ta) (hs:starEach [a] X.env=[(false,eval a X.env)]:=by rfl):PI X tg (.Call (.Name "range" p) [a] [] pos) (AI ta):=by
 intro pZ s σ H R I h
 refine Call_ (kU I hg hm boot_range (PyProof.Rows.callWith_type1 (cn (ha pos pZ s σ H _ I h) fun us s1 ⟨vs,H1,I1,r1,q1⟩=>?_) hs rfl))
 obtain⟨j,e,q1,q2,q⟩:=q1
 subst e
 cases r1 with
 |cons r rr=>
  cases rr
  obtain⟨t,rfl⟩:=r
  exact call_range_1 (zo I1 (by lia) (by lia) q1 q2 (by simpa using q))
noncomputable def yM (wi:TI) (g:TG) (tb:TS):TS:=fun D σ H=>wi σ H fun J H1=> ∃ W:Nat→Nat→St→Hp→Prop,(∃ m,W 0 m σ H1)∧∀ i m σ H,W i m σ H→
 (J.stop i H∧D.nx σ H)∨(J.go i H∧∃ N:St→Hp→Prop,(∀ σ' H',N σ' H'→∃ m',m' < m∧W (i+1) m' σ' H')∧∀ x H',J.yp i H x H'→g x σ H' fun σ2 H2=>tb {D with nx:=N,ct:=N,bk:=D.nx} σ2 H2)
def kM (fp:List Addr) (h:Heap):List (Addr×Obj):=fp.filterMap fun b=>(h.get? b).map fun o=>(b,o)
theorem fB {fp:List Addr} {h:Heap} {b:Addr} {o:Obj} (hb:b∈fp) (e:h.get? b=some o):(b,o)∈kM fp h:=List.mem_filterMap.mpr ⟨b,hb,by rw[e];rfl⟩
theorem xx (hp:p∈kM fp h):p.1∈fp∧h.get? p.1=some p.2:=by
 obtain⟨b,hb,e⟩:=List.mem_filterMap.mp hp
 cases q:h.get? b with
 |none=>rw[q] at e;cases e
 |some o=>
  rw[q] at e
  have e':(b,o)=p:=Lv e
  subst e'
  exact⟨hb,q⟩
theorem Inv.pinned {pZ:List (Addr×Obj)} {σ:St} {H:Hp} {s:Shared} {fp:List Addr} (I:Inv X pZ σ H s) (hf: ∀ b∈fp,d6 X pZ H b) (ho: ∀ b∈fp,∃ o,s.heap.get? b=some o∧∀ v,o.data≠.cell v):Inv X (pZ++kM fp s.heap) σ H s:=
 I.i8 fun p hp=>(Lp.mp hp).elim (fun z=>I.pin p (KW _ z)) fun z=>by
  obtain⟨hb,e⟩:=xx z
  obtain⟨f0,f1,f2,_⟩:=hf p.1 hb
  obtain⟨o,e',d⟩:=ho p.1 hb
  rw[e] at e';cases e'
  exact⟨e,f0,f1,f2,d⟩
theorem Inv.iH {pZ pl:List (Addr×Obj)} {σ:St} {H:Hp} {s:Shared} (I:Inv X (pZ++pl) σ H s):Inv X pZ σ H s:=I.i8 fun p hp=>I.pin p (KW _ (List.mem_append_left _ hp))
theorem qt {iter:Expr} {body:List Stmt} {wi:TI} {g:TG} {tb:TS} {pos:Pos} (hp:PassesOwn (model X.prog X.w) X.A X.env X.xe) (hc:X.calm=true) (hi:PI X tg iter wi) (hg:PG X tg g) (hb:ua X body tb)
  (hs: ∀ x,foldedSetIterable iter X.env x=pure x:=by intro _;rfl):PS X (.For tg iter body [] pos) (yM wi g tb):=by
 intro pZ s σ H D I h
 refine wpAny_For (cn (hi pZ s σ H _ I h) fun v s1 h1=>cn h1 fun itv s2 h2=>?_) hs
 obtain⟨it,fp,tn,J,H2,e,I2,T,st2,f2,W,⟨m0,w0⟩,turn⟩:=h2
 subst e
 have mB: ∀ {H':Hp},(∀ b∈fp,H' b=none)→∀ b∈fp,d6 X pZ H' b:=fun hn b hb=>⟨hn b hb,(f2 b hb).2⟩
 refine codeAny_forLoop_any (fun n s'=> ∃ i σ' H',Inv X pZ σ' H' s'∧tn i s'.heap∧(∀ b∈fp,H' b=none)∧W i n σ' H') ?_ m0 ⟨0,σ,H2,I2,st2,fun b hb=>(f2 b hb).1,w0⟩
 rintro n s3 ⟨i,σ3,H3,I3,st3,fr3,w3⟩
 rcases turn i n σ3 H3 w3 with⟨stop,qn⟩|⟨go,N,hN,step⟩
 ·refine wpAny_passesOwn hp (cn (T.done X rfl rfl rfl hc i pZ s3 σ3 H3 X.xe I3 (mB fr3) st3 stop) fun r s4 ⟨hr,I4⟩=>?_)
  subst hr
  exact wpAny_execs_nil ⟨σ3,H3,I4,qn⟩
 ·refine wpAny_passesOwn hp (cn (T.item X rfl rfl rfl hc i pZ s3 σ3 H3 X.xe I3 (mB fr3) st3 go) fun r s4 ⟨u,hr,h4⟩=>?_)
  subst hr
  refine wpAny_passesOwn hp (cn h4 fun _ s5 ⟨x,H5,I5,r5,y5,st5,fr5⟩=>?_)
  have I5':=I5.pinned (mB fr5) (T.obj _ _ st5)
  refine wpAny_passesOwn hp (cn (hg _ s5 σ3 H5 x u _ I5' r5 (step x H5 y5)) fun _ s6 ⟨σ6,H6,I6,q6⟩=>?_)
  refine wpAny_passesOwn hp (cn (hb _ s6 σ6 H6 _ I6 q6) fun f s7 q7=>?_)
  have again: ∀ {σ7:St} {H7:Hp},Inv X (pZ++kM fp s5.heap) σ7 H7 s7→N σ7 H7→∃ m,m < n∧∃ i σ' H',Inv X pZ σ' H' s7∧tn i s7.heap∧(∀ b∈fp,H' b=none)∧W i m σ' H':=fun {σ7 H7} I7 n7=>by
   obtain⟨m',hm,w7⟩:=hN σ7 H7 n7
   refine⟨m',hm,i+1,σ7,H7,I7.iH,T.keep _ _ _ st5 fun b hb o e=>(I7.pin (b,o) (KW _ (KW _ (fB hb e)))).1,fun b hb=>?_,w7⟩
   obtain⟨o,e,d⟩:=T.obj _ _ st5 b hb
   exact(I7.pin (b,o) (KW _ (KW _ (fB hb e)))).2.1
  cases f with
  |next=>obtain⟨σ7,H7,I7,n7⟩:=q7;exact again I7 n7
  |cont=>obtain⟨σ7,H7,I7,n7⟩:=q7;exact again I7 n7
  |brk=>obtain⟨σ7,H7,I7,q7⟩:=q7;exact⟨σ7,H7,I7.iH,q7⟩
  |ret v=>obtain⟨x7,σ7,H7,I7,r7,q7⟩:=q7;exact⟨x7,σ7,H7,I7.iH,r7,q7⟩
end
end L2
namespace L2
open PySem PySem.Spec PyProof.Rows
abbrev R2:=V→V→Hp→VK→Prop
def fw (X:Cx) (f:Value→Value→Sem Value) (r:R2):Prop:=
 ∀ (pZ:List (Addr×Obj)) (s:Shared) (σ:St) (H:Hp) (x y:V) (v u:Value) (Q:VK),Inv X pZ σ H s→RelV x v→RelV y u→r x y H Q→
  wpAny (model X.prog X.w) X.A (f v u) (EP X pZ σ Q) X.xe s
def II (X:Cx) (f:Value→Sem Value) (r:V→Hp→VK→Prop):Prop:=
 ∀ (pZ:List (Addr×Obj)) (s:Shared) (σ:St) (H:Hp) (x:V) (v:Value) (Q:VK),Inv X pZ σ H s→RelV x v→r x H Q→
  wpAny (model X.prog X.w) X.A (f v) (EP X pZ σ Q) X.xe s
def gm (X:Cx) (f:Value) (r:List V→Hp→VK→Prop):Prop:=
 ∀ (pZ:List (Addr×Obj)) (s:Shared) (σ:St) (H:Hp) (xs:List V) (us:List Value) (Q:VK),Inv X pZ σ H s→Vals xs us→r xs H Q→
  wpAny (model X.prog X.w) X.A (call f us) (EP X pZ σ Q) X.xe s
def BZ (r:R2) (ta tb:TE):TE:=fun σ H Q=>ta σ H fun x H1=>tb σ H1 fun y H2=>r x y H2 Q
def IZ (r:V→Hp→VK→Prop) (ta:TE):TE:=fun σ H Q=>ta σ H fun x H1=>r x H1 Q
def rI (C:Int→Int→Prop) (g:Int→Int→V):R2:=fun x y H Q=> ∃ i j,x= .int i∧y= .int j∧C i j∧Q (g i j) H
def vF (g:Int→Int→V):R2:=fun x y H Q=> ∃ i j,x= .int i∧y= .int j∧Q (g i j) H
def rU (g:Int→V):V→Hp→VK→Prop:=fun x H Q=> ∃ i,x= .int i∧Q (g i) H
section
variable {X:Cx} {a b c:Expr} {ta tb tc:TE} {pos:Pos}
theorem FR (ha:PE X a ta) (hb:PE X b tb) {pZ:List (Addr×Obj)} {s:Shared} {σ:St} {H:Hp} {R:V→V→Hp→Prop} (I:Inv X pZ σ H s)
  (h:ta σ H fun x H1=>tb σ H1 fun y H2=>R x y H2) {Q:Value→Shared→Prop} {f:Value→Value→Sem Value}
  (hf: ∀ v u s2 x y H2,Inv X pZ σ H2 s2→RelV x v→RelV y u→R x y H2→wpAny (model X.prog X.w) X.A (f v u) Q X.xe s2):
  wpAny (model X.prog X.w) X.A (eval a X.env) (fun v s₁=>wpAny (model X.prog X.w) X.A (eval b X.env) (fun u s₂=>wpAny (model X.prog X.w) X.A (f v u) Q X.xe s₂) X.xe s₁) X.xe s:=by
 refine cn (ha pZ s σ H _ I h) fun v s1 ⟨x,H1,I1,r1,q1⟩=>?_
 refine cn (hb pZ s1 σ H1 _ I1 q1) fun u s2 ⟨y,H2,I2,r2,q2⟩=>?_
 exact hf v u s2 x y H2 I2 r1 r2 q2
theorem cF (ho:fw X (binaryOp op) r) (ha:PE X a ta) (hb:PE X b tb):PE X (.BinOp a op b pos) (BZ r ta tb):=by
 intro pZ s σ H Q I h
 exact wpAny_BinOp (FR ha hb I h fun v u s2 x y H2 I2 rx ry q=>ho pZ s2 σ H2 x y v u Q I2 rx ry q)
theorem G9 {op:UnaryOp} {r:V→Hp→VK→Prop} (ho:II X (unaryOp op) r) (ha:PE X a ta):PE X (.UnaryOp op a pos) (IZ r ta):=by
 intro pZ s σ H Q I h
 exact UnaryOp_ (cn (ha pZ s σ H _ I h) fun v s1 ⟨x,H1,I1,r1,q1⟩=>ho pZ s1 σ H1 x v Q I1 r1 q1)
theorem Hl {f:Value→Value→Sem Value} {C:Int→Int→Prop} {g:Int→Int→Int}
  (rule: ∀ (i j:Int) (t u:Tok) (s:Shared) (Q:Value→Shared→Prop) (E:Value→Shared→Prop),C i j→Q (.int (g i j) s.toks) {s with toks:=s.toks+1}→wpAny (model X.prog X.w) X.A (f (.int i t) (.int j u)) Q E s):
  fw X f (rI C fun i j=>.int (g i j)):=by
 intro pZ s σ H x y v u Q I rx ry h
 obtain⟨i,j,rfl,rfl,hc,q⟩:=h
 obtain⟨t,rfl⟩:=rx
 obtain⟨t',rfl⟩:=ry
 exact rule i j t t' s _ _ hc ⟨.int (g i j),H,I.tok _,⟨_,rfl⟩,q⟩
theorem Hk {f:Value→Value→Sem Value} {g:Int→Int→Int}
  (rule: ∀ (i j:Int) (t u:Tok) (s:Shared) (Q:Value→Shared→Prop) (E:Value→Shared→Prop),Q (.int (g i j) s.toks) {s with toks:=s.toks+1}→wpAny (model X.prog X.w) X.A (f (.int i t) (.int j u)) Q E s):
  fw X f (vF fun i j=>.int (g i j)):=by
 intro pZ s σ H x y v u Q I rx ry h
 obtain⟨i,j,rfl,rfl,q⟩:=h
 obtain⟨t,rfl⟩:=rx
 obtain⟨t',rfl⟩:=ry
 exact rule i j t t' s _ _ ⟨.int (g i j),H,I.tok _,⟨_,rfl⟩,q⟩
theorem CO {f:Value→Value→Sem Value} {g:Int→Int→Bool}
  (rule: ∀ (i j:Int) (t u:Tok) (s:Shared) (Q:Value→Shared→Prop) (E:Value→Shared→Prop),Q (.bool (g i j)) s→wpAny (model X.prog X.w) X.A (f (.int i t) (.int j u)) Q E s):
  fw X f (vF fun i j=>.bl (g i j)):=by
 intro pZ s σ H x y v u Q I rx ry h
 obtain⟨i,j,rfl,rfl,q⟩:=h
 obtain⟨t,rfl⟩:=rx
 obtain⟨t',rfl⟩:=ry
 exact rule i j t t' s _ _ ⟨.bl (g i j),H,I,rfl,q⟩
def Gf (i j:Int):Prop:=0 < j∧j < 1073741824
def Ip (i j:Int):Prop:=0≤j∧j≤1000000∧i.natAbs < 2 ^ 64
def ly (i j:Int):Prop:=(-(2 ^ 64) < i∧i < 2 ^ 64)∨(-(2 ^ 64) < j∧j < 2 ^ 64)
theorem ly.ok {i j:Int} (h:ly i j):IntMulOk i j:=by
 rcases h with⟨h1,h2⟩|⟨h1,h2⟩
 ·exact .of_left (intBits_le_64 h1 h2)
 ·exact .of_right (intBits_le_64 h1 h2)
theorem ig:fw X (binaryOp .Add) (vF fun i j=>.int (i+j)):=Hk fun _ _ _ _ _ _ _ q=>add_int q
theorem uH:fw X (binaryOp .Sub) (vF fun i j=>.int (i - j)):=Hk fun _ _ _ _ _ _ _ q=>sub_int q
theorem kO:fw X (binaryOp .Mult) (rI ly fun i j=>.int (i * j)):=Hl fun _ _ _ _ _ _ _ hc q=>mul_int q hc.ok
theorem qA:fw X (binaryOp .FloorDiv) (rI Gf fun i j=>.int (i / j)):=Hl fun i j _ _ _ _ _ hc q=>by
 have h1:(0:Int) < j:=hc.1
 have h2:j < 1073741824:=hc.2
 exact floordiv_int (by lia) (by rw[Int.fdiv_eq_ediv_of_nonneg i (by lia)];exact q) (.inl (PyProof.noPylong_small (by lia)))
theorem ie:fw X (binaryOp .Mod) (rI (fun _ j=>0 < j) fun i j=>.int (i % j)):=Hl fun i j _ _ _ _ _ hc q=>by
 have h1:(0:Int) < j:=hc
 exact mod_int' (by lia) (by rw[Int.fmod_eq_emod_of_nonneg i (by lia)];exact q)
theorem Kc {f:Value→Sem Value} {g:Int→Int}
  (rule: ∀ (i:Int) (t:Tok) (s:Shared) (Q:Value→Shared→Prop) (E:Value→Shared→Prop),Q (.int (g i) s.toks) {s with toks:=s.toks+1}→wpAny (model X.prog X.w) X.A (f (.int i t)) Q E s):
  II X f (rU fun i=>.int (g i)):=by
 intro pZ s σ H x v Q I rx h
 obtain⟨i,rfl,q⟩:=h
 obtain⟨t,rfl⟩:=rx
 exact rule i t s _ _ ⟨.int (g i),H,I.tok _,⟨_,rfl⟩,q⟩
theorem kx:II X (unaryOp .USub) (rU fun i=>.int (-i)):=Kc fun _ _ _ _ _ q=>neg_int q
end
section
variable {X:Cx} {a b c:Expr} {ta tb tc:TE} {pos:Pos}
theorem iU (I:Inv X pZ σ H s) (q:Q (.bl k) H) (e:k=k'):EP X pZ σ Q (.bool k') s:=by
 subst e
 exact⟨.bl k,H,I,rfl,q⟩
theorem sh:fw X (compareOp .Lt) (vF fun i j=>.bl (decide (i < j))):=CO fun _ _ _ _ _ _ _ q=>lt_int q
theorem Hh:fw X (compareOp .LtE) (vF fun i j=>.bl (decide (i≤j))):=CO fun _ _ _ _ _ _ _ q=>le_int q
theorem Hj:fw X (compareOp .Gt) (vF fun i j=>.bl (decide (j < i))):=CO fun _ _ _ _ _ _ _ q=>gt_int q
theorem DX:fw X (compareOp .GtE) (vF fun i j=>.bl (decide (j≤i))):=CO fun _ _ _ _ _ _ _ q=>ge_int q
theorem xu:fw X (compareOp .In) (fun x y H Q=> ∃ i j,x= .str i∧y= .str j∧Q (.bl (!(Builtin.Str.occurrences j i 0 j.length 1).isEmpty)) H):=by
 intro pZ s σ H x y v u Q I rx ry h
 obtain⟨i,j,rfl,rfl,q⟩:=h
 obtain⟨t,rfl⟩:=rx
 obtain⟨t',rfl⟩:=ry
 exact in_str (iU I q rfl)
theorem mR:fw X (compareOp .Is) (fun x y H Q=>y= .aU∧Q (.bl (decide (x= .aU))) H):=by
 intro pZ s σ H x y v u Q I rx ry h
 obtain⟨rfl,q⟩:=h
 cases ry
 refine is_none_gen (iU I q ?_)
 cases x<;>first
  |(cases rx;rfl)
  |(obtain⟨t,rfl⟩:=rx;rfl)
theorem lZ:fw X (compareOp .IsNot) (fun x y H Q=>y= .aU∧Q (.bl (!decide (x= .aU))) H):=by
 intro pZ s σ H x y v u Q I rx ry h
 obtain⟨rfl,q⟩:=h
 cases ry
 refine isnot_none_gen (iU I q ?_)
 cases x<;>first
  |(cases rx;rfl)
  |(obtain⟨t,rfl⟩:=rx;rfl)
theorem fw.or {f:Value→Value→Sem Value} {r r':R2} (h:fw X f r) (h':fw X f r'):fw X f (fun x y H Q=>r x y H Q∨r' x y H Q):=by
 intro pZ s σ H x y v u Q I rx ry q
 rcases q with q|q
 ·exact h pZ s σ H x y v u Q I rx ry q
 ·exact h' pZ s σ H x y v u Q I rx ry q
theorem aW (b:Expr) (h:op≠.In:=by decide) (h2:op≠.NotIn:=by decide):behindInMarks op b=false:=by
 have e1:(op==CmpOp.In)=false:=by cases op<;>first|rfl|exact absurd rfl h
 have e2:(op==CmpOp.NotIn)=false:=by cases op<;>first|rfl|exact absurd rfl h2
 cases b<;>simp[behindInMarks,e1,e2]
theorem Cz (ho:fw X (compareOp op) r) (ha:PE X a ta) (hb:PE X b tb) (hm:behindInMarks op b=false):PE X (.Compare a [op] [b] pos) (BZ r ta tb):=by
 intro pZ s σ H Q I h
 exact wpAny_Compare1 (FR ha hb I h fun v u s2 x y H2 I2 rx ry q=>ho pZ s2 σ H2 x y v u Q I2 rx ry q) hm
def DH (t:TE):TT:=fun σ H Q=>t σ H fun x H'=> ∃ k,x= .bl k∧Q k H'
theorem lU {op:CmpOp} {r:R2} (ho:fw X (compareOp op) r) (ha:PE X a ta) (hb:PE X b tb) (hm:behindInMarks op b=false):PT X (.Compare a [op] [b] pos) (DH (BZ r ta tb)):=by
 intro pZ s σ H Q I h
 refine wpAny_isTrue_Compare1 (cn (ha pZ s σ H _ I h) fun v s1 ⟨x,H1,I1,r1,q1⟩=>cn (hb pZ s1 σ H1 _ I1 q1) fun u s2 ⟨y,H2,I2,r2,q2⟩=>
  cn (ho pZ s2 σ H2 x y v u _ I2 r1 r2 q2) fun c s3 ⟨z,H3,I3,r3,k,e,q3⟩=>?_) hm
 subst e
 cases r3
 exact wpAny_truthy_bool ⟨H3,I3,q3⟩
noncomputable def uk (r r':R2) (ta tb tc:TE):TE:=fun σ H Q=>ta σ H fun x H1=>tb σ H1 fun y H2=>r x y H2 fun z H3=> ∃ k,z= .bl k∧
 (if k=true then tc σ H3 fun w' H4=>r' y w' H4 Q else Q (.bl false) H3)
theorem zP {op op':CmpOp} {r r':R2} (ho:fw X (compareOp op) r) (ho':fw X (compareOp op') r') (ha:PE X a ta) (hb:PE X b tb) (hc:PE X c tc)
  (hm:lastMarks [op,op'] [b,c]=false:=by with_unfolding_all rfl):PE X (.Compare a [op,op'] [b,c] pos) (uk r r' ta tb tc):=by
 intro pZ s σ H Q I h
 refine Compare_chain (cn (ha pZ s σ H _ I h) fun v s1 ⟨x,H1,I1,r1,q1⟩=>chain_link (cn (hb pZ s1 σ H1 _ I1 q1) fun u s2 ⟨y,H2,I2,r2,q2⟩=>
  cn (ho pZ s2 σ H2 x y v u _ I2 r1 r2 q2) fun d s3 ⟨z,H3,I3,r3,k,e,q3⟩=>?_)) hm
 subst e
 cases r3
 refine wpAny_truthy_bool ?_
 cases k with
 |false=>exact ite_ff ⟨.bl false,H3,I3,rfl,q3⟩
 |true=>exact ite_tt (chain_last (cn (hc pZ s3 σ H3 _ I3 q3) fun w' s4 ⟨z',H4,I4,r4,q4⟩=>ho' pZ s4 σ H4 y z' u w' Q I4 r2 r4 q4))
theorem zz {op op':CmpOp} {r r':R2} (ho:fw X (compareOp op) r) (ho':fw X (compareOp op') r') (ha:PE X a ta) (hb:PE X b tb) (hc:PE X c tc)
  (hm:lastMarks [op,op'] [b,c]=false:=by with_unfolding_all rfl):PT X (.Compare a [op,op'] [b,c] pos) (DH (uk r r' ta tb tc)):=by
 intro pZ s σ H Q I h
 refine isTrue_chain (cn (ha pZ s σ H _ I h) fun v s1 ⟨x,H1,I1,r1,q1⟩=>test_link (cn (hb pZ s1 σ H1 _ I1 q1) fun u s2 ⟨y,H2,I2,r2,q2⟩=>
  cn (ho pZ s2 σ H2 x y v u _ I2 r1 r2 q2) fun d s3 ⟨z,H3,I3,r3,k,e,q3⟩=>?_)) hm
 subst e
 cases r3
 refine wpAny_truthy_bool ?_
 cases k with
 |false=>
  obtain⟨k',e',q'⟩:=q3
  cases e'
  exact ite_ff ⟨H3,I3,q'⟩
 |true=>
  refine ite_tt (test_last (cn (hc pZ s3 σ H3 _ I3 q3) fun w' s4 ⟨z',H4,I4,r4,q4⟩=>cn (ho' pZ s4 σ H4 y z' u w' _ I4 r2 r4 q4) fun d' s5 ⟨z2,H5,I5,r5,k2,e2,q5⟩=>?_))
  subst e2
  cases r5
  exact wpAny_truthy_bool ⟨H5,I5,q5⟩
theorem mX:(sizeLine:Nat) < 2 ^ 63:=by rw[Lh];decide
theorem uJ:fw X (binaryOp .Add) (fun x y H Q=> ∃ i j,x= .str i∧y= .str j∧i.length+j.length≤sizeLine∧Q (.str (i++j)) H):=by
 intro pZ s σ H x y v u Q I rx ry h
 obtain⟨i,j,rfl,rfl,hz,q⟩:=h
 obtain⟨t,rfl⟩:=rx
 obtain⟨t',rfl⟩:=ry
 exact add_str (fun t' tk=>⟨.str (i++j),H,I.tok _,⟨_,rfl⟩,q⟩) hz
theorem vals1 (r:Vals [x] us): ∃ u,us=[u]∧RelV x u:=by
 cases r with
 |cons r1 r2=>cases r2;exact⟨_,rfl,r1⟩
theorem vals2 (r:Vals [x,y] us): ∃ u w',us=[u,w']∧RelV x u∧RelV y w':=by
 cases r with
 |cons r1 r2=>
  cases r2 with
  |cons r3 r4=>cases r4;exact⟨_,_,rfl,r1,r3⟩
theorem Bh:gm X (.builtin "abs") (fun xs H Q=> ∃ i,xs=[.int i]∧Q (.int (if i < 0 then -i else i)) H):=by
 intro pZ s σ H xs us Q I r h
 obtain⟨i,rfl,q⟩:=h
 obtain⟨u,rfl,t,rfl⟩:=vals1 r
 exact call_abs_int fun u tk=>⟨.int (if i < 0 then -i else i),H,I.tok _,⟨_,rfl⟩,q⟩
theorem pU (hc:X.calm=true):gm X (.builtin "max") (fun xs H Q=> ∃ i j,xs=[.int i,.int j]∧Q (.int (if j > i then j else i)) H):=by
 intro pZ s σ H xs us Q I r h
 obtain⟨i,j,rfl,q⟩:=h
 obtain⟨u,w',rfl,⟨t,rfl⟩,⟨t',rfl⟩⟩:=vals2 r
 refine max_two_ints (I.ok.hd hc) fun h' tk k=>⟨_,H,I.kept k,?_,q⟩
 by_cases hj:j > i
 ·rw[Lq hj,Lq hj];exact⟨_,rfl⟩
 ·rw[Lr hj,Lr hj];exact⟨_,rfl⟩
theorem pT (hc:X.calm=true):gm X (.builtin "min") (fun xs H Q=> ∃ i j,xs=[.int i,.int j]∧Q (.int (if j < i then j else i)) H):=by
 intro pZ s σ H xs us Q I r h
 obtain⟨i,j,rfl,q⟩:=h
 obtain⟨u,w',rfl,⟨t,rfl⟩,⟨t',rfl⟩⟩:=vals2 r
 refine min_two_ints (I.ok.hd hc) fun h' tk k=>⟨_,H,I.kept k,?_,q⟩
 by_cases hj:j < i
 ·rw[Lq hj,Lq hj];exact⟨_,rfl⟩
 ·rw[Lr hj,Lr hj];exact⟨_,rfl⟩
def Ik (K:Frag) (x:V) (H:Hp) (n:Nat):Prop:=
 match x with
 | .str y=>y.length≤sizeLine∧n=y.length
 | .HU y=>y.size≤sizeLine∧n=y.size
 | .ref p=>(∃ xs,cV K H p xs∧n=xs.length)∨∃ xs,fu K H p xs∧n=xs.length
 |_=>False
theorem Bf:gm X (.builtin "len") (fun xs H Q=> ∃ x n,xs=[x]∧Ik X.K x H n∧Q (.int n) H):=by
 intro pZ s σ H xs us Q I r h
 obtain⟨x,n,rfl,e,q⟩:=h
 obtain⟨u,rfl,rx⟩:=vals1 r
 have hl:=mX
 have hs:sizeLine=16777216:=Lh
 cases x with
 |str y=>
  obtain⟨t,rfl⟩:=rx
  obtain⟨hy,e'⟩:y.length≤sizeLine∧n=y.length:=e
  subst e'
  exact len_str (by lia) ⟨.int _,H,I.tok _,⟨_,rfl⟩,q⟩
 |HU y=>
  obtain⟨t,rfl⟩:=rx
  obtain⟨hy,e'⟩:y.size≤sizeLine∧n=y.size:=e
  subst e'
  exact PySem.W.len_bytes (by lia) ⟨.int _,H,I.tok _,⟨_,rfl⟩,q⟩
 |ref p=>
  cases rx
  have e':(∃ xs,cV X.K H p xs∧n=xs.length)∨∃ xs,fu X.K H p xs∧n=xs.length:=e
  rcases e' with⟨xs,hx,e'⟩|⟨xs,hx,e'⟩
  ·subst e'
   obtain⟨aC,r',pl,hz⟩:=I.list hx
   have hlen:=r'.length
   exact Calls.call_len_list pl.isList (by simp only[KC];lia) ⟨.int xs.length,H,I.tok _,⟨_,by simp only[KC];rw[hlen]⟩,q⟩
  ·subst e'
   obtain⟨aC,r',pl,hz⟩:=I.tuple hx
   have hlen:=r'.length
   exact len_tuple pl (by simp only[KC];lia) ⟨.int xs.length,H,I.tok _,⟨_,by simp only[KC];rw[hlen]⟩,q⟩
 |_=>exact(show False from e).elim
end
end L2
namespace L2
open PySem PySem.Spec PyProof.Rows
theorem oS.some_of (r:oS (some v) o): ∃ u,o=some u∧RelV v u:=by
 cases o with
 |none=>exact(show False from r).elim
 |some u=>exact⟨u,rfl,r⟩
end L2
namespace L2
open PySem PySem.Spec PyProof.Rows
structure eN (k:Nat) (A:Around):Prop where
 hd:A.handled=none
 dp:A.depth+3 * k+5 < recursionLimit
 un:A.units+16 * k+200 < cLine
 gd:A.guards=some []
theorem eN.mono (r:eN k A) (h:j≤k):eN j A:=⟨r.hd,by have:=r.dp;lia,by have:=r.un;lia,r.gd⟩
theorem eN.deeper (r:eN (k+1) A) (env:Env):eN k (A.deeper env):=
 ⟨r.hd,by have:=r.dp;show A.depth+1+3 * k+5 < _;lia,by have:=r.un;show A.units+3+16 * k+200 < _;lia,r.gd⟩
theorem eN.in1 (r:eN (k+1) A):eN k A.in1:=
 ⟨r.hd,by have:=r.dp;show A.depth+3 * k+5 < _;lia,by have:=r.un;show A.units+1+16 * k+200 < _;lia,by first|exact r.gd|(simp[Around.in1,r.gd])⟩
theorem eN.depth (r:eN k A):A.depth < recursionLimit:=by have:=r.dp;lia
theorem eN.units (r:eN k A):A.units+64 < cLine:=by have:=r.un;lia
def rL:TA:=fun _ H Q=>Q [] H
def iI (ta:TE) (tr:TA):TA:=fun σ H Q=>ta σ H fun x H1=>tr σ H1 fun xs H2=>Q (x::xs) H2
section
variable {X:Cx} {e:Expr} {es:List Expr} {te:TE} {t:TA} {pos:Pos}
theorem gM:PA X [] rL:=fun _ _ _ _ H Q I h=>Calls.spliced_nil ⟨[],H,I,.nil,h⟩
theorem fe (ha:PE X e te) (hr:PA X es t) (hs:starEach (e::es) X.env=(false,eval e X.env)::starEach es X.env:=by rfl):PA X (e::es) (iI te t):=by
 intro pos pZ s σ H Q I h
 rw[hs]
 show wpAny _ _ (spliced ((false,eval e X.env)::backTo pos (starEach es X.env))) _ _ s
 refine Calls.spliced_cons (cn (ha pZ s σ H _ I h) fun u s1 ⟨x,H1,I1,r1,q1⟩=>?_)
 exact cn (hr pos pZ s1 σ H1 _ I1 q1) fun us s2 ⟨xs,H2,I2,r2,q2⟩=>⟨x::xs,H2,I2,.cons r1 r2,q2⟩
def GI (t:TA):TE:=fun σ H Q=>t σ H fun xs H1=>xs.length≤sizeLine∧∀ p,H1 p=none→Q (.ref p) (upd H1 p (.tup xs))
def Jc (t:TA):TE:=fun σ H Q=>t σ H fun xs H1=>xs.length≤sizeLine∧∀ p,H1 p=none→Q (.ref p) (upd H1 p (.lst xs))
theorem zM {x1} (h:PA X es t):PE X (.Tuple es x1 pos) (GI t):=by
 intro pZ s σ H Q I hq
 refine wpAny_Tuple_spliced (cn (h pos pZ s σ H _ I hq) fun us s1 ⟨xs,H1,I1,r,z,q⟩=>⟨by rw[←r.length];exact z,?_⟩)
 have hf:H1 s1.heap.objs.size=none:=I1.bS.fresh (KG _)
 refine⟨.ref s1.heap.objs.size,upd H1 s1.heap.objs.size (.tup xs),I1.laid (t':=s1.toks) (fun b u e=>Ky _ e) (KG _) ?_,rfl,q _ hf⟩
 exact⟨z,us,r,⟨_,KP _ rfl,rfl,_,rfl⟩⟩
theorem uF (h:PA X es t):PE X (.List es pos) (Jc t):=by
 intro pZ s σ H Q I hq
 refine wpAny_List_spliced (cn (h pos pZ s σ H _ I hq) fun us s1 ⟨xs,H1,I1,r,z,q⟩=>⟨by rw[←r.length];exact z,?_⟩)
 have hf:H1 s1.heap.objs.size=none:=I1.bS.fresh (KG _)
 refine⟨.ref s1.heap.objs.size,upd H1 s1.heap.objs.size (.lst xs),I1.laid (t':=s1.toks) (fun b u e=>Ky _ e) (KG _) ?_,rfl,q _ hf⟩
 exact⟨z,us,0,r,KP _ rfl⟩
end
abbrev Sp:=List V→Hp→VK→XK→Prop
abbrev BB:=List Env→Hp→Shared→XK→Value→Shared→Prop
structure yf (P:Program) (w:World) (K:Frag) (mg:Str→Option Value) (base:Heap) (A:Around) (outer:List Env) (s:Shared) (H:Hp):Prop where
 frames:A.frames=some outer
 mod:Mod K mg base
 bs: ∀ b o,base.get? b=some o→s.heap.get? b=some o∧H b=none
 BK:base.objs.size≤s.heap.objs.size
 kZ:s.heap.FunFrames base outer
 D8: ∀ b∈AQ outer,H b=none
 bS:iY P w H s.heap
 bare:AllBare s.gens
def CE (outer:List Env) (P:Program) (w:World) (H:Hp) (s:Shared) (Q:VK) (u:Value) (s':Shared):Prop:=
 ∃ v H',s'.os=s.os∧AllBare s'.gens∧Un (AQ outer) [] H H' s.heap s'.heap∧iY P w H' s'.heap∧RelV v u∧Q v H'
def CR (CX:BB) (outer:List Env) (P:Program) (w:World) (H:Hp) (s:Shared) (Q:VK) (E:XK) (r:Result) (s':Shared):Prop:=
 match r with
 | .ok (.ret u)=>CE outer P w H s Q u s'
 | .ok _=>False
 | .error e=>CX outer H s E e s'
structure bD (P:Program) (w:World) (K:Frag) (mg:Str→Option Value) (base:Heap) (CX:BB) (k:Nat) (f:Addr) (fd:FuncData) (ps:List Str) (sp:Sp):Prop where
 len: ∀ vs H Q E,sp vs H Q E→vs.length=ps.length
 run: ∀ (A:Around) (outer:List Env) (s:Shared) (H:Hp) (args:Args) (us:List Value) (vs:List V) (Q:VK) (E:XK),eN k A→yf P w K mg base A outer s H→BindsTo s fd args (ps.zip us)→Vals vs us→sp vs H Q E→
  codeAny (model P w) A (.call (.ref f) args) (CR CX outer P w H s Q E) s
theorem bD.imp {P:Program} {w:World} {K:Frag} {mg:Str→Option Value} {base:Heap} {CX:BB} {k:Nat} {f:Addr} {fd:FuncData} {ps:List Str} {sp sp':Sp} (F:bD P w K mg base CX k f fd ps sp)
  (h: ∀ vs H Q E,sp' vs H Q E→sp vs H Q E):bD P w K mg base CX k f fd ps sp':=
 ⟨fun vs H Q E q=>F.len vs H Q E (h _ _ _ _ q),fun A outer s H args us vs Q E hr he hb hv hs=>F.run A outer s H args us vs Q E hr he hb hv (h _ _ _ _ hs)⟩
section
variable {X:Cx} {pZ:List (Addr×Obj)} {σ:St} {H:Hp} {s s':Shared}
theorem Inv.qV (I:Inv X pZ σ H s):yf X.prog X.w X.K X.mg X.base X.A X.stack s H:=
 ⟨I.ok.frames,I.ok.mod,I.bs,KZ I.ok.BK I.sz,I.stack,I.vq,I.bS,I.bare⟩
theorem Inv.after (I:Inv X pZ σ H s) (h:CE X.stack X.prog X.w H s Q u s'):EP X pZ σ Q u s':=by
 obtain⟨v,H',os,bare,un,bS,r,q⟩:=h
 obtain⟨hh,g,d,t,os'⟩:=s'
 obtain rfl:os'=s.os:=os
 exact⟨v,H',I.call (h':=hh) (g':=g) (d':=d) (t':=t) (ch:=[]) un bS bare (fun b z=>absurd z (by simp)),r,q⟩
end
def rN (sp:Sp) (dvs:List V) (E:XK) (t:TA):TE:=fun σ H Q=>t σ H fun vs H1=>sp (vs++dvs) H1 Q E
def Binds (K:Frag) (fd:FuncData) (ps:List Str) (ds:List Value):Prop:=
 ∀ (s:Shared) (us:List Value),K.In s.heap→(us++ds).length=ps.length→BindsTo s fd ⟨us,[]⟩ (ps.zip (us++ds))
theorem Binds.all {K:Frag} {fd:FuncData} {ps:List Str} (h: ∀ us:List Value,us.length=ps.length→bindArgs fd ⟨us,[]⟩=pure (ps.zip us)):Binds K fd ps []:=fun s us _ hl=>by
 rw[List.append_nil] at hl ⊢
 exact .of_eq (h us hl)
def Passes (CX:BB) (X:Cx) (E:XK):Prop:= ∀ (pZ:List (Addr×Obj)) (σ:St) (H:Hp) (s:Shared) (e:Value) (s':Shared),Inv X pZ σ H s→CX X.stack H s E e s'→X.xe e s'
section
variable {X:Cx} {CX:BB} {k:Nat} {f C:Addr} {fd:FuncData} {ps:List Str} {sp:Sp} {dvs:List V} {ds:List Value} {E:XK} {x m:Str} {p pos apos:Pos} {e o:Expr} {es:List Expr} {ta:TE} {t:TA}
theorem EK {pZ:List (Addr×Obj)} {σ:St} {H:Hp} {s:Shared} {Q:VK} {us:List Value} {vs:List V} (F:bD X.prog X.w X.K X.mg X.base CX k f fd ps sp) (hr:eN k X.A) (hb:Binds X.K fd ps ds) (hd:Vals dvs ds) (hx:Passes CX X E)
  (I:Inv X pZ σ H s) (r:Vals vs us) (h:sp (vs++dvs) H Q E):wpAny (model X.prog X.w) X.A (call (.ref f) us) (EP X pZ σ Q) X.xe s:=by
 have r2:Vals (vs++dvs) (us++ds):=r.append hd
 have hl:(us++ds).length=ps.length:=by rw[←r2.length];exact F.len _ _ _ _ h
 refine wpAny_call (codeAny_mono (F.run X.A X.stack s H ⟨us,[]⟩ (us++ds) (vs++dvs) Q E hr I.qV (hb s us I.Gs hl) r2 h) fun r s' hq=>?_)
 cases r with
 |error e=>exact hx pZ σ H s e s' I hq
 |ok fl=>
  cases fl with
  |ret u=>exact I.after hq
  |next=>exact False.elim hq
  |brk=>exact False.elim hq
  |cont=>exact False.elim hq
theorem CA (F:bD X.prog X.w X.K X.mg X.base CX k f fd ps sp) (hr:eN k X.A) (hg:Gl X x) (hm:X.mg x=some (.ref f)) (hk:keepIn X.K (.ref f)=true) (hb:Binds X.K fd ps ds) (hd:Vals dvs ds) (hx:Passes CX X E)
  (ha:PA X (e::es) t) (qR:(x==("__debug__":Str))=false:=by decide) (he:starEach (e::es) X.env=(false,eval e X.env)::starEach es X.env:=by rfl) (ng:(backTo pos (starEach es X.env)).any (·.1)=false:=by rfl):
  PE X (.Call (.Name x p) (e::es) [] pos) (rN sp dvs E t):=by
 intro pZ s σ H Q I h
 refine wpAny_Call_Name_kw (C5 I hg hm ?_ qR)
 refine PySem.W.callWith_K (h₀:=X.base) I.ok.mod.JA hk (cn (ha pos pZ s σ H _ I h) fun us s1 ⟨vs,H1,I1,r,q⟩=>⟨I1.Gs,?_⟩) he ng
 exact EK F hr hb hd hx I1 r q
end
structure aX (N P:List Str) (sc:Scope):Prop where
 kind:sc.kind= .function
 co:sc.isCoroutine=false
 gen:sc.isGenerator=false
 nd:N.Nodup
 pre:N.take P.length=P
 par: ∀ x∈P,sc.names.lookup x=some .local∨sc.names.lookup x=some .cell
 Fi: ∀ y∈sc.names,y.2≠.free
theorem pV {kindOf:Str→Option NameKind} {x:Str}: ∀ {binds:List (Str×Value)} {m:Str→Option Value},(∀ v,(x,v)∉binds)→bindL kindOf binds m x=m x
 |[],_,_=>rfl
 |(n,v)::r,m,h=>by
  unfold bindL
  rw[pV fun w hw=>h w (Kz _ hw)]
  split
  ·have:x≠n:=by rintro rfl;exact h v Kw
   simp[this]
  ·rfl
theorem pX {kindOf:Str→Option NameKind} {x:Str}: ∀ {binds:List (Str×Value)} {m:Str→Option Value},(∀ v,(x,v)∉binds)→bindC kindOf binds m x=m x
 |[],_,_=>rfl
 |(n,v)::r,m,h=>by
  unfold bindC
  rw[pX fun w hw=>h w (Kz _ hw)]
  split
  ·rfl
  ·have:x≠n:=by rintro rfl;exact h v Kw
   simp[this]
theorem pW {kindOf:Str→Option NameKind}: ∀ {P:List Str} {vs:List Value} {i:Nat} {m:Str→Option Value},P.Nodup→P[i]?=some x→vs[i]?=some v→kindOf x=some .local→
  bindL kindOf (P.zip vs) m x=some v
 |[],_,_,_,_,h,_,_=>by simp at h
 |_::_,[],_,_,_,_,h,_=>by simp at h
 |p::P,w::vs,0,m,nd,h1,h2,hk=>by
  simp at h1 h2;subst h1;subst h2
  show bindL kindOf ((p,w)::P.zip vs) m p=_
  unfold bindL
  rw[pV fun v hv=>(List.nodup_cons.mp nd).1 (List.of_mem_zip hv).1,Lq hk]
  simp
 |p::P,w::vs,i+1,m,nd,h1,h2,hk=>by
  show bindL kindOf ((p,w)::P.zip vs) m x=_
  unfold bindL
  exact pW (i:=i) (List.nodup_cons.mp nd).2 (by simpa using h1) (by simpa using h2) hk
theorem pY {kindOf:Str→Option NameKind}: ∀ {P:List Str} {vs:List Value} {i:Nat} {m:Str→Option Value},P.Nodup→P[i]?=some x→vs[i]?=some v→kindOf x≠some .local→
  bindC kindOf (P.zip vs) m x=some v
 |[],_,_,_,_,h,_,_=>by simp at h
 |_::_,[],_,_,_,_,h,_=>by simp at h
 |p::P,w::vs,0,m,nd,h1,h2,hk=>by
  simp at h1 h2;subst h1;subst h2
  show bindC kindOf ((p,w)::P.zip vs) m p=_
  unfold bindC
  rw[pX fun v hv=>(List.nodup_cons.mp nd).1 (List.of_mem_zip hv).1,Lr hk]
  simp
 |p::P,w::vs,i+1,m,nd,h1,h2,hk=>by
  show bindC kindOf ((p,w)::P.zip vs) m x=_
  unfold bindC
  exact pY (i:=i) (List.nodup_cons.mp nd).2 (by simpa using h1) (by simpa using h2) hk
def start (N:List Str) (vs:List V):St:=vs.map some++List.replicate (N.length - vs.length) none
noncomputable def jr (CX:BB) (P:Program) (w:World) (K:Frag) (mg:Str→Option Value) (base:Heap) (N:List Str) (qual:Str) (scope:Scope) (f:Addr) (cd:Value) (A:Around) (outer:List Env) (s:Shared) (H:Hp) (E:XK):Cx where
 prog:=P
 w:=w
 K:=K
 mg:=mg
 base:=base
 A:=A.deeper (envOfC qual scope s.heap.objs.size f cd)
 N:=N
 s₀:=s
 H₀:=H
 env:=envOfC qual scope s.heap.objs.size f cd
 outer:=outer
 stack:=envOfC qual scope s.heap.objs.size f cd::outer
 ex:=[]
 calm:=true
 fn:=fun _=>true
 pn:=[]
 xe:=fun e s'=>wpAny (model P w) (A.deeper (envOfC qual scope s.heap.objs.size f cd)) (leaving (envOfC qual scope s.heap.objs.size f cd) e) (fun _ s''=>CX outer H s E e s'') (fun e' s''=>CX outer H s E e' s'') s'
theorem tH {sc:Scope} (h:sc.names.lookup x=some .cell): ∃ c,(cellsFrom n sc.names []).lookup x=some c:=by
 have q:=PySem.W.cellsFrom_some sc.names n [] (.inl h)
 exact Option.isSome_iff_exists.mp q
theorem pE {CX:BB} {P:Program} {w:World} {K:Frag} {mg:Str→Option Value} {base:Heap} {N ps:List Str} {qual:Str} {scope:Scope} {f:Addr} {cd:Value} {A:Around} {outer:List Env} {s s1:Shared} {H:Hp} {E:XK} {us:List Value} {vs:List V}
  (S:aX N ps scope) (hd:A.handled=none) (e0:yf P w K mg base A outer s H) (hl:vs.length=ps.length) (r:Vals vs us)
  (x:InCallC s s.heap.objs.size (bindL (envOfC qual scope s.heap.objs.size f cd).kindOf (ps.zip us) fun _=>none) (cellsFrom (s.heap.objs.size+1) scope.names []) (bindC (envOfC qual scope s.heap.objs.size f cd).kindOf (ps.zip us) fun _=>none) s1):
  Inv (jr CX P w K mg base N qual scope f cd A outer s H E) [] (start N vs) H s1:=by
 have ng:ps.length≤N.length:=by have:=congrArg List.length S.pre;rw[List.length_take] at this;lia
 obtain⟨h1,tk,rfl,hk⟩:=x.done
 have noA: ∀ b:Addr,b∉(jr CX P w K mg base N qual scope f cd A outer s H E).ex:=fun b z=>absurd (show b∈([]:List Addr) from z) (by simp)
 refine⟨⟨e0.mod,S.kind,rfl,rfl,KG _,fun y z c h1 h2=>?_,fun y hy=>?_,fun y c _ h=>?_,fun _=>hd,Around.frames_deeper e0.frames,.inr ⟨rfl,rfl⟩,fun b z=>absurd z (noA b),e0.bs,e0.BK,fun b _ _=>noA b,fun b z=>absurd z (noA b),e0.kZ,e0.D8⟩,
  rfl,e0.bare,Un.kept hk,⟨_,x.toInCall.ns,fun i y v h1 h2 h3=>?_⟩,fun y c h=>⟨_,x.cell y c h⟩,e0.bS.fresh (KG _),fun y c h=>?_,fun p hp=>absurd (show p∈([]:List (Addr×Obj)) from hp) (by simp),e0.bS.kept hk,?_⟩
 ·exact name_of_addr x.apart (PySem.mem_of_lookup h1) (PySem.mem_of_lookup h2)
 ·have hy:scope.names.lookup y=some .cell∨scope.names.lookup y=some .free:=hy
  rcases hy with hy|hy
  ·exact tH hy
  ·exact absurd rfl (S.Fi _ (PySem.mem_of_lookup hy))
 ·exact Nat.le_of_lt (x.above y c (PySem.mem_of_lookup h))
 ·have hi:i < vs.length:=by
   unfold start at h2
   by_cases hi:i < vs.length
   ·exact hi
   ·rw[List.getElem?_append_right (by simpa using hi)] at h2
    rw[List.getElem?_replicate] at h2
    split at h2<;>cases h2
  have ha:vs[i]?=some v:=by
   unfold start at h2
   rw[Li (by simpa using hi),KY] at h2
   cases e:vs[i]? with
   |none=>rw[e] at h2;cases h2
   |some a=>rw[e] at h2;cases h2;rfl
  obtain⟨u,hu,rv⟩:=r.get ha
  have hp:ps[i]?=some y:=by
   rw[←S.pre,List.getElem?_take_of_lt (by lia)];exact h1
  have ndP:ps.Nodup:=by rw[←S.pre];exact S.nd.sublist (List.take_sublist _ _)
  refine⟨u,rv,?_⟩
  rcases S.par y (List.mem_of_getElem? hp) with k|k
  ·exact .inl ⟨k,pW ndP hp hu k⟩
  ·obtain⟨c,e⟩:=tH (n:=s.heap.objs.size+1) k
   refine .inr ⟨.inl k,c,e,?_⟩
   have q:=x.cell y c e
   rw[pY ndP hp hu (by show scope.names.lookup y≠_;rw[k];decide)] at q
   exact q
 ·exact e0.bS.fresh (Nat.le_of_lt (x.above y c (PySem.mem_of_lookup h)))
 ·unfold start
  show _=N.length
  rw[K4,Kx,List.length_replicate]
  lia
theorem D9 {CX:BB} {P:Program} {w:World} {K:Frag} {mg:Str→Option Value} {base:Heap} {k:Nat} {f:Addr} {name qual:Str} {params:Arguments} {body:List Stmt} {scope:Scope} {dV kV doc pm fL ct oc:Value} {an od:Option Addr}
  {osl:Array (Option Value)} {N ps:List Str} {sp:Sp} (lk:K.lookup f=some ⟨oc,od,.func (fnOf name qual params body scope dV kV doc pm an fL ct),osl⟩) (hcd:codeIn K fL qual=true) (S:aX N ps scope)
  (len: ∀ vs H Q E,sp vs H Q E→vs.length=ps.length)
  (iR: ∀ (A:Around) (outer:List Env) (s:Shared) (H:Hp) (vs:List V) (Q:VK) (E:XK),eN k (A.deeper (envOfC qual scope s.heap.objs.size f fL))→sp vs H Q E→
   ∃ t,ua (jr CX P w K mg base N qual scope f fL A outer s H E) body t∧t {nx:=fun _ H'=>Q .aU H',rt:=Q} (start N vs) H):
  bD P w K mg base CX (k+1) f (fnOf name qual params body scope dV kV doc pm an fL ct) ps sp:=by
 refine⟨len,fun A outer s H args us vs Q E hr e0 hb r hsp=>?_⟩
 have hl:=len _ _ _ _ hsp
 have KX:K.In s.heap:=e0.mod.JA.keeps fun b o e=>(e0.bs b o e).1
 have lim:s.heap.NoLimit:=e0.mod.nolimit.keeps fun b o e=>(e0.bs b o e).1
 have hkind: ∀ y∈ps.zip us,scope.names.lookup y.1=some .local∨(scope.names.lookup y.1=some .cell∧((cellsFrom (s.heap.objs.size+1) scope.names []).lookup y.1).isSome=true):=fun cy hy=>by
  obtain⟨n,v⟩:=cy
  rcases S.par n (List.of_mem_zip hy).1 with q|q
  ·exact .inl q
  ·exact .inr ⟨q,PySem.W.cellsFrom_some _ _ _ (.inl q)⟩
 refine codeAny_call_function hr.depth (KX _ _ lk) rfl S.co S.gen rfl (PySem.W.codeRec_of KX hcd) (hb _ _ _ _ ?_)
 refine wpAny_newFunctionEnv_cells S.kind hkind fun env he s1 x=>?_
 subst he
 refine⟨lim.keeps x.toInCall.keep,codeAny_func ?_⟩
 obtain⟨t,ht,hq⟩:=iR A outer s H vs Q E (hr.deeper _) hsp
 have I:Inv (jr CX P w K mg base N qual scope f fL A outer s H E) [] (start N vs) H s1:=pE S hr.hd e0 hl r x
 refine wpAny_mono (ht [] s1 (start N vs) H _ I hq) (fun fl s' hs=>?_) fun e s' hs=>hs
 have fin: ∀ {σ':St} {H':Hp} {v:V} {u:Value},Inv (jr CX P w K mg base N qual scope f fL A outer s H E) [] σ' H' s'→RelV v u→Q v H'→CE outer P w H s Q u s':=
  fun {σ' H' v u} J rv q=>⟨v,H',J.os,J.bare,J.base,J.bS,rv,q⟩
 cases fl with
 |ret u=>
  obtain⟨v,σ',H',J,rv,q⟩:=hs
  exact fin J rv q
 |next=>
  obtain⟨σ',H',J,q⟩:=hs
  exact fin (v:=V.aU) (u:=Value.none) J rfl q
 |brk=>
  obtain⟨_,_,_,q⟩:=hs
  exact False.elim q
 |cont=>
  obtain⟨_,_,_,q⟩:=hs
  exact False.elim q
end L2
namespace L2
open PySem PySem.Spec PyProof.Rows
section
variable {X:Cx} {x:Str} {p pos:Pos} {e:Expr} {es:List Expr} {t:TA} {id T:String} {r:List V→Hp→VK→Prop}
def Ex (r:List V→Hp→VK→Prop) (t:TA):TE:=fun σ H Q=>t σ H fun vs H1=>r vs H1 Q
theorem r9 (hc:gm X (.builtin id) r) (hg:Gl X x) (hm:X.mg x=none) (hv:bootBuiltins x=some (.builtin id)) (ha:PA X (e::es) t) (hn:x≠"__name__":=by decide) (qR:(x==("__debug__":Str))=false:=by decide)
  (he:starEach (e::es) X.env=(false,eval e X.env)::starEach es X.env:=by rfl) (ng:(backTo pos (starEach es X.env)).any (·.1)=false:=by rfl):PE X (.Call (.Name x p) (e::es) [] pos) (Ex r t):=by
 intro pZ s σ H Q I h
 refine wpAny_Call_Name_kw (kU I hg hm hv ?_ hn qR)
 exact PyProof.Rows.callWith_builtin1 (cn (ha pos pZ s σ H _ I h) fun us s1 ⟨vs,H1,I1,r1,q1⟩=>hc pZ s1 σ H1 vs us Q I1 r1 q1) he ng
theorem xm (hc:gm X (.type T) r) (hg:Gl X x) (hm:X.mg x=none) (hv:bootBuiltins x=some (.type T)) (ha:PA X (e::es) t) (hn:x≠"__name__":=by decide) (qR:(x==("__debug__":Str))=false:=by decide)
  (he:starEach (e::es) X.env=(false,eval e X.env)::starEach es X.env:=by rfl) (ng:(backTo pos (starEach es X.env)).any (·.1)=false:=by rfl):PE X (.Call (.Name x p) (e::es) [] pos) (Ex r t):=by
 intro pZ s σ H Q I h
 refine wpAny_Call_Name_kw (kU I hg hm hv ?_ hn qR)
 exact PyProof.Rows.callWith_type1 (cn (ha pos pZ s σ H _ I h) fun us s1 ⟨vs,H1,I1,r1,q1⟩=>hc pZ s1 σ H1 vs us Q I1 r1 q1) he ng
end
end L2
namespace HT
open PySem PyProof.Rows
section
variable {prog : Program} {w : World} {A : Around} {E : Value → Shared → Prop} {s : Shared}
theorem Dn (ht:IsTup s.heap t vs.toArray) (hb:IsTup s.heap b ws.toArray) (hv:vs≠[])
  (h1:ws=[]→Q (.ref t) s) (h2:ws≠[]→Q (.ref s.heap.objs.size) {s with heap:=s.heap.push {cls:=.type "tuple",data:=.seq (vs++ws).toArray}})
  (hsz:vs.length+ws.length≤sizeLine):wpAny (model prog w) A (binaryOp .Add (.ref t) (.ref b)) Q E s:=by
 obtain⟨⟨cls,dd,data,sl⟩,ho,hc,n,hd⟩:=id ht
 obtain⟨⟨cls2,dd2,data2,sl2⟩,ho2,hc2,n2,hd2⟩:=id hb
 simp only at hc hd hc2 hd2
 subst hc hd hc2 hd2
 have e:vs.toArray++ws.toArray=(vs++ws).toArray:=by simp
 by_cases hw:ws=[]
 ·exact concat_meets ⟨_,ho,rfl⟩ ⟨_,ho2,rfl⟩ noFill_tuple_add seq_tuple_add PySem.F.slot_tuple_add PySem.F.entry_tuple_add (PySem.F.args_tuple_add_2 _ _)
   (tuple_addW1 t b vs.toArray ws.toArray n n2 dd dd2 sl sl2 (by simpa using hv) (by simp[hw])) ⟨ho,ho2,h1 hw⟩
 ·refine concat_meets ⟨_,ho,rfl⟩ ⟨_,ho2,rfl⟩ noFill_tuple_add seq_tuple_add PySem.F.slot_tuple_add PySem.F.entry_tuple_add (PySem.F.args_tuple_add_2 _ _)
   (tuple_addW2 t b vs.toArray ws.toArray n n2 dd dd2 sl sl2 (by simpa using hv) (by simpa using hw) (by rw[KC,KC];exact hsz)) ⟨ho,ho2,?_⟩
  rw[e]
  exact h2 hw
def dN (n d:Nat):Option Int→Nat
 |none=>d
 |some v=>if v < 0 then(v+(n:Int)).toNat else min v.toNat n
theorem mJ (n d:Nat):dN n d none=d:=rfl
theorem qm (n d k:Nat):dN n d (some (k:Int))=min k n:=by
 show (if(k:Int) < 0 then((k:Int)+(n:Int)).toNat else min (k:Int).toNat n)=min k n
 rw[Lr (by lia),Int.toNat_natCast]
theorem EJ (n d:Nat) (hd:d≤n) (o:Option Int):dN n d o≤n:=by
 cases o with
 |none=>exact hd
 |some v=>
  show (if v < 0 then(v+(n:Int)).toNat else min v.toNat n)≤n
  by_cases hv:v < 0
  ·rw[Lq hv];lia
  ·rw[Lr hv];exact Nat.min_le_right _ _
theorem wB (v:Int) (n d:Nat):(if v < 0 then max (v+(n:Int)) 0 else min v (n:Int))=((dN n d (some v):Nat):Int):=by
 show (if v < 0 then max (v+(n:Int)) 0 else min v (n:Int))=(((if v < 0 then(v+(n:Int)).toNat else min v.toNat n):Nat):Int)
 by_cases hv:v < 0
 ·simp only[Lq hv];lia
 ·simp only[Lr hv];lia
theorem vi (lo hi:Option Int) (n:Nat):Builtin.Slice.sliceAdjust lo hi 1 (n:Int)=(((dN n 0 lo:Nat):Int),((dN n n hi:Nat):Int)):=by
 have h1: ¬ ((1:Int) < 0):=by lia
 unfold Builtin.Slice.sliceAdjust
 simp only[h1,if_false]
 refine Prod.ext ?_ ?_
 ·cases lo with
  |none=>rfl
  |some v=>exact wB v n 0
 ·cases hi with
  |none=>rfl
  |some v=>exact wB v n n
theorem uD (i j:Nat):Builtin.Slice.slicePlaces (i:Int) (j:Int) 1=j - i:=by
 unfold Builtin.Slice.slicePlaces
 have h1:(1:Int) > 0:=by lia
 simp only[h1,if_true,Int.ediv_one]
 split<;>lia
theorem mF (p:IsPart v o) (h:Q o s):wpAny (model prog w) A (Builtin.Slice.slicePartIndex v) Q E s:=by
 cases p with
 |none=>exact slicePart_none h
 |int i t=>exact slicePart_int h
theorem gU {sl:Addr} {vl vu:Value} {lo hi:Option Int} {n:Nat} {Q:Int×Int×Nat→Shared→Prop} (hs:s.heap.IsSliceOf sl vl vu .none) (pl:IsPart vl lo) (pu:IsPart vu hi)
  (h:Q (((dN n 0 lo:Nat):Int),1,dN n n hi - dN n 0 lo) s):wpAny (model prog w) A (Builtin.Slice.sliceApplied (.ref sl) (pure (n:Int))) Q E s:=by
 obtain⟨os,hos,hcs,hds⟩:=id hs
 unfold Builtin.Slice.sliceApplied Builtin.Slice.sliceFields
 refine Kv (Kv (wpAny_field hos hds (x:=vl) rfl (Kv (wpAny_field hos hds (x:=vu) rfl (Kv (wpAny_field hos hds (x:=.none) rfl (KA ?_)))))))
 refine Kv (slicePart_none ?_)
 show wpAny _ _ (if((1:Int)==0)=true then _ else _) _ _ s
 rw[Lr (by decide)]
 refine Kv (mF pl (Kv (mF pu (Kv (KA ?_)))))
 show wpAny _ _ (match Builtin.Slice.sliceAdjust lo hi 1 (n:Int) with|(lo,hi)=>pure (lo,(1:Int),Builtin.Slice.slicePlaces lo hi 1)) _ _ s
 rw[vi lo hi n]
 show wpAny _ _ (pure (((dN n 0 lo:Nat):Int),(1:Int),Builtin.Slice.slicePlaces ((dN n 0 lo:Nat):Int) ((dN n n hi:Nat):Int) 1)) _ _ s
 rw[uD]
 exact KA h
theorem zE (xs:Array Value) (i k:Nat):((List.range k).filterMap fun (m:Nat)=>xs[((i:Int)+(m:Int) * 1).toNat]?).toArray=((xs.toList.drop i).take k).toArray:=by
 have e:(fun (m:Nat)=>xs[((i:Int)+(m:Int) * 1).toNat]?)=fun m=>xs[i+m]?:=by
  funext m
  have:((i:Int)+(m:Int) * 1).toNat=i+m:=by lia
  rw[this]
 rw[e]
 have:=pick_run xs i k
 rw[List.filterMap_map] at this
 have e2:((fun x=>xs[x]?)∘fun x=>i+x)=fun m=>xs[i+m]?:=rfl
 rw[e2] at this
 rw[this]
theorem ka {t sl:Addr} {items:Array Value} {vl vu:Value} {lo hi:Option Int} {Q:Value→Shared→Prop} (ht:IsTup s.heap t items) (hs:s.heap.IsSliceOf sl vl vu .none) (pl:IsPart vl lo) (pu:IsPart vu hi)
  (hw: ¬ (dN items.size 0 lo=0∧dN items.size items.size hi=items.size))
  (h:Q (.ref s.heap.objs.size) {s with heap:=s.heap.push {cls:=.type "tuple",data:=.seq ((items.toList.drop (dN items.size 0 lo)).take (dN items.size items.size hi - dN items.size 0 lo)).toArray}})
  (hsz:items.size≤sizeLine):wpAny (model prog w) A (getItem (.ref t) (.ref sl)) Q E s:=by
 have htake:sizeOk (.seq ((items.toList.drop (dN items.size 0 lo)).take (dN items.size items.size hi - dN items.size 0 lo)).toArray):=by
  show ((items.toList.drop (dN items.size 0 lo)).take (dN items.size items.size hi - dN items.size 0 lo)).toArray.size≤sizeLine
  rw[KC,List.length_take,List.length_drop,Le]
  lia
 have hj:dN items.size items.size hi≤items.size:=EJ _ _ (KG _) hi
 obtain⟨os,hos,hcs,hds⟩:=id hs
 have hTs:s.TypeIs (.ref sl) "slice":=⟨os,hos,hcs⟩
 unfold getItem
 try with_reducible refine wpAny_holding ?_
 first|refine Kv (KA ?_)|skip
 refine Kv (wpAny_sequenceKey ht.typeIs (by decide) ?_)
 refine Kv (wpAny_callSpecial?_slot (name:=Str.ofString "__getitem__") ht.typeIs PyProof.Rows.slot_tuple_getitem
  (wpAny_call_entry PyProof.Rows.slot_tuple_getitem ht.typeIs entry_tuple_getitem ?_ (args_tuple_getitem _ _)))
 show wpAny _ _ (Builtin.Tuple.tupleItemsOf (.ref t) >>= _) _ _ s
 refine Kv (tupleItemsOf_ ht ?_)
 refine Kv (wpAny_typeOf hTs ?_)
 rw[Lq (by decide)]
 refine Kv (gU hs pl pu ?_)
 have hno: ¬ ((((dN items.size 0 lo:Nat):Int)==0&&(1:Int)==1&&(dN items.size items.size hi - dN items.size 0 lo)==items.size)=true):=by
  intro q
  rw[Lf,Lf] at q
  have q1:((dN items.size 0 lo:Nat):Int)=0:=eq_of_beq q.1.1
  have q2:dN items.size items.size hi - dN items.size 0 lo=items.size:=eq_of_beq q.2
  exact hw ⟨by lia,by lia⟩
 show wpAny _ _ (if(((dN items.size 0 lo:Nat):Int)==0&&(1:Int)==1&&(dN items.size items.size hi - dN items.size 0 lo)==items.size)=true then _ else _) _ _ s
 rw[Lr hno,zE]
 first
  |exact Kv (m:=Builtin.Tuple.tupleExact _) (wpAny_newObj_type (KA ⟨_,rfl,KA h⟩) htake)
  |exact Kv (m:=Builtin.Tuple.tupleExact _) (wpAny_newObj_type (Kv (KA (KA ⟨_,rfl,KA h⟩))) htake)
  |exact Kv (Kv (m:=Builtin.Tuple.tupleExact _) (wpAny_newObj_type (KA (KA ⟨_,rfl,KA h⟩)) htake))
  |exact Kv (Kv (m:=Builtin.Tuple.tupleExact _) (wpAny_newObj_type (KA ⟨_,rfl,KA h⟩) htake))
end
end HT
namespace L2
open PySem PySem.Spec PyProof.Rows
abbrev TO:=St→Hp→(Option Int→Hp→Prop)→Prop
def PO (X:Cx) (e:Option Expr) (t:TO):Prop:=
 ∀ (pZ:List (Addr×Obj)) (s:Shared) (σ:St) (H:Hp) (Q:Option Int→Hp→Prop),Inv X pZ σ H s→t σ H Q→
  wpAny (model X.prog X.w) X.A (evalPart e X.env) (fun u s'=> ∃ o H',Inv X pZ σ H' s'∧IsPart u o∧Q o H') X.xe s
def B0:TO:=fun _ H Q=>Q none H
def GJ (t:TE):TO:=fun σ H Q=>t σ H fun x H1=> ∃ i,x= .int i∧Q (some i) H1
section
variable {X:Cx} {e:Expr} {te:TE} {lo hi:Option Expr} {tl th:TO} {pos p2:Pos}
theorem lW:PO X none B0:=by
 intro pZ s σ H Q I h
 rw[evalPart_none]
 exact KA ⟨none,H,I,.none,h⟩
theorem lV (h:PE X e te):PO X (some e) (GJ te):=by
 intro pZ s σ H Q I hw
 rw[evalPart_some]
 refine cn (h pZ s σ H _ I hw) fun u s1 ⟨x,H1,I1,r1,q1⟩=>?_
 obtain⟨i,rfl,q⟩:=q1
 obtain⟨t,rfl⟩:=r1
 exact⟨some i,H1,I1,.int i t,q⟩
def yo (X:Cx) (r:V→Option Int→Option Int→Hp→VK→Prop):Prop:=
 ∀ (pZ:List (Addr×Obj)) (s:Shared) (σ:St) (H:Hp) (x:V) (v vl vu:Value) (lo hi:Option Int) (sl:Addr) (Q:VK),Inv X pZ σ H s→RelV x v→s.heap.IsSliceOf sl vl vu .none→IsPart vl lo→IsPart vu hi→r x lo hi H Q→
  ∃ T id,typeLookup (.type T) "__getitem__"=pure (some (.builtin id))∧s.TypeIs v T∧wpAny (model X.prog X.w) X.A (getItem v (.ref sl)) (EP X pZ σ Q) X.xe s
theorem yo.or {r r':V→Option Int→Option Int→Hp→VK→Prop} (h:yo X r) (h':yo X r'):yo X (fun x lo hi H Q=>r x lo hi H Q∨r' x lo hi H Q):=by
 intro pZ s σ H x v vl vu lo hi sl Q I rx hs pl pu q
 rcases q with q|q
 ·exact h pZ s σ H x v vl vu lo hi sl Q I rx hs pl pu q
 ·exact h' pZ s σ H x v vl vu lo hi sl Q I rx hs pl pu q
def I0 (r:V→Option Int→Option Int→Hp→VK→Prop) (te:TE) (tl th:TO):TE:=fun σ H Q=>te σ H fun x H1=>tl σ H1 fun l H2=>th σ H2 fun u H3=>r x l u H3 Q
theorem jX (hr:yo X r) (he:PE X e te) (hl:PO X lo tl) (hu:PO X hi th):PE X (.Subscript e (.Slice lo hi none p2) pos) (I0 r te tl th):=by
 intro pZ s σ H Q I h
 refine Subscript_ (cn (he pZ s σ H _ I h) fun v s1 ⟨x,H1,I1,r1,q1⟩=>?_)
 refine wpAny_Slice (cn (hl pZ s1 σ H1 _ I1 q1) fun vl s2 ⟨l,H2,I2,pl,q2⟩=>cn (hu pZ s2 σ H2 _ I2 q2) fun vu s3 ⟨u,H3,I3,pu,q3⟩=>?_)
 rw[evalPart_none]
 refine KA ?_
 have I4:Inv X pZ σ H3 {s3 with heap:=s3.heap.push {cls:=.type "slice",data:=.fields #[vl,vu,.none]}}:=I3.kept (t':=s3.toks) fun b ob q=>Ky _ q
 obtain⟨T,id,hT,ht,hg⟩:=hr pZ {s3 with heap:=s3.heap.push {cls:=.type "slice",data:=.fields #[vl,vu,.none]}} σ H3 x v vl vu l u s3.heap.objs.size Q I4 r1 (Heap.IsSliceOf.new ..) pl pu q3
 show wpAny (model X.prog X.w) X.A (subscriptTail e (.Slice lo hi none p2) v (.ref s3.heap.objs.size)) (EP X pZ σ Q) X.xe {s3 with heap:=s3.heap.push {cls:=.type "slice",data:=.fields #[vl,vu,.none]}}
 exact tail_any (ops:=[.ref s3.heap.objs.size,v]) ht hT hg (by with_unfolding_all rfl)
def kj (xs:List V) (lo hi:Option Int):List V:=(xs.drop (HT.dN xs.length 0 lo)).take (HT.dN xs.length xs.length hi - HT.dN xs.length 0 lo)
theorem lI (xs:List V) (lo hi:Option Int):(kj xs lo hi).length≤xs.length:=by
 unfold kj
 rw[List.length_take,List.length_drop]
 lia
noncomputable def GY (K:Frag):V→Option Int→Option Int→Hp→VK→Prop:=fun x lo hi H Q=> ∃ a xs,x= .ref a∧fu K H a xs∧
 ¬ (HT.dN xs.length 0 lo=0∧HT.dN xs.length xs.length hi=xs.length)∧∀ p,H p=none→Q (.ref p) (upd H p (.tup (kj xs lo hi)))
theorem EG:yo X (GY X.K):=by
 intro pZ s σ H x v vl vu lo hi sl Q I rx hs pl pu h
 obtain⟨a,xs,rfl,hx,hw,q⟩:=h
 cases rx
 obtain⟨aC,r,ht,hz⟩:=I.tuple hx
 have hlen:aC.toArray.size=xs.length:=by rw[KC];exact r.length.symm
 refine⟨"tuple",_,PyProof.Rows.slot_tuple_getitem.lookup,ht.typeIs,?_⟩
 refine HT.ka ht hs pl pu (by rw[hlen];exact hw) ?_ (by rw[hlen];exact hz)
 rw[hlen]
 refine⟨.ref s.heap.objs.size,_,I.laid (t':=s.toks) (o:=.tup (kj xs lo hi)) (fun b ob q=>Ky _ q) (KG _) ?_,rfl,q _ (I.bS.fresh (KG _))⟩
 exact⟨KZ (lI xs lo hi) hz,_,(r.drop (HT.dN xs.length 0 lo)).take (HT.dN xs.length xs.length hi - HT.dN xs.length 0 lo),IsTup.new _ _⟩
noncomputable def DU (K:Frag):R2:=fun x y H Q=> ∃ a b xs ys,x= .ref a∧y= .ref b∧fu K H a xs∧fu K H b ys∧xs≠[]∧xs.length+ys.length≤sizeLine∧
 (ys=[]→Q (.ref a) H)∧(ys≠[]→∀ p,H p=none→Q (.ref p) (upd H p (.tup (xs++ys))))
theorem Vals.mf (r:Vals xs us):us=[]↔xs=[]:=by
 cases r with
 |nil=>simp
 |cons _ _=>simp
theorem CN:fw X (binaryOp .Add) (DU X.K):=by
 intro pZ s σ H x y v u Q I rx ry h
 obtain⟨a,b,xs,ys,rfl,rfl,ha,hb,hx,hz,q1,q2⟩:=h
 cases rx
 cases ry
 obtain⟨aC,r1,p1,_⟩:=I.tuple ha
 obtain⟨m8,r2,p2,_⟩:=I.tuple hb
 refine HT.Dn p1 p2 (fun z=>hx (r1.mf.mp z)) (fun z=>⟨.ref a,H,I,rfl,q1 (r2.mf.mp z)⟩) (fun z=>?_) (by rw[←r1.length,←r2.length];exact hz)
 refine⟨.ref s.heap.objs.size,_,I.laid (t':=s.toks) (o:=.tup (xs++ys)) (fun b ob q=>Ky _ q) (KG _) ?_,rfl,q2 (fun w=>z (r2.mf.mpr w)) _ (I.bS.fresh (KG _))⟩
 exact⟨by rw[K4];exact hz,_,r1.append r2,IsTup.new _ _⟩
end
end L2
namespace L2
open PySem PySem.Spec PyProof.Rows
def qM (n:Nat) (i:Int):Option Nat:=if 0≤i then(if i < n then some i.toNat else none) else if -(n:Int)≤i then some (i+n).toNat else none
def ji {α:Type} (xs:List α) (i:Int):Option α:=(qM xs.length i).bind fun j=>xs[j]?
theorem vZ (h:qM n i=some j):seqIndex? i n=some j∧j < n∧-(n:Int)≤i∧i < n:=by
 unfold qM at h
 by_cases h0:0≤i
 ·rw[Lq h0] at h
  by_cases h1:i < n
  ·rw[Lq h1] at h
   have e:i.toNat=j:=Lv h
   exact⟨by rw[seqIndex_of h0 h1,e],by lia,by lia,h1⟩
  ·rw[Lr h1] at h;cases h
 ·rw[Lr h0] at h
  by_cases h1: -(n:Int)≤i
  ·rw[Lq h1] at h
   have e:(i+n).toNat=j:=Lv h
   exact⟨by rw[seqIndex_neg (by lia) h1,e],by lia,h1,by lia⟩
  ·rw[Lr h1] at h;cases h
theorem rn {α:Type} {xs:List α} {i:Int} {v:α} (h:ji xs i=some v): ∃ j,seqIndex? i xs.length=some j∧xs[j]?=some v∧j < xs.length∧-(xs.length:Int)≤i∧i < xs.length:=by
 unfold ji at h
 cases e:qM xs.length i with
 |none=>rw[e] at h;cases h
 |some j=>
  rw[e] at h
  obtain⟨h1,h2,h3,h4⟩:=vZ e
  exact⟨j,h1,h,h2,h3,h4⟩
theorem wI {α:Type} {xs:List α} {j:Nat} {v:α} (h:xs[j]?=some v):ji xs (j:Int)=some v:=by
 have hj:j < xs.length:=(KD.mp h).1
 have e:qM xs.length (j:Int)=some j:=by
  unfold qM
  rw[Lq (by lia),Lq (by lia)];simp
 unfold ji;rw[e];exact h
def wM (b:Expr):Prop:= ∀ o i,subscripted b false o i=operate [o,i] (getItem o i)
def BN (X:Cx) (r:R2):Prop:=
 ∀ (value slice:Expr) (pZ:List (Addr×Obj)) (s:Shared) (σ:St) (H:Hp) (x y:V) (v u:Value) (Q:VK),Inv X pZ σ H s→RelV x v→RelV y u→r x y H Q→
  subscripted slice false v u=operate [v,u] (getItem v u)→wpAny (model X.prog X.w) X.A (subscriptTail value slice v u) (EP X pZ σ Q) X.xe s
def JR (X:Cx) (id:String) (r:V→List V→Hp→VK→Prop):Prop:=
 ∀ (pZ:List (Addr×Obj)) (s:Shared) (σ:St) (H:Hp) (x:V) (xs:List V) (v:Value) (us:List Value) (Q:VK),Inv X pZ σ H s→RelV x v→Vals xs us→r x xs H Q→
  wpAny (model X.prog X.w) X.A (call (.builtin id) (v::us)) (EP X pZ σ Q) X.xe s
section
variable {X:Cx} {a b:Expr} {ta tb:TE} {pos:Pos}
theorem BN.or {r r':R2} (h:BN X r) (h':BN X r'):BN X (fun x y H Q=>r x y H Q∨r' x y H Q):=by
 intro value slice pZ s σ H x y v u Q I rx ry q hs
 rcases q with q|q
 ·exact h value slice pZ s σ H x y v u Q I rx ry q hs
 ·exact h' value slice pZ s σ H x y v u Q I rx ry q hs
theorem iO (hr:BN X r) (ha:PE X a ta) (hb:PE X b tb) (hs:wM b):PE X (.Subscript a b pos) (BZ r ta tb):=by
 intro pZ s σ H Q I h
 exact Subscript_ (FR ha hb I h fun v u s2 x y H2 I2 rx ry q=>hr a b pZ s2 σ H2 x y v u Q I2 rx ry q (hs _ _))
def G6 (K:Frag):R2:=fun x y H Q=> ∃ p xs i v,x= .ref p∧y= .int i∧cV K H p xs∧ji xs i=some v∧Q v H
def Cm (K:Frag):R2:=fun x y H Q=> ∃ p xs i v,x= .ref p∧y= .int i∧fu K H p xs∧ji xs i=some v∧Q v H
def G5:R2:=fun x y H Q=> ∃ z i c,x= .str z∧y= .int i∧z.length≤sizeLine∧ji z.cps.toList i=some c∧Q (.str ⟨#[c]⟩) H
theorem fW:BN X (G6 X.K):=by
 intro value slice pZ s σ H x y v u Q I rx ry h hs
 obtain⟨p,xs,i,z,rfl,rfl,hq,he,q⟩:=h
 cases rx
 obtain⟨t,rfl⟩:=ry
 obtain⟨aC,r,pl,hz⟩:=I.list hq
 obtain⟨j,h1,h2,h3,h4,h5⟩:=rn he
 obtain⟨w,ew,rw'⟩:=r.get h2
 have hl:=r.length
 have hn:=mX
 have fin:EP X pZ σ Q w s:=⟨z,H,I,rw',q⟩
 by_cases h0:0≤i
 ·have hj:i.toNat=j:=by
   rw[seqIndex_of h0 h5] at h1
   exact Lv h1
  exact item_listR pl.isList h0 (by lia) (by rw[hj];simpa using ew) fin hs
 ·have hj:(i+(aC.toArray.size:Int)).toNat=j:=by
   rw[seqIndex_neg (by lia) h4] at h1
   rw[KC,←hl]
   exact Lv h1
  exact subscriptTail_builtinR (x:=w) pl.isList.typeIs slot_list_getitem.lookup
   (wpAny_getItem_list_neg (Q:=fun r s'=>r=w∧EP X pZ σ Q r s') pl.isList (by lia) (by rw[KC]<;>lia) (by lia) (by rw[hj];simpa using ew) ⟨rfl,fin⟩) hs
theorem uQ:BN X (Cm X.K):=by
 intro value slice pZ s σ H x y v u Q I rx ry h hs
 obtain⟨p,xs,i,z,rfl,rfl,hq,he,q⟩:=h
 cases rx
 obtain⟨t,rfl⟩:=ry
 obtain⟨aC,r,pl,hz⟩:=I.tuple hq
 obtain⟨j,h1,h2,h3,h4,h5⟩:=rn he
 obtain⟨w,ew,rw'⟩:=r.get h2
 have hl:=r.length
 have hn:=mX
 have fin:EP X pZ σ Q w s:=⟨z,H,I,rw',q⟩
 exact subscriptTail_builtinR (x:=w) pl.typeIs slot_tuple_getitem.lookup
  (getItem_tuple (j:=j) (Q:=fun r s'=>r=w∧EP X pZ σ Q r s') pl (by lia) (by lia) (by rw[KC,←hl];exact h1) (by simpa using ew) ⟨rfl,fin⟩) hs
theorem Fy:BN X G5:=by
 intro value slice pZ s σ H x y v u Q I rx ry h hs
 obtain⟨z,i,c,rfl,rfl,hz,he,q⟩:=h
 obtain⟨t,rfl⟩:=rx
 obtain⟨t',rfl⟩:=ry
 obtain⟨j,h1,h2,h3,h4,h5⟩:=rn he
 have hl:z.cps.toList.length=z.length:=by simp[Str.length]
 rw[hl] at h1 h4 h5
 have hn:=mX
 exact tail_any (typeIs_str s z t) slot_str_getitem.lookup (getItem_str (c:=c) (by
  have e1:decide (i < -(2 ^ 63:Int))=false:=K3 (by lia)
  have e2:decide (i ≥ 2 ^ 63)=false:=K3 (by lia)
  rw[e1,e2,Bool.or_false]) (by rw[h1];simpa using h2) ⟨.str ⟨#[c]⟩,H,I.tok _,⟨_,rfl⟩,q⟩) hs
def JX (K:Frag):R2:=fun x y H Q=>G6 K x y H Q∨Cm K x y H Q∨G5 x y H Q
theorem aD:BN X (JX X.K):=fW.or (uQ.or Fy)
theorem uO (aC:List Value) (n j:Nat) (u:Value):Obj.mapSeq (·.setIfInBounds j u) {cls:=.type "list",data:=.seq aC.toArray n}={cls:=.type "list",data:=.seq (aC.set j u).toArray n}:=by
 simp[Obj.mapSeq]
theorem Inv.lst {pZ:List (Addr×Obj)} {σ:St} {H:Hp} {s:Shared} {p:Addr} {xs:List V} (I:Inv X pZ σ H s) (h:H p=some (.lst xs)):
  ∃ (aC:List Value) (n:Nat),Vals xs aC∧s.heap.get? p=some {cls:=.type "list",data:=.seq aC.toArray n}∧xs.length≤sizeLine:=by
 obtain⟨z,aC,n,r,e⟩:=I.bS p _ h
 exact⟨aC,n,r,e,z⟩
theorem Inv.Fp {aC bQ:List Value} {f:Obj→Obj} (I:Inv X pZ σ H s) (h:H p=some (.lst xs))
  (ho:s.heap.get? p=some {cls:=.type "list",data:=.seq aC.toArray n}) (hf:f {cls:=.type "list",data:=.seq aC.toArray n}={cls:=.type "list",data:=.seq bQ.toArray n'}) (r:Vals ys bQ) (hz:ys.length≤sizeLine) (t:Nat):
  Inv X pZ σ (upd H p (.lst ys)) {s with heap:=s.heap.update p f,toks:=t}:=by
 have e:(s.heap.update p f).get? p=some {cls:=.type "list",data:=.seq bQ.toArray n'}:=by
  rw[Heap.get?_update_self f ho (by rw[hf]<;>rfl),hf]
 refine I.write (x:=p) (e:=p) (by rw[h];trivial) (.inl rfl) (fun b u hb q=>(Heap.get?_update_other _ _ (Ne.symm hb)).trans q) ⟨_,e⟩ ?_
 exact⟨hz,bQ,n',r,e⟩
def DP:V→V→V→Hp→(Hp→Prop)→Prop:=fun o i v H Q=> ∃ p xs k j,o= .ref p∧i= .int k∧H p=some (.lst xs)∧qM xs.length k=some j∧Q (upd H p (.lst (xs.set j v)))
theorem set_list:Gb X DP:=by
 intro pZ s σ H o i v ov iv u Q I ro ri rv h
 obtain⟨p,xs,k,j,rfl,rfl,hp,hj,q⟩:=h
 cases ro
 obtain⟨t,rfl⟩:=ri
 obtain⟨aC,n,r,ho,hz⟩:=I.lst hp
 obtain⟨h1,h2,h3,h4⟩:=vZ hj
 have hl:=r.length
 have hn:=mX
 have I':Inv X pZ σ (upd H p (.lst (xs.set j v))) {s with heap:=s.heap.update p (Obj.mapSeq (·.setIfInBounds j u))}:=
  I.Fp hp ho (uO aC n j u) (r.set rv j) (by rw[List.length_set];exact hz) s.toks
 by_cases h0:0≤k
 ·have hk:k.toNat=j:=by
   rw[seqIndex_of h0 h4] at h1
   exact Lv h1
  exact PySem.W.ki_setAt ho h0 (by lia) (by rw[KC,←hl];exact h4) (by rw[hk];exact⟨_,I',q⟩)
 ·have hk:(k+(aC.toArray.size:Int)).toNat=j:=by
   rw[seqIndex_neg (by lia) h3] at h1
   rw[KC,←hl]
   exact Lv h1
  exact PySem.W.ki_setBack ho (by lia) (by rw[KC,←hl];exact h3) (by lia) (by rw[hk];exact⟨_,I',q⟩)
theorem qg (lo hi:Option Int) (n:Nat):(sliceBounds lo hi none n).1=((HT.dN n 0 lo:Nat):Int)∧(sliceBounds lo hi none n).2.1=((HT.dN n n hi:Nat):Int)∧(sliceBounds lo hi none n).2.2=1:=by
 refine⟨?_,?_,rfl⟩
 ·cases lo with
  |none=>simp[sliceBounds,HT.dN]
  |some i=>
   simp only[sliceBounds,HT.dN,Option.getD_none,show (1:Int) > 0 by decide,if_true]
   by_cases h:i < 0
   ·simp only[h,if_true]<;>lia
   ·simp only[h,if_false]<;>lia
 ·cases hi with
  |none=>simp[sliceBounds,HT.dN]
  |some i=>
   simp only[sliceBounds,HT.dN,Option.getD_none,show (1:Int) > 0 by decide,if_true]
   by_cases h:i < 0
   ·simp only[h,if_true]<;>lia
   ·simp only[h,if_false]<;>lia
theorem oo (aC:List Value) (lo hi:Option Int):slicePick aC.toArray lo hi none=((aC.drop (HT.dN aC.length 0 lo)).take (HT.dN aC.length aC.length hi - HT.dN aC.length 0 lo)).toArray:=by
 obtain⟨h1,h2,h3⟩:=qg lo hi aC.toArray.size
 unfold slicePick
 rw[h1,h2,h3]
 simp only[sliceRange_one,pick_run,KC]<;>rfl
def G0 (K:Frag):V→Option Int→Option Int→Hp→VK→Prop:=fun x lo hi H Q=> ∃ a xs,x= .ref a∧cV K H a xs∧∀ p,H p=none→Q (.ref p) (upd H p (.lst (kj xs lo hi)))
theorem lR:yo X (G0 X.K):=by
 intro pZ s σ H x v vl vu lo hi sl Q I rx hs pl pu h
 obtain⟨a,xs,rfl,hx,q⟩:=h
 cases rx
 obtain⟨aC,r,ht,hz⟩:=I.list hx
 have hlen:=r.length
 refine⟨"list",_,slot_list_getitem.lookup,ht.isList.typeIs,?_⟩
 refine wpAny_getItem_list_slice ht.isList hs pl pu .none (by simp) ?_ (by rw[KC]<;>lia)
 rw[oo,←hlen]
 refine⟨.ref s.heap.objs.size,_,I.laid (t':=s.toks) (o:=.lst (kj xs lo hi)) (fun b ob q=>Ky _ q) (KG _) ?_,rfl,q _ (I.bS.fresh (KG _))⟩
 exact⟨KZ (lI xs lo hi) hz,_,0,(r.drop (HT.dN xs.length 0 lo)).take (HT.dN xs.length xs.length hi - HT.dN xs.length 0 lo),KP _ rfl⟩
def eU:V→Bool
 | .aU=>true
 | .bl _=>true
 | .int _=>true
 | .str _=>true
 |_=>false
noncomputable def t6:V→V→Bool
 | .aU,.aU=>true
 | .bl a,.bl b=>a==b
 | .bl a,.int b=>(if a then 1 else 0)==b
 | .int a,.bl b=>a==(if b then 1 else 0)
 | .int a,.int b=>a==b
 | .str a,.str b=>a==b
 |_,_=>false
theorem A1 (ry:RelV y u) (rx:RelV x v) (fy:eU y=true) (fx:eU x=true):SeqAt.EqAt A s u v (t6 y x):=by
 cases y with
 |aU=>
  cases ry
  cases x with
  |aU=>cases rx;exact SeqAt.EqAt.same _
  |bl b=>cases rx;exact SeqAt.EqAt.none_bool b
  |int b=>obtain⟨t,rfl⟩:=rx;exact SeqAt.EqAt.none_int b t
  |str b=>obtain⟨t,rfl⟩:=rx;exact SeqAt.EqAt.none_str b t
  |_=>exact absurd (show false=true from fx) Bool.false_ne_true
 |bl a=>
  cases ry
  cases x with
  |aU=>cases rx;exact SeqAt.EqAt.bool_none a
  |bl b=>cases rx;exact SeqAt.EqAt.bool_bool a b
  |int b=>obtain⟨t,rfl⟩:=rx;exact SeqAt.EqAt.bool_int a b t
  |str b=>obtain⟨t,rfl⟩:=rx;exact SeqAt.EqAt.bool_str a b t
  |_=>exact absurd (show false=true from fx) Bool.false_ne_true
 |int a=>
  obtain⟨t',rfl⟩:=ry
  cases x with
  |aU=>cases rx;exact SeqAt.EqAt.int_none a t'
  |bl b=>cases rx;exact SeqAt.EqAt.int_bool a t' b
  |int b=>obtain⟨t,rfl⟩:=rx;exact SeqAt.EqAt.int_int a t' b t
  |str b=>obtain⟨t,rfl⟩:=rx;exact SeqAt.EqAt.int_str a t' b t
  |_=>exact absurd (show false=true from fx) Bool.false_ne_true
 |str a=>
  obtain⟨t',rfl⟩:=ry
  cases x with
  |aU=>cases rx;exact SeqAt.EqAt.str_none a t'
  |bl b=>cases rx;exact SeqAt.EqAt.str_bool a t' b
  |int b=>obtain⟨t,rfl⟩:=rx;exact SeqAt.EqAt.str_int a t' b t
  |str b=>obtain⟨t,rfl⟩:=rx;exact SeqAt.EqAt.str_str a t' b t
  |_=>exact absurd (show false=true from fx) Bool.false_ne_true
 |_=>exact absurd (show false=true from fy) Bool.false_ne_true
def uT (x:V) (u:Value):Bool:=match u with
 | .none=>t6 .aU x
 | .bool b=>t6 (.bl b) x
 | .int i _=>t6 (.int i) x
 | .str z _=>t6 (.str z) x
 |_=>false
theorem A0 (r:RelV y u) (f:eU y=true):uT x u=t6 y x:=by
 cases y with
 |aU=>cases r;rfl
 |bl b=>cases r;rfl
 |int i=>obtain⟨t,rfl⟩:=r;rfl
 |str z=>obtain⟨t,rfl⟩:=r;rfl
 |_=>exact absurd (show false=true from f) Bool.false_ne_true
theorem km: ∀ {xs:List V} {us:List Value},Vals xs us→xs.all eU=true→us.any (uT x)=xs.any fun y=>t6 y x
 |_,_,.nil,_=>rfl
 |y::xs,u::us,.cons r t,f=>by
  rw[List.all_cons,Lf] at f
  rw[List.any_cons,List.any_cons,A0 r f.1,km t f.2]
theorem iP (rx:RelV x v) (fx:eU x=true): ∀ {xs:List V} {us:List Value},Vals xs us→xs.all eU=true→∀ u∈us,SeqAt.EqAt A s u v (uT x u)
 |_,_,.nil,_=>fun u hu=>by cases hu
 |y::xs,u::us,.cons r t,f=>fun u' hu=>by
  rw[List.all_cons,Lf] at f
  rcases KJ.mp hu with rfl|hu
  ·rw[A0 r f.1];exact A1 r rx f.1 fx
  ·exact iP rx fx t f.2 u' hu
def ID (x:V) (xs:List V):Bool:=xs.any fun y=>t6 y x
def Jk (K:Frag) (neg:Bool):R2:=fun x y H Q=> ∃ p xs,y= .ref p∧(cV K H p xs∨fu K H p xs)∧eU x=true∧xs.all eU=true∧Q (.bl (if neg then !ID x xs else ID x xs)) H
theorem xw:fw X (compareOp .In) (Jk X.K false):=by
 intro pZ s σ H x y v u Q I rx ry h
 obtain⟨p,xs,rfl,hq,fx,fs,q⟩:=h
 cases ry
 rcases hq with hq|hq
 ·obtain⟨aC,r,pl,hz⟩:=I.list hq
  refine SeqAt.in_listAt (uT x) pl.isList (fun w hw=>iP rx fx r fs w (by simpa using hw)) ⟨.bl _,H,I,rfl,?_⟩
  rw[show aC.toArray.any (uT x)=aC.any (uT x) by simp,km r fs]
  exact q
 ·obtain⟨aC,r,pl,hz⟩:=I.tuple hq
  refine SeqAt.in_tupleAt (uT x) pl (fun w hw=>iP rx fx r fs w (by simpa using hw)) ⟨.bl _,H,I,rfl,?_⟩
  rw[show aC.toArray.any (uT x)=aC.any (uT x) by simp,km r fs]
  exact q
theorem qz:fw X (compareOp .NotIn) (Jk X.K true):=by
 intro pZ s σ H x y v u Q I rx ry h
 obtain⟨p,xs,rfl,hq,fx,fs,q⟩:=h
 cases ry
 rcases hq with hq|hq
 ·obtain⟨aC,r,pl,hz⟩:=I.list hq
  refine SeqAt.notIn_listAt (uT x) pl.isList (fun w hw=>iP rx fx r fs w (by simpa using hw)) ⟨.bl _,H,I,rfl,?_⟩
  rw[show aC.toArray.any (uT x)=aC.any (uT x) by simp,km r fs]
  exact q
 ·obtain⟨aC,r,pl,hz⟩:=I.tuple hq
  refine SeqAt.notIn_tupleAt (uT x) pl (fun w hw=>iP rx fx r fs w (by simpa using hw)) ⟨.bl _,H,I,rfl,?_⟩
  rw[show aC.toArray.any (uT x)=aC.any (uT x) by simp,km r fs]
  exact q
theorem qy:fw X (compareOp .NotIn) (fun x y H Q=> ∃ i j,x= .str i∧y= .str j∧Q (.bl (!(!(Builtin.Str.occurrences j i 0 j.length 1).isEmpty))) H):=by
 intro pZ s σ H x y v u Q I rx ry h
 obtain⟨i,j,rfl,rfl,q⟩:=h
 obtain⟨t,rfl⟩:=rx
 obtain⟨t',rfl⟩:=ry
 exact notIn_str ⟨.bl _,H,I,rfl,q⟩
theorem eE:gm X (.type "tuple") (fun xs H Q=> ∃ p ys,xs=[.ref p]∧((cV X.K H p ys∧∀ l,H l=none→Q (.ref l) (upd H l (.tup ys)))∨(fu X.K H p ys∧Q (.ref p) H))):=by
 intro pZ s σ H xs us Q I r h
 obtain⟨p,ys,rfl,h⟩:=h
 obtain⟨u,rfl,rx⟩:=vals1 r
 cases rx
 rcases h with⟨hq,q⟩|⟨hq,q⟩
 ·obtain⟨aC,r',pl,hz⟩:=I.list hq
  have hlen:=r'.length
  refine call_tuple_list pl.isList (fun h' kp=>?_) (by simp only[KC]<;>lia)
  have I1:Inv X pZ σ H {s with heap:=h'}:=I.kept (t':=s.toks) kp
  have I2:Inv X pZ σ (upd H h'.objs.size (.tup ys)) {s with heap:=h'.push {cls:=.type "tuple",data:=.seq aC.toArray}}:=
   I1.laid (t':=s.toks) (fun b o e=>Ky _ e) (KG _) (show dn X.prog X.w _ _ _ (.tup ys) from⟨hz,aC,r',IsTup.new _ _⟩)
  exact⟨.ref h'.objs.size,_,I2,rfl,q _ (I1.bS.fresh (KG _))⟩
 ·obtain⟨aC,r',pl,hz⟩:=I.tuple hq
  exact call_tuple_same pl ⟨.ref p,H,I,rfl,q⟩
def IU (K:Frag) (T:String) (x:V) (H:Hp):Prop:=match x with
 | .str _=>T="str"
 | .int _=>T="int"
 | .ref p=>(T="list"∧∃ xs,cV K H p xs)∨(T="tuple"∧∃ o,K.lookup p=some o∧o.cls= .type "tuple"∧o.dict=none)∨
   (T="dict"∧((∃ kvs,Rd H p (.dK kvs))∨∃ kvs,H p=some (.dT kvs)))∨(T="set"∧∃ S n,H p=some (.set S n))
 |_=>False
theorem En (I:Inv X pZ σ H s) (r:RelV x v) (ty:IU X.K T x H):
  s.TypeIs v T∧∀ a,v= .ref a→∃ ob,s.heap.get? a=some ob∧ob.dict=none:=by
 cases x with
 |str z=>
  obtain⟨t,rfl⟩:=r
  cases (show T="str" from ty)
  exact⟨typeIs_str s z t,fun _ e=>nomatch e⟩
 |int i=>
  obtain⟨t,rfl⟩:=r
  cases (show T="int" from ty)
  exact⟨typeIs_int s i t,fun _ e=>nomatch e⟩
 |ref p=>
  cases r
  rcases ty with⟨rfl,xs,hq⟩|⟨rfl,o,hk,hc,hd⟩|⟨rfl,hk⟩|⟨rfl,S,n,hk⟩
  ·obtain⟨aC,_,pl,_⟩:=I.list hq
   refine⟨pl.isList.typeIs,fun a e=>?_⟩
   cases e
   obtain⟨o,n,e,c,hd,_⟩:=pl
   exact⟨o,e,hd⟩
  ·refine⟨⟨o,I.Gs p o hk,hc⟩,fun a e=>?_⟩
   cases e
   exact⟨o,I.Gs _ o hk,hd⟩
  ·have z: ∃ o,s.heap.get? p=some o∧o.ExactDict:=by
    rcases hk with⟨kvs,hk⟩|⟨kvs,hk⟩
    ·obtain⟨_,_,_,_,o,_,_,e,ex,_⟩:=hk.ok I.bS
     exact⟨o,e,ex⟩
    ·obtain⟨_,_,_,_,o,_,_,e,ex,_⟩:=I.bS p _ hk
     exact⟨o,e,ex⟩
   obtain⟨o,e,ex⟩:=z
   refine⟨⟨o,e,ex.1⟩,fun a e2=>?_⟩
   cases e2
   exact⟨o,e,ex.2.1⟩
  ·obtain⟨o,_,_,_,e,ex,_⟩:=I.bS p _ hk
   refine⟨⟨o,e,ex.1⟩,fun a e2=>?_⟩
   cases e2
   exact⟨o,e,ex.2.1⟩
 |_=>exact False.elim ty
def Gm (K:Frag) (T:String) (r:V→List V→Hp→VK→Prop) (to:TE) (t:TA):TE:=fun σ H Q=>to σ H fun x H1=>IU K T x H1∧t σ H1 fun xs H2=>r x xs H2 Q
variable {o e:Expr} {es:List Expr} {to:TE} {t:TA} {name:Str} {apos lg:Pos} {T id:String} {r:V→List V→Hp→VK→Prop}
theorem Hd (pa:PlainAttrs T) (slot:Slot T name id) (hty:typeOf (.builtin id)=pure (.type "method_descriptor")) (hm:JR X id r) (ho:PE X o to) (ha:PA X (e::es) t)
  (hbase:attributeBase o name X.env (eval o X.env)=eval o X.env:=by rfl)
  (hfew:((backTo lg (starEach (e::es) X.env)).all (fun x=>!x.1)&&(backToKw lg (keywordEach [] X.env)).all (fun x=>x.1.isSome)
   &&decide ((e::es).length+([]:List Keyword).length+(if([]:List Keyword).isEmpty then 0 else 1) < 30))=true:=by rfl)
  (hline:(apos.endLine==lg.line)=true:=by rfl) (hs:starEach (e::es) X.env=(false,eval e X.env)::starEach es X.env:=by rfl) (hplain:(backTo lg (starEach es X.env)).any (·.1)=false:=by rfl):
  PE X (.Call (.Attribute o name apos) (e::es) [] lg) (Gm X.K T r to t):=by
 intro pZ s σ H Q I h
 refine wpAny_Call_method_late hbase hfew hline rfl (cn (ho pZ s σ H _ I h) fun v s1 ⟨x,H1,I1,r1,ty,q1⟩=>?_)
 obtain⟨h1,h2⟩:=En I1 r1 ty
 refine⟨T,id,pa,slot,hty,h1,h2,?_⟩
 have hA:=ha lg pZ s1 σ H1 _ I1 q1
 rw[hs] at hA ⊢
 refine Calls.callWith_builtin (by show (false||(backTo lg (starEach es X.env)).any (·.1))=false;rw[hplain]<;>rfl) (Calls.evalArgs_plain ?_)
 exact cn hA fun us s2 ⟨vs,H2,I2,r2,q2⟩=>hm pZ s2 σ H2 x vs v us Q I2 r1 r2 q2
end
end L2
namespace L2
open PySem PySem.Spec PyProof.Rows
def Gx (X:Cx) (id:String) (r:V→List V→Hp→VK→Prop):Prop:=
 ∀ (pZ:List (Addr×Obj)) (s:Shared) (σ:St) (H:Hp) (x:V) (xs:List V) (v:Value) (us:List Value) (Q:VK),Inv X pZ σ H s→RelV x v→Vals xs us→r x xs H Q→
  wpAny (model X.prog X.w) X.A (call (.builtin id) (v::us)) (EP X pZ σ Q) X.xe s
theorem Vals.one: ∀ {x:V} {us:List Value},Vals [x] us→∃ u,us=[u]∧RelV x u
 |_,_,.cons r .nil=>⟨_,rfl,r⟩
theorem Vals.two: ∀ {x y:V} {us:List Value},Vals [x,y] us→∃ u v,us=[u,v]∧RelV x u∧RelV y v
 |_,_,_,.cons r (.cons q .nil)=>⟨_,_,rfl,r,q⟩
theorem Vals.rep (h:Vals xs us): ∀ k:Nat,Vals (List.replicate k xs).flatten (List.replicate k us).flatten
 |0=>.nil
 |k+1=>by
  rw[List.replicate_succ,List.replicate_succ,List.flatten_cons,List.flatten_cons]
  exact Vals.append h (Vals.rep h k)
theorem foldl_rep (aC:List Value): ∀ (k:Nat) (acc:List Value),
  List.foldl (fun x1 x2=>x1++x2) acc.toArray (List.replicate k aC.toArray)=(acc++(List.replicate k aC).flatten).toArray
 |0,acc=>by simp
 |k+1,acc=>by
  have e:acc.toArray++aC.toArray=(acc++aC).toArray:=by simp
  have e2:(acc++aC)++(List.replicate k aC).flatten=acc++(List.replicate (k+1) aC).flatten:=by
   rw[List.replicate_succ,List.flatten_cons,List.append_assoc]
  rw[←e2,←foldl_rep aC k (acc++aC),←e,List.replicate_succ,List.foldl_cons]
section
variable {X:Cx} {pZ:List (Addr×Obj)} {σ:St} {H:Hp} {s:Shared} {l b:Addr} {xs ys zs:List V}
theorem Inv.Ak {aC bQ:List Value} {f:Array Value→Array Value} {t':Nat} (I:Inv X pZ σ H s) (hH:H l=some (.lst xs))
  (e:s.heap.get? l=some {cls:=.type "list",data:=.seq aC.toArray n}) (hf:f aC.toArray=bQ.toArray) (hv:Vals ys bQ) (hz:ys.length≤sizeLine):
  Inv X pZ σ (upd H l (.lst ys)) {s with heap:=s.heap.update l (Obj.mapSeq f),toks:=t'}:=by
 have q:=PySem.IsL.update e f
 rw[hf] at q
 refine I.write (x:=l) (e:=l) (by rw[hH];exact trivial) (.inl rfl) (fun b' u hb hu=>(Heap.get?_update_other s.heap (Obj.mapSeq f) (Ne.symm hb)).trans hu) ⟨_,q⟩ ?_
 exact⟨hz,bQ,_,hv,q⟩
theorem Inv.C4 {t':Nat} (I:Inv X pZ σ H s) (hv:Vals ys aC) (hz:ys.length≤sizeLine):
  Inv X pZ σ (upd H s.heap.objs.size (.lst ys)) {s with heap:=s.heap.push {cls:=.type "list",data:=.seq aC.toArray},toks:=t'}:=
 I.laid (fun _ _ q=>Ky _ q) (KG _) ⟨hz,aC,0,hv,KP _ rfl⟩
theorem Inv.fresh (I:Inv X pZ σ H s):H s.heap.objs.size=none:=I.bS.fresh (KG _)
theorem Inv.oG (I:Inv X pZ σ H s) (hH:H l=some (.lst xs)):xs.length≤sizeLine∧∃ (aC:List Value) (n:Nat),Vals xs aC∧xs.length=aC.length∧s.heap.get? l=some {cls:=.type "list",data:=.seq aC.toArray n}:=by
 obtain⟨z,aC,n,r,e⟩:=I.bS l _ hH
 exact⟨z,aC,n,r,r.length,e⟩
theorem sv (h:n≤sizeLine):Builtin.List.listTooLong n=false:=by
 unfold Builtin.List.listTooLong
 exact K3 (by lia)
end
section
variable {X:Cx}
def vH:V→List V→Hp→VK→Prop:=fun x vs H Q=> ∃ l xs y,x= .ref l∧vs=[y]∧H l=some (.lst xs)∧xs.length < sizeLine∧Q .aU (upd H l (.lst (xs++[y])))
theorem cW:Gx X "list.append" vH:=by
 intro pZ s σ H x vs v us Q I rx rv h
 obtain⟨l,xs,y,rfl,rfl,hH,hz,q⟩:=h
 cases rx
 obtain⟨u,rfl,ru⟩:=rv.one
 obtain⟨z,aC,n,r,hl,e⟩:=I.oG hH
 refine call_meets F.slot_list_append ⟨_,e,rfl⟩ F.entry_list_append (F.args_list_append_2 _ _) (PySem.list_append l aC.toArray n u (by rw[KC];lia)) ⟨e,?_⟩
 refine⟨.aU,_,I.Ak (bQ:=aC++[u]) hH e (by simp) (r.append (.cons ru .nil)) ?_,rfl,q⟩
 rw[K4,List.length_singleton]
 lia
noncomputable def vG:V→List V→Hp→VK→Prop:=fun x vs H Q=> ∃ l b xs zs,x= .ref l∧vs=[.ref b]∧H l=some (.lst xs)∧H b=some (.lst zs)∧xs.length+zs.length≤sizeLine∧Q .aU (upd H l (.lst (xs++zs)))
theorem xC:Gx X "list.extend" vG:=by
 intro pZ s σ H x vs v us Q I rx rv h
 obtain⟨l,b,xs,zs,rfl,rfl,hH,hB,hz,q⟩:=h
 cases rx
 obtain⟨u,rfl,ru⟩:=rv.one
 cases ru
 obtain⟨z,aC,n,r,hl,e⟩:=I.oG hH
 obtain⟨z2,m8,n2,r2,hl2,e2⟩:=I.oG hB
 have hsz:aC.toArray.size+m8.toArray.size≤sizeLine:=by rw[KC,KC];lia
 have hlong: ¬ (!aC.toArray.isEmpty&&Builtin.List.listTooLong (aC.toArray.size+m8.toArray.size))=true:=by
  rw[sv hsz,Bool.and_false]
  exact Bool.false_ne_true
 refine call_meets F.slot_list_extend ⟨_,e,rfl⟩ F.entry_list_extend (F.args_list_extend_2 _ _)
  (AutoSeq1.list_extend_list_list_0 l aC.toArray n b m8.toArray n2 hlong (by rw[KC];lia) (by lia)) ⟨e,e2,?_⟩
 refine⟨.aU,_,I.Ak (bQ:=aC++m8) hH e (by simp) (r.append r2) ?_,rfl,q⟩
 rw[K4]
 lia
def ER:R2:=fun x y H Q=> ∃ l b xs zs,x= .ref l∧y= .ref b∧H l=some (.lst xs)∧H b=some (.lst zs)∧xs.length+zs.length≤sizeLine∧∀ p,H p=none→Q (.ref p) (upd H p (.lst (xs++zs)))
theorem zZ:fw X (binaryOp .Add) ER:=by
 intro pZ s σ H x y v u Q I rx ry h
 obtain⟨l,b,xs,zs,rfl,rfl,hH,hB,hz,q⟩:=h
 cases rx
 cases ry
 obtain⟨z,aC,n,r,hl,e⟩:=I.oG hH
 obtain⟨z2,m8,n2,r2,hl2,e2⟩:=I.oG hB
 refine PySem.P.add_list e e2 ?_ (by rw[KC,KC];lia)
 have ea:aC.toArray++m8.toArray=(aC++m8).toArray:=by simp
 rw[ea]
 exact⟨.ref _,_,I.C4 (t':=s.toks) (r.append r2) (by rw[K4];lia),rfl,q _ I.fresh⟩
noncomputable def G3:R2:=fun x y H Q=> ∃ l k xs,x= .ref l∧y= .int k∧H l=some (.lst xs)∧-(2 ^ 63)≤k∧k < 2 ^ 63∧xs.length * k.toNat≤sizeLine∧
 ∀ p,H p=none→Q (.ref p) (upd H p (.lst (List.replicate k.toNat xs).flatten))
theorem len_rep (xs:List α) (k:Nat):(List.replicate k xs).flatten.length=k * xs.length:=by
 induction k with
 |zero=>simp
 |succ k ih=>rw[List.replicate_succ,List.flatten_cons,K4,ih,Nat.succ_mul,Nat.add_comm]
theorem Fd:fw X (binaryOp .Mult) G3:=by
 intro pZ s σ H x y v u Q I rx ry h
 obtain⟨l,k,xs,rfl,rfl,hH,h1,h2,hz,q⟩:=h
 cases rx
 obtain⟨t,rfl⟩:=ry
 obtain⟨z,aC,n,r,hl,e⟩:=I.oG hH
 have hlen:aC.toArray.size * k.toNat≤sizeLine:=by rw[KC,←hl];exact hz
 have hcap: ¬ aC.toArray.size * k.toNat > (2 ^ 63 - 1) / 8:=by
  have:(sizeLine:Nat)≤(2 ^ 63 - 1) / 8:=by decide
  lia
 have hfit: ¬ (!Builtin.List.listFitsIndex k)=true:=by
  rw[fitsIndex_both h1 h2]
  exact Bool.false_ne_true
 have hlong: ¬ Builtin.List.listTooLong (aC.toArray.size * k.toNat)=true:=by
  rw[sv hlen]
  exact Bool.false_ne_true
 have hnew:List.foldl (fun x1 x2=>x1++x2) #[] (List.replicate (if aC.toArray.isEmpty=true then 0 else k.toNat) aC.toArray)=(List.replicate k.toNat aC).flatten.toArray:=by
  have f0: ∀ m:Nat,List.foldl (fun x1 x2=>x1++x2) #[] (List.replicate m aC.toArray)=(List.replicate m aC).flatten.toArray:=fun m=>by
   have:=foldl_rep aC m []
   rw[List.nil_append] at this
   exact this
  rw[f0]
  cases aC with
  |nil=>simp
  |cons a r'=>rw[Lr (by simp)]
 refine wpAny_binaryOp_repeat_ref (T:="list") (U:="int") (by decide) ⟨_,e,rfl⟩ (fun s'=>typeIs_int s' k t) noFill_list_mul F.fills_int_mul F.slot_int_rmul repeat_list F.slot_int_index.lookup
  (call_meets F.slot_int_rmul (typeIs_int s k t) F.entry_int_rmul (F.args_int_rmul_2 _ _) (int___rmul___int_list k t l aC.toArray n)
   ⟨e,rfl,⟨_,e,rfl⟩,call_meets F.slot_list_mul ⟨_,e,rfl⟩ F.entry_list_mul (F.args_list_mul_2 _ _) (AutoListH.list___mul___list_int_3 l aC.toArray n k t hfit hcap hlong) ⟨e,?_⟩⟩)
 rw[hnew]
 exact⟨.ref _,_,I.C4 (t':=s.toks) (r.rep k.toNat) (by rw[len_rep,Nat.mul_comm];exact hz),rfl,q _ I.fresh⟩
end
end L2
namespace Att
open PySem PySem.W PySem.Calls PyProof.Rows
theorem lO: ∀ (ns:List Int) (vs:List Value),WellAll P h vs (ns.map WData.int)→IntsAre vs ns:=by
 intro ns
 induction ns with
 |nil=>
  intro vs w
  rw[List.map_nil] at w
  cases w
  exact .nil
 |cons n ns ih=>
  intro vs w
  rw[KI] at w
  cases w with
  |cons a b=>
   cases a
   exact .cons _ _ (ih _ b)
theorem xg {l:OpenLaw} (hn:l.most=some n)
  (hpre:l.row.toRowW.claim.pre args=true) (hwl:WellAll P h vals args):
  ∃ a vs ns,vals=[Value.ref a]∧args=[WData.list (ns.map WData.int)]∧h.get? a=some {cls:=.type "list",data:=.seq vs.toArray}∧IntsAre vs ns∧ns.length≤n:=by
 have hsh:WShape.hasAll [] args [.list .int]=true:=(pre_splitW hpre).1
 have hc:l.pre.holds [] {args:=args}=true:=(pre_splitW hpre).2
 obtain⟨d,r,rfl,h1,h2⟩:=hasAllW_cons hsh
 obtain rfl:=hasAllW_nil h2
 obtain⟨xs,rfl,h3⟩:=hasW_list h1
 obtain⟨ns,rfl⟩:=items_int h3
 have hlen:ns.length≤n:=by
  unfold OpenLaw.pre at hc
  have h4:(WTm.not (.lt (.lit (.int (n:Int))) (.len (.arg 0)))).holds [] {args:=[.list (ns.map .int)]}=true:=by
   have h4:=(holds_andW hc).1
   rw[hn] at h4
   exact h4
  have h5:=condW_of h4 (w_not (w_lt w_lit (w_len_list (w_arg rfl))))
  rw[Kx] at h5
  refine Nat.le_of_not_lt fun q=>?_
  have q':(n:Int) < ((ns.length:Nat):Int):=by lia
  first
   |(rw[decide_eq_true q'] at h5;exact absurd h5 (by decide))
   |(simp at h5;lia)
 cases hwl with
 |cons w1 w2=>
  cases w2
  cases w1 with
  |list ho hall=>exact⟨_,_,ns,rfl,rfl,ho,lO ns _ hall,hlen⟩
theorem xj (l:OpenLaw) (args:List WData):l.row.toRowW.claim.post args (.bool true) args=true:=
 postW_of (r:=l.row.toRowW) (X:=(true==true))
  (show WShape.has [] (.bool true) .bool=true by first|rfl|decide|simp[WShape.has,WShape.arms,WShape.armsAll])
  (show (WTm.eq .res (.lit (.bool true))).value [] {args:=args,res:=some (.bool true),after:=args}=some (.bool (true==true)) from w_eq_bool (w_res rfl) w_lit) rfl
theorem tO {l:OpenLaw} {YP:World→Heap→Prop} {d:DefRec}
  (hn:l.most=some n) (hdf:d.params.defaults=[])
  (call: ∀ (w:World) (s₀ s₁:Shared) (mg mb:Str→Option Value) (fa:Addr) (o:Obj) (pm cd doc:Value) (a:Addr) (vs:List Value) (ns:List Int),
   Ground q loose [] XP w s₀ mg mb s₁.heap→YP w s₁.heap→
   s₁.heap.get? fa=some o→o.data= .func (docDef d.name d.params d.body d.scope pm cd doc)→s₁.heap.CodeRec cd d.name→mg d.name=some (.ref fa)→
   s₁.heap.get? a=some {cls:=.type "list",data:=.seq vs.toArray}→IntsAre vs ns→ns.length≤n→s₁.gens= #[]→
   codeAny (model l.prog w) callerA (.call (.ref fa) ⟨[.ref a],[]⟩) (fun r s'=>r= .ok (.ret (.bool true))∧OldK s₁.heap s'.heap∧s'.os=s₁.os∧AllBare s'.gens) s₁):
  WalkO q loose XP YP l.row.toRowW d [] (fun f vs=>PySem.call f vs):=by
 intro w s₀ s₁ mg mb G Y fa o pm cd doc dV kV ho hd hcd hD hmg hg args vals as hpre hlay hrd hwl hlo
 obtain rfl:dV= .none:=Dflts.none hD hdf
 obtain rfl:kV= .none:=Dflts.noKw hD
 obtain⟨a,vs,ns,rfl,rfl,hobj,hints,hlen⟩:=xg hn hpre hwl
 refine enter_call (codeAny_mono (call w s₀ s₁ mg mb fa o pm cd doc a vs ns G Y ho (fd_plain hd) hcd hmg hobj hints hlen hg) fun r s' hq=>?_)
 obtain⟨rfl,h2,h3,h4⟩:=hq
 exact⟨.inl ⟨.bool true,.bool true,[],rfl,fun _=>rfl,.bool true,xj l _,fun _=>⟨List.Pairwise.nil,fun _ hm=>(nomatch hm)⟩⟩,h2,h3,h4⟩
end Att
namespace L2
open PySem PySem.Spec PyProof.Rows
theorem i7: ∀ {vs:List Value} {ns:List Int},IntsAre vs ns→Vals (ns.map V.int) vs
 |_,_,.nil=>.nil
 |_,_,.cons n t h=>.cons ⟨t,rfl⟩ (i7 h)
end L2
namespace L2
open PySem PySem.Spec PyProof.Rows
end L2
namespace L2
open PySem PySem.Spec PyProof.Rows
noncomputable def bp (s:Stmt):Arguments:=match s with
 | .FunctionDef _ a _ _ _ _ _ _ _ _=>a
 |_=>{posonlyargs:=[],args:=[],vararg:=none,kwonlyargs:=[],kw_defaults:=[],kwarg:=none,defaults:=[]}
def av (s:Stmt):List Stmt:=match s with
 | .FunctionDef _ _ b _ _ _ _ _ _ _=>b
 |_=>[]
def ah (s:Stmt):Scope:=match s with
 | .FunctionDef _ _ _ _ _ _ sc _ _ _=>sc
 |_=>{kind:=.function,names:=[],isGenerator:=false,isCoroutine:=false}
abbrev ed:BB:=fun _ _ _ _ _ _=>False
abbrev E0:XK:=fun _ _ _=>False
theorem bM:Passes ed X E0:=fun _ _ _ _ _ _ _ h=>h.elim
structure kr (K:Frag) (x qual:Str) (st:Stmt) (f:Addr) (fd:FuncData):Prop where
 ex: ∃ (oc:Value) (od:Option Addr) (kV doc pm:Value) (an:Option Addr) (fL ct:Value) (osl:Array (Option Value)),
  fd=fnOf x qual (bp st) (av st) (ah st) .none kV doc pm an fL ct∧K.lookup f=some ⟨oc,od,.func fd,osl⟩∧codeIn K fL qual=true
 kp:keepIn K (.ref f)=true
section
variable {P:Program} {w:World} {K:Frag} {mg:Str→Option Value} {base:Heap}
theorem kr.ok {x qual:Str} {st:Stmt} {f:Addr} {fd:FuncData} {N ps:List Str} {k:Nat} {sp:Sp} (F:kr K x qual st f fd) (S:aX N ps (ah st)) (len: ∀ vs H Q E,sp vs H Q E→vs.length=ps.length)
  (iR: ∀ (fL:Value) (A:Around) (outer:List Env) (s:Shared) (H:Hp) (vs:List V) (Q:VK) (E:XK),eN k (A.deeper (envOfC qual (ah st) s.heap.objs.size f fL))→sp vs H Q E→
   ∃ t,ua (jr ed P w K mg base N qual (ah st) f fL A outer s H E).tZ (av st) t∧t {nx:=fun _ H'=>Q .aU H',rt:=Q} (start N vs) H):bD P w K mg base ed (k+1) f fd ps sp:=by
 obtain⟨oc,od,kV,doc,pm,an,fL,ct,osl,rfl,lk,hcd⟩:=F.ex
 refine D9 lk hcd S len fun A outer s H vs Q E hr hsp=>?_
 obtain⟨t,h,q⟩:=iR fL A outer s H vs Q E hr hsp
 exact⟨t,h.tZ,q⟩
theorem kr.binds {x qual:Str} {st:Stmt} {f:Addr} {fd:FuncData} {ps:List Str} (F:kr K x qual st f fd)
  (h: ∀ (kV doc pm:Value) (an:Option Addr) (fL ct:Value) (us:List Value),us.length=ps.length→bindArgs (fnOf x qual (bp st) (av st) (ah st) .none kV doc pm an fL ct) ⟨us,[]⟩=pure (ps.zip us)):Binds K fd ps []:=by
 obtain⟨oc,od,kV,doc,pm,an,fL,ct,osl,rfl,lk,hcd⟩:=F.ex
 exact .all (h kV doc pm an fL ct)
theorem cT {x qual:Str} {st:Stmt} {f:Addr} {oc:Value} {od an:Option Addr} {osl:Array (Option Value)} {kV doc pm fL ct:Value} (l:K.lookup f=some ⟨oc,od,.func (fnOf x qual (bp st) (av st) (ah st) .none kV doc pm an fL ct),osl⟩)
  (c:codeIn K fL qual=true) (k:keepIn K (.ref f)=true):kr K x qual st f (fnOf x qual (bp st) (av st) (ah st) .none kV doc pm an fL ct):=⟨⟨oc,od,kV,doc,pm,an,fL,ct,osl,rfl,l,c⟩,k⟩
end
theorem pG (hr:eN k A):A.units+1 < cLine:=Nat.lt_of_le_of_lt (Nat.add_le_add_left (by decide:1≤64) _) hr.units
section
variable {X:Cx}
theorem pv (i:Nat) (hN:X.N[i]?=some x:=by rfl) (hv:IH X.env.scope x:=by first|exact Or.inl rfl|exact Or.inr (Or.inl rfl)|exact Or.inr (Or.inr rfl)) (hd:(x==("__debug__":Str))=false:=by decide)
  (hcd:(x==("__classdict__":Str))=false:=by decide):PE X (.Name x pos) (kz i):=zL hN hv hd hcd
end
theorem FC {A B:Prop} [Decidable c] (h1:c→A) (h2: ¬ c→B):if c then A else B:=by
 by_cases h:c
 ·rw[Lq h]
  exact h1 h
 ·rw[Lr h]
  exact h2 h
def hM (H H':Hp):Prop:= ∀ b o,H b=some o→H' b=some o
theorem hM.trans (a:hM H H1) (b:hM H1 H2):hM H H2:=fun c o h=>b c o (a c o h)
theorem hM.seq {K:Frag} {H H':Hp} {a:Addr} {xs:List V} (e:hM H H') (h:cV K H a xs):cV K H' a xs:=by
 rcases h with(h|⟨o,h⟩)|h
 ·exact .inl (.inl (e _ _ h))
 ·exact .inl (.inr ⟨o,e _ _ h⟩)
 ·exact .inr h
end L2
end
namespace L2
section
variable {κ:Type} [DecidableEq κ]
def jS (kvs:List (κ×V)) (k:κ):Option V:=(kvs.find? fun kv=>decide (kv.1=k)).map (·.2)
def putK (kvs:List (κ×V)) (k:κ) (v:V):List (κ×V):=
 if(kvs.any fun kv=>decide (kv.1=k))=true then kvs.map (fun kv=>if kv.1=k then(kv.1,v) else kv) else kvs++[(k,v)]
theorem jQ {p:κ×V} {r:List (κ×V)} {k:κ} (e:p.1=k):jS (p::r) k=some p.2:=by simp[jS,List.find?_cons,e]
theorem jR {p:κ×V} {r:List (κ×V)} {k:κ} (e: ¬ p.1=k):jS (p::r) k=jS r k:=by simp[jS,List.find?_cons,e]
theorem rH (k:κ): ∀ kvs:List (κ×V),(kvs.any fun kv=>decide (kv.1=k))=(jS kvs k).isSome
 |[]=>rfl
 |p::r=>by
  rw[List.any_cons]
  by_cases e:p.1=k
  ·simp only[jQ e,decide_eq_true e,Bool.true_or,Option.isSome_some]
  ·rw[jR e,K3 e,Bool.false_or];exact rH k r
theorem lF (kvs:List (κ×V)) (k:κ) (v:V):(putK kvs k v).length≤kvs.length+1:=by
 unfold putK
 split
 ·rw[Kx];lia
 ·rw[K4,KO,List.length_nil];lia
theorem oS.kX (r:oS o u):o.isSome=u.isSome:=by
 cases o with
 |none=>cases u with
  |none=>rfl
  |some _=>exact(show False from r).elim
 |some _=>cases u with
  |none=>exact(show False from r).elim
  |some _=>rfl
theorem KV.val (r:KV kvs vs) (k:κ):oS (jS kvs k) (valueAt vs k):=by
 unfold KV at r
 induction r with
 |nil=>exact True.intro
 | @cons p q ps qs h t ih=>
  obtain⟨h1,h2⟩:=h
  by_cases e:p.1=k
  ·have e':q.1=k:=h1.symm.trans e
   have b:valueAt (q::qs) k=some q.2:=by simp[valueAt,List.find?_cons,e']
   rw[jQ e,b];exact h2
  ·have e': ¬ q.1=k:=fun z=>e (h1.trans z)
   have b:valueAt (q::qs) k=valueAt qs k:=by simp[valueAt,List.find?_cons,e']
   rw[jR e,b];exact ih
theorem KV.any (r:KV kvs vs) (k:κ):(kvs.any fun kv=>decide (kv.1=k))=vs.any fun kv=>decide (kv.1=k):=by
 unfold KV at r
 induction r with
 |nil=>rfl
 |cons h t ih=>rw[List.any_cons,List.any_cons,ih,h.1]
theorem KV.uv (r:KV kvs vs) (k:κ) (ry:RelV y u):
  KV (kvs.map fun kv=>if kv.1=k then(kv.1,y) else kv) (vs.map fun kv=>if kv.1=k then(kv.1,u) else kv):=by
 unfold KV at r ⊢
 induction r with
 |nil=>exact .nil
 | @cons p q ps qs h t ih=>
  rw[KI,KI]
  refine .cons ?_ ih
  obtain⟨h1,h2⟩:=h
  by_cases e:p.1=k
  ·rw[Lq e,Lq (h1.symm.trans e)];exact⟨h1,ry⟩
  ·rw[Lr e,Lr (fun z=>e (h1.trans z))];exact⟨h1,h2⟩
theorem KV.put (r:KV kvs vs) (k:κ) (ry:RelV y u):KV (putK kvs k y) (stored vs k u):=by
 unfold putK stored
 rw[r.any k]
 by_cases e:(vs.any fun kv=>decide (kv.1=k))=true
 ·rw[Lq e,Lq e];exact r.uv k ry
 ·rw[Lr e,Lr e];exact Paired.snoc r ⟨rfl,ry⟩
theorem KV.keys {kvs:List (κ×V)} {vs:List (κ×Value)} (r:KV kvs vs):kvs.map (·.1)=vs.map (·.1):=by
 unfold KV at r
 induction r with
 |nil=>rfl
 |cons h t ih=>rw[KI,KI,ih,h.1]
theorem KV.length (r:KV kvs vs):kvs.length=vs.length:=Paired.length r
end
theorem vW (r:RelV (kV k) u):(bz P w).is k u=true:=by
 cases k with
 |inl i=>obtain⟨t,e⟩:=(show ∃ t,u=Value.int i t from r);subst e;exact sD P w i t
 |inr x=>obtain⟨t,e⟩:=(show ∃ t,u=Value.str x t from r);subst e;exact sC P w x t
theorem pC: ∀ {ks:List Key} {us:List Value},Vals (ks.map kV) us→ItemsAre (bz P w) ks us
 |[],_,r=>by rw[List.map_nil] at r;cases r;exact .nil
 |k::ks,_,r=>by
  rw[KI] at r
  cases r with
  |cons h t=>exact .cons (vW h) (pC t)
abbrev KT (H:Hp):List (List Key×V)→List (List Key×Addr×Value)→Prop:=Paired fun p q=>p.1=q.1∧H q.2.1=some (.tup (p.1.map kV))∧RelV p.2 q.2.2
theorem KT.val (r:KT H kvs xs) (k:List Key):oS (jS kvs k) ((atKey xs k).map (·.2)):=by
 induction r with
 |nil=>exact True.intro
 | @cons p q ps qs h t ih=>
  obtain⟨h1,_,h2⟩:=h
  by_cases e:p.1=k
  ·have e':q.1=k:=h1.symm.trans e
   have b:atKey (q::qs) k=some q.2:=by simp[atKey,List.find?_cons,e']
   rw[jQ e,b];exact h2
  ·have e': ¬ q.1=k:=fun z=>e (h1.trans z)
   have b:atKey (q::qs) k=atKey qs k:=by simp[atKey,List.find?_cons,e']
   rw[jR e,b];exact ih
theorem KT.uv (r:KT H kvs xs) (k:List Key) (ry:RelV y u):
  KT H (kvs.map fun kv=>if kv.1=k then(kv.1,y) else kv) (xs.map (putAt k u)):=by
 induction r with
 |nil=>exact .nil
 | @cons p q ps qs h t ih=>
  rw[KI,KI]
  refine .cons ?_ ih
  obtain⟨h1,h2,h3⟩:=h
  unfold putAt
  by_cases e:p.1=k
  ·rw[Lq e,Lq (h1.symm.trans e)];exact⟨h1,h2,ry⟩
  ·rw[Lr e,Lr (fun z=>e (h1.trans z))];exact⟨h1,h2,h3⟩
theorem KT.put (r:KT H kvs xs) (k:List Key) (hb:H b=some (.tup (k.map kV))) (ry:RelV y u):
  KT H (putK kvs k y) (storedH xs k b u):=by
 have e:(kvs.any fun kv=>decide (kv.1=k))=(atKey xs k).isSome:=by
  rw[rH,(r.val k).kX,Option.isSome_map]
 unfold putK storedH
 rw[e]
 by_cases q:(atKey xs k).isSome=true
 ·rw[Lq q,Lq q];exact r.uv k ry
 ·rw[Lr q,Lr q];exact Paired.snoc r ⟨rfl,hb,ry⟩
theorem KT.keeps (r:KT H kvs xs) (ht: ∀ b ys,H b=some (.tup ys)→H' b=some (.tup ys)):KT H' kvs xs:=
 Paired.Fo r fun _ _ z=>⟨z.1,ht _ _ z.2.1,z.2.2⟩
section
variable {P:Program} {w:World} {H:Hp} {h:Heap} {a:Addr}
theorem DN (ok:iY P w H h) (e:Rd H a u):dn P w H h a u:=e.ok ok
theorem sZ (ok:iY P w H h) (e:Rd H a (.dK kvs)):kvs.length≤sizeLine∧(a==sysModules)=false∧∃ vs,KV kvs vs∧h.DictOf (bz P w) a vs:=
 show dn P w H h a (.dK kvs) from DN ok e
theorem HQ (ok:iY P w H h) (e:H a=some (.dK kvs)):kvs.length≤sizeLine∧(a==sysModules)=false∧∃ vs,KV kvs vs∧h.DictOf (bz P w) a vs:=sZ ok (.inl e)
theorem qL (ok:iY P w H h) (e:H a=some (.tup (ks.map kV))):(tupleKind (bz P w)).is h ks a:=by
 obtain⟨_,aC,r,o,h1,h2,n,h3⟩:=(show dn P w H h a (.tup (ks.map kV)) from ok a _ e)
 exact⟨o,aC.toArray,n,h1,h2,h3,by simpa using pC r⟩
theorem wm (ok:iY P w H h) (e:Rd H a (.dT kvs)):kvs.length≤sizeLine∧(a==sysModules)=false∧
  ∃ xs,KT H kvs xs∧h.DictOfH (tupleKind (bz P w)) a xs:=by
 obtain⟨z,y,xs,r,o,es,ep,h1,h2,h3,h4,h5⟩:=(show dn P w H h a (.dT kvs) from DN ok e)
 refine⟨z,y,xs,r,o,es,ep,h1,h2,h3,h4,fun x hx=>?_,h5⟩
 have all: ∀ {l:List (List Key×V)} {m:List (List Key×Addr×Value)},KT H l m→∀ x∈m,(tupleKind (bz P w)).is h x.1 x.2.1:=by
  intro l m q
  induction q with
  |nil=>intro x hx;exact nomatch hx
  | @cons p q ps qs hq t ih=>
   intro x hx
   rcases KJ.mp hx with e|hx
   ·subst e
    exact qL ok (by rw[←hq.1];exact hq.2.1)
   ·exact ih x hx
 exact all r x hx
theorem HP (ok:iY P w H h) (e:H a=some (.dT kvs)):kvs.length≤sizeLine∧(a==sysModules)=false∧
  ∃ xs,KT H kvs xs∧h.DictOfH (tupleKind (bz P w)) a xs:=wm ok (.inl e)
end
def yg (H:Hp) (a:Addr) (y:V) (r:Option V):Prop:=
 (∃ kvs k,Rd H a (.dK kvs)∧y=kV k∧r=jS kvs k)∨∃ kvs k b,Rd H a (.dT kvs)∧y= .ref b∧H b=some (.tup (k.map kV))∧r=jS kvs k
def Io (H:Hp) (a:Addr) (y v:V) (H':Hp):Prop:=
 (∃ kvs k,H a=some (.dK kvs)∧y=kV k∧kvs.length < sizeLine∧H'=upd H a (.dK (putK kvs k v)))∨
 ∃ kvs k b,H a=some (.dT kvs)∧y= .ref b∧H b=some (.tup (k.map kV))∧kvs.length < sizeLine∧H'=upd H a (.dT (putK kvs k v))
section
variable {X:Cx} {pZ:List (Addr×Obj)} {σ:St} {H:Hp} {s:Shared} {a:Addr} {y v:V} {u r:Value} {o:Option V} {A:Around} {E:Value→Shared→Prop}
theorem Inv.big (I:Inv X pZ σ H s):sysModules < s.heap.objs.size:=by
 have h:mainGlobals < s.heap.objs.size:=(I.mod.glob.keeps I.bk).lt
 exact Nat.lt_trans (by decide) h
theorem xY (hu:A.units+1 < cLine) (I:Inv X pZ σ H s) (g:yg H a y (some v)) (ry:RelV y u) (h: ∀ w' s',Inv X pZ σ H s'→RelV v w'→Q w' s'):
  wpAny (model X.prog X.w) A (getItem (.ref a) u) Q E s:=by
 rcases g with⟨kvs,k,e,ey,l⟩|⟨kvs,k,b,e,ey,eb,l⟩
 ·subst ey
  obtain⟨z,hd,vs,rel,dd⟩:=sZ I.bS e
  obtain⟨w',hw,rw'⟩:=oS.some_of (v:=v) (o:=valueAt vs k) (by rw[l];exact rel.val k)
  exact wpAny_getItem_of (vW ry) dd.mapOf hw (h w' _ (I.tok _) rw')
 ·subst ey
  cases (show u=Value.ref b from ry)
  obtain⟨z,hd,xs,rel,dd⟩:=wm I.bS e
  obtain⟨w',hw,rw'⟩:=oS.some_of (v:=v) (o:=(atKey xs k).map (·.2)) (by rw[l];exact rel.val k)
  obtain⟨p,hp,hp2⟩:=K2.mp hw
  refine wpAny_getItem_heap (tupleKind_room_in1 hu) (qL I.bS eb) dd hp ?_
  rw[hp2]
  exact h w' _ (I.tok _) rw'
theorem JM (hu:A.units+1 < cLine) (I:Inv X pZ σ H s) (g:yg H a y o) (ry:RelV y u) (h: ∀ s',Inv X pZ σ H s'→Q (.bool o.isSome) s'):
  wpAny (model X.prog X.w) A (compareOp .In u (.ref a)) Q E s:=by
 rcases g with⟨kvs,k,e,ey,l⟩|⟨kvs,k,b,e,ey,eb,l⟩
 ·subst ey
  obtain⟨z,hd,vs,rel,dd⟩:=sZ I.bS e
  refine wpAny_in_of (vW ry) hd dd.mapOf ?_
  rw[←(rel.val k).kX,←l]
  exact h _ (I.tok _)
 ·subst ey
  cases (show u=Value.ref b from ry)
  obtain⟨z,hd,xs,rel,dd⟩:=wm I.bS e
  refine wpAny_in_heap (tupleKind_room_in1 hu) (qL I.bS eb) hd dd ?_
  have q:=(rel.val k).kX
  rw[Option.isSome_map] at q
  rw[←q,←l]
  exact h _ (I.tok _)
theorem wy {t':Nat} (I:Inv X pZ σ H s) (mu:Ij (H a)) (hs:Heap.SameBut a s.heap h') (he: ∃ q,h'.get? a=some q) (new:dn X.prog X.w (upd H a ob) h' a ob):
  Inv X pZ σ (upd H a ob) {s with heap:=h',toks:=t'}:=
 I.write (x:=a) (e:=a) mu (.inl rfl) (fun b q hb z=>(hs.2 b hb).trans z) he new
theorem FK (z:kvs.length≤sizeLine) (hd:(a==sysModules)=false) (rel:KV kvs vs) (dd:h'.DictOf (bz P w) a vs):
  dn P w H' h' a (.dK kvs):=⟨z,hd,vs,rel,dd⟩
theorem xX (hu:A.units+1 < cLine) (I:Inv X pZ σ H s) (g:Io H a y v H') (ry:RelV y u) (rv:RelV v r) (h: ∀ s',Inv X pZ σ H' s'→Q () s'):
  wpAny (model X.prog X.w) A (setItem (.ref a) u r) Q E s:=by
 rcases g with⟨kvs,k,e,ey,l,eH⟩|⟨kvs,k,b,e,ey,eb,l,eH⟩
 ·subst ey eH
  obtain⟨z,hd,vs,rel,dd⟩:=HQ I.bS e
  have hz:vs.length≤sizeLine:=by rw[←rel.length];exact z
  have hl:(putK kvs k v).length≤sizeLine:=by have:=lF kvs k v;lia
  refine wpAny_setItem_pairs (hsz:=hz) (vW ry) dd fun h' dd' hs=>h _ ?_
  have he: ∃ q,h'.get? a=some q:=let ⟨q,_,_,hq,_⟩:=dd';⟨q,hq⟩
  exact wy I (by rw[e];exact True.intro) hs he (FK hl hd (rel.put k rv) dd')
 ·subst ey eH
  cases (show u=Value.ref b from ry)
  obtain⟨z,hd,xs,rel,dd⟩:=HP I.bS e
  have hz:xs.length≤sizeLine:=by rw[←Paired.length rel];exact z
  have hl:(putK kvs k v).length≤sizeLine:=by have:=lF kvs k v;lia
  refine wpAny_setItem_heap (hsz:=hz) (tupleKind_room_in1 hu) (qL I.bS eb) dd fun h' dd' hs=>h _ ?_
  obtain⟨q,es,ep,hq,h2,h3,h4,_,h5⟩:=dd'
  refine wy I (by rw[e];exact True.intro) hs ⟨q,hq⟩ ⟨hl,hd,_,(rel.put k eb rv).keeps fun c ys ec=>?_,q,es,ep,hq,h2,h3,h4,h5⟩
  rw[aq (Af ec e (fun z=>nomatch z))]
  exact ec
end
section
variable {X:Cx} {pZ:List (Addr×Obj)} {σ:St} {H:Hp} {s:Shared} {a:Addr} {kvs:List (Key×V)} {k:Key} {u:Value} {A:Around} {E:Value→Shared→Prop}
theorem HR (I:Inv X pZ σ H s) (e:Rd H a (.dK kvs)) (h: ∀ t s',Inv X pZ σ H s'→Q (.int kvs.length t) s'):wpAny (model X.prog X.w) A (call (.builtin "len") [.ref a]) Q E s:=by
 obtain⟨z,hd,vs,rel,dd⟩:=sZ I.bS e
 refine call_len_dict hd dd (by rw[←rel.length];rw[Lh] at z;lia) ?_
 rw[←rel.length]
 exact h _ _ (I.tok _)
end
def Gd (i:Expr):Prop:= ∀ ov iv,subscripted i false ov iv=operate [ov,iv] (getItem ov iv)
theorem B3 {prog:Program} {w:World} {A:Around} {E:Value→Shared→Prop} {s:Shared} {env:Env} {value slice:Expr} {pos:Pos} {T id:String} {Q:Value→Shared→Prop}
  (hl:typeLookup (.type T) "__getitem__"=pure (some (.builtin id))) (hs:Gd slice)
  (h:wpAny (model prog w) A (eval value env) (fun o s₁=>wpAny (model prog w) A (eval slice env) (fun i s₂=>s₂.TypeIs o T∧wpAny (model prog w) A (getItem o i) Q E s₂) E s₁) E s):
  wpAny (model prog w) A (eval (.Subscript value slice pos) env) Q E s:=by
 refine Subscript_ (wpAny_mono h (fun o s₁ h₁=>wpAny_mono h₁ (fun i s₂ h₂=>?_) fun _ _ x=>x) fun _ _ x=>x)
 obtain⟨hT,h₂⟩:=h₂
 unfold subscriptTail
 refine Kv ?_
 rw[getitemInPython_of_ne hT.not_modules]
 refine Kv (wpAny_specialOf hT hl ?_)
 have fin:wpAny (model prog w) A (subscripted slice false o i) (fun r s₃=>wpAny (model prog w) A (letTemporaryGo value o r >>= fun _=>pure r) Q E s₃) E s₂:=by
  rw[hs o i]
  exact wpAny_operating (wpAny_mono h₂ (fun r s₃ h₃=>Kv (wpAny_letTemporaryGo (KA h₃))) fun _ _ x=>x)
 first
  |exact KA (Kv fin)
  |exact Kv (KA (Kv fin))
  |exact Kv fin
theorem tm (I:Inv X pZ σ H s) (g:yg H a y o):s.TypeIs (.ref a) "dict":=by
 rcases g with⟨kvs,k,e,_,_⟩|⟨kvs,k,b,e,_,_,_⟩
 ·obtain⟨_,_,vs,_,dd⟩:=sZ I.bS e
  exact dd.typeIs
 ·obtain⟨_,_,xs,_,dd⟩:=wm I.bS e
  exact dd.typeIs
def DJ (td ty:TE):TE:=fun σ H Q=>td σ H fun x H1=>ty σ H1 fun y H2=> ∃ a v,x= .ref a∧yg H2 a y (some v)∧Q v H2
def Ew (ty td:TE):TE:=fun σ H Q=>ty σ H fun y H1=>td σ H1 fun x H2=> ∃ a o,x= .ref a∧yg H2 a y o∧Q (.bl o.isSome) H2
def zd (td ty tv:TE):TS:=fun D σ H=>tv σ H fun v H1=>td σ H1 fun x H2=>ty σ H2 fun y H3=> ∃ a H4,x= .ref a∧Io H3 a y v H4∧D.nx σ H4
section
variable {X:Cx} {o i e value:Expr} {pos pos' tpos:Pos} {td ty tv:TE}
theorem Cy (hu:X.A.units+1 < cLine) (ho:PE X o td) (hi:PE X i ty) (hs:Gd i):PE X (.Subscript o i pos) (DJ td ty):=by
 intro pZ s σ H Q I h
 refine B3 PySem.F.slot_dict_getitem.lookup hs (cn (ho pZ s σ H _ I h) fun u s1 ⟨x,H1,I1,rx,q1⟩=>cn (hi pZ s1 σ H1 _ I1 q1) fun iv s2 ⟨y,H2,I2,ry,a,v,ex,g,q2⟩=>?_)
 subst ex
 obtain rfl:u=Value.ref a:=rx
 exact⟨tm I2 g,xY hu I2 g ry fun w' s3 I3 rw'=>⟨v,H2,I3,rw',q2⟩⟩
theorem zQ (hu:X.A.units+1 < cLine) (hi:PE X i ty) (ho:PE X o td):PC X .In i o (Ew ty td):=by
 intro pZ s σ H Q I h
 refine cn (hi pZ s σ H _ I h) fun iv s1 ⟨y,H1,I1,ry,q1⟩=>cn (ho pZ s1 σ H1 _ I1 q1) fun u s2 ⟨x,H2,I2,rx,a,ov,ex,g,q2⟩=>?_
 subst ex
 obtain rfl:u=Value.ref a:=rx
 exact JM hu I2 g ry fun s3 I3=>⟨.bl ov.isSome,H2,I3,rfl,q2⟩
theorem Ct (hu:X.A.units+1 < cLine) (ho:PE X o td) (hi:PE X i ty) (hv:PE X value tv) (hs:swapsWith value (some (.Subscript o i pos')) pos.line X.env=pure false):
  PS X (.Assign [.Subscript o i pos'] value pos) (zd td ty tv):=by
 intro pZ s σ H D I h
 refine wpAny_Assign_Subscript (cn (hv pZ s σ H _ I h) fun r s1 ⟨v,H1,I1,rv,q1⟩=>cn (ho pZ s1 σ H1 _ I1 q1) fun u s2 ⟨x,H2,I2,rx,q2⟩=>cn (hi pZ s2 σ H2 _ I2 q2) fun iv s3 ⟨y,H3,I3,ry,a,H4,ex,g,q3⟩=>?_) hs
 subst ex
 obtain rfl:u=Value.ref a:=rx
 exact xX hu I3 g ry rv fun s4 I4=>⟨σ,H4,I4,q3⟩
end
theorem A5 (h:Heap) (hb:sysModules < h.objs.size):dn P w H (h.push {cls:=.type "dict",data:=.dict #[]}) h.objs.size (.dK []):=
 ⟨K6 _,beq_eq_false_iff_ne.mpr (Ne.symm (K8 hb)),[],.nil,Heap.DictOf.new h⟩
def yN:TE:=fun _ H Q=> ∀ p,H p=none→Q (.ref p) (upd H p (.dK []))
section
variable {X:Cx} {pos:Pos}
theorem r8:PE X (.Dict [] [] pos) yN:=fun pZ s σ H Q I h=>
 wpAny_Dict_empty ⟨.ref s.heap.objs.size,_,I.laid (a:=s.heap.objs.size) (o:=.dK []) (t':=s.toks) (fun _ _ q=>Ky _ q) (KG _) (A5 s.heap I.big),rfl,h _ (I.bS.fresh (KG _))⟩
end
def fN (cells:List (Str×Addr)) (cs:List (Str×Addr)) (p:Str×NameKind):List (Str×Addr):=
 if p.2== .free then(match cells.lookup p.1 with|some c=>(p.1,c)::cs|none=>cs) else cs
def tF (names:List (Str×NameKind)) (cells:List (Str×Addr)):List (Str×Addr):=names.foldl (fN cells) []
theorem kl (env:Env): ∀ (names:List (Str×NameKind)) (cs:List (Str×Addr)),(∀ p∈names,p.2= .free→∃ c,env.cells.lookup p.1=some c)→
  (forIn names cs fun (p:Str×NameKind) r=>(if(p.2== .free)=true then do let a ←cellOf env p.1;pure (ForInStep.yield ((p.1,a)::r)) else pure (ForInStep.yield r):Sem (ForInStep (List (Str×Addr)))))=pure (names.foldl (fN env.cells) cs)
 |[],cs,_=>rfl
 |p::r,cs,h=>by
  have ih:=fun cs'=>kl env r cs' fun q hq=>h q (Kz _ hq)
  rw[List.forIn_cons]
  by_cases hp:(p.2== .free)=true
  ·obtain⟨c,hc⟩:=h p Kw (by simpa using hp)
   have e:fN env.cells cs p=(p.1,c)::cs:=by unfold fN;rw[Lq hp,hc]
   have e2:cellOf env p.1=pure c:=by unfold cellOf;rw[hc]
   rw[Lq hp,e2,List.foldl_cons,e]
   exact ih _
  ·have e:fN env.cells cs p=cs:=by unfold fN;rw[Lr hp]
   rw[Lr hp,List.foldl_cons,e]
   exact ih _
theorem nQ (h: ∀ p∈scope.names,p.2= .free→∃ c,env.cells.lookup p.1=some c):closureFor scope env=pure (tF scope.names env.cells):=by
 have q:=kl env scope.names [] h
 unfold closureFor
 show (forIn scope.names [] _ >>= fun cs=>pure cs)=_
 have e: ∀ m:Sem (List (Str×Addr)),(m >>= fun cs=>pure cs)=m:=fun m=>bind_pure m
 rw[e]
 exact q
theorem fh (cells:List (Str×Addr)): ∀ (names:List (Str×NameKind)) (cs:List (Str×Addr)),(∀ x c,cs.lookup x=some c→cells.lookup x=some c)→∀ x c,(names.foldl (fN cells) cs).lookup x=some c→cells.lookup x=some c
 |[],_,h=>h
 |p::r,cs,h=>fh cells r _ (fun x c e=>by
  unfold fN at e
  split at e
  ·split at e
   ·rename_i c' hc'
    rw[List.lookup_cons] at e
    split at e
    ·rename_i hx
     have hx':x=p.1:=by simpa using hx
     cases e;rw[hx'];exact hc'
    ·exact h x c e
   ·exact h x c e
  ·exact h x c e)
theorem tD (cells:List (Str×Addr)): ∀ (names:List (Str×NameKind)) (cs:List (Str×Addr)) (x:Str),(∃ c,cs.lookup x=some c)→∃ c,(names.foldl (fN cells) cs).lookup x=some c
 |[],_,_,h=>h
 |p::r,cs,x,h=>tD cells r _ x (by
  unfold fN
  split
  ·split
   ·rw[List.lookup_cons]
    split
    ·exact⟨_,rfl⟩
    ·exact h
   ·exact h
  ·exact h)
theorem uY (cells:List (Str×Addr)): ∀ (names:List (Str×NameKind)) (cs:List (Str×Addr)) (x:Str),(x,NameKind.free)∈names→(∃ c,cells.lookup x=some c)→∃ c,(names.foldl (fN cells) cs).lookup x=some c
 |[],_,_,h,_=>by simp at h
 |p::r,cs,x,h,hc=>by
  rcases KJ.mp h with e|e
  ·subst e
   refine tD cells r _ x ?_
   obtain⟨c,hc⟩:=hc
   unfold fN
   rw[Lq (by rfl),hc]
   exact⟨c,by rw[List.lookup_cons];simp⟩
  ·exact uY cells r _ x e hc
noncomputable def iF (X:Cx) (scope:Scope) (N:List Str) (s₀:Shared) (H₀:Hp) (ex:List Addr) (pn:List (Addr×Obj)):Cx:=
 {prog:=X.prog,w:=X.w,K:=X.K,mg:=X.mg,base:=X.base,A:=X.A,N:=N,s₀:=s₀,H₀:=H₀,env:=compEnvC scope (tF scope.names X.env.cells) s₀.heap.objs.size X.env,outer:=X.stack,stack:=X.stack,ex:=ex,fn:=fun _=>false,calm:=true,pn:=pn,xe:=fun _ _=>False}
def gC (js:List (Option Nat)) (σ:St):St:=js.map fun o=>match o with|some j=>(σ[j]?).getD none|none=>none
def yd (X:Cx) (ifs:List Expr) (t:TT):Prop:=
 ∀ (pZ:List (Addr×Obj)) (s:Shared) (σ:St) (H:Hp) (Q:Bool→Hp→Prop),Inv X pZ σ H s→t σ H Q→
  wpAny (model X.prog X.w) X.A (forIn ifs true fun c r=>if r=true then do let ok ←isTrue c X.env (eval c X.env);pure (ForInStep.yield ok) else pure (ForInStep.yield r)) (TP X pZ σ Q) X.xe s
def GK:TT:=fun _ H Q=>Q true H
theorem Cq:yd X [] GK:=fun pZ s σ H Q I h=>wpAny_tests_nil ⟨H,I,h⟩
theorem Cp (h:PT X c t):yd X [c] t:=fun pZ s σ H Q I hw=>wpAny_tests_one (h pZ s σ H Q I hw)
theorem ya (I:Nat→Shared→Prop)
  (turn: ∀ n s,I n s→wpAny (model prog w) A (pyNext it) (fun r s₁=>match r with
   |none=>R (.ok .next) s₁
   |some v=>wpAny (model prog w) A (letOwnedTupleGo target it v) (fun _ s₁'=>wpAny (model prog w) A (assign target env v) (fun _ s₂=>
     wpAny (model prog w) A (forIn ifs true fun c r=>if r=true then do let ok ←isTrue c env (eval c env);pure (ForInStep.yield ok) else pure (ForInStep.yield r)) (fun ok s₃=>
      if ok=true then wpAny (model prog w) A (eval elt env) (fun x s₄=>
       wpAny (model prog w) A (call (.builtin "list.append") [acc,x]) (fun _ s₅=> ∃ m,m < n∧I m s₅) (fun _ _=>False) s₄) (fun _ _=>False) s₃
      else ∃ m,m < n∧I m s₃) (fun _ _=>False) s₂) (fun _ _=>False) s₁') (fun _ _=>False) s₁) (fun _ _=>False) s)
  (n:Nat) (h:I n s):
  codeAny (model prog w) A (.compLoop (.ListComp elt [⟨target,iter,ifs,0⟩] scope pos) 0 it acc env) R s:=by
 refine codeAny_loop rfl I (fun n s hI=>?_) n h
 show wpAny _ A ((compTurn (.ListComp elt [⟨target,iter,ifs,0⟩] scope pos) 0 it acc env).onRaise (fun x=>do noteFrame x env;theTreesLotGoes x)) _ _ s
 refine wpAny_noted ?_
 refine wpAny_mono (E:=fun _ _=>False) ?_ (fun _ _ q=>q) fun _ _ q=>q.elim
 rw[compTurn_list]
 refine Kv (wpAny_standAt (Kv (cn (turn n s hI) fun r s₁ h₁=>?_)))
 cases r with
 |none=>exact KA h₁
 |some v=>
  refine Kv (cn h₁ fun _ s₁' h₁'=>?_)
  refine Kv (cn h₁' fun _ s₂ h₂=>Kv (cn h₂ fun ok s₃ h₃=>?_))
  cases ok with
  |false=>exact KA ⟨rfl,h₃⟩
  |true=>exact Kv (Kv (cn h₃ fun x s₄ h₄=>Kv (cn h₄ fun _ s₅ h₅=>KA (KA ⟨rfl,h₅⟩))))
def Kn (J:It) (D:Addr) (g:TG) (tt:TT) (te:TE) (Q:VK) (σ0:St) (H1:Hp):Prop:=
 ∃ W:Nat→Nat→St→Hp→Prop,(∃ m,W 0 m σ0 (upd H1 D (.lst [])))∧∀ i m σ' H',W i m σ' H'→
  (J.stop i H'∧Q (.ref D) H')∨(J.go i H'∧∀ x H2,J.yp i H' x H2→g x σ' H2 fun σ2 H3=>tt σ2 H3 fun ok H4=>
   if ok=true then te σ2 H4 fun y H5=> ∃ ys,H5 D=some (.lst ys)∧ys.length < sizeLine∧∃ m',m' < m∧W (i+1) m' σ2 (upd H5 D (.lst (ys++[y])))
   else ∃ m',m' < m∧W (i+1) m' σ2 H4)
def Iz (js:List (Option Nat)) (wi:TI) (g:TG) (tt:TT) (te:TE):TE:=fun σ H Q=>wi σ H fun J H1=> ∀ D,H1 D=none→Kn J D g tt te Q (gC js σ) H1
structure bf (X:Cx) (scope:Scope) (N:List Str) (js:List (Option Nat)):Prop where
 kind:scope.kind= .function
 uL: ∀ y∈scope.names,y.2≠.cell
 names: ∀ y∈scope.names,y.2= .local→scope.names.lookup y.1=some .local
 free: ∀ y∈scope.names,y.2= .free→X.env.scope.names.lookup y.1=some .cell∨X.env.scope.names.lookup y.1=some .free
 len:js.length=N.length
 Kl: ∀ (i:Nat) (y:Str) (j:Nat),N[i]?=some y→js[i]?=some (some j)→X.N[j]?=some y∧scope.names.lookup y=some .free
def jE (env:Env) (p:Str×NameKind):Str×NameKind:=if(p.2==NameKind.free&&env.scope.kind== .function&&env.kindOf p.1==some .cell) then(p.1,NameKind.cell) else(p.1,p.2)
theorem r6 (env:Env) (p:Str×NameKind):(jE env p).1=p.1:=by unfold jE;split<;>rfl
theorem rW: ∀ {names:List (Str×NameKind)} {x:Str},names.lookup x=some .free→(names.map (jE env)).lookup x=some .cell∨(names.map (jE env)).lookup x=some .free
 |[],_,h=>by simp at h
 |p::r,x,h=>by
  rw[KI,List.lookup_cons,r6]
  rw[List.lookup_cons] at h
  cases hx:x==p.1 with
  |true=>
   rw[hx] at h
   have h':p.2= .free:=by simpa using h
   have e:(jE env p).2= .cell∨(jE env p).2= .free:=by
    unfold jE
    split
    ·exact .inl rfl
    ·exact .inr h'
   rcases e with e|e
   ·exact .inl (congrArg some e)
   ·exact .inr (congrArg some e)
  |false=>
   rw[hx] at h
   exact rW (env:=env) h
theorem rX: ∀ {names:List (Str×NameKind)} {x:Str},((names.map (jE env)).lookup x=some .cell∨(names.map (jE env)).lookup x=some .free)→(x,NameKind.free)∈names∨(x,NameKind.cell)∈names
 |[],_,h=>by simp at h
 |p::r,x,h=>by
  rw[KI,List.lookup_cons,r6] at h
  cases hx:x==p.1 with
  |true=>
   rw[hx] at h
   have hx':x=p.1:=by simpa using hx
   have h2:(jE env p).2= .cell∨(jE env p).2= .free:=h.elim (fun z=>.inl (Lv z)) fun z=>.inr (Lv z)
   have e:p.2= .free∨p.2= .cell:=by
    by_cases hc:(p.2==NameKind.free&&env.scope.kind== .function&&env.kindOf p.1==some .cell)=true
    ·simp only[Lf] at hc
     exact .inl (by simpa using hc.1.1)
    ·have e2:jE env p=(p.1,p.2):=by unfold jE;rw[Lr hc]
     rw[e2] at h2
     exact h2.symm
   rcases e with e|e
   ·exact .inl (by rw[hx',←e];exact Kw)
   ·exact .inr (by rw[hx',←e];exact Kw)
  |false=>
   rw[hx] at h
   rcases rX h with q|q
   ·exact .inl (Kz _ q)
   ·exact .inr (Kz _ q)
section
variable {X:Cx} {pZ:List (Addr×Obj)} {σ:St} {H:Hp} {s:Shared} {scope:Scope} {N:List Str} {js:List (Option Nat)} {fp:List Addr}
theorem bf.FQ (L:bf X scope N js) (ok:X.Ok): ∀ p∈scope.names,p.2= .free→∃ c,X.env.cells.lookup p.1=some c:=fun p hp hf=>ok.has p.1 (L.free p hp hf)
theorem bf.ok (L:bf X scope N js) (I:Inv X pZ σ H s) (hc:X.calm=true) (hf: ∀ b∈fp,d6 X pZ H b) (ho: ∀ b∈fp,∃ o,s.heap.get? b=some o):(iF X scope N s H fp (X.pn++pZ)).Ok where
 mod:=I.ok.mod
 kind:=L.kind
 glob:=I.ok.glob
 blt:=I.ok.blt
 above:=KG _
 inj:=fun x y c h1 h2=>I.ok.inj x y c (fh _ _ _ (fun _ _ e=>by simp at e) x c h1) (fh _ _ _ (fun _ _ e=>by simp at e) y c h2)
 has:=fun x hx=>by
  have hx':(scope.names.map (jE X.env)).lookup x=some .cell∨(scope.names.map (jE X.env)).lookup x=some .free:=hx
  rcases rX hx' with q|q
  ·exact uY _ _ _ x q (L.FQ I.ok _ q rfl)
  ·exact absurd rfl (L.uL _ q)
 Gv:=fun x c h _=>by cases h
 hd:=fun _=>I.ok.hd hc
 frames:=I.ok.frames
 GO:=.inl rfl
 JJ:=fun b hb=>by
  obtain⟨o,e⟩:=ho b hb
  refine⟨K8 (KS e),fun x c h=>(hf b hb).2.2.2.2.1 x c (fh _ _ _ (fun _ _ e=>by simp at e) x c h)⟩
 bs:=I.bs
 BK:=KZ I.ok.BK I.sz
 xy:=fun b o e hb=>by
  rcases(hf b hb).2.2.2.1 with z|z
  ·exact I.ok.xy b o e z
  ·exact absurd (K1 (KS e) (KZ I.ok.BK z)) (Nat.lt_irrefl _)
 AU:=fun b hb z=>by
  rcases KJ.mp (I.kA b z) with e|e
  ·exact(hf b hb).2.1 e
  ·exact(hf b hb).2.2.1 e
 kZ:=I.stack
 D8:=I.vq
theorem bf.start (L:bf X scope N js) (I:Inv X pZ σ H s) (hc:X.calm=true) (hf: ∀ b∈fp,d6 X pZ H b) (ho: ∀ b∈fp,∃ o,s.heap.get? b=some o)
  (hn:h'.Ns s.heap.objs.size (fun _=>none)) (hk: ∀ b o,s.heap.get? b=some o→h'.get? b=some o):
  Inv (iF X scope N s H fp (X.pn++pZ)) [] (gC js σ) H {s with heap:=h',toks:=tk}:=by
 refine⟨L.ok I hc hf ho,rfl,I.bare,Un.kept hk,⟨_,hn,fun i y v e1 e2 e3=>?_⟩,fun x c e=>?_,I.bS.fresh (KG _),fun x c e=>?_,fun p hp=>?_,I.bS.kept hk,?_⟩
 ·unfold gC at e2
  rw[KY] at e2
  cases ej:js[i]? with
  |none=>rw[ej] at e2;cases e2
  |some o=>
   rw[ej] at e2
   cases o with
   |none=>simp at e2
   |some j=>
    simp only[Option.map_some,Option.some.injEq] at e2
    have es:σ[j]?=some (some v):=by
     cases q:σ[j]? with
     |none=>rw[q] at e2;simp at e2
     |some z=>rw[q] at e2;simp at e2;rw[e2]
    obtain⟨en,ef⟩:=L.Kl i y j e1 ej
    have em:(y,NameKind.free)∈scope.names:=PySem.mem_of_lookup ef
    have ek:=L.free _ em rfl
    obtain⟨m,_,hl⟩:=I.loc
    obtain⟨u,r,l⟩:=hl j y v en es (ek.elim (fun z=>.inr (.inl z)) fun z=>.inr (.inr z))
    refine⟨u,r,.inr ⟨rW ef,?_⟩⟩
    rcases l with⟨l,_⟩|⟨_,c,ec,z⟩
    ·have l':X.env.scope.names.lookup y=some .local:=l
     rcases ek with ek|ek<;>(rw[ek] at l';cases l')
    ·obtain⟨c',hc'⟩:=uY X.env.cells scope.names [] y em ⟨c,ec⟩
     have e':=fh X.env.cells scope.names [] (fun _ _ e=>by simp at e) y c' hc'
     rw[ec] at e';cases e'
     obtain⟨o,ho,hd⟩:=z
     exact⟨c,hc',⟨o,hk c o ho,hd⟩⟩
 ·obtain⟨v,o,ho,hd⟩:=I.cell x c (fh _ _ _ (fun _ _ e=>by simp at e) x c e)
  exact⟨v,o,hk c o ho,hd⟩
 ·exact I.iT x c (fh _ _ _ (fun _ _ e=>by simp at e) x c e)
 ·have hp':p∈X.pn++pZ:=by simpa[iF] using hp
  obtain⟨e,n,ne,nf,d⟩:=I.pin p hp'
  refine⟨hk _ _ e,n,K8 (KS e),fun z=>?_,d⟩
  rcases KJ.mp (I.kA _ z) with q|q
  ·exact ne q
  ·exact nf q
 ·unfold gC
  rw[Kx]
  exact L.len
theorem Al (I:Inv X pZ σ H s) (hf: ∀ b∈fp,d6 X pZ H b) (J:Inv (iF X scope N s H fp (X.pn++pZ)) ps σ' H' s'):
  Inv X pZ σ H' s'∧d6 X pZ H' s.heap.objs.size∧∃ m,s'.heap.Ns s.heap.objs.size m:=by
 refine⟨I.HS (ch:=fp) J.os J.base J.bS J.bare fun b hb=>⟨(hf b hb).2.2.2.1,(hf b hb).2.1,(hf b hb).2.2.2.2.1,(hf b hb).2.2.2.2.2⟩,I.oN (KG _) J.free,?_⟩
 obtain⟨m,hn,_⟩:=J.loc
 exact⟨m,hn⟩
theorem Inv.gone {H':Hp} {s':Shared} {C:Addr} {h':Heap} {m:Str→Option Value} (I:Inv X pZ σ H' s') (f:d6 X pZ H' C) (hs:Heap.SameBut C s'.heap h'):Inv X pZ σ H' {s' with heap:=h'}:=
 I.turned (t':=s'.toks) (it:=C) (fun b o hb e=>(hs.2 b hb).trans e) f.1 f.2.1 f.2.2.2.1 f.2.2.2.2.1 f.2.2.2.2.2
theorem C6 {iter:Expr} {Q:VK} {R:Value→Addr→Result→Shared→Prop}
  (L:bf X scope N js) (hc:X.calm=true)
  (hg: ∀ s₀ H₀ ex pn,PG (iF X scope N s₀ H₀ ex pn) target g) (ht: ∀ s₀ H₀ ex pn,yd (iF X scope N s₀ H₀ ex pn) ifs tt) (he: ∀ s₀ H₀ ex pn,PE (iF X scope N s₀ H₀ ex pn) elt te)
  (I:Inv X pZ σ H s) (T:Turn X.prog X.w X.K target J fp it tn) (st:tn 0 s.heap) (hf: ∀ b∈fp,d6 X pZ H b) {h₁:Heap} {tk:Nat} (I3:Inv X pZ σ (upd H D (.lst [])) s3) (hDl: ∀ b o,s.heap.get? b=some o→b≠D) (k3: ∀ b o,s.heap.get? b=some o→s3.heap.get? b=some o)
  (hns₁:h₁.Ns s3.heap.objs.size (fun _=>none)) (kk: ∀ b o,s3.heap.get? b=some o→h₁.get? b=some o)
  (w: ∃ W:Nat→Nat→St→Hp→Prop,(∃ m,W 0 m (gC js σ) (upd H D (.lst [])))∧∀ i m σ' H',W i m σ' H'→
   (J.stop i H'∧Q (.ref D) H')∨(J.go i H'∧∀ x H2,J.yp i H' x H2→g x σ' H2 fun σ2 H3=>tt σ2 H3 fun ok H4=>
    if ok=true then te σ2 H4 fun y H5=> ∃ ys,H5 D=some (.lst ys)∧ys.length < sizeLine∧∃ m',m' < m∧W (i+1) m' σ2 (upd H5 D (.lst (ys++[y])))
    else ∃ m',m' < m∧W (i+1) m' σ2 H4))
  (hR: ∀ C s' H',Inv X pZ σ H' s'→d6 X pZ H' C→(∃ m,s'.heap.Ns C m)→Q (.ref D) H'→R (.ref D) C (.ok .next) s'):
  codeAny (model X.prog X.w) X.A (.compStart (.ListComp elt [⟨target,iter,ifs,0⟩] scope pos) 0 (.ref it) (.ref D) {newEnv scope s3.heap.objs.size X.env.globals (tF scope.names X.env.cells) X.env.qual none .none (some X.env) builtinsNs with scope:=relabel scope X.env}) (R (.ref D) s3.heap.objs.size) {s3 with heap:=h₁,toks:=tk}:=by
 have obj:=T.obj 0 s.heap st
 have ho3: ∀ b∈fp,∃ o,s3.heap.get? b=some o:=fun b hb=>by obtain⟨o,e,_⟩:=obj b hb;exact⟨o,k3 b o e⟩
 have hf3: ∀ b∈fp,d6 X pZ (upd H D (.lst [])) b:=fun b hb=>by
  refine⟨?_,(hf b hb).2⟩
  obtain⟨o,e,_⟩:=obj b hb
  rw[aq (hDl b o e)]
  exact(hf b hb).1
 have I4:Inv (iF X scope N s3 (upd H D (.lst [])) fp (X.pn++pZ)) [] (gC js σ) (upd H D (.lst [])) {s3 with heap:=h₁,toks:=tk}:=
  L.start I3 hc hf3 ho3 hns₁ kk
 obtain⟨W,⟨m0,w0⟩,turn⟩:=w
 have st4:tn 0 h₁:=T.keep 0 _ _ st fun b _ o e=>kk b o (k3 b o e)
 generalize hX:iF X scope N s3 (upd H D (.lst [])) fp (X.pn++pZ)=Y at I4
 have fpY: ∀ b∈fp,b≠Y.env.locals∧b∉Y.fs∧(b∈Y.ex∨Y.s₀.heap.objs.size≤b)∧(∀ x c,Y.env.cells.lookup x=some c→c≠b)∧∀ p∈Y.pn++[],p.1≠b:=fun b hb=>by
  rw[←hX]
  obtain⟨o,e⟩:=ho3 b hb
  refine⟨K8 (KS e),fun z=>?_,.inl hb,fun x c h=>(hf b hb).2.2.2.2.1 x c (fh _ _ _ (fun _ _ e=>by simp at e) x c h),fun p hp=>(hf b hb).2.2.2.2.2 p (by simpa[iF] using hp)⟩
  rcases KJ.mp (I3.kA b z) with q|q
  ·exact(hf b hb).2.1 q
  ·exact(hf b hb).2.2.1 q
 have loop:codeAny (model X.prog X.w) X.A (.compLoop (.ListComp elt [⟨target,iter,ifs,0⟩] scope pos) 0 (.ref it) (.ref D) Y.env) (R (.ref D) s3.heap.objs.size) {s3 with heap:=h₁,toks:=tk}:=by
  have pr:Y.prog=X.prog:=by rw[←hX];rfl
  have pw:Y.w=X.w:=by rw[←hX];rfl
  have pK:Y.K=X.K:=by rw[←hX];rfl
  have pA:Y.A=X.A:=by rw[←hX];rfl
  have pc:Y.calm=true:=by rw[←hX];rfl
  have px:Y.xe=fun _ _=>False:=by rw[←hX];rfl
  have mB: ∀ {H':Hp},(∀ b∈fp,H' b=none)→∀ b∈fp,d6 Y [] H' b:=fun hn b hb=>⟨hn b hb,fpY b hb⟩
  refine ya (fun n s'=> ∃ i σ' H',Inv Y [] σ' H' s'∧tn i s'.heap∧(∀ b∈fp,H' b=none)∧W i n σ' H') ?_ m0 ⟨0,_,_,I4,st4,fun b hb=>(hf3 b hb).1,w0⟩
  rintro n s5 ⟨i,σ5,H5,I5,st5,fr5,w5⟩
  have gY:PG Y target g:=by rw[←hX];exact hg _ _ _ _
  have tY:yd Y ifs tt:=by rw[←hX];exact ht _ _ _ _
  have eY:PE Y elt te:=by rw[←hX];exact he _ _ _ _
  unfold PG at gY;unfold yd at tY;unfold PE at eY
  rw[pr,pw,pA,px] at gY tY eY
  have ap:=cW (X:=Y)
  unfold Gx at ap
  rw[pr,pw,pA,px] at ap
  rcases turn i n σ5 H5 w5 with⟨stop,q⟩|⟨go,step⟩
  ·have d:=T.done Y pr pw pK pc i [] s5 σ5 H5 (fun _ _=>False) I5 (mB fr5) st5 stop
   rw[pA] at d
   refine cn d fun r s6 ⟨hr,I6⟩=>?_
   subst hr
   have I6':Inv (iF X scope N s3 (upd H D (.lst [])) fp (X.pn++pZ)) [] σ5 H5 s6:=by rw[hX];exact I6
   obtain⟨a1,a2,a3⟩:=Al I3 hf3 I6'
   exact hR _ s6 H5 a1 a2 a3 q
  ·have d:=T.item Y pr pw pK pc i [] s5 σ5 H5 (fun _ _=>False) I5 (mB fr5) st5 go
   rw[pA] at d
   refine cn d fun r s6 ⟨u,hr,h6⟩=>?_
   subst hr
   refine cn h6 fun _ s7 ⟨x,H7,I7,r7,y7,st7,fr7⟩=>?_
   have I7':=I7.pinned (mB fr7) (T.obj _ _ st7)
   refine cn (gY _ s7 σ5 H7 x u _ I7' r7 (step x H7 y7)) fun _ s8 ⟨σ8,H8,I8,q8⟩=>?_
   have again: ∀ {σ9:St} {H9:Hp} {s9:Shared},Inv Y ([]++kM fp s7.heap) σ9 H9 s9→(∃ m',m' < n∧W (i+1) m' σ9 H9)→∃ m,m < n∧∃ i σ' H',Inv Y [] σ' H' s9∧tn i s9.heap∧(∀ b∈fp,H' b=none)∧W i m σ' H':=fun {σ9 H9 s9} I9 ⟨m',hm,w9⟩=>by
    refine⟨m',hm,i+1,σ9,H9,I9.iH,T.keep _ _ _ st7 fun b hb o e=>(I9.pin (b,o) (KW _ (KW _ (fB hb e)))).1,fun b hb=>?_,w9⟩
    obtain⟨o,e,d⟩:=T.obj _ _ st7 b hb
    exact(I9.pin (b,o) (KW _ (KW _ (fB hb e)))).2.1
   refine cn (tY _ s8 σ8 H8 _ I8 q8) fun ok s9 ⟨H9,I9,q9⟩=>?_
   cases ok with
   |false=>
    rw[Lr (by decide)] at q9
    rw[Lr (by decide)]
    exact again I9 q9
   |true=>
    rw[Lq rfl] at q9
    rw[Lq rfl]
    refine cn (eY _ s9 σ8 H9 _ I9 q9) fun v s10 ⟨y,H10,I10,r10,ys,eys,lys,q10⟩=>?_
    refine cn (ap _ s10 σ8 H10 (.ref D) [y] (.ref D) [v] (fun _ H'=> ∃ m',m' < n∧W (i+1) m' σ8 H') I10 rfl (.cons r10 .nil) ⟨D,ys,y,rfl,rfl,eys,lys,q10⟩) fun v2 s11 ⟨y2,H11,I11,_,q11⟩=>?_
    exact again I11 q11
 have ee:({newEnv scope s3.heap.objs.size X.env.globals (tF scope.names X.env.cells) X.env.qual none .none (some X.env) builtinsNs with scope:=relabel scope X.env}:Env)=Y.env:=by rw[←hX];rfl
 rw[ee]
 exact codeAny_compStart_list loop (T.self _ 0 _ _ _ st4 loop)
theorem Am {elt target iter:Expr} {ifs:List Expr} {pos:Pos} {g:TG} {tt:TT} {te:TE} {it:Addr} {tn:Nat→Heap→Prop} {J:It} {Q:VK} {E:Value→Shared→Prop} {R:Value→Addr→Result→Shared→Prop}
  (L:bf X scope N js) (hc:X.calm=true)
  (hg: ∀ s₀ H₀ ex pn,PG (iF X scope N s₀ H₀ ex pn) target g) (ht: ∀ s₀ H₀ ex pn,yd (iF X scope N s₀ H₀ ex pn) ifs tt) (he: ∀ s₀ H₀ ex pn,PE (iF X scope N s₀ H₀ ex pn) elt te)
  (I:Inv X pZ σ H s) (T:Turn X.prog X.w X.K target J fp it tn) (st:tn 0 s.heap) (hf: ∀ b∈fp,d6 X pZ H b)
  (w: ∀ D,H D=none→∃ W:Nat→Nat→St→Hp→Prop,(∃ m,W 0 m (gC js σ) (upd H D (.lst [])))∧∀ i m σ' H',W i m σ' H'→
   (J.stop i H'∧Q (.ref D) H')∨(J.go i H'∧∀ x H2,J.yp i H' x H2→g x σ' H2 fun σ2 H3=>tt σ2 H3 fun ok H4=>
    if ok=true then te σ2 H4 fun y H5=> ∃ ys,H5 D=some (.lst ys)∧ys.length < sizeLine∧∃ m',m' < m∧W (i+1) m' σ2 (upd H5 D (.lst (ys++[y])))
    else ∃ m',m' < m∧W (i+1) m' σ2 H4))
  (hR: ∀ D C s' H',Inv X pZ σ H' s'→d6 X pZ H' C→(∃ m,s'.heap.Ns C m)→Q (.ref D) H'→R (.ref D) C (.ok .next) s'):
  wpAny (model X.prog X.w) X.A (newList []) (fun acc s₃=>wpAny (model X.prog X.w) X.A (newFunctionEnv scope X.env.globals (tF scope.names X.env.cells) [] X.env.qual none .none (some X.env)) (fun cenv s₄=>
   codeAny (model X.prog X.w) X.A (.compStart (.ListComp elt [⟨target,iter,ifs,0⟩] scope pos) 0 (.ref it) acc {cenv with scope:=relabel scope X.env}) (R acc cenv.locals) s₄) E s₃) E s:=by
 have I3:=I.C4 (t':=s.toks) (ys:=[]) (aC:=[]) .nil (K6 _)
 have hD:=I.fresh
 refine wpAny_newObj_type (wpAny_newFunctionEnv L.uL (by intro y hy;simp at hy) (fun h₁ hns₁ hsb₁=>?_) L.kind)
 dsimp only at hns₁ hsb₁
 exact C6 (Q:=Q) (R:=R) (s3:={s with heap:=s.heap.push {cls:=.type "list",data:=.seq ([]:List Value).toArray},toks:=s.toks}) L hc hg ht he I T st hf I3 (fun b o e=>K8 (KS e)) (fun b o e=>Ky _ e) hns₁
  (fun b o e=>hsb₁.extBut b o (K8 (KS e)) (Ky _ e)) (w _ hD) (fun C=>hR _ C)
theorem Hc {elt target iter:Expr} {ifs:List Expr} {pos:Pos} {wi:TI} {g:TG} {tt:TT} {te:TE} (L:bf X scope N js) (hc:X.calm=true) (hi:PI X target iter wi)
  (hg: ∀ s₀ H₀ ex pn,PG (iF X scope N s₀ H₀ ex pn) target g) (ht: ∀ s₀ H₀ ex pn,yd (iF X scope N s₀ H₀ ex pn) ifs tt) (he: ∀ s₀ H₀ ex pn,PE (iF X scope N s₀ H₀ ex pn) elt te)
  (hs: ∀ x,foldedSetIterable iter X.env x=pure x:=by intro _;rfl):PE X (.ListComp elt [⟨target,iter,ifs,0⟩] scope pos) (Iz js wi g tt te):=by
 intro pZ s σ H Q I h
 rw[eval_ListComp]
 refine wpAny_comprehension_free (use:=none) rfl hs (nQ (L.FQ I.ok)) L.kind L.names (cn (hi pZ s σ H _ I h) fun v s1 h1=>cn h1 fun itv s2 h2=>?_)
 obtain⟨it,fp,tn,J,H2,e,I2,T,st2,f2,w⟩:=h2
 subst e
 refine Am (Q:=Q) (R:=fun acc C=>compPost (model X.prog X.w) X.A X.xe none (EP X pZ σ Q) acc C) L hc hg ht he I2 T st2 f2 w ?_
 intro D C s' H' I' f' ⟨m,hn⟩ q
 exact⟨m,hn,fun h' hs'=>⟨.ref D,H',I'.gone (m:=m) f' hs',rfl,q⟩⟩
end
def IK (x:Str):It:=⟨fun i _=>i < x.cps.size,fun i H v H'=>H'=H∧∃ c,x.cps[i]?=some c∧v= .str ⟨#[c]⟩,fun i _=>i=x.cps.size⟩
theorem oV {P:Program} {w:World} {K:Frag} {tg:Expr} (it:Addr) (x:Str) (t:Tok) {ty:String}
  (hn:["enumerate","zip","dict_itemiterator","dict_reverseitemiterator","odict_iterator","itertools.zip_longest","itertools.pairwise"].contains ty=false)
  (Wk: ∀ A:Around,A.handled=none→Walks P w A it [it] [it] x.cps.size (SignAt x) (fun i h=>h.IsStrIter it ty x t i))
  (Sf: ∀ (A:Around) i (s:Shared) (Q:Value→Shared→Prop) (E:Value→Shared→Prop),s.heap.IsStrIter it ty x t i→Q (.ref it) s→wpAny (model P w) A (pyIter (.ref it)) Q E s):Turn P w K tg (IK x) [it] it (fun i h=>h.IsStrIter it ty x t i) where
 mem:=by simp
 obj:=fun i h st b hb=>by
  have e:b=it:=by simpa using hb
  subst e
  obtain⟨o,e,c,d⟩:=st
  exact⟨o,e,fun v z=>by rw[d] at z;cases z⟩
 keep:=fun i h h' st k=>by
  obtain⟨o,e,c,d⟩:=st
  exact⟨o,k it (by simp) o e,c,d⟩
 item:=by
  intro X hP hw hK hc i pZ s σ H E I hf st hg
  subst hP hw hK
  obtain⟨f0,f1,f2,f3,f4,f5⟩:=hf it (by simp)
  refine(Wk X.A (I.ok.hd hc)).item i s _ _ hg st fun v h' tk hv st' kk=>?_
  obtain⟨c,u,hcx,rfl⟩:=hv
  have I1:Inv X pZ σ H {s with heap:=h',toks:=tk}:=I.turned (fun b o hb e=>kk b o (by simpa using hb) e) f0 f1 f3 f4 f5
  obtain⟨o,e,oc,d⟩:=id st'
  exact⟨_,rfl,pI (s:={s with heap:=h',toks:=tk}) e oc d hn ⟨.str ⟨#[c]⟩,H,I1,⟨u,rfl⟩,⟨rfl,c,hcx,rfl⟩,st',fun b hb=>(hf b hb).1⟩⟩
 done:=by
  intro X hP hw hK hc i pZ s σ H E I hf st hg
  subst hP hw hK
  have hg':i=x.cps.size:=hg
  subst hg'
  obtain⟨f0,f1,f2,f3,f4,f5⟩:=hf it (by simp)
  exact(Wk X.A (I.ok.hd hc)).done s _ _ st fun h' tk kk=>⟨rfl,I.turned (fun b o hb e=>kk b o (by simpa using hb) e) f0 f1 f3 f4 f5⟩
 self:=fun A i s Q E st h=>Sf A i s Q E st h
section
variable {X:Cx} {tg:Expr}
theorem xt:fw X (compareOp .LtE) (fun x y H Q=> ∃ i j,x= .str i∧y= .str j∧Q (.bl (!decide (j.cps.toList < i.cps.toList))) H):=by
 intro pZ s σ H x y v u Q I rx ry h
 obtain⟨i,j,rfl,rfl,q⟩:=h
 obtain⟨t,rfl⟩:=rx
 obtain⟨t',rfl⟩:=ry
 exact PySem.P.le_str (iU I q rfl)
theorem CM:fw X (binaryOp .Mult) (rI IntMulOk fun i j=>.int (i * j)):=Hl fun _ _ _ _ _ _ _ hc q=>mul_int q hc
theorem jZ:fw X (binaryOp .Pow) (rI (fun i j=>0≤j∧(Builtin.Int.intBits i:Int) * j≤2 ^ 27) fun i j=>.int (i ^ j.toNat)):=Hl fun _ _ _ _ _ _ _ hc q=>pow_int hc.1 hc.2 q
def Jj (K:Frag) (neg:Bool):R2:=fun x y H Q=> ∃ p q xs,x= .ref p∧y= .ref q∧cV K H p xs∧cV K H q []∧Q (.bl (xor neg xs.isEmpty)) H
theorem xr (hu:X.A.units < cLine):fw X (compareOp .NotEq) (Jj X.K true):=by
 intro pZ s σ H x y v u Q I rx ry h
 obtain⟨p,q,xs,rfl,rfl,h1,h2,hq⟩:=h
 cases rx;cases ry
 obtain⟨aC,r1,l1,_⟩:=I.list h1
 obtain⟨m8,r2,l2,_⟩:=I.list h2
 cases r2
 cases xs with
 |nil=>
  cases r1
  exact SeqAt.RcNeAt.lists (e:=fun _=>true) l1.isList l2.isList rfl hu (fun j a _=>by simp at a) _ _ _ _ (iU I hq rfl)
 |cons y ys=>
  have e:=r1.length
  exact SeqAt.RcNeAt.lists_lengths l1.isList l2.isList (by simp;intro z;subst z;simp at e) hu _ _ _ _ (iU I hq rfl)
theorem HV {bs:List Bool} (r:Vals (bs.map V.bl) aC) (i:Nat) (v:Value) (e:aC[i]?=some v): ∃ b,bs[i]?=some b∧v= .bool b:=by
 have hl:=r.length
 rw[Kx] at hl
 have hi:i < bs.length:=by rw[hl];exact(KD.mp e).1
 obtain⟨u,h1,h2⟩:=r.get (x:=V.bl bs[i]) (by rw[KY,Ku hi];rfl)
 rw[e] at h1;cases h1
 exact⟨bs[i],Ku hi,h2⟩
theorem uz (bs:List Bool):((List.range bs.length).all fun i=>(bs[i]?).getD true)=bs.all id:=by
 rw[Bool.eq_iff_iff,List.all_eq_true,List.all_eq_true]
 constructor
 ·intro h b hb
  obtain⟨i,hi,e⟩:=List.getElem_of_mem hb
  have:=h i (List.mem_range.mpr hi)
  rw[Ku hi,e] at this
  exact this
 ·intro h i hi
  have hi':=List.mem_range.mp hi
  rw[Ku hi']
  exact h _ (Ll hi')
theorem tJ (hc:X.calm=true):gm X (.builtin "all") (fun xs H Q=> ∃ (p:Addr) (bs:List Bool),xs=[.ref p]∧cV X.K H p (bs.map V.bl)∧Q (.bl (bs.all id)) H):=by
 intro pZ s σ H xs us Q I r h
 obtain⟨p,bs,rfl,hq,q⟩:=h
 obtain⟨u,rfl,rx⟩:=vals1 r
 cases rx
 obtain⟨aC,r',pl,hz⟩:=I.list hq
 have hl:=pl.isList
 have hV:p < s.heap.objs.size:=by obtain⟨_,e,_⟩:=hl;exact KS e
 have hlen:=r'.length
 rw[Kx] at hlen
 refine call_all_walk (wpAny_pyIter_list hl ?_)
 refine⟨s.heap.objs.size,[s.heap.objs.size,p],[s.heap.objs.size],aC.toArray.size,_,_,fun i=>(bs[i]?).getD true,rfl,Walks.list (A:=X.A.in1) (I.ok.hd hc) _ p (K8 hV) aC.toArray,
  ⟨⟨_,KP _ rfl,rfl,rfl⟩,hl.push _⟩,fun i v s' Q' E' hP hQ=>?_,fun h' tk hk=>?_⟩
 ·obtain⟨b,e,rfl⟩:=HV r' i v (by simpa using hP)
  simp only[e,Option.getD_some] at hQ
  exact wpAny_truthy_bool hQ
 ·refine⟨.bl (bs.all id),H,I.kept (fun b o e=>hk b o (fun hm=>?_) (Ky _ e)),?_,q⟩
  ·rw[K7.mp hm] at e;exact Nat.lt_irrefl _ (KS e)
  ·show Value.bool _=Value.bool _
   rw[KC,←hlen,uz]
theorem vp: ∀ {ys:List Str} {us:List Value},Vals (ys.map V.str) us→StrsAre us ys
 |[],us,r=>by rw[List.map_nil] at r;cases r;exact .nil
 |y::ys,us,r=>by
  rw[KI] at r
  cases r with
  |cons h t=>obtain⟨t',rfl⟩:=h;exact .cons y t' (vp t)
theorem CW:JR X "str.join" (fun x xs H Q=> ∃ (sep:Str) (p:Addr) (ys:List Str),x= .str sep∧xs=[.ref p]∧cV X.K H p (ys.map V.str)∧(ys.map (·.length)).sum+ys.length * sep.length≤16777216∧Q (.str (Txt.join sep ys)) H):=by
 intro pZ s σ H x xs v us Q I rx rv h
 obtain⟨sep,p,ys,rfl,rfl,hq,hz,q⟩:=h
 obtain⟨t,rfl⟩:=rx
 obtain⟨u,rfl,ru⟩:=vals1 rv
 cases ru
 obtain⟨aC,r',pl,_⟩:=I.list hq
 exact join_list pl.isList (by simpa using vp r') hz fun t' k=>⟨.str (Txt.join sep ys),H,I.tok _,⟨_,rfl⟩,q⟩
end
noncomputable def HD (scope es:Scope) (XN N:List Str) (js:List (Option Nat)):Bool:=
 (scope.kind== .function)&&scope.names.all (fun y=>y.2 != .cell&&(y.2 != .local||scope.names.lookup y.1==some .local)&&(y.2 != .free||es.names.lookup y.1==some .cell||es.names.lookup y.1==some .free))&&
 (js.length==N.length)&&(List.range N.length).all (fun i=>match N[i]?,js[i]? with|some y,some (some j)=>XN[j]?==some y&&scope.names.lookup y==some .free|_,_=>true)
theorem bf.yk (es:Scope) (XN:List Str) (h1:X.env.scope=es) (h2:X.N=XN) (h:HD scope es XN N js=true):bf X scope N js:=by
 unfold HD at h
 simp only[Lf,List.all_eq_true] at h
 obtain⟨⟨⟨ha,hb⟩,hc⟩,hd⟩:=h
 refine⟨by simpa using ha,fun y hy=>?_,fun y hy hl=>?_,fun y hy hl=>?_,by simpa using hc,fun i y j e1 e2=>?_⟩
 ·have:=(hb y hy).1.1
  simpa using this
 ·have:=(hb y hy).1.2
  rw[hl] at this
  simpa using this
 ·have:=(hb y hy).2
  rw[hl] at this
  rw[h1]
  simpa using this
 ·have hi:i < N.length:=(KD.mp e1).1
  have:=hd i (List.mem_range.mpr hi)
  rw[e1,e2] at this
  simp only[Lf] at this
  rw[h2]
  exact⟨by simpa using this.1,by simpa using this.2⟩
def isStar:Expr→Bool
 | .Starred .. =>true
 |_=>false
theorem GP (h:isStar e=false):starEach (e::es) env=(false,eval e env)::starEach es env:=by
 cases e<;>first
  |rfl
  |(exfalso;exact Bool.noConfusion h)
theorem Hf (ha:PE X e te) (hr:PA X es t) (h:isStar e=false:=by rfl):PA X (e::es) (iI te t):=fe ha hr (GP h)
theorem gV (h:H p=none) (o:HO):hM H (upd H p o):=fun b u q=>by rw[aq (ba q h)];exact q
section
structure Bx (p:Prop):Prop where
 out:p
abbrev BE (X:Cx) (e:Expr) (t:TE):Prop:=Bx (PE X e t)
abbrev BT (X:Cx) (e:Expr) (t:TT):Prop:=Bx (PT X e t)
abbrev BW (X:Cx) (e:Expr) (t:TT):Prop:=Bx (PW X e t)
abbrev BA (X:Cx) (es:List Expr) (t:TA):Prop:=Bx (PA X es t)
abbrev BS (X:Cx) (st:Stmt) (t:TS):Prop:=Bx (PS X st t)
abbrev BC (X:Cx) (st:List Stmt) (t:TS):Prop:=Bx (ua X st t)
abbrev BI (X:Cx) (tg iter:Expr) (t:TI):Prop:=Bx (PI X tg iter t)
abbrev BG (X:Cx) (tg:Expr) (t:TG):Prop:=Bx (PG X tg t)
abbrev IS (X:Cx) (ts:List Expr) (t:BM):Prop:=Bx (Ii X ts t)
abbrev BO (X:Cx) (e:Option Expr) (t:TO):Prop:=Bx (PO X e t)
abbrev Gg (X:Cx) (ifs:List Expr) (t:TT):Prop:=Bx (yd X ifs t)
set_option genInjectivity true in
inductive PV where
 |aU|bl (b:Bool)|int (i:Int)|str (x:Str)|tup (l:List PV)|lst (l:List PV)|eW (kvs:List (Key×PV))|rF (ns:List Int)|fY
set_option genInjectivity true in
inductive M (α:Type) where
 |fail|ret (a:α)|draw (m:Int) (k:Int→M α)
namespace M
variable {α β γ:Type}
def bind:M α→(α→M β)→M β
 |fail,_=>fail
 |ret a,f=>f a
 |draw m k,f=>draw m fun d=>(k d).bind f
def wp:M α→Nat→(α→Nat→Prop)→Prop
 |fail,_,_=>False
 |ret a,n,Q=>Q a n
 |draw m k,n,Q=>0 < m∧m < 1073741824∧∃ n',n=n'+1∧∀ d,0≤d→d < m→(k d).wp n' Q
theorem wZ (m:M α) (f:α→M β): ∀ (n:Nat) (Q:β→Nat→Prop),(m.bind f).wp n Q=m.wp n fun a n'=>(f a).wp n' Q:=by
 induction m with
 |fail=>intro n Q;rfl
 |ret a=>intro n Q;rfl
 |draw m k ih=>intro n Q;simp only[bind,wp,ih]
theorem wp_mono {m:M α}: ∀ {n:Nat} {Q Q':α→Nat→Prop},m.wp n Q→(∀ a n',Q a n'→Q' a n')→m.wp n Q':=by
 induction m with
 |fail=>intro n Q Q' h _;exact h
 |ret a=>intro n Q Q' h f;exact f _ _ h
 |draw m k ih=>
  intro n Q Q' h f
  obtain⟨h1,h2,n',e,h3⟩:=h
  exact⟨h1,h2,n',e,fun d a b=>ih d (h3 d a b) f⟩
theorem bZ (m:M α) (f:α→M β) (g:β→M γ):(m.bind f).bind g=m.bind fun a=>(f a).bind g:=by
 induction m with
 |fail=>rfl
 |ret a=>rfl
 |draw m k ih=>simp only[bind,ih]
@[simp] theorem rY (a:α) (f:α→M β):(ret a).bind f=f a:=rfl
def ft:Option α→M α
 |some a=>ret a
 |none=>fail
end M
theorem rZ (a:α) (f:α→M β):(M.ret a).bind f=f a:=rfl
inductive Rep (B:Addr) (O:Addr→Prop) (H:Hp):PV→V→Prop where
 |aU:Rep B O H .aU .aU
 |bl (b:Bool):Rep B O H (.bl b) (.bl b)
 |int (i:Int):Rep B O H (.int i) (.int i)
 |str (x:Str):Rep B O H (.str x) (.str x)
 |tup {p:Addr} {xs:List V} {l:List PV} (hO: ¬ O p) (h:H p=some (.tup xs)) (hl:l.length=xs.length) (hr: ∀ (i:Nat) (y:PV) (x:V),l[i]?=some y→xs[i]?=some x→Rep B O H y x):Rep B O H (.tup l) (.ref p)
 |lst {p:Addr} {xs:List V} {l:List PV} (hO: ¬ O p) (h:H p=some (.lst xs)) (hl:l.length=xs.length) (hr: ∀ (i:Nat) (y:PV) (x:V),l[i]?=some y→xs[i]?=some x→Rep B O H y x):Rep B O H (.lst l) (.ref p)
 |eW {p:Addr} {ks:List (Key×V)} {l:List (Key×PV)} (hO: ¬ O p) (h:Rd H p (.dK ks)) (hk:l.map (·.1)=ks.map (·.1)) (hr: ∀ (i:Nat) (y:Key×PV) (x:Key×V),l[i]?=some y→ks[i]?=some x→Rep B O H y.2 x.2):Rep B O H (.eW l) (.ref p)
 |rF {p:Addr} {ns:List Int} (hO: ¬ O p) (h: ∃ o,H p=some (.f7 o (.lst (ns.map V.int)))):Rep B O H (.rF ns) (.ref p)
 |fY:Rep B O H .fY (.ref B)
def aR (B:Addr) (O:Addr→Prop) (H:Hp) (l:List PV) (xs:List V):Prop:=l.length=xs.length∧∀ (i:Nat) (y:PV) (x:V),l[i]?=some y→xs[i]?=some x→Rep B O H y x
def bw (B:Addr) (O:Addr→Prop) (H:Hp) (l:List (Key×PV)) (ks:List (Key×V)):Prop:=l.map (·.1)=ks.map (·.1)∧∀ (i:Nat) (y:Key×PV) (x:Key×V),l[i]?=some y→ks[i]?=some x→Rep B O H y.2 x.2
def hE (H':Hp) (p:Addr):HO→Prop
 | .lP _=> ∃ qs,H' p=some (.lP qs)
 |o=>H' p=some o
theorem hE.of (h:H' p=some o):hE H' p o:=by
 cases o<;>first|exact h|exact⟨_,h⟩
theorem hE.there (h:hE H' p o): ∃ u,H' p=some u:=by
 cases o<;>first|exact⟨_,h⟩|(obtain⟨qs,e⟩:=h;exact⟨_,e⟩)
theorem hE.to (h:hE H' p o) (k: ∀ u,H' p=some u→hE H2 p u):hE H2 p o:=by
 cases o<;>first|exact k _ h|(obtain⟨qs,e⟩:=h;have q:=k (.lP qs) e;exact q)
def Ext (B:Addr) (H H':Hp):Prop:= ∀ p o,p≠B→H p=some o→hE H' p o
theorem Ext.refl (B:Addr) (H:Hp):Ext B H H:=fun _ _ _ h=>.of h
theorem Ext.trans (a:Ext B H H1) (b:Ext B H1 H2):Ext B H H2:=fun p o n h=>(a p o n h).to fun u e=>b p u n e
theorem Ext.new (h:H p=none) (o:HO):Ext B H (upd H p o):=fun q u _ e=>.of (by rw[aq (ba e h)];exact e)
section
variable {B:Addr} {O O':Addr→Prop} {H H':Hp} {y:PV} {x:V} {l l':List PV} {xs xs':List V}
theorem Rep.gB (h:Rep B O H y x) (hH: ∀ p o,¬ O p→H p=some o→hE H' p o∧¬ O' p):Rep B O' H' y x:=by
 induction h with
 |aU=>exact .aU
 |bl b=>exact .bl b
 |int i=>exact .int i
 |str x=>exact .str x
 |tup hO h hl hr ih=>exact .tup (hH _ _ hO h).2 (hH _ _ hO h).1 hl ih
 |lst hO h hl hr ih=>exact .lst (hH _ _ hO h).2 (hH _ _ hO h).1 hl ih
 |rF hO h=>
  obtain⟨o,e⟩:=h
  exact .rF (hH _ _ hO e).2 ⟨o,(hH _ _ hO e).1⟩
 |eW hO h hl hr ih=>
  rcases h with h|⟨o,h⟩
  ·exact .eW (hH _ _ hO h).2 (.inl (hH _ _ hO h).1) hl ih
  ·exact .eW (hH _ _ hO h).2 (.inr ⟨o,(hH _ _ hO h).1⟩) hl ih
 |fY=>exact .fY
theorem Rep.keep (h:Rep B O H y x) (hH: ∀ p o,¬ O p→H p=some o→H' p=some o∧¬ O' p):Rep B O' H' y x:=h.gB fun p o n q=>⟨.of (hH p o n q).1,(hH p o n q).2⟩
theorem Rep.ext (h:Rep B O H y x) (hB:O B) (e:Ext B H H'):Rep B O H' y x:=h.gB fun p o n q=>⟨e p o (fun z=>n (z▸hB)) q,n⟩
theorem Rep.less (h:Rep B O H y x) (hO: ∀ p,O' p→O p):Rep B O' H y x:=h.keep fun p o n q=>⟨q,fun z=>n (hO p z)⟩
theorem Rep.grow (h:Rep B O H y x) (hO: ∀ p,O' p→O p∨H p=none):Rep B O' H y x:=h.keep fun p o n q=>⟨q,fun z=>by
 rcases hO p z with w|w
 ·exact n w
 ·rw[w] at q;cases q⟩
theorem aR.gB (h:aR B O H l xs) (hH: ∀ p o,¬ O p→H p=some o→hE H' p o∧¬ O' p):aR B O' H' l xs:=⟨h.1,fun i y x a b=>(h.2 i y x a b).gB hH⟩
theorem aR.keep (h:aR B O H l xs) (hH: ∀ p o,¬ O p→H p=some o→H' p=some o∧¬ O' p):aR B O' H' l xs:=⟨h.1,fun i y x a b=>(h.2 i y x a b).keep hH⟩
theorem aR.ext (h:aR B O H l xs) (hB:O B) (e:Ext B H H'):aR B O H' l xs:=⟨h.1,fun i y x a b=>(h.2 i y x a b).ext hB e⟩
theorem aR.less (h:aR B O H l xs) (hO: ∀ p,O' p→O p):aR B O' H l xs:=⟨h.1,fun i y x a b=>(h.2 i y x a b).less hO⟩
theorem aR.grow (h:aR B O H l xs) (hO: ∀ p,O' p→O p∨H p=none):aR B O' H l xs:=⟨h.1,fun i y x a b=>(h.2 i y x a b).grow hO⟩
theorem aR.nil:aR B O H [] []:=⟨rfl,fun i y x a=>by simp at a⟩
theorem aR.cons (h:Rep B O H y x) (t:aR B O H l xs):aR B O H (y::l) (x::xs):=⟨by simp[t.1],fun i y' x' a b=>by
 cases i with
 |zero=>simp at a b;subst a b;exact h
 |succ i=>simp at a b;exact t.2 i y' x' a b⟩
theorem aR.head (h:aR B O H (y::l) (x::xs)):Rep B O H y x:=h.2 0 y x rfl rfl
theorem aR.tail (h:aR B O H (y::l) (x::xs)):aR B O H l xs:=⟨by simpa using h.1,fun i y' x' a b=>h.2 (i+1) y' x' (by simpa using a) (by simpa using b)⟩
theorem aR.nil_inv (h:aR B O H [] xs):xs=[]:=Lg h.1.symm
theorem aR.cons_inv (h:aR B O H (y::l) xs): ∃ x r,xs=x::r∧Rep B O H y x∧aR B O H l r:=by
 cases xs with
 |nil=>have:=h.1;simp at this
 |cons x r=>exact⟨x,r,rfl,h.head,h.tail⟩
theorem aR.at (h:aR B O H l xs) {i:Nat} (e:l[i]?=some y): ∃ x,xs[i]?=some x∧Rep B O H y x:=by
 have hi:i < l.length:=(KD.mp e).1
 have hx:i < xs.length:=h.1▸hi
 exact⟨xs[i],Ku hx,h.2 i y _ e (Ku hx)⟩
theorem aR.at' (h:aR B O H l xs) {i:Nat} (e:xs[i]?=some x): ∃ y,l[i]?=some y∧Rep B O H y x:=by
 have hi:i < xs.length:=(KD.mp e).1
 have hx:i < l.length:=h.1▸hi
 exact⟨l[i],Ku hx,h.2 i _ x (Ku hx) e⟩
theorem aR.append: ∀ {l:List PV} {xs:List V},aR B O H l xs→aR B O H l' xs'→aR B O H (l++l') (xs++xs')
 |[],xs,h,t=>by rw[h.nil_inv];exact t
 |y::l,xs,h,t=>by
  obtain⟨x,r,rfl,h1,h2⟩:=h.cons_inv
  exact .cons h1 (aR.append h2 t)
theorem aR.drop: ∀ (k:Nat) {l:List PV} {xs:List V},aR B O H l xs→aR B O H (l.drop k) (xs.drop k)
 |0,_,_,h=>h
 |_+1,[],_,h=>by have e:=h.nil_inv;subst e;simpa using aR.nil
 |k+1,y::l,xs,h=>by
  obtain⟨x,r,rfl,h1,h2⟩:=h.cons_inv
  exact aR.drop k h2
theorem aR.take: ∀ (k:Nat) {l:List PV} {xs:List V},aR B O H l xs→aR B O H (l.take k) (xs.take k)
 |0,_,_,h=>.nil
 |_+1,[],_,h=>by have e:=h.nil_inv;subst e;simpa using aR.nil
 |k+1,y::l,xs,h=>by
  obtain⟨x,r,rfl,h1,h2⟩:=h.cons_inv
  exact .cons h1 (aR.take k h2)
theorem aR.set (h:aR B O H l xs) (i:Nat) (hr:Rep B O H y x):aR B O H (l.set i y) (xs.set i x):=by
 refine⟨by simp[h.1],fun j y' x' a b=>?_⟩
 by_cases e:i=j
 ·subst e
  rw[List.getElem?_set] at a b
  simp at a b
  obtain⟨_,rfl⟩:=a
  obtain⟨_,rfl⟩:=b
  exact hr
 ·rw[Lb e] at a b
  exact h.2 j y' x' a b
theorem bw.keep {l:List (Key×PV)} {ks:List (Key×V)} (h:bw B O H l ks) (hH: ∀ p o,¬ O p→H p=some o→H' p=some o∧¬ O' p):bw B O' H' l ks:=⟨h.1,fun i y x a b=>(h.2 i y x a b).keep hH⟩
theorem bw.ext {l:List (Key×PV)} {ks:List (Key×V)} (h:bw B O H l ks) (hB:O B) (e:Ext B H H'):bw B O H' l ks:=⟨h.1,fun i y x a b=>(h.2 i y x a b).ext hB e⟩
end
structure eF where
 K:Frag
 sp:Sp
 tabs:List (Addr×Str)
def Ge:HO→Prop
 | .f7 _ (.dK _)=>False
 | .f7 _ _=>True
 |_=>False
def TabAt (H:Hp) (e:Addr×Str):Prop:= ∃ ps,H e.1=some (.lP ps)∧TriplesOk ps.toList∧∀ pos cv,codeAmong pos ps.toList=some cv→∃ c oc vs t,cv= .ref c∧H c=some (.f7 oc (.own c))∧oc.data= .fields vs∧vs[1]?=some (.str e.2 t)
theorem TabAt.keep (h:TabAt H e) (k1: ∀ ps,H e.1=some (.lP ps)→H' e.1=some (.lP ps)) (k2: ∀ p ob u,H p=some (.f7 ob (.own u))→H' p=some (.f7 ob (.own u))):TabAt H' e:=by
 obtain⟨ps,h1,h2,h3⟩:=h
 refine⟨ps,k1 _ h1,h2,fun pos cv e1=>?_⟩
 obtain⟨c,oc,vs,t,rfl,g1,g2⟩:=h3 pos cv e1
 exact⟨c,oc,vs,t,rfl,k2 _ _ _ g1,g2⟩
structure Bg (φ:eF) where
 B:Addr
 dD:Addr→Prop
 ok:Hp→Nat→Prop
 pB:dD B
 keep: ∀ H H' n,(∀ p o,(dD p∨Ge o)→H p=some o→H' p=some o)→ok H n→ok H' n
 tp: ∀ e∈φ.tabs,dD e.1
 tab: ∀ H n,ok H n→∀ e∈φ.tabs,TabAt H e
 wW: ∀ H H' n,ok H n→(∀ e∈φ.tabs,TabAt H' e)→(∀ p o,p∉φ.tabs.map (·.1)→H p=some o→H' p=some o)→ok H' n
 A4: ∀ H n p,ok H n→dD p→∃ o,H p=some o
 dr: ∀ (H:Hp) (n:Nat) (m:Int) (Q:VK) (E:XK),ok H (n+1)→0 < m→m < 1073741824→(∀ (d:Int) (H':Hp),0≤d→d < m→Ext B H H'→ok H' n→Q (.int d) H')→φ.sp [.ref B,.int m] H Q E
variable {φ:eF}
set_option genInjectivity true in
inductive Ent where
 |un|val (y:PV)|own (l:List PV)|cu (kvs:List (Key×PV))
abbrev ak:=List Ent
noncomputable def lu (G:Bg φ) (O:Addr→Prop) (H:Hp):Ent→Option V→Prop
 | .un,_=>True
 | .val y,o=> ∃ x,o=some x∧Rep G.B O H y x
 | .own l,o=> ∃ p xs,o=some (.ref p)∧O p∧¬ G.dD p∧H p=some (.lst xs)∧aR G.B O H l xs
 | .cu l,o=> ∃ p ks,o=some (.ref p)∧O p∧¬ G.dD p∧H p=some (.dK ks)∧bw G.B O H l ks
def jO (G:Bg φ) (O:Addr→Prop) (H:Hp) (σ:St) (ρ:ak):Prop:=σ.length=ρ.length∧∀ (i:Nat) (e:Ent),ρ[i]?=some e→lu G O H e ((σ[i]?).getD none)
structure ES (G:Bg φ) (O:Addr→Prop) (H:Hp) (σ:St) (ρ:ak) (n:Nat):Prop where
 er:jO G O H σ ρ
 ok:G.ok H n
 pr: ∀ p,G.dD p→O p
 dm: ∀ p,O p→∃ o,H p=some o
theorem ES.B (s:ES G O H σ ρ n):O G.B:=s.pr _ G.pB
theorem lu.ext (h:lu G O H e o) (hB:O G.B) (x:Ext G.B H H'):lu G O H' e o:=by
 cases e with
 |un=>trivial
 |val y=>obtain⟨v,e,r⟩:=h;exact⟨v,e,r.ext hB x⟩
 |own l=>obtain⟨p,xs,e,hp,np,hl,r⟩:=h;exact⟨p,xs,e,hp,np,x p _ (fun z=>np (z▸G.pB)) hl,r.ext hB x⟩
 |cu l=>obtain⟨p,xs,e,hp,np,hl,r⟩:=h;exact⟨p,xs,e,hp,np,x p _ (fun z=>np (z▸G.pB)) hl,r.ext hB x⟩
theorem ES.ext (s:ES G O H σ ρ n) (x:Ext G.B H H') (ok:G.ok H' n'):ES G O H' σ ρ n' where
 er:=⟨s.er.1,fun i e h=>(s.er.2 i e h).ext s.B x⟩
 ok:=ok
 pr:=s.pr
 dm:=fun p h=>by
  by_cases e:p=G.B
  ·subst e;exact G.A4 _ _ _ ok G.pB
  ·obtain⟨o,q⟩:=s.dm p h;exact(x p o e q).there
theorem Bg.new {G:Bg φ} (ok:G.ok H n) (h:H p=none) (o:HO):G.ok (upd H p o) n:=G.keep _ _ _ (fun q u _ e=>by rw[aq (ba e h)];exact e) ok
def lj (G:Bg φ) (O:Addr→Prop) (H:Hp) (R:PV→Nat→Prop) (Q:VK):Prop:= ∀ (y:PV) (x:V) (H':Hp) (n':Nat),Ext G.B H H'→G.ok H' n'→Rep G.B O H' y x→R y n'→Q x H'
def rE (φ:eF) (m:ak→M PV):TE:=fun σ H Q=> ∃ (G:Bg φ) (O:Addr→Prop) (ρ:ak) (n:Nat) (R:PV→Nat→Prop),ES G O H σ ρ n∧(m ρ).wp n R∧lj G O H R Q
def EV (φ:eF) (X:Cx) (e:Expr) (m:ak→M PV):Prop:=BE X e (rE φ m)
theorem BE.mono (h:BE X e t) (f: ∀ σ H Q,t' σ H Q→t σ H Q):BE X e t':=⟨fun pZ s σ H Q I q=>h.out pZ s σ H Q I (f σ H Q q)⟩
inductive cQ (G:Bg φ) (O:Addr→Prop) (H:Hp):PV→V→Prop where
 |full {y:PV} {x:V} (h:Rep G.B O H y x):cQ G O H y x
 |top {p:Addr} {xs:List V} {l:List PV} (np: ¬ G.dD p) (h:H p=some (.lst xs)) (r:aR G.B O H l xs):cQ G O H (.lst l) (.ref p)
 |uh {p:Addr} {ks:List (Key×V)} {l:List (Key×PV)} (np: ¬ G.dD p) (h:H p=some (.dK ks)) (r:bw G.B O H l ks):cQ G O H (.eW l) (.ref p)
theorem cQ.ext (h:cQ G O H y x) (hB:O G.B) (e:Ext G.B H H'):cQ G O H' y x:=by
 cases h with
 |full h=>exact .full (h.ext hB e)
 | @top p xs l np h r=>exact .top np (e p (.lst xs) (fun z=>np (z▸G.pB)) h) (r.ext hB e)
 | @uh p ks l np h r=>exact .uh np (e p (.dK ks) (fun z=>np (z▸G.pB)) h) (r.ext hB e)
def Ie (G:Bg φ) (O:Addr→Prop) (H:Hp) (R:PV→Nat→Prop) (Q:VK):Prop:= ∀ (y:PV) (x:V) (H':Hp) (n':Nat),Ext G.B H H'→G.ok H' n'→cQ G O H' y x→R y n'→Q x H'
def qc (φ:eF) (m:ak→M PV):TE:=fun σ H Q=> ∃ (G:Bg φ) (O:Addr→Prop) (ρ:ak) (n:Nat) (R:PV→Nat→Prop),ES G O H σ ρ n∧(m ρ).wp n R∧Ie G O H R Q
def EB (φ:eF) (X:Cx) (e:Expr) (m:ak→M PV):Prop:=BE X e (qc φ m)
theorem EV.b (h:EV φ X e m):EB φ X e m:=BE.mono h fun σ H Q ⟨G,O,ρ,n,R,s,w,q⟩=>⟨G,O,ρ,n,R,s,w,fun y x H' n' a b c d=>q y x H' n' a b (.full c) d⟩
def Ib (G:Bg φ) (H:Hp) (R:Bool→Nat→Prop) (Q:Bool→Hp→Prop):Prop:= ∀ (b:Bool) (H':Hp) (n':Nat),Ext G.B H H'→G.ok H' n'→R b n'→Q b H'
def BD (φ:eF) (m:ak→M Bool):TT:=fun σ H Q=> ∃ (G:Bg φ) (O:Addr→Prop) (ρ:ak) (n:Nat) (R:Bool→Nat→Prop),ES G O H σ ρ n∧(m ρ).wp n R∧Ib G H R Q
def TV (φ:eF) (X:Cx) (e:Expr) (m:ak→M Bool):Prop:=BT X e (BD φ m)
def WV (φ:eF) (X:Cx) (e:Expr) (m:ak→M Bool):Prop:=BW X e (BD φ m)
def Ig (G:Bg φ) (O:Addr→Prop) (H:Hp) (R:List PV→Nat→Prop) (Q:List V→Hp→Prop):Prop:= ∀ (l:List PV) (xs:List V) (H':Hp) (n':Nat),Ext G.B H H'→G.ok H' n'→aR G.B O H' l xs→R l n'→Q xs H'
def Iw (φ:eF) (m:ak→M (List PV)):TA:=fun σ H Q=> ∃ (G:Bg φ) (O:Addr→Prop) (ρ:ak) (n:Nat) (R:List PV→Nat→Prop),ES G O H σ ρ n∧(m ρ).wp n R∧Ig G O H R Q
def AV (φ:eF) (X:Cx) (es:List Expr) (m:ak→M (List PV)):Prop:=BA X es (Iw φ m)
def fv (G:Bg φ) (O:Addr→Prop) (H:Hp) (l:List PV) (xs:List V):Prop:=l.length=xs.length∧∀ (i:Nat) (y:PV) (x:V),l[i]?=some y→xs[i]?=some x→cQ G O H y x
def FY (G:Bg φ) (O:Addr→Prop) (H:Hp) (R:List PV→Nat→Prop) (Q:List V→Hp→Prop):Prop:= ∀ (l:List PV) (xs:List V) (H':Hp) (n':Nat),Ext G.B H H'→G.ok H' n'→fv G O H' l xs→R l n'→Q xs H'
def Gk (φ:eF) (m:ak→M (List PV)):TA:=fun σ H Q=> ∃ (G:Bg φ) (O:Addr→Prop) (ρ:ak) (n:Nat) (R:List PV→Nat→Prop),ES G O H σ ρ n∧(m ρ).wp n R∧FY G O H R Q
def AB (φ:eF) (X:Cx) (es:List Expr) (m:ak→M (List PV)):Prop:=BA X es (Gk φ m)
def tU (G:Bg φ) (O:Addr→Prop) (H:Hp) (R:List PV→Nat→Prop) (Q:VK):Prop:= ∀ (l:List PV) (p:Addr) (xs:List V) (H':Hp) (n':Nat),Ext G.B H H'→G.ok H' n'→H p=none→H' p=some (.lst xs)→aR G.B (fun q=>O q∨q=p) H' l xs→R l n'→Q (.ref p) H'
def Gj (φ:eF) (m:ak→M (List PV)):TE:=fun σ H Q=> ∃ (G:Bg φ) (O:Addr→Prop) (ρ:ak) (n:Nat) (R:List PV→Nat→Prop),ES G O H σ ρ n∧(m ρ).wp n R∧tU G O H R Q
def EF (φ:eF) (X:Cx) (e:Expr) (m:ak→M (List PV)):Prop:=BE X e (Gj φ m)
theorem EF.v (h:EF φ X e m):EV φ X e (fun ρ=>(m ρ).bind fun l=>.ret (.lst l)):=BE.mono h fun σ H Q cy=>by
 obtain⟨G,O,ρ,n,R,s,w,q⟩:=cy
 rw[M.wZ] at w
 refine⟨G,O,ρ,n,_,s,w,fun l p xs H' n' a b c d e f=>q (.lst l) _ H' n' a b (.lst (fun z=>?_) d e.1 (e.less fun q z=>.inl z).2) f⟩
 obtain⟨o,g⟩:=s.dm p z
 rw[c] at g;cases g
end
open Ent (val un)
section
variable {φ:eF}
theorem fE:100000≤sizeLine:=by rw[Lh];decide
section
variable {G:Bg φ} {O:Addr→Prop} {H:Hp} {n:Nat} {R:PV→Nat→Prop} {Q:VK} {x x':V}
theorem lj.sc (w:lj G O H R Q) (ok:G.ok H n) (r:Rep G.B O H y x) (h:R y n):Q x H:=w y x H n (Ext.refl _ _) ok r h
theorem lj.tup (w:lj G O H R Q) (ok:G.ok H n) (dm: ∀ p,O p→∃ o,H p=some o) {p:Addr} (hp:H p=none) {l:List PV} {xs:List V} (hB:O G.B) (r:aR G.B O H l xs) (h:R (.tup l) n):Q (.ref p) (upd H p (.tup xs)):=by
 have e:=Ext.new (B:=G.B) hp (.tup xs)
 refine w (.tup l) _ _ n e (Bg.new ok hp _) (.tup (fun z=>?_) ay r.1 (r.ext hB e).2) h
 obtain⟨o,g⟩:=dm p z
 rw[hp] at g;cases g
theorem lj.lst (w:lj G O H R Q) (ok:G.ok H n) (dm: ∀ p,O p→∃ o,H p=some o) {p:Addr} (hp:H p=none) {l:List PV} {xs:List V} (hB:O G.B) (r:aR G.B O H l xs) (h:R (.lst l) n):Q (.ref p) (upd H p (.lst xs)):=by
 have e:=Ext.new (B:=G.B) hp (.lst xs)
 refine w (.lst l) _ _ n e (Bg.new ok hp _) (.lst (fun z=>?_) ay r.1 (r.ext hB e).2) h
 obtain⟨o,g⟩:=dm p z
 rw[hp] at g;cases g
theorem tU.mk {R:List PV→Nat→Prop} (w:tU G O H R Q) (ok:G.ok H n) {p:Addr} (hp:H p=none) {l:List PV} {xs:List V} (hB:O G.B) (r:aR G.B O H l xs) (h:R l n):Q (.ref p) (upd H p (.lst xs)):=by
 have e:=Ext.new (B:=G.B) hp (.lst xs)
 refine w l p xs _ n e (Bg.new ok hp _) hp ay ((r.grow fun q z=>?_).ext (.inl hB) e) h
 rcases z with z|z
 ·exact .inl z
 ·subst z;exact .inr hp
theorem zm (h:Rd H p (.dK a)) (g:Rd H p (.dK b)):a=b:=by
 rcases h with h|⟨o,h⟩<;>rcases g with g|⟨o',g⟩<;>(rw[h] at g;cases g)<;>rfl
theorem cQ.DY (h:cQ G O H .aU x):x= .aU:=by cases h with|full h=>cases h;rfl
theorem cQ.cZ (h:cQ G O H (.int i) x):x= .int i:=by cases h with|full h=>cases h;rfl
theorem cQ.gv (h:cQ G O H (.str z) x):x= .str z:=by cases h with|full h=>cases h;rfl
theorem cQ.jt (h:cQ G O H (.tup l) x): ∃ p xs,x= .ref p∧H p=some (.tup xs)∧aR G.B O H l xs:=by cases h with|full h=>cases h with|tup a b c d=>exact⟨_,_,rfl,b,c,d⟩
theorem cQ.fR (h:cQ G O H (.lst l) x): ∃ p xs,x= .ref p∧H p=some (.lst xs)∧aR G.B O H l xs:=by
 cases h with
 |full h=>cases h with|lst a b c d=>exact⟨_,_,rfl,b,c,d⟩
 |top a b c=>exact⟨_,_,rfl,b,c⟩
theorem cQ.wx (h:cQ G O H (.eW l) x): ∃ p ks,x= .ref p∧Rd H p (.dK ks)∧bw G.B O H l ks:=by
 cases h with
 |full h=>cases h with|eW a b c d=>exact⟨_,_,rfl,b,c,d⟩
 |uh a b c=>exact⟨_,_,rfl,.inl b,c⟩
theorem cQ.GU (h:cQ G O H (.rF ns) x): ∃ p o,x= .ref p∧H p=some (.f7 o (.lst (ns.map V.int))):=by cases h with|full h=>cases h with|rF a b=>obtain⟨o,b⟩:=b;exact⟨_,o,rfl,b⟩
theorem cQ.low (h:cQ G O H y x) (pr: ∀ p,G.dD p→O p):Rep G.B G.dD H y x:=by
 cases h with
 |full h=>exact h.less pr
 |top np h r=>exact .lst np h r.1 (r.less pr).2
 |uh np h r=>exact .eW np (.inl h) r.1 fun i y x a b=>(r.2 i y x a b).less pr
end
def ae (ρ:ak) (i:Nat):M PV:=match ρ[i]? with|some (.val y)=>.ret y|_=>.fail
def cA (ρ:ak) (i:Nat):M PV:=match ρ[i]? with|some (.val y)=>.ret y|some (.own l)=>.ret (.lst l)|some (.cu l)=>.ret (.eW l)|_=>.fail
section
variable {X:Cx} {a b c:Expr} {pos:Pos} {ma mb mc:ak→M PV}
theorem wj (h:BE X e (tC v)) (r: ∀ B O H,Rep B O H y v):EV φ X e (fun _=>.ret y):=BE.mono h fun σ H Q ⟨G,O,ρ,n,R,s,w,q⟩=>q.sc s.ok (r _ _ _) w
theorem au:EV φ X (.Constant (.int i) j pos) (fun _=>.ret (.int i)):=wj ⟨aT⟩ fun _ _ _=>.int i
theorem nC:EV φ X (.Constant (.bool i) j pos) (fun _=>.ret (.bl i)):=wj ⟨He⟩ fun _ _ _=>.bl i
theorem eM:EV φ X (.Constant .none j pos) (fun _=>.ret .aU):=wj ⟨E5⟩ fun _ _ _=>.aU
theorem cI:EV φ X (.Constant (.str x) j pos) (fun _=>.ret (.str x)):=wj ⟨E3⟩ fun _ _ _=>.str x
theorem eK {i:Nat} (h:jO G O H σ ρ) (he:ρ[i]?=some e) (hx:(σ[i]?).getD none=some x):σ[i]?=some (some x):=by
 cases q:σ[i]? with
 |none=>rw[q] at hx;cases hx
 |some o=>rw[q] at hx;cases o with
  |none=>cases hx
  |some z=>simp at hx;rw[hx]
theorem ab (i:Nat) (h:BE X (.Name x pos) (kz i)):EV φ X (.Name x pos) (fun ρ=>ae ρ i):=BE.mono h fun σ H Q cy=>by
 obtain⟨G,O,ρ,n,R,s,w,q⟩:=cy
 replace w:(ae ρ i).wp n R:=w
 unfold ae at w
 cases e:ρ[i]? with
 |none=>rw[e] at w;exact w.elim
 |some t=>
  rw[e] at w
  cases t with
  |val y=>
   obtain⟨x,hx,r⟩:=s.er.2 i _ e
   exact⟨x,eK s.er e hx,q.sc s.ok r w⟩
  |_=>exact w.elim
theorem d5 (i:Nat) (h:BE X (.Name x pos) (kz i)):EB φ X (.Name x pos) (fun ρ=>cA ρ i):=BE.mono h fun σ H Q cy=>by
 obtain⟨G,O,ρ,n,R,s,w,q⟩:=cy
 replace w:(cA ρ i).wp n R:=w
 unfold cA at w
 cases e:ρ[i]? with
 |none=>rw[e] at w;exact w.elim
 |some t=>
  rw[e] at w
  cases t with
  |val y=>
   obtain⟨x,hx,r⟩:=s.er.2 i _ e
   exact⟨x,eK s.er e hx,q _ _ _ _ (Ext.refl _ _) s.ok (.full r) w⟩
  |own l=>
   obtain⟨p,xs,hx,_,np,hl,r⟩:=s.er.2 i _ e
   exact⟨_,eK s.er e hx,q _ _ _ _ (Ext.refl _ _) s.ok (.top np hl r) w⟩
  |cu l=>
   obtain⟨p,xs,hx,_,np,hl,r⟩:=s.er.2 i _ e
   exact⟨_,eK s.er e hx,q _ _ _ _ (Ext.refl _ _) s.ok (.uh np hl r) w⟩
  |un=>exact w.elim
def lK (r:R2) (op:PV→PV→M PV):Prop:= ∀ (φ:eF) (G:Bg φ) (O:Addr→Prop) (H:Hp) (n:Nat) (R:PV→Nat→Prop) (Q:VK) (y y':PV) (x x':V),
 (∀ p,G.dD p→O p)→(∀ p,O p→∃ o,H p=some o)→G.ok H n→cQ G O H y x→cQ G O H y' x'→(op y y').wp n R→lj G O H R Q→r x x' H Q
def ag (op:PV→PV→M PV) (ma mb:ak→M PV):ak→M PV:=fun ρ=>(ma ρ).bind fun x=>(mb ρ).bind fun y=>op x y
theorem two (hv:lK r op): ∀ σ H Q,rE φ (ag op ma mb) σ H Q→BZ r (qc φ ma) (qc φ mb) σ H Q:=fun σ H Q cy=>by
 obtain⟨G,O,ρ,n,R,s,w,q⟩:=cy
 unfold ag at w
 rw[M.wZ] at w
 refine⟨G,O,ρ,n,_,s,w,fun y x H1 n1 e1 bP r1 w1=>?_⟩
 rw[M.wZ] at w1
 refine⟨G,O,ρ,n1,_,s.ext e1 bP,w1,fun y' x' H2 n2 e2 kP r2 w2=>?_⟩
 exact hv φ G O H2 n2 R Q y y' x x' s.pr (s.ext (e1.trans e2) kP).dm kP (r1.ext s.B e2) r2 w2 fun y x H' n' e o r h=>q y x H' n' (e1.trans (e2.trans e)) o r h
theorem cL (ho:fw X (binaryOp o) r) (hv:lK r op) (ha:EB φ X a ma) (hb:EB φ X b mb):EV φ X (.BinOp a o b pos) (ag op ma mb):=
 BE.mono ⟨cF ho ha.out hb.out⟩ (two hv)
theorem nA (ho:fw X (compareOp o) r) (hv:lK r op) (ha:EB φ X a ma) (hb:EB φ X b mb) (hm:behindInMarks o b=false):EV φ X (.Compare a [o] [b] pos) (ag op ma mb):=
 BE.mono ⟨Cz ho ha.out hb.out hm⟩ (two hv)
theorem aJ (hr:BN X r) (hv:lK r op) (ha:EB φ X a ma) (hb:EB φ X b mb) (hs:wM b):EV φ X (.Subscript a b pos) (ag op ma mb):=
 BE.mono ⟨iO hr ha.out hb.out hs⟩ (two hv)
def bu (m:ak→M PV):ak→M Bool:=fun ρ=>(m ρ).bind fun y=>match y with| .bl b=>.ret b|_=>.fail
theorem rA {t:TE} (f: ∀ σ H Q,rE φ m σ H Q→t σ H Q): ∀ σ H Q,BD φ (bu m) σ H Q→t σ H (fun x H1=> ∃ k,x= .bl k∧Q k H1):=fun σ H Q cy=>by
 obtain⟨G,O,ρ,n,R,s,w,q⟩:=cy
 unfold bu at w
 rw[M.wZ] at w
 refine f σ H _ ⟨G,O,ρ,n,_,s,w,fun y x H1 n1 e1 bP r1 w1=>?_⟩
 cases y with
 |bl k=>cases r1;exact⟨k,rfl,q k H1 n1 e1 bP w1⟩
 |_=>exact w1.elim
theorem BT.mono (h:BT X e t) (f: ∀ σ H Q,t' σ H Q→t σ H Q):BT X e t':=⟨fun pZ s σ H Q I q=>h.out pZ s σ H Q I (f σ H Q q)⟩
theorem BW.mono (h:BW X e t) (f: ∀ σ H Q,t' σ H Q→t σ H Q):BW X e t':=⟨fun w pZ s σ H Q I q=>h.out w pZ s σ H Q I (f σ H Q q)⟩
theorem a9 (ho:fw X (compareOp o) r) (hv:lK r op) (ha:EB φ X a ma) (hb:EB φ X b mb) (hm:behindInMarks o b=false):TV φ X (.Compare a [o] [b] pos) (bu (ag op ma mb)):=
 BT.mono ⟨lU ho ha.out hb.out hm⟩ (rA (two hv))
theorem yD (h:EV φ X e m) (he: ∀ whole,isTrue e X.env whole=(do let v ←whole;standAt e.pos;holding [v] (truthy v)):=by intro _;rfl):TV φ X e (bu m):=
 BT.mono ⟨EW h.out he⟩ (rA fun _ _ _ h=>h)
def Ae (m:ak→M Bool):ak→M Bool:=fun ρ=>(m ρ).bind fun b=>.ret (!b)
theorem Eo (h:TV φ X a m):TV φ X (.UnaryOp .Not a pos) (Ae m):=BT.mono ⟨EX h.out⟩ fun σ H Q cy=>by
 obtain⟨G,O,ρ,n,R,s,w,q⟩:=cy
 unfold Ae at w
 rw[M.wZ] at w
 exact⟨G,O,ρ,n,_,s,w,fun b H1 n1 e1 bP w1=>q (!b) H1 n1 e1 bP w1⟩
def fF (ma mb:ak→M Bool):ak→M Bool:=fun ρ=>(ma ρ).bind fun b=>if b=true then mb ρ else .ret false
def DW (ma mb:ak→M Bool):ak→M Bool:=fun ρ=>(ma ρ).bind fun b=>if b=true then .ret true else mb ρ
theorem WV.t (h:WV φ X e m):TV φ X e m:=⟨PW.pt h.out⟩
theorem i5 (h:TV φ X a m):WV φ X (.BoolOp .And [a] pos) m:=⟨vI h.out⟩
theorem yq (h:TV φ X a m):WV φ X (.BoolOp .Or [a] pos) m:=⟨EU h.out⟩
theorem jA {rest:List Expr} (h:TV φ X a m) (h':WV φ X (.BoolOp .And (b::rest) pos) m'):WV φ X (.BoolOp .And (a::b::rest) pos) (fF m m'):=BW.mono ⟨zu h.out h'.out⟩ fun σ H Q cy=>by
 obtain⟨G,O,ρ,n,R,s,w,q⟩:=cy
 unfold fF at w
 rw[M.wZ] at w
 refine⟨G,O,ρ,n,_,s,w,fun b H1 n1 e1 bP w1=>?_⟩
 cases b with
 |true=>exact⟨G,O,ρ,n1,R,s.ext e1 bP,w1,fun b H' n' e o h=>q b H' n' (e1.trans e) o h⟩
 |false=>exact q false H1 n1 e1 bP w1
theorem DF {rest:List Expr} (h:TV φ X a m) (h':WV φ X (.BoolOp .Or (b::rest) pos) m'):WV φ X (.BoolOp .Or (a::b::rest) pos) (DW m m'):=BW.mono ⟨G8 h.out h'.out⟩ fun σ H Q cy=>by
 obtain⟨G,O,ρ,n,R,s,w,q⟩:=cy
 unfold DW at w
 rw[M.wZ] at w
 refine⟨G,O,ρ,n,_,s,w,fun b H1 n1 e1 bP w1=>?_⟩
 cases b with
 |true=>exact q true H1 n1 e1 bP w1
 |false=>exact⟨G,O,ρ,n1,R,s.ext e1 bP,w1,fun b H' n' e o h=>q b H' n' (e1.trans e) o h⟩
def rB (ma mb:ak→M PV):ak→M PV:=fun ρ=>(bu ma ρ).bind fun b=>if b=true then mb ρ else .ret (.bl false)
theorem FV {m:ak→M PV} {f:Bool→M PV} {σ:St} {H:Hp} {Q:VK} {G:Bg φ} {O:Addr→Prop} {ρ:ak} {n:Nat} {R:PV→Nat→Prop} {T:V→Hp→Prop} (s:ES G O H σ ρ n) (w:((bu m ρ).bind f).wp n R)
  (k: ∀ (b:Bool) (H1:Hp) (n1:Nat),Ext G.B H H1→G.ok H1 n1→(f b).wp n1 R→T (.bl b) H1):rE φ m σ H T:=by
 rw[M.wZ] at w
 unfold bu at w
 rw[M.wZ] at w
 refine⟨G,O,ρ,n,_,s,w,fun y x H1 n1 e1 bP r1 w1=>?_⟩
 cases y with
 |bl b=>cases r1;exact k b H1 n1 e1 bP w1
 |_=>exact w1.elim
theorem FH (ha:EV φ X a ma):EV φ X (.BoolOp op [a] pos) ma:=⟨E4 ha.out⟩
theorem AZ {rest:List Expr} (ha:EV φ X a ma) (hb:EV φ X (.BoolOp .And (b::rest) pos) mb):EV φ X (.BoolOp .And (a::b::rest) pos) (rB ma mb):=BE.mono ⟨E8 ha.out hb.out⟩ fun σ H Q ⟨G,O,ρ,n,R,s,w,q⟩=>
 FV (Q:=Q) s w fun b H1 n1 e1 bP w1=>⟨b,rfl,by
  cases b with
  |true=>exact⟨G,O,ρ,n1,R,s.ext e1 bP,w1,fun y x H' n' e o r h=>q y x H' n' (e1.trans e) o r h⟩
  |false=>exact q _ _ _ _ e1 bP (.bl _) w1⟩
def BH (mc:ak→M Bool) (ma mb:ak→M PV):ak→M PV:=fun ρ=>(mc ρ).bind fun b=>if b=true then ma ρ else mb ρ
theorem wk (hc:TV φ X c t) (ha:EV φ X a ma) (hb:EV φ X b mb):EV φ X (.IfExp c a b pos) (BH t ma mb):=BE.mono ⟨zO hc.out ha.out hb.out⟩ fun σ H Q cy=>by
 obtain⟨G,O,ρ,n,R,s,w,q⟩:=cy
 unfold BH at w
 rw[M.wZ] at w
 refine⟨G,O,ρ,n,_,s,w,fun b H1 n1 e1 bP w1=>?_⟩
 cases b with
 |true=>exact⟨G,O,ρ,n1,R,s.ext e1 bP,w1,fun y x H' n' e o r h=>q y x H' n' (e1.trans e) o r h⟩
 |false=>exact⟨G,O,ρ,n1,R,s.ext e1 bP,w1,fun y x H' n' e o r h=>q y x H' n' (e1.trans e) o r h⟩
noncomputable def chain (op op':PV→PV→M PV) (ma mb mc:ak→M PV):ak→M PV:=fun ρ=>(ma ρ).bind fun x=>(mb ρ).bind fun y=>(op x y).bind fun z=>match z with
 | .bl true=>(mc ρ).bind fun u=>op' y u
 | .bl false=>.ret (.bl false)
 |_=>.fail
theorem tG (hv:lK r op) (hv':lK r' op'): ∀ σ H Q,rE φ (chain op op' ma mb mc) σ H Q→uk r r' (qc φ ma) (qc φ mb) (qc φ mc) σ H Q:=fun σ H Q cy=>by
 obtain⟨G,O,ρ,n,R,s,w,q⟩:=cy
 unfold chain at w
 rw[M.wZ] at w
 refine⟨G,O,ρ,n,_,s,w,fun y x H1 n1 e1 bP r1 w1=>?_⟩
 rw[M.wZ] at w1
 refine⟨G,O,ρ,n1,_,s.ext e1 bP,w1,fun y' x' H2 n2 e2 kP r2 w2=>?_⟩
 rw[M.wZ] at w2
 refine hv φ G O H2 n2 _ _ y y' x x' s.pr (s.ext (e1.trans e2) kP).dm kP (r1.ext s.B e2) r2 w2 fun z u H3 n3 e3 ok3 r3 w3=>?_
 cases z with
 |bl k=>
  cases r3
  refine⟨k,rfl,?_⟩
  cases k with
  |true=>
   show qc φ mc σ H3 _
   rw[M.wZ] at w3
   refine⟨G,O,ρ,n3,_,s.ext (e1.trans (e2.trans e3)) ok3,w3,fun y4 x4 H4 n4 e4 ok4 r4 w4=>?_⟩
   exact hv' φ G O H4 n4 R Q y' y4 x' x4 s.pr (s.ext (e1.trans (e2.trans (e3.trans e4))) ok4).dm ok4 (r2.ext s.B (e3.trans e4)) r4 w4 fun y x H' n' e o r h=>q y x H' n' (e1.trans (e2.trans (e3.trans (e4.trans e)))) o r h
  |false=>exact q _ _ _ _ (e1.trans (e2.trans e3)) ok3 (.bl _) w3
 |_=>exact w3.elim
theorem AX (ho:fw X (compareOp o) r) (hv:lK r op) (ho':fw X (compareOp o') r') (hv':lK r' op') (ha:EB φ X a ma) (hb:EB φ X b mb) (hc:EB φ X c mc) (hm:lastMarks [o,o'] [b,c]=false:=by with_unfolding_all rfl):EV φ X (.Compare a [o,o'] [b,c] pos) (chain op op' ma mb mc):=
 BE.mono ⟨zP ho ho' ha.out hb.out hc.out hm⟩ (tG hv hv')
theorem yE (ho:fw X (compareOp o) r) (hv:lK r op) (ho':fw X (compareOp o') r') (hv':lK r' op') (ha:EB φ X a ma) (hb:EB φ X b mb) (hc:EB φ X c mc) (hm:lastMarks [o,o'] [b,c]=false:=by with_unfolding_all rfl):TV φ X (.Compare a [o,o'] [b,c] pos) (bu (chain op op' ma mb mc)):=
 BT.mono ⟨zz ho ho' ha.out hb.out hc.out hm⟩ (rA (tG hv hv'))
end
end
section
variable {φ:eF}
def toV:PV→V
 | .aU=>.aU
 | .bl b=>.bl b
 | .int i=>.int i
 | .str x=>.str x
 |_=>.ty ""
def bt (y:PV):Bool:=eU (toV y)
theorem gf (h:Rep B O H y x) (f:bt y=true):x=toV y:=by
 cases h<;>first|rfl|(exact absurd f (by decide))|(simp[bt,toV,eU] at f)
theorem pP (h:cQ G O H y x) (f:bt y=true):x=toV y:=by
 cases h with
 |full h=>exact gf h f
 |_=>simp[bt,toV,eU] at f
noncomputable def eqs (f:PV→PV→Option Bool):List PV→List PV→Option Bool
 |[],[]=>some true
 |[],_::_=>some false
 |_::_,[]=>some false
 |a::r,b::t=>(f a b).bind fun x=>(eqs f r t).bind fun y=>some (x&&y)
noncomputable def yn:Nat→PV→PV→Option Bool
 |k+1,.lst a,.lst b=>eqs (yn k) a b
 |k+1,.tup a,.tup b=>eqs (yn k) a b
 |_+1,.lst _,.tup _=>some false
 |_+1,.tup _,.lst _=>some false
 |_+1,.lst _,y=>if bt y then some false else none
 |_+1,.tup _,y=>if bt y then some false else none
 |_+1,y,.lst _=>if bt y then some false else none
 |_+1,y,.tup _=>if bt y then some false else none
 |_,y,z=>if bt y&&bt z then some (t6 (toV y) (toV z)) else none
theorem nF: ∀ {a b:List PV} {c:Bool},eqs f a b=some c→∃ e:Nat→Bool,(∀ j y z,a[j]?=some y→b[j]?=some z→f y z=some (e j))∧c=((List.range (min a.length b.length)).all e&&a.length==b.length)
 |[],[],c,h=>⟨fun _=>true,fun j y z e=>by simp at e,by simp[eqs] at h;simp[h]⟩
 |[],_::_,c,h=>⟨fun _=>true,fun j y z e=>by simp at e,by simp[eqs] at h;simp[h]⟩
 |_::_,[],c,h=>⟨fun _=>true,fun j y z _ e=>by simp at e,by simp[eqs] at h;simp[h]⟩
 |y::r,z::t,c,h=>by
  simp only[eqs] at h
  cases h1:f y z with
  |none=>rw[h1] at h;simp at h
  |some x=>
   rw[h1] at h
   simp only[Option.bind_some] at h
   cases h2:eqs f r t with
   |none=>rw[h2] at h;simp at h
   |some w=>
    rw[h2] at h
    simp only[Option.bind_some,Option.some.injEq] at h
    obtain⟨e,he,hw⟩:=nF h2
    refine⟨fun j=>match j with|0=>x|j+1=>e j,fun j y' z' a b=>?_,?_⟩
    ·cases j with
     |zero=>simp at a b;subst a b;exact h1
     |succ j=>simp at a b;exact he j y' z' a b
    ·have e0:min (y::r).length (z::t).length=min r.length t.length+1:=by simp only[KO];lia
     rw[e0,List.range_succ_eq_map,List.all_cons,List.all_map,←h,hw]
     simp only[KO,Function.comp_def,Bool.and_assoc]
     congr 2
     rw[Bool.eq_iff_iff];simp
theorem qT {α β:Type} {l l':List α} {xs:List β} (h1:l.length=xs.length) (h2:l'.length=xs.length) (hh: ∀ (i:Nat) (y y':α) (x:β),l[i]?=some y→l'[i]?=some y'→xs[i]?=some x→y=y'):l=l':=by
 apply List.ext_getElem (h1.trans h2.symm)
 intro i a b
 exact hh i _ _ _ (Ku a) (Ku b) (Ku (h1▸a))
theorem v7: ∀ {a b:List Int},a.map V.int=b.map V.int→a=b
 |[],[],_=>rfl
 |[],_::_,h=>by simp at h
 |_::_,[],h=>by simp at h
 |x::a,y::b,h=>by
  simp only[KI,List.cons.injEq,V.int.injEq] at h
  rw[h.1,v7 h.2]
theorem Rep.uniq {O:Addr→Prop} (hB:O B) (h:Rep B O H y x): ∀ {y':PV},Rep B O H y' x→y=y':=by
 induction h with
 |aU=>intro y' h;cases h;rfl
 |bl b=>intro y' h;cases h;rfl
 |int i=>intro y' h;cases h;rfl
 |str x=>intro y' h;cases h;rfl
 |tup hO h hl hr ih=>
  intro y' g
  cases g with
  |tup gO g gl gr=>
   rw[h] at g;cases g
   congr 1
   exact qT hl gl fun i y y' x a b c=>ih i y x a c (gr i y' x b c)
  |lst gO g gl gr=>rw[h] at g;cases g
  |eW gO g gl gr=>rcases g with g|⟨o',g⟩<;>(rw[h] at g;cases g)
  |rF gO g=>obtain⟨o,g⟩:=g;rw[h] at g;cases g
  |fY=>exact absurd hB hO
 |lst hO h hl hr ih=>
  intro y' g
  cases g with
  |lst gO g gl gr=>
   rw[h] at g;cases g
   congr 1
   exact qT hl gl fun i y y' x a b c=>ih i y x a c (gr i y' x b c)
  |tup gO g gl gr=>rw[h] at g;cases g
  |eW gO g gl gr=>rcases g with g|⟨o',g⟩<;>(rw[h] at g;cases g)
  |rF gO g=>obtain⟨o,g⟩:=g;rw[h] at g;cases g
  |fY=>exact absurd hB hO
 |eW hO h hl hr ih=>
  intro y' g
  cases g with
  |eW gO g gl gr=>
   obtain rfl:=zm h g
   congr 1
   refine qT (by simpa using congrArg List.length hl) (by simpa using congrArg List.length gl) fun i y y' x a b c=>?_
   have k1:y.1=x.1:=by
    have:=congrArg (·[i]?) hl
    simp only[KY,a,c] at this
    simpa using this
   have k2:y'.1=x.1:=by
    have:=congrArg (·[i]?) gl
    simp only[KY,b,c] at this
    simpa using this
   exact Prod.ext (k1.trans k2.symm) (ih i y x a c (gr i y' x b c))
  |tup gO g gl gr=>rcases h with h|⟨o',h⟩<;>(rw[h] at g;cases g)
  |lst gO g gl gr=>rcases h with h|⟨o',h⟩<;>(rw[h] at g;cases g)
  |rF gO g=>obtain⟨o,g⟩:=g;rcases h with h|⟨o',h⟩<;>(rw[h] at g;cases g)
  |fY=>exact absurd hB hO
 |rF hO h=>
  intro y' g
  obtain⟨o,h⟩:=h
  cases g with
  |rF gO g=>
   obtain⟨o',g⟩:=g
   rw[h] at g
   injection g with g;injection g with g1 g2;injection g2 with g2
   congr 1
   exact v7 g2
  |tup gO g gl gr=>rw[h] at g;cases g
  |lst gO g gl gr=>rw[h] at g;cases g
  |eW gO g gl gr=>rcases g with g|⟨o',g⟩<;>(rw[h] at g;cases g)
  |fY=>exact absurd hB hO
 |fY=>
  intro y' g
  cases g with
  |fY=>rfl
  |tup gO g gl gr=>exact absurd hB gO
  |lst gO g gl gr=>exact absurd hB gO
  |eW gO g gl gr=>exact absurd hB gO
  |rF gO g=>exact absurd hB gO
theorem nE (hf: ∀ y c,f y y=some c→c=true): ∀ {a:List PV} {c:Bool},eqs f a a=some c→c=true
 |[],c,h=>by simp[eqs] at h;exact h
 |y::r,c,h=>by
  simp only[eqs] at h
  cases h1:f y y with
  |none=>rw[h1] at h;simp at h
  |some x=>
   rw[h1] at h
   simp only[Option.bind_some] at h
   cases h2:eqs f r r with
   |none=>rw[h2] at h;simp at h
   |some w=>
    rw[h2] at h
    simp only[Option.bind_some,Option.some.injEq] at h
    rw[←h,hf _ _ h1,nE hf h2];rfl
theorem nG (h1:bt y=true) (h2:bt z=true):yn k y z=some (t6 (toV y) (toV z)):=by
 cases k<;>cases y<;>cases z<;>first|rfl|(simp[bt,toV,eU] at h1;done)|(simp[bt,toV,eU] at h2;done)
theorem sV: ∀ (k:Nat) (y:PV) (c:Bool),yn k y y=some c→c=true:=by
 intro k
 induction k with
 |zero=>
  intro y c h
  cases y<;>simp[yn,bt,toV,eU,t6] at h<;>(try exact h)<;>(try exact h.symm)
 |succ k ih=>
  intro y c h
  cases y with
  |lst a=>exact nE ih h
  |tup a=>exact nE ih h
  |_=>simp[yn,bt,toV,eU,t6] at h<;>(try exact h)<;>(try exact h.symm)
section
variable {X:Cx} {pZ:List (Addr×Obj)} {σ:St} {H:Hp} {s:Shared} {B:Addr} {O:Addr→Prop}
theorem pQ (h1:bt y=true) (h2:bt z=true) (r1:Rep B O H y x) (r2:Rep B O H z x') (q1:RelV x u) (q2:RelV x' v):SeqAt.EqAt A s u v (t6 (toV y) (toV z)):=by
 rw[gf r1 h1] at q1
 rw[gf r2 h2] at q2
 exact A1 q1 q2 h1 h2
theorem Ea (I:Inv X pZ σ H s) (hB:O B): ∀ (k:Nat) (A:Around) (y z:PV) (x x':V) (u v:Value) (c:Bool),Rep B O H y x→Rep B O H z x'→RelV x u→RelV x' v→yn k y z=some c→A.units+k < cLine→SeqAt.EqAt A s u v c:=by
 intro k
 induction k with
 |zero=>
  intro A y z x x' u v c r1 r2 q1 q2 e hu
  have f:bt y=true∧bt z=true:=by
   unfold yn at e
   by_cases h:(bt y&&bt z)=true
   ·simpa using h
   ·cases y<;>cases z<;>simp_all [bt,toV,eU]
  rw[nG f.1 f.2] at e
  cases e
  exact pQ f.1 f.2 r1 r2 q1 q2
 |succ k ih=>
  intro A y z x x' u v c r1 r2 q1 q2 e hu
  have d9:A.units < cLine:=by lia
  have hu1:A.in1.units+k < cLine:=by show A.units+1+k < cLine;lia
  by_cases f:bt y=true∧bt z=true
  ·rw[nG f.1 f.2] at e
   cases e
   exact pQ f.1 f.2 r1 r2 q1 q2
  cases r1 with
  | @lst p xs l hO h hl hr=>
   cases q1
   obtain⟨aC,v1,p1,_⟩:=I.list (cV.of (K:=X.K) h)
   cases r2 with
   | @lst p' xs' l' hO' h' hl' hr'=>
    cases q2
    by_cases pe:p=p'
    ·subst pe
     have e1:=Rep.uniq hB (.lst hO h hl hr) (.lst hO' h' hl' hr')
     rw[e1] at e
     rw[sV _ _ _ e]
     exact .same _
    ·obtain⟨bQ,v2,p2,_⟩:=I.list (cV.of (K:=X.K) h')
     obtain⟨g,hg,hc⟩:=nF e
     refine .of_refs pe ?_
     have e1:aC.toArray.size=l.length:=by rw[KC,←v1.length,hl]
     have e2:bQ.toArray.size=l'.length:=by rw[KC,←v2.length,hl']
     by_cases hs:l.length=l'.length
     ·have hh:=SeqAt.RcAt.lists (A:=A) (e:=g) p1.isList p2.isList (by rw[e1,e2,hs]) d9 (fun j h1 h2=>?_)
      ·rw[hc,←hs,Nat.min_self,beq_self_eq_true,Bool.and_true,←e1];exact hh
      ·have j1:j < l.length:=e1▸h1
       have j2:j < l'.length:=e2▸h2
       obtain⟨u1,a1,a2⟩:=v1.get (i:=j) (x:=xs[j]) (Ku _)
       obtain⟨u2,b1,b2⟩:=v2.get (i:=j) (x:=xs'[j]) (Ku _)
       have a3:aC.toArray[j]=u1:=by
        have:=(KD.mp a1).2
        simpa using this
       have b3:bQ.toArray[j]=u2:=by
        have:=(KD.mp b1).2
        simpa using this
       rw[a3,b3]
       exact ih A.in1 l[j] l'[j] _ _ _ _ _ (hr j _ _ (Ku j1) (Ku _)) (hr' j _ _ (Ku j2) (Ku _)) a2 b2 (hg j _ _ (Ku j1) (Ku j2)) hu1
     ·have:c=false:=by rw[hc];simp[hs]
      rw[this]
      exact SeqAt.RcAt.lists_lengths p1.isList p2.isList (by rw[e1,e2];simpa using hs) d9
   | @tup p' xs' l' hO' h' hl' hr'=>
    cases q2
    obtain⟨bQ,v2,p2,_⟩:=I.tuple (fu.of (K:=X.K) h')
    cases e
    exact .list_tuple p1.isList p2 d9
   |aU=>cases q2;cases e;exact .list_none p1.isList d9
   |bl b=>cases q2;cases e;exact .list_bool b p1.isList d9
   |int b=>obtain⟨t,rfl⟩:=q2;cases e;exact .list_int b t p1.isList d9
   |str b=>obtain⟨t,rfl⟩:=q2;cases e;exact .list_str b t p1.isList d9
   |_=>cases e
  | @tup p xs l hO h hl hr=>
   cases q1
   obtain⟨aC,v1,p1,_⟩:=I.tuple (fu.of (K:=X.K) h)
   cases r2 with
   | @tup p' xs' l' hO' h' hl' hr'=>
    cases q2
    by_cases pe:p=p'
    ·subst pe
     have e1:=Rep.uniq hB (.tup hO h hl hr) (.tup hO' h' hl' hr')
     rw[e1] at e
     rw[sV _ _ _ e]
     exact .same _
    ·obtain⟨bQ,v2,p2,_⟩:=I.tuple (fu.of (K:=X.K) h')
     obtain⟨g,hg,hc⟩:=nF e
     refine .of_refs pe ?_
     have e1:aC.toArray.size=l.length:=by rw[KC,←v1.length,hl]
     have e2:bQ.toArray.size=l'.length:=by rw[KC,←v2.length,hl']
     have hh:=SeqAt.RcAt.tuples (A:=A) (e:=g) p1 p2 d9 (fun j h1 h2=>?_)
     ·rw[hc,←e1,←e2];exact hh
     ·have j1:j < l.length:=e1▸h1
      have j2:j < l'.length:=e2▸h2
      obtain⟨u1,a1,a2⟩:=v1.get (i:=j) (x:=xs[j]) (Ku _)
      obtain⟨u2,b1,b2⟩:=v2.get (i:=j) (x:=xs'[j]) (Ku _)
      have a3:aC.toArray[j]=u1:=by
       have:=(KD.mp a1).2
       simpa using this
      have b3:bQ.toArray[j]=u2:=by
       have:=(KD.mp b1).2
       simpa using this
      rw[a3,b3]
      exact ih A.in1 l[j] l'[j] _ _ _ _ _ (hr j _ _ (Ku j1) (Ku _)) (hr' j _ _ (Ku j2) (Ku _)) a2 b2 (hg j _ _ (Ku j1) (Ku j2)) hu1
   | @lst p' xs' l' hO' h' hl' hr'=>
    cases q2
    obtain⟨bQ,v2,p2,_⟩:=I.list (cV.of (K:=X.K) h')
    cases e
    exact .tuple_list p1 p2.isList d9
   |aU=>cases q2;cases e;exact .tuple_none p1 d9
   |bl b=>cases q2;cases e;exact .tuple_bool b p1 d9
   |int b=>obtain⟨t,rfl⟩:=q2;cases e;exact .tuple_int b t p1 d9
   |str b=>obtain⟨t,rfl⟩:=q2;cases e;exact .tuple_str b t p1 d9
   |_=>cases e
  |aU=>
   cases r2 with
   |lst a h' b c=>cases q1;cases q2;obtain⟨bQ,v2,p2,_⟩:=I.list (cV.of (K:=X.K) h');cases e;exact .none_list p2.isList d9
   |tup a h' b c=>cases q1;cases q2;obtain⟨bQ,v2,p2,_⟩:=I.tuple (fu.of (K:=X.K) h');cases e;exact .none_tuple p2 d9
   |_=>first|exact absurd ⟨rfl,rfl⟩ f|cases e
  |bl b=>
   cases r2 with
   |lst a h' _ c=>cases q1;cases q2;obtain⟨bQ,v2,p2,_⟩:=I.list (cV.of (K:=X.K) h');cases e;exact .bool_list b p2.isList d9
   |tup a h' _ c=>cases q1;cases q2;obtain⟨bQ,v2,p2,_⟩:=I.tuple (fu.of (K:=X.K) h');cases e;exact .bool_tuple b p2 d9
   |_=>first|exact absurd ⟨rfl,rfl⟩ f|cases e
  |int b=>
   cases r2 with
   |lst a h' _ c=>obtain⟨t,rfl⟩:=q1;cases q2;obtain⟨bQ,v2,p2,_⟩:=I.list (cV.of (K:=X.K) h');cases e;exact .int_list b t p2.isList d9
   |tup a h' _ c=>obtain⟨t,rfl⟩:=q1;cases q2;obtain⟨bQ,v2,p2,_⟩:=I.tuple (fu.of (K:=X.K) h');cases e;exact .int_tuple b t p2 d9
   |_=>first|exact absurd ⟨rfl,rfl⟩ f|cases e
  |str b=>
   cases r2 with
   |lst a h' _ c=>obtain⟨t,rfl⟩:=q1;cases q2;obtain⟨bQ,v2,p2,_⟩:=I.list (cV.of (K:=X.K) h');cases e;exact .str_list b t p2.isList d9
   |tup a h' _ c=>obtain⟨t,rfl⟩:=q1;cases q2;obtain⟨bQ,v2,p2,_⟩:=I.tuple (fu.of (K:=X.K) h');cases e;exact .str_tuple b t p2 d9
   |_=>first|exact absurd ⟨rfl,rfl⟩ f|cases e
  |_=>cases z<;>cases e
end
end
section
variable {φ:eF}
section
variable {X:Cx}
theorem Ck (f1:eU y=true) (f2:eU z=true) (q1:RelV y u) (q2:RelV z v):SeqAt.RcAt A s u v (t6 y z)∧SeqAt.RcNeAt A s u v (!t6 y z):=by
 cases y with
 |aU=>
  cases q1
  cases z with
  |aU=>cases q2;exact⟨.none_none,.none_none⟩
  |bl b=>cases q2;exact⟨.none_bool b,.none_bool b⟩
  |int b=>obtain⟨t,rfl⟩:=q2;exact⟨.none_int b t,.none_int b t⟩
  |str b=>obtain⟨t,rfl⟩:=q2;exact⟨.none_str b t,.none_str b t⟩
  |_=>cases f2
 |bl a=>
  cases q1
  cases z with
  |aU=>cases q2;exact⟨.bool_none a,.bool_none a⟩
  |bl b=>cases q2;exact⟨.bool_bool a b,.bool_bool a b⟩
  |int b=>obtain⟨t,rfl⟩:=q2;exact⟨.bool_int a b t,.bool_int a b t⟩
  |str b=>obtain⟨t,rfl⟩:=q2;exact⟨.bool_str a b t,.bool_str a b t⟩
  |_=>cases f2
 |int a=>
  obtain⟨t',rfl⟩:=q1
  cases z with
  |aU=>cases q2;exact⟨.int_none a t',.int_none a t'⟩
  |bl b=>cases q2;exact⟨.int_bool a t' b,.int_bool a t' b⟩
  |int b=>obtain⟨t,rfl⟩:=q2;exact⟨.int_int a t' b t,.int_int a t' b t⟩
  |str b=>obtain⟨t,rfl⟩:=q2;exact⟨.int_str a t' b t,.int_str a t' b t⟩
  |_=>cases f2
 |str a=>
  obtain⟨t',rfl⟩:=q1
  cases z with
  |aU=>cases q2;exact⟨.str_none a t',.str_none a t'⟩
  |bl b=>cases q2;exact⟨.str_bool a t' b,.str_bool a t' b⟩
  |int b=>obtain⟨t,rfl⟩:=q2;exact⟨.str_int a t' b t,.str_int a t' b t⟩
  |str b=>obtain⟨t,rfl⟩:=q2;exact⟨.str_str a t' b t,.str_str a t' b t⟩
  |_=>cases f2
 |_=>cases f1
theorem DO (I:Inv X pZ σ H s) (hB:O B) (k:Nat) (A:Around) (y z:PV) (x x':V) (u v:Value) (c:Bool)
  (r1:Rep B O H y x) (r2:Rep B O H z x') (q1:RelV x u) (q2:RelV x' v) (e:yn (k+1) y z=some c) (hu:A.units+(k+1) < cLine):SeqAt.RcAt A s u v c∧SeqAt.RcNeAt A s u v (!c):=by
 have d9:A.units < cLine:=by lia
 have hu1:A.in1.units+k < cLine:=by show A.units+1+k < cLine;lia
 by_cases f:bt y=true∧bt z=true
 ·rw[nG f.1 f.2] at e
  cases e
  rw[gf r1 f.1] at q1
  rw[gf r2 f.2] at q2
  exact Ck f.1 f.2 q1 q2
 cases r1 with
 | @lst p xs l hO h hl hr=>
  cases q1
  obtain⟨aC,v1,p1,_⟩:=I.list (cV.of (K:=X.K) h)
  cases r2 with
  | @lst p' xs' l' hO' h' hl' hr'=>
   cases q2
   obtain⟨bQ,v2,p2,_⟩:=I.list (cV.of (K:=X.K) h')
   obtain⟨g,hg,hc⟩:=nF e
   have e1:aC.toArray.size=l.length:=by rw[KC,←v1.length,hl]
   have e2:bQ.toArray.size=l'.length:=by rw[KC,←v2.length,hl']
   by_cases hs:l.length=l'.length
   ·have he: ∀ j (h1:j < aC.toArray.size) (h2:j < bQ.toArray.size),SeqAt.EqAt A.in1 s aC.toArray[j] bQ.toArray[j] (g j):=fun j h1 h2=>by
     have j1:j < l.length:=e1▸h1
     have j2:j < l'.length:=e2▸h2
     obtain⟨u1,a1,a2⟩:=v1.get (i:=j) (x:=xs[j]) (Ku _)
     obtain⟨u2,b1,b2⟩:=v2.get (i:=j) (x:=xs'[j]) (Ku _)
     have a3:aC.toArray[j]=u1:=by
      have:=(KD.mp a1).2
      simpa using this
     have b3:bQ.toArray[j]=u2:=by
      have:=(KD.mp b1).2
      simpa using this
     rw[a3,b3]
     exact Ea I hB k A.in1 l[j] l'[j] _ _ _ _ _ (hr j _ _ (Ku j1) (Ku _)) (hr' j _ _ (Ku j2) (Ku _)) a2 b2 (hg j _ _ (Ku j1) (Ku j2)) hu1
    have h1:=SeqAt.RcAt.lists (A:=A) (e:=g) p1.isList p2.isList (by rw[e1,e2,hs]) d9 he
    have h2:=SeqAt.RcNeAt.lists (A:=A) (e:=g) p1.isList p2.isList (by rw[e1,e2,hs]) d9 he
    rw[hc,←hs,Nat.min_self,beq_self_eq_true,Bool.and_true,←e1];exact⟨h1,h2⟩
   ·have:c=false:=by rw[hc];simp[hs]
    rw[this]
    exact⟨SeqAt.RcAt.lists_lengths p1.isList p2.isList (by rw[e1,e2];simpa using hs) d9,SeqAt.RcNeAt.lists_lengths p1.isList p2.isList (by rw[e1,e2];simpa using hs) d9⟩
  | @tup p' xs' l' hO' h' hl' hr'=>
   cases q2
   obtain⟨bQ,v2,p2,_⟩:=I.tuple (fu.of (K:=X.K) h')
   cases e
   exact⟨.list_tuple p1.isList p2 d9,.list_tuple p1.isList p2 d9⟩
  |aU=>cases q2;cases e;exact⟨.list_none p1.isList d9,.list_none p1.isList d9⟩
  |bl b=>cases q2;cases e;exact⟨.list_bool b p1.isList d9,.list_bool b p1.isList d9⟩
  |int b=>obtain⟨t,rfl⟩:=q2;cases e;exact⟨.list_int b t p1.isList d9,.list_int b t p1.isList d9⟩
  |str b=>obtain⟨t,rfl⟩:=q2;cases e;exact⟨.list_str b t p1.isList d9,.list_str b t p1.isList d9⟩
  |_=>cases e
 | @tup p xs l hO h hl hr=>
  cases q1
  obtain⟨aC,v1,p1,_⟩:=I.tuple (fu.of (K:=X.K) h)
  cases r2 with
  | @tup p' xs' l' hO' h' hl' hr'=>
   cases q2
   obtain⟨bQ,v2,p2,_⟩:=I.tuple (fu.of (K:=X.K) h')
   obtain⟨g,hg,hc⟩:=nF e
   have e1:aC.toArray.size=l.length:=by rw[KC,←v1.length,hl]
   have e2:bQ.toArray.size=l'.length:=by rw[KC,←v2.length,hl']
   have he: ∀ j (h1:j < aC.toArray.size) (h2:j < bQ.toArray.size),SeqAt.EqAt A.in1 s aC.toArray[j] bQ.toArray[j] (g j):=fun j h1 h2=>by
    have j1:j < l.length:=e1▸h1
    have j2:j < l'.length:=e2▸h2
    obtain⟨u1,a1,a2⟩:=v1.get (i:=j) (x:=xs[j]) (Ku _)
    obtain⟨u2,b1,b2⟩:=v2.get (i:=j) (x:=xs'[j]) (Ku _)
    have a3:aC.toArray[j]=u1:=by
     have:=(KD.mp a1).2
     simpa using this
    have b3:bQ.toArray[j]=u2:=by
     have:=(KD.mp b1).2
     simpa using this
    rw[a3,b3]
    exact Ea I hB k A.in1 l[j] l'[j] _ _ _ _ _ (hr j _ _ (Ku j1) (Ku _)) (hr' j _ _ (Ku j2) (Ku _)) a2 b2 (hg j _ _ (Ku j1) (Ku j2)) hu1
   have h1:=SeqAt.RcAt.tuples (A:=A) (e:=g) p1 p2 d9 he
   have h2:=SeqAt.RcNeAt.tuples (A:=A) (e:=g) p1 p2 d9 he
   rw[hc,←e1,←e2];exact⟨h1,h2⟩
  | @lst p' xs' l' hO' h' hl' hr'=>
   cases q2
   obtain⟨bQ,v2,p2,_⟩:=I.list (cV.of (K:=X.K) h')
   cases e
   exact⟨.tuple_list p1 p2.isList d9,.tuple_list p1 p2.isList d9⟩
  |aU=>cases q2;cases e;exact⟨.tuple_none p1 d9,.tuple_none p1 d9⟩
  |bl b=>cases q2;cases e;exact⟨.tuple_bool b p1 d9,.tuple_bool b p1 d9⟩
  |int b=>obtain⟨t,rfl⟩:=q2;cases e;exact⟨.tuple_int b t p1 d9,.tuple_int b t p1 d9⟩
  |str b=>obtain⟨t,rfl⟩:=q2;cases e;exact⟨.tuple_str b t p1 d9,.tuple_str b t p1 d9⟩
  |_=>cases e
 |aU=>
  cases r2 with
  |lst a h' b c=>cases q1;cases q2;obtain⟨bQ,v2,p2,_⟩:=I.list (cV.of (K:=X.K) h');cases e;exact⟨.none_list p2.isList d9,.none_list p2.isList d9⟩
  |tup a h' b c=>cases q1;cases q2;obtain⟨bQ,v2,p2,_⟩:=I.tuple (fu.of (K:=X.K) h');cases e;exact⟨.none_tuple p2 d9,.none_tuple p2 d9⟩
  |_=>first|exact absurd ⟨rfl,rfl⟩ f|cases e
 |bl b=>
  cases r2 with
  |lst a h' _ c=>cases q1;cases q2;obtain⟨bQ,v2,p2,_⟩:=I.list (cV.of (K:=X.K) h');cases e;exact⟨.bool_list b p2.isList d9,.bool_list b p2.isList d9⟩
  |tup a h' _ c=>cases q1;cases q2;obtain⟨bQ,v2,p2,_⟩:=I.tuple (fu.of (K:=X.K) h');cases e;exact⟨.bool_tuple b p2 d9,.bool_tuple b p2 d9⟩
  |_=>first|exact absurd ⟨rfl,rfl⟩ f|cases e
 |int b=>
  cases r2 with
  |lst a h' _ c=>obtain⟨t,rfl⟩:=q1;cases q2;obtain⟨bQ,v2,p2,_⟩:=I.list (cV.of (K:=X.K) h');cases e;exact⟨.int_list b t p2.isList d9,.int_list b t p2.isList d9⟩
  |tup a h' _ c=>obtain⟨t,rfl⟩:=q1;cases q2;obtain⟨bQ,v2,p2,_⟩:=I.tuple (fu.of (K:=X.K) h');cases e;exact⟨.int_tuple b t p2 d9,.int_tuple b t p2 d9⟩
  |_=>first|exact absurd ⟨rfl,rfl⟩ f|cases e
 |str b=>
  cases r2 with
  |lst a h' _ c=>obtain⟨t,rfl⟩:=q1;cases q2;obtain⟨bQ,v2,p2,_⟩:=I.list (cV.of (K:=X.K) h');cases e;exact⟨.str_list b t p2.isList d9,.str_list b t p2.isList d9⟩
  |tup a h' _ c=>obtain⟨t,rfl⟩:=q1;cases q2;obtain⟨bQ,v2,p2,_⟩:=I.tuple (fu.of (K:=X.K) h');cases e;exact⟨.str_tuple b t p2 d9,.str_tuple b t p2 d9⟩
  |_=>first|exact absurd ⟨rfl,rfl⟩ f|cases e
 |_=>cases z<;>cases e
def EO (neg:Bool):R2:=fun x y H Q=> ∃ (B:Addr) (O:Addr→Prop) (a b:PV) (c:Bool),O B∧Rep B O H a x∧Rep B O H b y∧yn 20 a b=some c∧Q (.bl (xor neg c)) H
theorem eL (hU:X.A.units+64 < cLine):fw X (compareOp .Eq) (EO false):=by
 intro pZ s σ H x y v u Q I rx ry h
 obtain⟨B,O,a,b,c,hB,r1,r2,e,q⟩:=h
 exact(DO I hB 19 X.A a b x y v u c r1 r2 rx ry e (by lia)).1 _ _ _ _ (iU I q (by cases c<;>rfl))
theorem uI (hU:X.A.units+64 < cLine):fw X (compareOp .NotEq) (EO true):=by
 intro pZ s σ H x y v u Q I rx ry h
 obtain⟨B,O,a,b,c,hB,r1,r2,e,q⟩:=h
 exact(DO I hB 19 X.A a b x y v u c r1 r2 rx ry e (by lia)).2 _ _ _ _ (iU I q (by cases c<;>rfl))
end
def gs (neg:Bool) (y z:PV):M PV:=(M.ft (yn 20 y z)).bind fun c=>.ret (.bl (xor neg c))
theorem fq (neg:Bool):lK (EO neg) (gs neg):=fun φ G O H n R Q y z x x' pr dm ok r1 r2 w q=>by
 unfold gs at w
 cases e:yn 20 y z with
 |none=>rw[e] at w;exact w.elim
 |some c=>rw[e] at w;exact⟨G.B,G.dD,y,z,c,G.pB,r1.low pr,r2.low pr,e,q.sc ok (.bl _) w⟩
def CS (C:Int→Int→Prop) [∀ i j,Decidable (C i j)] (f:Int→Int→PV):PV→PV→M PV
 | .int i,.int j=>if C i j then .ret (f i j) else .fail
 |_,_=>.fail
theorem E9 [∀ i j,Decidable (C i j)] (hf: ∀ B O H i j,Rep B O H (f i j) (g i j)):lK (rI C g) (CS C f):=fun φ G O H n R Q y z x x' pr dm ok r1 r2 w q=>by
 cases y<;>cases z<;>first|exact w.elim|skip
 rename_i i j
 rw[r1.cZ,r2.cZ]
 unfold CS at w
 dsimp only at w
 by_cases hc:C i j
 ·rw[Lq hc] at w;exact⟨i,j,rfl,rfl,hc,q.sc ok (hf _ _ _ _ _) w⟩
 ·rw[Lr hc] at w;exact w.elim
def Fh (f:Int→Int→Bool):PV→PV→M PV
 | .int i,.int j=>.ret (.bl (f i j))
 |_,_=>.fail
theorem vN:lK (vF fun i j=>.bl (f i j)) (Fh f):=fun φ G O H n R Q y z x x' pr dm ok r1 r2 w q=>by
 cases y<;>cases z<;>first|exact w.elim|skip
 rename_i i j
 rw[r1.cZ,r2.cZ]
 exact⟨i,j,rfl,rfl,q.sc ok (.bl _) w⟩
def xE:=Fh fun i j=>decide (i < j)
def J5:=Fh fun i j=>decide (j≤i)
theorem se:lK (vF fun i j=>.bl (decide (i < j))) xE:=vN
theorem Hg:lK (vF fun i j=>.bl (decide (j≤i))) J5:=vN
def qd:PV→PV→M PV
 | .int i,.int j=>.ret (.int (i - j))
 |_,_=>.fail
theorem uG:lK (vF fun i j=>.int (i - j)) qd:=fun φ G O H n R Q y z x x' pr dm ok r1 r2 w q=>by
 cases y<;>cases z<;>first|exact w.elim|skip
 rename_i i j
 rw[r1.cZ,r2.cZ]
 exact⟨i,j,rfl,rfl,q.sc ok (.int _) w⟩
instance (i j:Int):Decidable (ly i j):=by unfold ly;infer_instance
instance (i j:Int):Decidable (Ip i j):=by unfold Ip;infer_instance
instance (i j:Int):Decidable (Gf i j):=by unfold Gf;infer_instance
def xD:=CS (fun _ j=>0 < j) fun i j=>.int (i % j)
theorem Fc:lK (rI (fun _ j=>0 < j) fun i j=>.int (i % j)) xD:=E9 fun _ _ _ _ _=>.int _
noncomputable def DV (K:Frag):R2:=fun x y H Q=>(vF fun i j=>.int (i+j)) x y H Q∨(∃ i j,x= .str i∧y= .str j∧i.length+j.length≤sizeLine∧Q (.str (i++j)) H)∨ER x y H Q∨DU K x y H Q∨
 (∃ a b ys,x= .ref a∧y= .ref b∧H a=some (.tup [])∧H b=some (.tup ys)∧Q (.ref b) H)
theorem zY:fw X (binaryOp .Add) (fun x y H Q=> ∃ a b ys,x= .ref a∧y= .ref b∧H a=some (.tup [])∧H b=some (.tup ys)∧Q (.ref b) H):=by
 intro pZ s σ H x y v u Q I rx ry h
 obtain⟨a,b,ys,rfl,rfl,ha,hb,q⟩:=h
 cases rx
 cases ry
 obtain⟨aC,r1,p1,_⟩:=I.tuple (fu.of (K:=X.K) ha)
 obtain⟨m8,r2,p2,_⟩:=I.tuple (fu.of (K:=X.K) hb)
 cases r1
 obtain⟨⟨cls,dd,data,sl⟩,ho,hc,n,hd⟩:=id p1
 obtain⟨⟨cls2,dd2,data2,sl2⟩,ho2,hc2,n2,hd2⟩:=id p2
 simp only at hc hd hc2 hd2
 subst hc hd hc2 hd2
 exact concat_meets ⟨_,ho,rfl⟩ ⟨_,ho2,rfl⟩ noFill_tuple_add seq_tuple_add PySem.F.slot_tuple_add PySem.F.entry_tuple_add (PySem.F.args_tuple_add_2 _ _)
   (tuple_addW0 a b _ m8.toArray n n2 dd dd2 sl sl2 rfl) ⟨ho,ho2,⟨.ref b,H,I,rfl,q⟩⟩
theorem dW:fw X (binaryOp .Add) (DV X.K):=ig.or (uJ.or (zZ.or (CN.or zY)))
noncomputable def dJ:PV→PV→M PV
 | .int i,.int j=>.ret (.int (i+j))
 | .str i,.str j=>if i.length+j.length≤100000 then .ret (.str (i++j)) else .fail
 | .lst a,.lst b=>if a.length+b.length≤100000 then .ret (.lst (a++b)) else .fail
 | .tup a,.tup b=>if a.length+b.length≤100000 then .ret (.tup (a++b)) else .fail
 |_,_=>.fail
theorem fA {K:Frag}:lK (DV K) dJ:=fun φ G O H n R Q y z x x' pr dm ok r1 r2 w q=>by
 have hB:O G.B:=pr _ G.pB
 cases y<;>cases z<;>first|exact w.elim|skip
 ·rename_i i j
  rw[r1.cZ,r2.cZ]
  exact .inl ⟨i,j,rfl,rfl,q.sc ok (.int _) w⟩
 ·rename_i i j
  rw[r1.gv,r2.gv]
  unfold dJ at w
  dsimp only at w
  by_cases hc:i.length+j.length≤100000
  ·rw[Lq hc] at w;exact .inr (.inl ⟨i,j,rfl,rfl,KZ hc fE,q.sc ok (.str _) w⟩)
  ·rw[Lr hc] at w;exact w.elim
 ·rename_i i j
  obtain⟨a,xs,rfl,h1,e1⟩:=r1.jt
  obtain⟨b,ys,rfl,h2,e2⟩:=r2.jt
  unfold dJ at w
  dsimp only at w
  by_cases hc:i.length+j.length≤100000
  ·rw[Lq hc] at w
   by_cases hn:i=[]
   ·subst hn
    rw[e1.nil_inv] at h1
    cases r2 with
    |full r2=>exact .inr (.inr (.inr (.inr ⟨a,b,ys,rfl,rfl,h1,h2,q.sc ok r2 w⟩)))
   ·refine .inr (.inr (.inr (.inl ⟨a,b,xs,ys,rfl,rfl,fu.of h1,fu.of h2,fun z=>hn ?_,KZ (by rw[←e1.1,←e2.1];exact hc) fE,fun hz=>?_,fun _ p hp=>q.tup ok dm hp hB (e1.append e2) w⟩)))
    ·subst z;exact Lg e1.1
    ·subst hz
     have:j=[]:=Lg e2.1
     subst this
     rw[List.append_nil] at w
     cases r1 with
     |full r1=>exact q.sc ok r1 w
  ·rw[Lr hc] at w;exact w.elim
 ·rename_i i j
  obtain⟨a,xs,rfl,h1,e1⟩:=r1.fR
  obtain⟨b,ys,rfl,h2,e2⟩:=r2.fR
  unfold dJ at w
  dsimp only at w
  by_cases hc:i.length+j.length≤100000
  ·rw[Lq hc] at w
   exact .inr (.inr (.inl ⟨a,b,xs,ys,rfl,rfl,h1,h2,KZ (by rw[←e1.1,←e2.1];exact hc) fE,fun p hp=>q.lst ok dm hp hB (e1.append e2) w⟩))
  ·rw[Lr hc] at w;exact w.elim
def kI (i:Str) (k:Int):Str:=⟨(List.replicate k.toNat i.cps).foldl (· ++ ·) #[]⟩
def DR:R2:=fun x y H Q=> ∃ i k,x= .str i∧y= .int k∧(1 < k∧k < 1000∧0 < i.length∧i.length < 1000∧(kI i k).length≤100000)∧Q (.str (kI i k)) H
def zt:R2:=fun x y H Q=>rI ly (fun i j=>.int (i * j)) x y H Q∨DR x y H Q∨G3 x y H Q
theorem CK:fw X (binaryOp .Mult) DR:=by
 intro pZ s σ H x y v u Q I rx ry h
 obtain⟨i,k,rfl,rfl,⟨h1,h2,h3,h4,h5⟩,q⟩:=h
 obtain⟨t,rfl⟩:=rx
 obtain⟨t',rfl⟩:=ry
 have e1: ¬ k < -(2 ^ 63:Int):=by
  have:(2:Int) ^ 63=9223372036854775808:=by decide
  lia
 have e2: ¬ k ≥ 2 ^ 63:=by
  have:(2:Int) ^ 63=9223372036854775808:=by decide
  lia
 have hz:(i.length * k.toNat)≤1000000:=KZ (Nat.mul_le_mul (Nat.le_of_lt h4) (by lia:k.toNat≤1000)) (by decide)
 have dO:(k==1||i.length==0)=false:=by
  simp only[Bool.or_eq_false_iff,beq_eq_false_iff_ne]
  exact⟨by lia,by lia⟩
 refine PySem.P.mul_str (by rw[K3 e1,K3 e2];rfl) (fun _ _ hgt=>?_) (fun _ _=>?_) ?_
 ·have:(i.length:Int)≤(2 ^ 63 - 1) / k:=by
   rw[Int.le_ediv_iff_mul_le (by lia)]
   have:(i.length:Int) * k≤1000 * 1000:=Int.mul_le_mul (by lia) (by lia) (by lia) (by lia)
   have e:(2:Int) ^ 63 - 1=9223372036854775807:=by decide
   lia
  lia
 ·have hs:sizeLine=16777216:=Lh
  show decide (i.length * k.toNat > sizeLine)=false
  exact K3 (by lia)
 ·rw[Lr (by lia),Lr (by rw[dO];simp)]
  exact⟨KZ h5 fE,⟨.str (kI i k),H,I.tok _,⟨_,rfl⟩,q⟩⟩
theorem CL:fw X (binaryOp .Mult) zt:=kO.or (CK.or Fd)
noncomputable def xA:PV→PV→M PV
 | .int i,.int j=>if ly i j then .ret (.int (i * j)) else .fail
 | .str i,.int k=>if 1 < k∧k < 1000∧0 < i.length∧i.length < 1000∧(kI i k).length≤100000 then .ret (.str (kI i k)) else .fail
 | .lst l,.int k=>if -1000 < k∧k < 1000∧l.length * k.toNat≤100000 then .ret (.lst (List.replicate k.toNat l).flatten) else .fail
 |_,_=>.fail
theorem aR.rep (h:aR B O H l xs): ∀ k:Nat,aR B O H (List.replicate k l).flatten (List.replicate k xs).flatten
 |0=>.nil
 |k+1=>by rw[List.replicate_succ,List.replicate_succ,List.flatten_cons,List.flatten_cons];exact h.append (aR.rep h k)
theorem Fb:lK zt xA:=fun φ G O H n R Q y z x x' pr dm ok r1 r2 w q=>by
 have hB:O G.B:=pr _ G.pB
 cases y<;>cases z<;>first|exact w.elim|skip
 ·rename_i i j
  rw[r1.cZ,r2.cZ]
  unfold xA at w
  dsimp only at w
  by_cases hc:ly i j
  ·rw[Lq hc] at w;exact .inl ⟨i,j,rfl,rfl,hc,q.sc ok (.int _) w⟩
  ·rw[Lr hc] at w;exact w.elim
 ·rename_i i k
  rw[r1.gv,r2.cZ]
  unfold xA at w
  dsimp only at w
  by_cases hc:1 < k∧k < 1000∧0 < i.length∧i.length < 1000∧(kI i k).length≤100000
  ·rw[Lq hc] at w;exact .inr (.inl ⟨i,k,rfl,rfl,hc,q.sc ok (.str _) w⟩)
  ·rw[Lr hc] at w;exact w.elim
 ·rename_i l k
  obtain⟨a,xs,rfl,h1,e1⟩:=r1.fR
  rw[r2.cZ]
  unfold xA at w
  dsimp only at w
  by_cases hc: -1000 < k∧k < 1000∧l.length * k.toNat≤100000
  ·rw[Lq hc] at w
   have e:(2:Int) ^ 63=9223372036854775808:=by decide
   exact .inr (.inr ⟨a,k,xs,rfl,rfl,h1,by lia,by lia,KZ (by rw[←e1.1];exact hc.2.2) fE,fun p hp=>q.lst ok dm hp hB (e1.rep _) w⟩)
  ·rw[Lr hc] at w;exact w.elim
theorem cQ.nv {G:Bg φ}: ∀ {l:List PV} {xs:List V},aR G.B O H l xs→l.all bt=true→xs=l.map toV
 |[],xs,h,_=>h.nil_inv
 |y::l,xs,h,f=>by
  obtain⟨x,r,rfl,h1,h2⟩:=h.cons_inv
  rw[List.all_cons,Lf] at f
  rw[KI,gf h1 f.1,cQ.nv h2 f.2]
def EN (K:Frag) (neg:Bool):R2:=fun x y H Q=>Jk K neg x y H Q∨∃ i j,x= .str i∧y= .str j∧Q (.bl (xor neg (!(Builtin.Str.occurrences j i 0 j.length 1).isEmpty))) H
theorem zX:fw X (compareOp .In) (EN X.K false):=by
 intro pZ s σ H x y v u Q I rx ry h
 rcases h with h|⟨i,j,h1,h2,q⟩
 ·exact xw pZ s σ H x y v u Q I rx ry h
 ·exact xu pZ s σ H x y v u Q I rx ry ⟨i,j,h1,h2,by simpa using q⟩
theorem jb:fw X (compareOp .NotIn) (EN X.K true):=by
 intro pZ s σ H x y v u Q I rx ry h
 rcases h with h|⟨i,j,h1,h2,q⟩
 ·exact qz pZ s σ H x y v u Q I rx ry h
 ·exact qy pZ s σ H x y v u Q I rx ry ⟨i,j,h1,h2,by simpa using q⟩
def sE (y:PV) (l:List PV):Bool:=l.any fun z=>t6 (toV z) (toV y)
noncomputable def nc (neg:Bool):PV→PV→M PV
 | .str i,.str j=>.ret (.bl (xor neg (!(Builtin.Str.occurrences j i 0 j.length 1).isEmpty)))
 |y,.lst l=>if bt y&&l.all bt then .ret (.bl (xor neg (sE y l))) else .fail
 |y,.tup l=>if bt y&&l.all bt then .ret (.bl (xor neg (sE y l))) else .fail
 |_,_=>.fail
theorem v9 (y:PV) (l:List PV):ID (toV y) (l.map toV)=sE y l:=by unfold ID sE;rw[List.any_map];rfl
theorem pf {K:Frag} (neg:Bool):lK (EN K neg) (nc neg):=fun φ G O H n R Q y z x x' pr dm ok r1 r2 w q=>by
 cases z with
 |lst l=>
  have w':(if(bt y&&l.all bt)=true then M.ret (.bl (xor neg (sE y l))) else M.fail:M PV).wp n R:=by cases y<;>exact w
  by_cases hc:(bt y&&l.all bt)=true
  ·rw[Lq hc] at w'
   rw[Lf] at hc
   obtain⟨p,xs,rfl,h1,e1⟩:=r2.fR
   have e2:=cQ.nv e1 hc.2
   rw[pP r1 hc.1]
   refine .inl ⟨p,xs,rfl,.inl (cV.of h1),hc.1,?_,?_⟩
   ·rw[e2,List.all_map];exact hc.2
   ·rw[e2,v9];cases neg<;>simpa using q.sc ok (.bl _) w'
  ·rw[Lr hc] at w';exact w'.elim
 |tup l=>
  have w':(if(bt y&&l.all bt)=true then M.ret (.bl (xor neg (sE y l))) else M.fail:M PV).wp n R:=by cases y<;>exact w
  by_cases hc:(bt y&&l.all bt)=true
  ·rw[Lq hc] at w'
   rw[Lf] at hc
   obtain⟨p,xs,rfl,h1,e1⟩:=r2.jt
   have e2:=cQ.nv e1 hc.2
   rw[pP r1 hc.1]
   refine .inl ⟨p,xs,rfl,.inr (fu.of h1),hc.1,?_,?_⟩
   ·rw[e2,List.all_map];exact hc.2
   ·rw[e2,v9];cases neg<;>simpa using q.sc ok (.bl _) w'
  ·rw[Lr hc] at w';exact w'.elim
 |str j=>
  cases y<;>first|exact w.elim|skip
  rename_i i
  rw[r1.gv,r2.gv]
  exact .inr ⟨i,j,rfl,rfl,q.sc ok (.bl _) w⟩
 |_=>cases y<;>exact w.elim
def Gu:PV→Bool
 | .aU=>true
 |_=>false
def sO (neg:Bool) (y z:PV):M PV:=match z with| .aU=>.ret (.bl (xor neg (Gu y)))|_=>.fail
theorem v5 (r:cQ G O H y x):decide (x= .aU)=Gu y:=by
 cases r with
 |full h=>cases h<;>rfl
 |top _ _ _=>rfl
 |uh _ _ _=>rfl
theorem mQ:lK (fun x y H Q=>y= .aU∧Q (.bl (decide (x= .aU))) H) (sO false):=fun φ G O H n R Q y z x x' pr dm ok r1 r2 w q=>by
 cases z<;>first|exact w.elim|skip
 have w':R (.bl (xor false (Gu y))) n:=w
 exact⟨r2.DY,q.sc ok (y:=.bl (Gu y)) (by rw[v5 r1];exact .bl _) (by simpa using w')⟩
theorem lY:lK (fun x y H Q=>y= .aU∧Q (.bl (!decide (x= .aU))) H) (sO true):=fun φ G O H n R Q y z x x' pr dm ok r1 r2 w q=>by
 cases z<;>first|exact w.elim|skip
 refine⟨r2.DY,q.sc ok (y:=.bl (!Gu y)) (by rw[v5 r1];exact .bl _) ?_⟩
 have w':R (.bl (xor true (Gu y))) n:=w
 simpa using w'
def Ki (i j:Str):Bool:=!decide (j.cps.toList < i.cps.toList)
def G4:R2:=fun x y H Q=>(vF fun i j=>.bl (decide (i≤j))) x y H Q∨∃ i j,x= .str i∧y= .str j∧Q (.bl (!decide (j.cps.toList < i.cps.toList))) H
theorem jH:fw X (compareOp .LtE) G4:=Hh.or xt
def gp:PV→PV→M PV
 | .int i,.int j=>.ret (.bl (decide (i≤j)))
 | .str i,.str j=>.ret (.bl (Ki i j))
 |_,_=>.fail
theorem jF:lK G4 gp:=fun φ G O H n R Q y z x x' pr dm ok r1 r2 w q=>by
 cases y<;>cases z<;>first|exact w.elim|skip
 ·rename_i i j
  rw[r1.cZ,r2.cZ]
  exact .inl ⟨i,j,rfl,rfl,q.sc ok (.bl _) w⟩
 ·rename_i i j
  rw[r1.gv,r2.gv]
  exact .inr ⟨i,j,rfl,rfl,q.sc ok (.bl _) w⟩
theorem tP (h:aR B O H l xs) (e:ji l i=some y): ∃ x,ji xs i=some x∧Rep B O H y x:=by
 unfold ji at e ⊢
 rw[←h.1]
 cases q:qM l.length i with
 |none=>rw[q] at e;cases e
 |some j=>rw[q] at e;exact h.at e
noncomputable def aI:PV→PV→M PV
 | .lst l,.int i=>.ft (ji l i)
 | .tup l,.int i=>.ft (ji l i)
 | .str z,.int i=>if z.length≤100000 then(M.ft (ji z.cps.toList i)).bind fun c=>.ret (.str ⟨#[c]⟩) else .fail
 |_,_=>.fail
theorem aH {K:Frag}:lK (JX K) aI:=fun φ G O H n R Q y z x x' pr dm ok r1 r2 w q=>by
 cases y<;>cases z<;>first|exact w.elim|skip
 ·rename_i s i
  rw[r1.gv,r2.cZ]
  unfold aI at w
  dsimp only at w
  by_cases hc:s.length≤100000
  ·rw[Lq hc] at w
   cases e:ji s.cps.toList i with
   |none=>rw[e] at w;exact w.elim
   |some c=>rw[e] at w;exact .inr (.inr ⟨s,i,c,rfl,rfl,KZ hc fE,e,q.sc ok (.str _) w⟩)
  ·rw[Lr hc] at w;exact w.elim
 ·rename_i l i
  obtain⟨p,xs,rfl,h1,e1⟩:=r1.jt
  rw[r2.cZ]
  unfold aI at w
  dsimp only at w
  cases e:ji l i with
  |none=>rw[e] at w;exact w.elim
  |some y=>
   rw[e] at w
   obtain⟨v,a,b⟩:=tP e1 e
   exact .inr (.inl ⟨p,xs,i,v,rfl,rfl,fu.of h1,a,q.sc ok b w⟩)
 ·rename_i l i
  obtain⟨p,xs,rfl,h1,e1⟩:=r1.fR
  rw[r2.cZ]
  unfold aI at w
  dsimp only at w
  cases e:ji l i with
  |none=>rw[e] at w;exact w.elim
  |some y=>
   rw[e] at w
   obtain⟨v,a,b⟩:=tP e1 e
   exact .inl ⟨p,xs,i,v,rfl,rfl,cV.of h1,a,q.sc ok b w⟩
end
section
variable {φ:eF}
section
variable {X:Cx} {e:Expr} {es:List Expr} {me:ak→M PV} {ml:ak→M (List PV)}
theorem BA.mono (h:BA X es t) (f: ∀ σ H Q,t' σ H Q→t σ H Q):BA X es t':=⟨fun pos pZ s σ H Q I q=>h.out pos pZ s σ H Q I (f σ H Q q)⟩
def aa (me:ak→M PV) (ml:ak→M (List PV)):ak→M (List PV):=fun ρ=>(me ρ).bind fun y=>(ml ρ).bind fun l=>.ret (y::l)
theorem az:AV φ X [] (fun _=>.ret []):=BA.mono ⟨gM⟩ fun σ H Q ⟨G,O,ρ,n,R,s,w,q⟩=>q [] [] H n (Ext.refl _ _) s.ok .nil w
theorem af (h:EV φ X e me) (t:AV φ X es ml) (hs:isStar e=false:=by rfl):AV φ X (e::es) (aa me ml):=BA.mono ⟨Hf h.out t.out hs⟩ fun σ H Q cy=>by
 obtain⟨G,O,ρ,n,R,s,w,q⟩:=cy
 unfold aa at w
 rw[M.wZ] at w
 refine⟨G,O,ρ,n,_,s,w,fun y x H1 n1 e1 bP r1 w1=>?_⟩
 rw[M.wZ] at w1
 exact⟨G,O,ρ,n1,_,s.ext e1 bP,w1,fun l xs H2 n2 e2 kP r2 w2=>q (y::l) (x::xs) H2 n2 (e1.trans e2) kP (.cons (r1.ext s.B e2) r2) w2⟩
theorem fv.nil:fv G O H [] []:=⟨rfl,fun i y x a=>by simp at a⟩
theorem fv.cons {G:Bg φ} {O:Addr→Prop} {H:Hp} {y:PV} {x:V} {l:List PV} {xs:List V} (h:cQ G O H y x) (t:fv G O H l xs):fv G O H (y::l) (x::xs):=⟨by simp[t.1],fun i y' x' a b=>by
 cases i with
 |zero=>simp at a b;subst a b;exact h
 |succ i=>simp at a b;exact t.2 i y' x' a b⟩
theorem fv.nil_inv (h:fv G O H [] xs):xs=[]:=Lg h.1.symm
theorem fv.cons_inv (h:fv G O H (y::l) xs): ∃ x r,xs=x::r∧cQ G O H y x∧fv G O H l r:=by
 cases xs with
 |nil=>have:=h.1;simp at this
 |cons x r=>exact⟨x,r,rfl,h.2 0 y x rfl rfl,by simpa using h.1,fun i y' x' a b=>h.2 (i+1) y' x' (by simpa using a) (by simpa using b)⟩
theorem fv.one (h:fv G O H [y] xs): ∃ x,xs=[x]∧cQ G O H y x:=by
 obtain⟨x,r,rfl,a,b⟩:=h.cons_inv
 rw[b.nil_inv];exact⟨x,rfl,a⟩
theorem fv.two (h:fv G O H [y,z] xs): ∃ x x',xs=[x,x']∧cQ G O H y x∧cQ G O H z x':=by
 obtain⟨x,r,rfl,a,b⟩:=h.cons_inv
 obtain⟨x',rfl,c⟩:=b.one
 exact⟨x,x',rfl,a,c⟩
theorem cx:AB φ X [] (fun _=>.ret []):=BA.mono ⟨gM⟩ fun σ H Q ⟨G,O,ρ,n,R,s,w,q⟩=>q [] [] H n (Ext.refl _ _) s.ok .nil w
theorem aZ (h:EB φ X e me) (t:AB φ X es ml) (hs:isStar e=false:=by rfl):AB φ X (e::es) (aa me ml):=BA.mono ⟨Hf h.out t.out hs⟩ fun σ H Q cy=>by
 obtain⟨G,O,ρ,n,R,s,w,q⟩:=cy
 unfold aa at w
 rw[M.wZ] at w
 refine⟨G,O,ρ,n,_,s,w,fun y x H1 n1 e1 bP r1 w1=>?_⟩
 rw[M.wZ] at w1
 exact⟨G,O,ρ,n1,_,s.ext e1 bP,w1,fun l xs H2 n2 e2 kP r2 w2=>q (y::l) (x::xs) H2 n2 (e1.trans e2) kP (.cons (r1.ext s.B e2) r2) w2⟩
def aO (l:List PV):M PV:=if l.length≤100000 then .ret (.tup l) else .fail
def cf (l:List PV):M (List PV):=if l.length≤100000 then .ret l else .fail
theorem d7 (h:AV φ X es ml):EV φ X (.Tuple es k pos) (fun ρ=>(ml ρ).bind aO):=BE.mono ⟨zM h.out⟩ fun σ H Q cy=>by
 obtain⟨G,O,ρ,n,R,s,w,q⟩:=cy
 rw[M.wZ] at w
 refine⟨G,O,ρ,n,_,s,w,fun l xs H1 n1 e1 bP r1 w1=>?_⟩
 unfold aO at w1
 by_cases hc:l.length≤100000
 ·rw[Lq hc] at w1
  refine⟨KZ (by rw[←r1.1];exact hc) fE,fun p hp=>?_⟩
  have q':lj G O H1 R Q:=fun y x H' n' e o r h=>q y x H' n' (e1.trans e) o r h
  exact q'.tup bP (s.ext e1 bP).dm hp s.B r1 w1
 ·rw[Lr hc] at w1;exact w1.elim
theorem dR (h:AV φ X es ml):EF φ X (.List es pos) (fun ρ=>(ml ρ).bind cf):=BE.mono ⟨uF h.out⟩ fun σ H Q cy=>by
 obtain⟨G,O,ρ,n,R,s,w,q⟩:=cy
 rw[M.wZ] at w
 refine⟨G,O,ρ,n,_,s,w,fun l xs H1 n1 e1 bP r1 w1=>?_⟩
 unfold cf at w1
 by_cases hc:l.length≤100000
 ·rw[Lq hc] at w1
  refine⟨KZ (by rw[←r1.1];exact hc) fE,fun p hp=>?_⟩
  have e2:=Ext.new (B:=G.B) hp (.lst xs)
  refine q l p xs _ n1 (e1.trans e2) (Bg.new bP hp _) ?_ ay ((r1.grow fun q z=>by
   rcases z with z|z
   ·exact .inl z
   ·subst z;exact .inr hp).ext (.inl s.B) e2) w1
  cases hh:H p with
  |none=>rfl
  |some o=>
   by_cases pb:p=G.B
   ·subst pb;obtain⟨o',g⟩:=G.A4 _ _ _ bP G.pB;rw[hp] at g;cases g
   ·obtain⟨_,this⟩:=(e1 p o pb hh).there;rw[hp] at this;cases this
 ·rw[Lr hc] at w1;exact w1.elim
theorem gb {G:Bg φ} (e1:Ext G.B H H1) (bP:G.ok H1 n) (hp:H1 p=none):H p=none:=by
 cases hh:H p with
 |none=>rfl
 |some o=>
  by_cases pb:p=G.B
  ·subst pb;obtain⟨o',g⟩:=G.A4 _ _ _ bP G.pB;rw[hp] at g;cases g
  ·obtain⟨_,this⟩:=(e1 p o pb hh).there;rw[hp] at this;cases this
def n8 (r:List V→Hp→VK→Prop) (op:List PV→M PV):Prop:= ∀ (φ:eF) (G:Bg φ) (O:Addr→Prop) (H:Hp) (n:Nat) (R:PV→Nat→Prop) (Q:VK) (l:List PV) (xs:List V),
 (∀ p,G.dD p→O p)→(∀ p,O p→∃ o,H p=some o)→G.ok H n→fv G O H l xs→(op l).wp n R→lj G O H R Q→r xs H Q
theorem cz (h:BE X e (Ex r (Gk φ ml))) (hv:n8 r op):EV φ X e (fun ρ=>(ml ρ).bind op):=BE.mono h fun σ H Q cy=>by
 obtain⟨G,O,ρ,n,R,s,w,q⟩:=cy
 rw[M.wZ] at w
 exact⟨G,O,ρ,n,_,s,w,fun l xs H1 n1 e1 bP r1 w1=>hv φ G O H1 n1 R Q l xs s.pr (s.ext e1 bP).dm bP r1 w1 fun y x H' n' e o r h=>q y x H' n' (e1.trans e) o r h⟩
def Ej (r:List V→Hp→VK→Prop) (op:List PV→M (List PV)):Prop:= ∀ (φ:eF) (G:Bg φ) (O:Addr→Prop) (H:Hp) (n:Nat) (R:List PV→Nat→Prop) (Q:VK) (l:List PV) (xs:List V),
 (∀ p,G.dD p→O p)→(∀ p,O p→∃ o,H p=some o)→G.ok H n→fv G O H l xs→(op l).wp n R→tU G O H R Q→r xs H Q
theorem A3 (h:BE X e (Ex r (Gk φ ml))) (hv:Ej r op):EF φ X e (fun ρ=>(ml ρ).bind op):=BE.mono h fun σ H Q cy=>by
 obtain⟨G,O,ρ,n,R,s,w,q⟩:=cy
 rw[M.wZ] at w
 exact⟨G,O,ρ,n,_,s,w,fun l xs H1 n1 e1 bP r1 w1=>hv φ G O H1 n1 R Q l xs s.pr (s.ext e1 bP).dm bP r1 w1 fun z p ys H' n' e o hp a b h=>q z p ys H' n' (e1.trans e) o (gb e1 bP hp) a b h⟩
noncomputable def mY:List PV→M PV
 |[.str z]=>if z.length≤100000 then .ret (.int z.length) else .fail
 |[.lst l]=>.ret (.int l.length)
 |[.tup l]=>.ret (.int l.length)
 |[.rF l]=>.ret (.int l.length)
 |[.eW l]=>.ret (.int l.length)
 |_=>.fail
def DT (K:Frag):List V→Hp→VK→Prop:=fun xs H Q=>(∃ x n,xs=[x]∧Ik K x H n∧Q (.int n) H)∨∃ a kvs,xs=[.ref a]∧Rd H a (.dK kvs)∧Q (.int kvs.length) H
theorem jL:gm X (.builtin "len") (DT X.K):=by
 intro pZ s σ H xs us Q I r h
 rcases h with h|⟨a,kvs,rfl,h,q⟩
 ·exact Bf pZ s σ H xs us Q I r h
 ·obtain⟨u,rfl,rx⟩:=vals1 r
  cases rx
  exact HR I h fun t s' I'=>⟨.int kvs.length,H,I',⟨_,rfl⟩,q⟩
theorem uU {K:Frag}:n8 (DT K) mY:=fun φ G O H n R Q l xs pr dm ok r w q=>by
 match l,r,w with
 |[.str z],r,w=>
  obtain⟨x,ex,r1⟩:=r.one;subst ex;clear r;have r:=r1;clear r1
  rw[r.gv]
  unfold mY at w
  dsimp only at w
  by_cases hc:z.length≤100000
  ·rw[Lq hc] at w;exact .inl ⟨_,_,rfl,⟨KZ hc fE,rfl⟩,q.sc ok (.int _) w⟩
  ·rw[Lr hc] at w;exact w.elim
 |[.lst z],r,w=>
  obtain⟨x,ex,r1⟩:=r.one;subst ex;clear r;have r:=r1;clear r1
  obtain⟨p,xs,rfl,h,e⟩:=r.fR
  exact .inl ⟨_,_,rfl,.inl ⟨xs,cV.of h,rfl⟩,q.sc ok (y:=.int z.length) (by rw[e.1];exact .int _) w⟩
 |[.tup z],r,w=>
  obtain⟨x,ex,r1⟩:=r.one;subst ex;clear r;have r:=r1;clear r1
  obtain⟨p,xs,rfl,h,e⟩:=r.jt
  exact .inl ⟨_,_,rfl,.inr ⟨xs,fu.of h,rfl⟩,q.sc ok (y:=.int z.length) (by rw[e.1];exact .int _) w⟩
 |[.rF z],r,w=>
  obtain⟨x,ex,r1⟩:=r.one;subst ex;clear r;have r:=r1;clear r1
  obtain⟨p,o,rfl,h⟩:=r.GU
  exact .inl ⟨_,_,rfl,.inl ⟨_,.inl (.inr ⟨o,h⟩),rfl⟩,q.sc ok (y:=.int z.length) (by rw[Kx];exact .int _) w⟩
 |[.eW z],r,w=>
  obtain⟨x,ex,r1⟩:=r.one;subst ex;clear r;have r:=r1;clear r1
  obtain⟨p,ks,rfl,h,e⟩:=r.wx
  have e1:z.length=ks.length:=by simpa using congrArg List.length e.1
  exact .inr ⟨p,ks,rfl,h,q.sc ok (y:=.int z.length) (by rw[e1];exact .int _) w⟩
def jz:List PV→Option (List Bool)
 |[]=>some []
 | .bl b::r=>(jz r).map (b:: ·)
 |_=>none
theorem wD: ∀ {l:List PV} {xs:List V} {bs:List Bool},aR B O H l xs→jz l=some bs→xs=bs.map V.bl
 |[],xs,bs,h,e=>by simp[jz] at e;subst e;exact h.nil_inv
 |y::l,xs,bs,h,e=>by
  cases y<;>simp[jz] at e
  obtain⟨bs',e1,rfl⟩:=e
  obtain⟨x,r,rfl,h1,h2⟩:=h.cons_inv
  cases h1
  rw[KI,wD h2 e1]
def oR:List PV→M PV
 |[.lst l]=>(M.ft (jz l)).bind fun bs=>.ret (.bl (bs.all id))
 |_=>.fail
theorem A6 {K:Frag}:n8 (fun xs H Q=> ∃ (p:Addr) (bs:List Bool),xs=[.ref p]∧cV K H p (bs.map V.bl)∧Q (.bl (bs.all id)) H) oR:=fun φ G O H n R Q l xs pr dm ok r w q=>by
 match l,r,w with
 |[.lst z],r,w=>
  obtain⟨x,ex,r1⟩:=r.one;subst ex;clear r;have r:=r1;clear r1
  obtain⟨p,xs,rfl,h,e⟩:=r.fR
  unfold oR at w
  dsimp only at w
  cases eb:jz z with
  |none=>rw[eb] at w;exact w.elim
  |some bs=>rw[eb] at w;rw[wD e eb] at h;exact⟨p,bs,rfl,cV.of h,q.sc ok (.bl _) w⟩
def iC:List PV→M PV
 |[.int i,.int j]=>.ret (.int (if j > i then j else i))
 |_=>.fail
def jx:List PV→M PV
 |[.int i,.int j]=>.ret (.int (if j < i then j else i))
 |_=>.fail
theorem wA:n8 (fun xs H Q=> ∃ i j,xs=[.int i,.int j]∧Q (.int (if j > i then j else i)) H) iC:=fun φ G O H n R Q l xs pr dm ok r w q=>by
 match l,r,w with
 |[.int i,.int j],r,w=>obtain⟨x,x',ex,r1,r'⟩:=r.two;subst ex;clear r;have r:=r1;clear r1;rw[r.cZ,r'.cZ];exact⟨i,j,rfl,q.sc ok (.int _) w⟩
theorem wz:n8 (fun xs H Q=> ∃ i j,xs=[.int i,.int j]∧Q (.int (if j < i then j else i)) H) jx:=fun φ G O H n R Q l xs pr dm ok r w q=>by
 match l,r,w with
 |[.int i,.int j],r,w=>obtain⟨x,x',ex,r1,r'⟩:=r.two;subst ex;clear r;have r:=r1;clear r1;rw[r.cZ,r'.cZ];exact⟨i,j,rfl,q.sc ok (.int _) w⟩
def oe:List PV→M PV
 |[.lst l]=>.ret (.tup l)
 |[.tup l]=>.ret (.tup l)
 |_=>.fail
theorem nN {K:Frag}:n8 (fun xs H Q=> ∃ p ys,xs=[.ref p]∧((cV K H p ys∧∀ l,H l=none→Q (.ref l) (upd H l (.tup ys)))∨(fu K H p ys∧Q (.ref p) H))) oe:=fun φ G O H n R Q l xs pr dm ok r w q=>by
 match l,r,w with
 |[.lst z],r,w=>
  obtain⟨x,ex,r1⟩:=r.one;subst ex;clear r;have r:=r1;clear r1
  obtain⟨p,xs,rfl,h,e⟩:=r.fR
  exact⟨p,xs,rfl,.inl ⟨cV.of h,fun l hl=>q.tup ok dm hl (pr _ G.pB) e w⟩⟩
 |[.tup z],r,w=>
  obtain⟨x,ex,r1⟩:=r.one;subst ex;clear r;have r:=r1;clear r1
  obtain⟨p,xs,rfl,h,e⟩:=r.jt
  cases r with
  |full r=>exact⟨p,xs,rfl,.inr ⟨fu.of h,q.sc ok r w⟩⟩
end
end
section
variable {φ:eF}
noncomputable def fT (φ:eF) (f:List PV→M PV):Sp:=fun vs H Q _=> ∃ (G:Bg φ) (O:Addr→Prop) (l:List PV) (n:Nat) (R:PV→Nat→Prop),(∀ p,G.dD p→O p)∧(∀ p,O p→∃ o,H p=some o)∧G.ok H n∧aR G.B O H l vs∧(f l).wp n R∧lj G O H R Q
section
variable {X:Cx} {e:Expr} {es:List Expr} {ml:ak→M (List PV)} {f:List PV→M PV}
theorem aM (h:BE X e (rN (fT φ f) [] E0 (Iw φ ml))):EV φ X e (fun ρ=>(ml ρ).bind f):=BE.mono h fun σ H Q cy=>by
 obtain⟨G,O,ρ,n,R,s,w,q⟩:=cy
 rw[M.wZ] at w
 refine⟨G,O,ρ,n,_,s,w,fun l xs H1 n1 e1 bP r1 w1=>?_⟩
 show fT φ f (xs++[]) H1 Q E0
 rw[List.append_nil]
 exact⟨G,O,l,n1,R,s.pr,(s.ext e1 bP).dm,bP,r1,w1,fun y x H' n' e o r h=>q y x H' n' (e1.trans e) o r h⟩
def wg (y:PV):M PV:=if bt y=true then .ret y else .fail
theorem AY (h:BE X e (rN (fT φ f) [] E0 (Gk φ ml))):EV φ X e (fun ρ=>(ml ρ).bind fun l=>(f l).bind wg):=BE.mono h fun σ H Q cy=>by
 obtain⟨G,O,ρ,n,R,s,w,q⟩:=cy
 rw[M.wZ] at w
 refine⟨G,O,ρ,n,_,s,w,fun l xs H1 n1 e1 bP r1 w1=>?_⟩
 show fT φ f (xs++[]) H1 Q E0
 rw[List.append_nil]
 rw[M.wZ] at w1
 refine⟨G,G.dD,l,n1,_,fun p h=>h,fun p h=>G.A4 _ _ _ bP h,bP,⟨r1.1,fun i y x a b=>(r1.2 i y x a b).low s.pr⟩,w1,fun y x H' n' e o r h=>?_⟩
 unfold wg at h
 by_cases hf:bt y=true
 ·rw[Lq hf] at h
  refine q y x H' n' (e1.trans e) o ?_ h
  rw[gf r hf]
  cases y<;>first|exact .aU|exact .bl _|exact .int _|exact .str _|(simp[bt,toV,eU] at hf)
 ·rw[Lr hf] at h;exact h.elim
def J8 (r:V→Option Int→Option Int→Hp→VK→Prop) (op:PV→Option Int→Option Int→M PV):Prop:= ∀ (φ:eF) (G:Bg φ) (O:Addr→Prop) (H:Hp) (n:Nat) (R:PV→Nat→Prop) (Q:VK) (y:PV) (lo hi:Option Int) (x:V),
 (∀ p,G.dD p→O p)→(∀ p,O p→∃ o,H p=some o)→G.ok H n→cQ G O H y x→(op y lo hi).wp n R→lj G O H R Q→r x lo hi H Q
def Ic (G:Bg φ) (H:Hp) (R:Option Int→Nat→Prop) (Q:Option Int→Hp→Prop):Prop:= ∀ (o:Option Int) (H':Hp) (n':Nat),Ext G.B H H'→G.ok H' n'→R o n'→Q o H'
def IW (φ:eF) (m:ak→M (Option Int)):TO:=fun σ H Q=> ∃ (G:Bg φ) (O:Addr→Prop) (ρ:ak) (n:Nat) (R:Option Int→Nat→Prop),ES G O H σ ρ n∧(m ρ).wp n R∧Ic G H R Q
def OV (φ:eF) (X:Cx) (e:Option Expr) (m:ak→M (Option Int)):Prop:=BO X e (IW φ m)
theorem BO.mono {e:Option Expr} {t t':TO} (h:BO X e t) (f: ∀ σ H Q,t' σ H Q→t σ H Q):BO X e t':=⟨fun pZ s σ H Q I q=>h.out pZ s σ H Q I (f σ H Q q)⟩
theorem CD:OV φ X none (fun _=>.ret none):=BO.mono ⟨lW⟩ fun σ H Q ⟨G,O,ρ,n,R,s,w,q⟩=>q none H n (Ext.refl _ _) s.ok w
def AE:PV→M Int
 | .int i=>.ret i
 |_=>.fail
theorem CC (h:EB φ X e m):OV φ X (some e) (fun ρ=>(m ρ).bind fun y=>(AE y).bind fun i=>.ret (some i)):=BO.mono ⟨lV h.out⟩ fun σ H Q cy=>by
 obtain⟨G,O,ρ,n,R,s,w,q⟩:=cy
 rw[M.wZ] at w
 refine⟨G,O,ρ,n,_,s,w,fun y x H1 n1 e1 bP r1 w1=>?_⟩
 cases y<;>first|exact w1.elim|skip
 rename_i i
 rw[r1.cZ]
 exact⟨i,rfl,q _ _ _ e1 bP w1⟩
def EI (op:PV→Option Int→Option Int→M PV) (me:ak→M PV) (ml mh:ak→M (Option Int)):ak→M PV:=fun ρ=>(me ρ).bind fun y=>(ml ρ).bind fun lo=>(mh ρ).bind fun hi=>op y lo hi
theorem AW {r:V→Option Int→Option Int→Hp→VK→Prop} {op:PV→Option Int→Option Int→M PV} {me:ak→M PV} {ml mh:ak→M (Option Int)} (h:BE X e (I0 r (qc φ me) (IW φ ml) (IW φ mh))) (hv:J8 r op):EV φ X e (EI op me ml mh):=BE.mono h fun σ H Q cy=>by
 obtain⟨G,O,ρ,n,R,s,w,q⟩:=cy
 unfold EI at w
 rw[M.wZ] at w
 refine⟨G,O,ρ,n,_,s,w,fun y x H1 n1 e1 bP r1 w1=>?_⟩
 rw[M.wZ] at w1
 refine⟨G,O,ρ,n1,_,s.ext e1 bP,w1,fun lo H2 n2 e2 kP w2=>?_⟩
 rw[M.wZ] at w2
 refine⟨G,O,ρ,n2,_,s.ext (e1.trans e2) kP,w2,fun hi H3 n3 e3 ok3 w3=>?_⟩
 exact hv φ G O H3 n3 R Q y lo hi x s.pr (s.ext (e1.trans (e2.trans e3)) ok3).dm ok3 (r1.ext s.B (e2.trans e3)) w3 fun y x H' n' e o r h=>q y x H' n' (e1.trans (e2.trans (e3.trans e))) o r h
def uW (l:List PV) (lo hi:Option Int):List PV:=(l.drop (HT.dN l.length 0 lo)).take (HT.dN l.length l.length hi - HT.dN l.length 0 lo)
theorem tw (h:aR B O H l xs) (lo hi:Option Int):aR B O H (uW l lo hi) (kj xs lo hi):=by
 unfold uW kj
 rw[←h.1]
 exact(h.drop _).take _
theorem uV (l:List PV) (lo hi:Option Int) (h:HT.dN l.length 0 lo=0∧HT.dN l.length l.length hi=l.length):uW l lo hi=l:=by
 unfold uW
 rw[h.1,h.2]
 simp
def G2 (K:Frag):V→Option Int→Option Int→Hp→VK→Prop:=fun x lo hi H Q=>G0 K x lo hi H Q∨GY K x lo hi H Q
theorem Jg:yo X (G2 X.K):=lR.or EG
def gL (x:Str):List PV:=x.cps.toList.map fun c=>.str ⟨#[c]⟩
def di (lo:Int) (n:Nat):List PV:=(List.range n).map fun i=>.int (lo+(i:Nat))
inductive gg (K:Frag) (G:Bg φ) (O:Addr→Prop) (c:Bool) (H:Hp):List PV→It→Prop where
 |lst {p:Addr} {xs:List V} {l:List PV} (np: ¬ G.dD p) (hp:c=true→¬ O p) (h:H p=some (.lst xs)) (r:aR G.B O H l xs):gg K G O c H l (IP K p)
 |tup {p:Addr} {xs:List V} {l:List PV} (hp: ¬ O p) (h:H p=some (.tup xs)) (r:aR G.B O H l xs):gg K G O c H l (IL K p)
 |txt (x:Str):gg K G O c H (gL x) (IK x)
 |uu (lo:Int) (n:Nat):gg K G O c H (di lo n) (IM lo n)
theorem FA {K:Frag} {H:Hp} {p:Addr} {xs:List V} (h:H p=some (.lst xs)) {i:Nat} (hi:i < xs.length):(IP K p).go i H:=⟨xs,xs[i],cV.of h,by simp[hi]⟩
theorem Fz {K:Frag} {H:Hp} {p:Addr} {xs:List V} (h:H p=some (.tup xs)) {i:Nat} (hi:i < xs.length):(IL K p).go i H:=⟨xs,xs[i],fu.of h,by simp[hi]⟩
theorem gg.go {K:Frag} {G:Bg φ} {O:Addr→Prop} {c:Bool} {H:Hp} {l:List PV} {J:It} (t:gg K G O c H l J) {i:Nat} {y:PV} (hi:l[i]?=some y):J.go i H∧∀ x H2,J.yp i H x H2→H2=H∧Rep G.B O H y x:=by
 have hl:i < l.length:=(KD.mp hi).1
 cases t with
 |lst np hp h r=>
  refine⟨FA h (r.1▸hl),fun x H2 z=>?_⟩
  obtain⟨e,z⟩:=z
  exact⟨e,r.2 i y x hi (z _ (cV.of h))⟩
 |tup hp h r=>
  refine⟨Fz h (r.1▸hl),fun x H2 z=>?_⟩
  obtain⟨e,z⟩:=z
  exact⟨e,r.2 i y x hi (z _ (fu.of h))⟩
 |txt z=>
  unfold gL at hi hl
  refine⟨by show i < z.cps.size;simpa using hl,fun x H2 q=>?_⟩
  obtain⟨e,c',hc,rfl⟩:=q
  refine⟨e,?_⟩
  rw[KY] at hi
  have:z.cps.toList[i]?=some c':=by simpa using hc
  rw[this] at hi
  cases hi
  exact .str _
 |uu lo n=>
  unfold di at hi hl
  have hn:i < n:=by simpa using hl
  refine⟨hn,fun x H2 q=>?_⟩
  obtain⟨e,rfl⟩:=q
  refine⟨e,?_⟩
  rw[KY,List.getElem?_range hn] at hi
  cases hi
  exact .int _
theorem gg.stop {K:Frag} {G:Bg φ} {O:Addr→Prop} {c:Bool} {H:Hp} {l:List PV} {J:It} (t:gg K G O c H l J):J.stop l.length H:=by
 cases t with
 |lst np hp h r=>exact⟨_,cV.of h,Nat.le_of_eq r.1.symm⟩
 |tup hp h r=>exact⟨_,fu.of h,Nat.le_of_eq r.1.symm⟩
 |txt z=>show (gL z).length=z.cps.size;simp[gL]
 |uu lo n=>show n≤(di lo n).length;simp[di]
theorem gg.gB {K:Frag} {G:Bg φ} {O O':Addr→Prop} {c:Bool} {H H':Hp} {l:List PV} {J:It} (t:gg K G O c H l J) (k: ∀ p o,¬ O p→H p=some o→hE H' p o∧¬ O' p) (k2:c=true∨∀ p xs,¬ G.dD p→H p=some (.lst xs)→H' p=some (.lst xs)) (hc: ∀ p,c=true→¬ O p→¬ O' p):gg K G O' c H' l J:=by
 cases t with
 |lst np hp h r=>
  refine .lst np (fun z=>hc _ z (hp z)) ?_ (r.gB k)
  rcases k2 with z|z
  ·exact(k _ _ (hp z) h).1
  ·exact z _ _ np h
 |tup hp h r=>exact .tup (k _ _ hp h).2 (k _ _ hp h).1 (r.gB k)
 |txt z=>exact .txt z
 |uu lo n=>exact .uu lo n
theorem gg.keep {K:Frag} {G:Bg φ} {O O':Addr→Prop} {c:Bool} {H H':Hp} {l:List PV} {J:It} (t:gg K G O c H l J) (k: ∀ p o,¬ O p→H p=some o→H' p=some o∧¬ O' p) (k2:c=true∨∀ p xs,¬ G.dD p→H p=some (.lst xs)→H' p=some (.lst xs)) (hc: ∀ p,c=true→¬ O p→¬ O' p):gg K G O' c H' l J:=t.gB (fun p o n q=>⟨.of (k p o n q).1,(k p o n q).2⟩) k2 hc
noncomputable def Gi (φ:eF) (K:Frag) (c:Bool) (m:ak→M (List PV)):TI:=fun σ H Q=> ∃ (G:Bg φ) (O:Addr→Prop) (ρ:ak) (n:Nat) (R:List PV→Nat→Prop),ES G O H σ ρ n∧(m ρ).wp n R∧
 ∀ (l:List PV) (J:It) (H':Hp) (n':Nat),Ext G.B H H'→G.ok H' n'→gg K G O c H' l J→R l n'→Q J H'
def IV (φ:eF) (X:Cx) (c:Bool) (tg iter:Expr) (m:ak→M (List PV)):Prop:=BI X tg iter (Gi φ X.K c m)
def bc:PV→M (List PV)
 | .lst l=>.ret l
 | .tup l=>.ret l
 | .str x=>.ret (gL x)
 |_=>.fail
theorem zG (hl:PE X l tl):PI X tg l (fun σ H R=>tl σ H fun x H1=>(∃ a,x= .ref a∧(∃ xs,cV X.K H1 a xs)∧R (IP X.K a) H1)∨(∃ a,x= .ref a∧(∃ xs,fu X.K H1 a xs)∧R (IL X.K a) H1)∨∃ z,x= .str z∧R (IK z) H1):=by
 intro pZ s σ H R I h
 refine cn (hl pZ s σ H _ I h) fun v s1 ⟨x,H1,I1,r1,q1⟩=>?_
 rcases q1 with⟨a,e,⟨xs,hq⟩,q⟩|⟨a,e,⟨xs,hq⟩,q⟩|⟨z,e,q⟩
 ·subst e
  cases r1
  obtain⟨aC,rv,p,hz⟩:=I1.list hq
  refine wpAny_pyIter_list p.isList ?_
  refine⟨s1.heap.objs.size,[s1.heap.objs.size],_,_,H1,rfl,I1.kept (t':=s1.toks) fun b o e=>Ky _ e,wQ a _,⟨_,KP _ rfl,rfl,rfl⟩,fun b hb=>?_,q⟩
  have e:b=s1.heap.objs.size:=by simpa using hb
  subst e
  exact I1.oN (KG _) (I1.bS.fresh (KG _))
 ·subst e
  cases r1
  obtain⟨aC,rv,p,hz⟩:=I1.tuple hq
  refine wpAny_pyIter_tuple (show s1.heap.IsTuple a aC.toArray from p) ?_
  refine⟨s1.heap.objs.size,[s1.heap.objs.size],_,_,H1,rfl,I1.kept (t':=s1.toks) fun b o e=>Ky _ e,ud a _,⟨_,KP _ rfl,rfl,rfl⟩,fun b hb=>?_,q⟩
  have e:b=s1.heap.objs.size:=by simpa using hb
  subst e
  exact I1.oN (KG _) (I1.bS.fresh (KG _))
 ·subst e
  obtain⟨t,rfl⟩:=r1
  have fin: ∀ (o:Obj) (ty:String),o.cls= .type ty→o.data= .fields #[.str z t,.int (0:Nat) 0]→Turn X.prog X.w X.K tg (IK z) [s1.heap.objs.size] s1.heap.objs.size (fun i h=>h.IsStrIter s1.heap.objs.size ty z t i)→o.isFreed=false→
    IJ X pZ σ tg R (.ref s1.heap.objs.size) {s1 with heap:=s1.heap.push o}:=fun o ty h1 h2 T hfr=>by
   refine⟨s1.heap.objs.size,[s1.heap.objs.size],_,_,H1,rfl,I1.kept (t':=s1.toks) fun b o e=>Ky _ e,T,⟨_,KP _ hfr,h1,h2⟩,fun b hb=>?_,q⟩
   have e:b=s1.heap.objs.size:=by simpa using hb
   subst e
   exact I1.oN (KG _) (I1.bS.fresh (KG _))
  cases ha:z.cps.all (· < 128)
  ·exact wpAny_pyIter_wide ha (fin _ _ rfl rfl (oV _ z t (by decide) (fun A hA=>Walks.strWide hA _ z t) fun _ _ _ _ _ st h=>wpAny_pyIter_striter_wide st h) rfl)
  ·exact wpAny_pyIter_ascii ha (fin _ _ rfl rfl (oV _ z t (by decide) (fun A hA=>Walks.strAscii hA _ z t) fun _ _ _ _ _ st h=>wpAny_pyIter_striter_ascii st h) rfl)
theorem BI.mono {tg iter:Expr} {t t':TI} (h:BI X tg iter t) (f: ∀ σ H Q,t' σ H Q→t σ H Q):BI X tg iter t':=⟨fun pZ s σ H Q I q=>h.out pZ s σ H Q I (f σ H Q q)⟩
theorem oJ (h:EB φ X e m):IV φ X false tg e (fun ρ=>(m ρ).bind bc):=BI.mono ⟨zG h.out⟩ fun σ H Q cy=>by
 obtain⟨G,O,ρ,n,R,s,w,q⟩:=cy
 rw[M.wZ] at w
 refine⟨G,O,ρ,n,_,s,w,fun y x H1 n1 e1 bP r1 w1=>?_⟩
 cases y<;>first|exact w1.elim|skip
 ·rw[r1.gv]
  exact .inr (.inr ⟨_,rfl,q _ _ _ _ e1 bP (.txt _) w1⟩)
 ·cases r1 with
  |full r1=>cases r1 with
   |tup a b c d=>exact .inr (.inl ⟨_,rfl,⟨_,fu.of b⟩,q _ _ _ _ e1 bP (.tup a b ⟨c,d⟩) w1⟩)
 ·cases r1 with
  |full r1=>cases r1 with
   |lst a b c d=>exact .inl ⟨_,rfl,⟨_,cV.of b⟩,q _ _ _ _ e1 bP (.lst (fun z=>a (s.pr _ z)) (fun z=>by cases z) b ⟨c,d⟩) w1⟩
  |top a b c=>exact .inl ⟨_,rfl,⟨_,cV.of b⟩,q _ _ _ _ e1 bP (.lst a (fun z=>by cases z) b c) w1⟩
theorem sN (h:EV φ X e m):IV φ X true tg e (fun ρ=>(m ρ).bind bc):=BI.mono ⟨zG h.out⟩ fun σ H Q cy=>by
 obtain⟨G,O,ρ,n,R,s,w,q⟩:=cy
 rw[M.wZ] at w
 refine⟨G,O,ρ,n,_,s,w,fun y x H1 n1 e1 bP r1 w1=>?_⟩
 cases r1 with
 |str z=>exact .inr (.inr ⟨_,rfl,q _ _ _ _ e1 bP (.txt _) w1⟩)
 |tup a b c d=>exact .inr (.inl ⟨_,rfl,⟨_,fu.of b⟩,q _ _ _ _ e1 bP (.tup a b ⟨c,d⟩) w1⟩)
 |lst a b c d=>exact .inl ⟨_,rfl,⟨_,cV.of b⟩,q _ _ _ _ e1 bP (.lst (fun z=>a (s.pr _ z)) (fun _=>a) b ⟨c,d⟩) w1⟩
 |_=>exact w1.elim
def fc:List PV→M (List PV)
 |[.int j]=>if -1000000≤j∧j≤100000 then .ret (di 0 j.toNat) else .fail
 |_=>.fail
theorem jf (h:BI X tg e (AI (Gk φ ml))):IV φ X c tg e (fun ρ=>(ml ρ).bind fc):=BI.mono h fun σ H Q cy=>by
 obtain⟨G,O,ρ,n,R,s,w,q⟩:=cy
 rw[M.wZ] at w
 refine⟨G,O,ρ,n,_,s,w,fun l xs H1 n1 e1 bP r1 w1=>?_⟩
 match l,r1,w1 with
 |[.int j],r1,w1=>
  obtain⟨x,rfl,r2⟩:=r1.one
  rw[r2.cZ]
  unfold fc at w1
  dsimp only at w1
  by_cases hc: -1000000≤j∧j≤100000
  ·rw[Lq hc] at w1
   have e62:(2:Int) ^ 62=4611686018427387904:=by decide
   exact⟨j,rfl,by lia,by lia,q _ _ _ _ e1 bP (.uu 0 j.toNat) w1⟩
  ·rw[Lr hc] at w1;exact w1.elim
noncomputable def GH (φ:eF) (b:PV→ak→M ak):TG:=fun v σ H Q=> ∃ (G:Bg φ) (O:Addr→Prop) (ρ:ak) (n:Nat) (R:ak→Nat→Prop) (y:PV),ES G O H σ ρ n∧Rep G.B O H y v∧(b y ρ).wp n R∧
 ∀ (σ':St) (ρ':ak) (n':Nat),ES G O H σ' ρ' n'→R ρ' n'→Q σ' H
def GV (φ:eF) (X:Cx) (tg:Expr) (b:PV→ak→M ak):Prop:=BG X tg (GH φ b)
theorem jO.set (h:jO G O H σ ρ) (k:Nat) (r:lu G O H t (some x)):jO G O H (σ.set k (some x)) (ρ.set k t):=by
 refine⟨by simp[h.1],fun i e he=>?_⟩
 by_cases hk:k=i
 ·subst hk
  have hl:k < ρ.length:=by have:=(KD.mp he).1;simpa using this
  rw[Ls hl] at he
  cases he
  rw[Ls (h.1▸hl)]
  exact r
 ·rw[Lb hk] at he ⊢
  exact h.2 i e he
theorem ES.set (s:ES G O H σ ρ n) (k:Nat) (r:lu G O H t (some x)):ES G O H (σ.set k (some x)) (ρ.set k t) n:=⟨s.er.set k r,s.ok,s.pr,s.dm⟩
def aP (k:Nat) (y:PV) (ρ:ak):M ak:=.ret (ρ.set k (.val y))
theorem BG.mono {tg:Expr} {t t':TG} (h:BG X tg t) (f: ∀ v σ H Q,t' v σ H Q→t v σ H Q):BG X tg t':=⟨fun pZ s σ H v u Q I r q=>h.out pZ s σ H v u Q I r (f v σ H Q q)⟩
theorem eG (h:BG X tg (iS k)):GV φ X tg (aP k):=BG.mono h fun v σ H Q ⟨G,O,ρ,n,R,y,s,r,w,q⟩=>q _ _ n (s.set k (t:=.val y) ⟨v,rfl,r⟩) w
def u7:List Nat→List PV→ak→ak
 |k::ks,y::l,ρ=>u7 ks l (ρ.set k (.val y))
 |_,_,ρ=>ρ
def dS (ks:List Nat) (y:PV) (ρ:ak):M ak:=match y with
 | .tup l=>if l.length=ks.length then .ret (u7 ks l ρ) else .fail
 |_=>.fail
def nr:List Nat→BM
 |[]=>FD
 |k::ks=>AO (iS k) (nr ks)
noncomputable def t5 (bd:PV→ak→M ak) (tt:ak→M Bool) (te:ak→M PV):List PV→ak→M (List PV)
 |[],_=>.ret []
 |y::r,ρ=>(bd y ρ).bind fun ρ1=>(tt ρ1).bind fun ok=>if ok=true then(te ρ1).bind fun z=>(t5 bd tt te r ρ1).bind fun l=>.ret (z::l) else t5 bd tt te r ρ1
def ir (js:List (Option Nat)) (ρ:ak):ak:=js.map fun o=>match o with|some j=>(ρ[j]?).getD .un|none=>.un
theorem tI (h:jO G O H σ ρ) (js:List (Option Nat)):jO G O H (gC js σ) (ir js ρ):=by
 refine⟨by simp[gC,ir],fun i e he=>?_⟩
 unfold ir at he
 unfold gC
 rw[KY] at he ⊢
 cases q:js[i]? with
 |none=>rw[q] at he;cases he
 |some o=>
  rw[q] at he
  simp only[Option.map_some,Option.some.injEq] at he ⊢
  subst he
  cases o with
  |none=>trivial
  |some j=>
   dsimp only
   cases q2:ρ[j]? with
   |none=>rw[Option.getD_none];trivial
   |some t=>
    have:=h.2 j t q2
    rw[Option.getD_some]
    simpa using this
def gG:ak→M Bool:=fun _=>.ret true
theorem Gg.mono {ifs:List Expr} {t t':TT} (h:Gg X ifs t) (f: ∀ σ H Q,t' σ H Q→t σ H Q):Gg X ifs t':=⟨fun pZ s σ H Q I q=>h.out pZ s σ H Q I (f σ H Q q)⟩
def J7 (φ:eF) (X:Cx) (ifs:List Expr) (m:ak→M Bool):Prop:=Gg X ifs (BD φ m)
theorem mx:J7 φ X [] gG:=Gg.mono ⟨Cq⟩ fun σ H Q ⟨G,O,ρ,n,R,s,w,q⟩=>q true H n (Ext.refl _ _) s.ok w
theorem jB (h:TV φ X c m):J7 φ X [c] m:=⟨Cp h.out⟩
noncomputable def eD (js:List (Option Nat)) (mi:ak→M (List PV)) (bd:PV→ak→M ak) (tt:ak→M Bool) (te:ak→M PV):ak→M (List PV):=fun ρ=>(mi ρ).bind fun l=>if l.length≤100000 then t5 bd tt te l (ir js ρ) else .fail
noncomputable def Bg.with (G:Bg φ) (D:Addr) (hD:D≠G.B):Bg φ where
 B:=G.B
 dD:=fun p=>G.dD p∨p=D
 ok:=fun H n=>G.ok H n∧∃ ys,H D=some (.lst ys)
 pB:=.inl G.pB
 keep:=fun H H' n k h=>⟨G.keep H H' n (fun p o z=>k p o (z.imp .inl id)) h.1,by obtain⟨ys,e⟩:=h.2;exact⟨ys,k D _ (.inl (.inr rfl)) e⟩⟩
 tp:=fun e he=>.inl (G.tp e he)
 tab:=fun H n h=>G.tab H n h.1
 wW:=fun H H' n h h1 h2=>⟨G.wW H H' n h.1 h1 h2,by
  obtain⟨ys,e⟩:=h.2
  refine⟨ys,h2 D _ (fun z=>?_) e⟩
  obtain⟨q,hq,rfl⟩:=KN.mp z
  obtain⟨ps,e2,_⟩:=G.tab H n h.1 q hq
  rw[e] at e2;cases e2⟩
 A4:=fun H n p h z=>by
  rcases z with z|z
  ·exact G.A4 H n p h.1 z
  ·subst z;obtain⟨ys,e⟩:=h.2;exact⟨_,e⟩
 dr:=fun H n m Q E h h0 h1 q=>G.dr H n m Q E h.1 h0 h1 fun d H' d0 d1 e o=>q d H' d0 d1 e ⟨o,by
  obtain⟨ys,e2⟩:=h.2
  exact⟨ys,e D _ hD e2⟩⟩
theorem HC {K:Frag} {js:List (Option Nat)} {mi:ak→M (List PV)} {bd:PV→ak→M ak} {tt:ak→M Bool} {te:ak→M PV}: ∀ σ H Q,Gj φ (eD js mi bd tt te) σ H Q→Iz js (Gi φ K false mi) (GH φ bd) (BD φ tt) (rE φ te) σ H Q:=fun σ H Q cy=>by
 obtain⟨G,O,ρ,n,R,s,w,q⟩:=cy
 unfold eD at w
 rw[M.wZ] at w
 refine⟨G,O,ρ,n,_,s,w,fun l J H1 n1 e1 bP it w1=>fun D hD=>?_⟩
 by_cases hl:l.length≤100000
 case neg=>rw[Lr hl] at w1;exact w1.elim
 rw[Lq hl] at w1
 have s1:=s.ext e1 bP
 have nD: ¬ O D:=fun z=>by obtain⟨o,g⟩:=s1.dm D z;rw[hD] at g;cases g
 have pD: ¬ G.dD D:=fun z=>nD (s.pr _ z)
 have hBD:D≠G.B:=fun z=>pD (z▸G.pB)
 have dO: ∀ p o,H1 p=some o→p≠D:=fun p o hp z=>by subst z;rw[hD] at hp;cases hp
 let O':Addr→Prop:=fun p=>O p∨p=D
 let G':Bg φ:=G.with D hBD
 have k0: ∀ p o,¬ O p→H1 p=some o→upd H1 D (HO.lst []) p=some o∧¬ O' p:=fun p o np hp=>⟨by rw[aq (dO p o hp)];exact hp,fun z=>by
  rcases z with z|z
  ·exact np z
  ·exact dO p o hp z⟩
 have kD: ∀ (H5:Hp) (o:HO) p u,¬ O' p→H5 p=some u→upd H5 D o p=some u∧¬ O' p:=fun H5 o p u np hp=>⟨by rw[aq (fun z=>np (.inr z))];exact hp,np⟩
 refine⟨fun i m σ' H'=>m=l.length - i∧i≤l.length∧∃ (ys:List V) (zs:List PV) (ρ':ak) (n':Nat),ys.length≤i∧H' D=some (.lst ys)∧aR G.B O' H' zs ys∧ES G' O' H' σ' ρ' n'∧Ext G.B H1 H'∧gg K G' O' false H' l J∧
  (t5 bd tt te (l.drop i) ρ').wp n' (fun t k=>R (zs++t) k),⟨l.length,by simp,K6 _,[],[],ir js ρ,n1,KG _,ay,.nil,?_,Ext.new hD _,?_,?_⟩,?_⟩
 ·have er:=tI s1.er js
  refine⟨⟨er.1,fun i e he=>?_⟩,⟨Bg.new bP hD _,[],ay⟩,fun p z=>?_,fun p z=>?_⟩
  ·have r1:=er.2 i e he
   cases e with
   |un=>trivial
   |val y=>obtain⟨x,hx,rr⟩:=r1;exact⟨x,hx,rr.keep k0⟩
   |own t=>
    obtain⟨p,xs,hx,hp,np,hh,rr⟩:=r1
    exact⟨p,xs,hx,.inl hp,fun z=>by
     rcases z with z|z
     ·exact np z
     ·exact dO p _ hh z,by rw[aq (dO p _ hh)];exact hh,rr.keep k0⟩
   |cu t=>
    obtain⟨p,xs,hx,hp,np,hh,rr⟩:=r1
    exact⟨p,xs,hx,.inl hp,fun z=>by
     rcases z with z|z
     ·exact np z
     ·exact dO p _ hh z,by rw[aq (dO p _ hh)];exact hh,rr.keep k0⟩
  ·rcases z with z|z
   ·exact .inl (s.pr p z)
   ·exact .inr z
  ·rcases z with z|z
   ·obtain⟨o,g⟩:=s1.dm p z;exact⟨o,by rw[aq (dO p o g)];exact g⟩
   ·subst z;exact⟨_,ay⟩
 ·cases it with
  |lst np hp h r=>
   exact .lst (fun z=>by
    rcases z with z|z
    ·exact np z
    ·exact dO _ _ h z) (fun z=>by cases z) (by rw[aq (dO _ _ h)];exact h) (r.keep k0)
  |tup hp h r=>exact .tup (k0 _ _ hp h).2 (k0 _ _ hp h).1 (r.keep k0)
  |txt z=>exact .txt z
  |uu lo n=>exact .uu lo n
 ·simpa using w1
 ·rintro i m σ' H' ⟨rfl,hi,ys,zs,ρ',n',hy,hDy,rz,s',ex,it',w'⟩
  by_cases hV:i < l.length
  ·have hget:l[i]?=some l[i]:=Ku hV
   have nk:l.drop i=l[i]::l.drop (i+1):=List.drop_eq_getElem_cons hV
   rw[nk] at w'
   unfold t5 at w'
   obtain⟨g1,g2⟩:=it'.go hget
   refine .inr ⟨g1,fun x H2 yl=>?_⟩
   obtain⟨eH,rx⟩:=g2 x H2 yl
   subst eH
   rw[M.wZ] at w'
   refine⟨G',O',ρ',n',_,l[i],s',rx,w',fun σ2 ρ2 n2 s2 w2=>?_⟩
   rw[M.wZ] at w2
   refine⟨G',O',ρ2,n2,_,s2,w2,fun ok H4 n4 e4 ok4 w4=>?_⟩
   have D4:H4 D=some (.lst ys):=e4 D _ hBD hDy
   have it4:gg K G' O' false H4 l J:=it'.gB (fun p o np hp=>⟨e4 p o (fun z=>np (.inl (z▸s.B))) hp,np⟩) (.inr fun p xs np hp=>e4 p _ (fun z=>np (z▸G'.pB)) hp) fun p z=>by cases z
   cases ok with
   |true=>
    simp only[if_true] at w4 ⊢
    rw[M.wZ] at w4
    refine⟨G',O',ρ2,n4,_,s2.ext e4 ok4,w4,fun z x5 H5 n5 e5 ok5 r5 w5=>?_⟩
    have D5:H5 D=some (.lst ys):=e5 D _ hBD D4
    rw[M.wZ] at w5
    have s5:=s2.ext (e4.trans e5) ok5
    have it5:gg K G' O' false H5 l J:=it4.gB (fun p o np hp=>⟨e5 p o (fun z=>np (.inl (z▸s.B))) hp,np⟩) (.inr fun p xs np hp=>e5 p _ (fun z=>np (z▸G'.pB)) hp) fun p z=>by cases z
    refine⟨ys,D5,by rw[Lh];lia,l.length - (i+1),by lia,rfl,hV,ys++[x5],zs++[z],ρ2,n5,by simp;lia,ay,?_,?_,?_,?_,?_⟩
    ·exact((rz.ext (.inl s.B) (e4.trans e5)).append (.cons r5 .nil)).keep (kD H5 _)
    ·refine⟨⟨s5.er.1,fun j e he=>?_⟩,⟨G.keep H5 _ _ (fun p o hp hpo=>by
      have hpd:p≠D:=fun z=>by
       rcases hp with hp|hp
       ·exact pD (z▸hp)
       ·rw[z,D5] at hpo;cases hpo;exact hp
      rw[aq hpd];exact hpo) ok5.1,_,ay⟩,s5.pr,fun p hp=>?_⟩
     ·have r1:=s5.er.2 j e he
      cases e with
      |un=>trivial
      |val y=>obtain⟨x,hx,rr⟩:=r1;exact⟨x,hx,rr.keep (kD H5 _)⟩
      |own t=>
       obtain⟨p,xs,hx,hp,np,hh,rr⟩:=r1
       exact⟨p,xs,hx,hp,np,by rw[aq (fun z=>np (.inr z))];exact hh,rr.keep (kD H5 _)⟩
      |cu t=>
       obtain⟨p,xs,hx,hp,np,hh,rr⟩:=r1
       exact⟨p,xs,hx,hp,np,by rw[aq (fun z=>np (.inr z))];exact hh,rr.keep (kD H5 _)⟩
     ·by_cases hpd:p=D
      ·subst hpd;exact⟨_,ay⟩
      ·obtain⟨o,g⟩:=s5.dm p hp;exact⟨o,by rw[aq hpd];exact g⟩
    ·intro p o np hp
     exact((ex.trans (e4.trans e5)) p o np hp).to fun u e=>.of (by rw[aq (dO p o hp)];exact e)
    ·exact it5.keep (kD H5 _) (.inr fun p xs np hp=>by rw[aq (fun z=>np (.inr z))];exact hp) fun p z=>by cases z
    ·refine M.wp_mono w5 fun t k' hk=>?_
     have hk':R (zs++z::t) k':=hk
     simpa using hk'
   |false=>
    exact⟨l.length - (i+1),by lia,rfl,hV,ys,zs,ρ2,n4,by lia,D4,rz.ext (.inl s.B) e4,s2.ext e4 ok4,ex.trans e4,it4,w4⟩
  ·have e:i=l.length:=by lia
   subst e
   refine .inl ⟨it'.stop,?_⟩
   rw[List.drop_length] at w'
   have w2:R (zs++[]) n':=w'
   rw[List.append_nil] at w2
   exact q zs D ys H' n' (e1.trans ex) s'.ok.1 (gb e1 bP hD) hDy rz w2
theorem iV (h:BE X e (Iz js (Gi φ X.K false mi) (GH φ bd) (BD φ tt) (rE φ te))):EF φ X e (eD js mi bd tt te):=BE.mono h HC
end
end
section
variable {φ:eF}
set_option genInjectivity true in
inductive Fl where
 |nx (ρ:ak)|rt (y:PV)|bk (ρ:ak)|ct (ρ:ak)
def Ent.D6:Ent→Bool
 | .own _=>true
 | .cu _=>true
 |_=>false
def Ent.freeze:Ent→Ent
 | .own l=>.val (.lst l)
 | .cu l=>.val (.eW l)
 |e=>e
def fo (ρ:ak) (σ:St) (i:Nat) (p:Addr):Prop:= ∃ t,ρ[i]?=some t∧t.D6=true∧σ[i]?=some (some (.ref p))
structure SI (G:Bg φ) (O0:Addr→Prop) (H0:Hp) (O:Addr→Prop) (H:Hp) (σ:St) (ρ:ak) (n:Nat):Prop where
 es:ES G O H σ ρ n
 p0: ∀ p,G.dD p→O0 p
 sub: ∀ p,O0 p→O p
 ext:Ext G.B H0 H
 gr: ∀ p,O p→O0 p∨H0 p=none
 d0: ∀ p,O0 p→∃ o,H0 p=some o
 fr: ∀ i p,fo ρ σ i p→H0 p=none
 dj: ∀ i j p,fo ρ σ i p→fo ρ σ j p→i=j
section
variable {G:Bg φ} {O0 O:Addr→Prop} {H0 H H':Hp} {σ:St} {ρ:ak} {n n':Nat}
theorem SI.to (s:SI G O0 H0 O H σ ρ n) (x:Ext G.B H H') (ok:G.ok H' n'):SI G O0 H0 O H' σ ρ n':=⟨s.es.ext x ok,s.p0,s.sub,s.ext.trans x,s.gr,s.d0,s.fr,s.dj⟩
theorem qw (ht:t.D6=false) (h:fo (ρ.set k t) (σ.set k o) i p):fo ρ σ i p:=by
 obtain⟨e,h1,h2,h3⟩:=h
 by_cases hk:k=i
 ·subst hk
  rw[List.getElem?_set] at h1
  split at h1
  ·split at h1
   ·cases h1;rw[ht] at h2;cases h2
   ·cases h1
  ·exact⟨e,h1,h2,by rw[Lb (by lia)] at h3;exact h3⟩
 ·rw[Lb hk] at h1 h3
  exact⟨e,h1,h2,h3⟩
theorem SI.zb (s:SI G O0 H0 O H σ ρ n) (k:Nat) (r:Rep G.B O H y x):SI G O0 H0 O H (σ.set k (some x)) (ρ.set k (.val y)) n:=
 ⟨s.es.set k (t:=.val y) ⟨x,rfl,r⟩,s.p0,s.sub,s.ext,s.gr,s.d0,fun i p h=>s.fr i p (qw rfl h),fun i j p h h'=>s.dj i j p (qw rfl h) (qw rfl h')⟩
theorem fV (s:ES G O H σ ρ n) (h:fo ρ σ i p):O p∧¬ G.dD p∧∃ o,H p=some o:=by
 obtain⟨t,h1,h2,h3⟩:=h
 have r:=s.er.2 i t h1
 rw[h3] at r
 cases t with
 |own l=>obtain⟨q,xs,e,a,b,c,_⟩:=r;cases e;exact⟨a,b,_,c⟩
 |cu l=>obtain⟨q,xs,e,a,b,c,_⟩:=r;cases e;exact⟨a,b,_,c⟩
 |_=>cases h2
theorem sa (s:ES G O H σ ρ n) (h:fo ρ σ i p) (e:H p=some o): ¬ Ge o:=by
 obtain⟨t,h1,h2,h3⟩:=h
 have r:=s.er.2 i t h1
 rw[h3] at r
 cases t with
 |own l=>obtain⟨q,xs,e',a,b,c,_⟩:=r;cases e';rw[c] at e;cases e;exact id
 |cu l=>obtain⟨q,xs,e',a,b,c,_⟩:=r;cases e';rw[c] at e;cases e;exact id
 |_=>cases h2
theorem SI.Cd (s:SI G O0 H0 O H σ ρ n) (k:Nat) (x:Ext G.B H H') (ok:G.ok H' n') (hp:H p=none) (hp':H' p=some (.lst xs)) (r:aR G.B (fun q=>O q∨q=p) H' l xs):
  SI G O0 H0 (fun q=>O q∨q=p) H' (σ.set k (some (.ref p))) (ρ.set k (.own l)) n':=by
 have nO: ¬ O p:=fun z=>by obtain⟨o,g⟩:=s.es.dm p z;rw[hp] at g;cases g
 have np: ¬ G.dD p:=fun z=>nO (s.es.pr p z)
 have h0:H0 p=none:=by
  cases e:H0 p with
  |none=>rfl
  |some o=>obtain⟨_,this⟩:=(s.ext p o (fun z=>np (z▸G.pB)) e).there;rw[hp] at this;cases this
 have hB:O G.B:=s.es.B
 have gw: ∀ q,(O q∨q=p)→O q∨H q=none:=fun q z=>by
  rcases z with z|z
  ·exact .inl z
  ·subst z;exact .inr hp
 have s':=s.es.ext x ok
 have es:ES G (fun q=>O q∨q=p) H' σ ρ n':=by
  refine⟨⟨s.es.er.1,fun i e he=>?_⟩,ok,fun q z=>.inl (s.es.pr q z),fun q z=>?_⟩
  ·have r1:=s.es.er.2 i e he
   cases e with
   |un=>trivial
   |val y=>obtain⟨v,hv,rr⟩:=r1;exact⟨v,hv,(rr.grow gw).ext (.inl hB) x⟩
   |own t=>
    obtain⟨q,ys,hv,hq,nq,hh,rr⟩:=r1
    exact⟨q,ys,hv,.inl hq,nq,x q _ (fun z=>nq (z▸G.pB)) hh,(rr.grow gw).ext (.inl hB) x⟩
   |cu t=>
    obtain⟨q,ys,hv,hq,nq,hh,rr⟩:=r1
    exact⟨q,ys,hv,.inl hq,nq,x q _ (fun z=>nq (z▸G.pB)) hh,⟨rr.1,fun i a b c d=>((rr.2 i a b c d).grow gw).ext (.inl hB) x⟩⟩
  ·rcases z with z|z
   ·exact s'.dm q z
   ·subst z;exact⟨_,hp'⟩
 have ow: ∀ i q,fo (ρ.set k (.own l)) (σ.set k (some (.ref p))) i q→(i=k∧q=p)∨(i≠k∧fo ρ σ i q):=fun i q h=>by
  obtain⟨t,h1,h2,h3⟩:=h
  by_cases hk:k=i
  ·subst hk
   rw[List.getElem?_set] at h3
   split at h3
   ·split at h3
    ·cases h3;exact .inl ⟨rfl,rfl⟩
    ·cases h3
   ·rename_i hh;exact absurd rfl hh
  ·rw[Lb hk] at h1 h3
   exact .inr ⟨fun z=>hk z.symm,t,h1,h2,h3⟩
 refine⟨es.set k (t:=.own l) ⟨p,xs,rfl,.inr rfl,np,hp',r⟩,s.p0,fun q z=>.inl (s.sub q z),s.ext.trans x,fun q z=>?_,s.d0,fun i q h=>?_,fun i j q h h'=>?_⟩
 ·rcases z with z|z
  ·exact s.gr q z
  ·subst z;exact .inr h0
 ·rcases ow i q h with⟨_,rfl⟩|⟨_,h⟩
  ·exact h0
  ·exact s.fr i q h
 ·rcases ow i q h with⟨rfl,rfl⟩|⟨n1,h1⟩
  ·rcases ow j q h' with⟨rfl,_⟩|⟨n2,h2⟩
   ·rfl
   ·obtain⟨_,_,o,g⟩:=fV s.es h2;rw[hp] at g;cases g
  ·rcases ow j q h' with⟨rfl,rfl⟩|⟨n2,h2⟩
   ·obtain⟨_,_,o,g⟩:=fV s.es h1;rw[hp] at g;cases g
   ·exact s.dj i j q h1 h2
theorem SI.put (s:SI G O0 H0 O H σ ρ n) (hk:ρ[k]?=some (.own l)) (hp:σ[k]?=some (some (.ref p))) (r:aR G.B O H l' xs'):SI G O0 H0 O (upd H p (.lst xs')) σ (ρ.set k (.own l')) n:=by
 have ho:fo ρ σ k p:=⟨_,hk,rfl,hp⟩
 obtain⟨hO,np,o,hh⟩:=fV s.es ho
 have Hr:=sa s.es ho hh
 have kp: ∀ q u,¬ O q→H q=some u→upd H p (.lst xs') q=some u∧¬ O q:=fun q u nq hq=>⟨by
  have dO:q≠p:=fun z=>nq (z▸hO)
  rw[aq dO];exact hq,nq⟩
 have ow: ∀ i q,fo (ρ.set k (.own l')) σ i q→fo ρ σ i q:=fun i q h=>by
  obtain⟨t,h1,h2,h3⟩:=h
  by_cases e:k=i
  ·subst e;exact⟨_,hk,rfl,h3⟩
  ·rw[Lb e] at h1;exact⟨t,h1,h2,h3⟩
 refine⟨⟨⟨by simp[s.es.er.1],fun i e he=>?_⟩,G.keep H _ _ (fun q u hq hu=>by
   have dO:q≠p:=fun z=>by
    rcases hq with hq|hq
    ·exact np (z▸hq)
    ·rw[z,hh] at hu;cases hu;exact Hr hq
   rw[aq dO];exact hu) s.es.ok,s.es.pr,fun q hq=>?_⟩,s.p0,s.sub,fun q u nb hq=>?_,s.gr,s.d0,fun i q h=>s.fr i q (ow i q h),fun i j q h h'=>s.dj i j q (ow i q h) (ow j q h')⟩
 ·by_cases e1:k=i
  ·subst e1
   have hl:k < ρ.length:=(KD.mp hk).1
   rw[Ls hl] at he
   cases he
   rw[hp]
   exact⟨p,xs',rfl,hO,np,ay,r.keep kp⟩
  ·rw[Lb e1] at he
   have r1:=s.es.er.2 i e he
   cases e with
   |un=>trivial
   |val y=>obtain⟨v,hv,rr⟩:=r1;exact⟨v,hv,rr.keep kp⟩
   |own t=>
    obtain⟨q,ys,hv,hq,nq,hh',rr⟩:=r1
    have dO:q≠p:=fun z=>by
     subst z
     exact e1 (s.dj k i q ho ⟨_,he,rfl,eK s.es.er he hv⟩)
    exact⟨q,ys,hv,hq,nq,by rw[aq dO];exact hh',rr.keep kp⟩
   |cu t=>
    obtain⟨q,ys,hv,hq,nq,hh',rr⟩:=r1
    have dO:q≠p:=fun z=>by
     subst z
     exact e1 (s.dj k i q ho ⟨_,he,rfl,eK s.es.er he hv⟩)
    exact⟨q,ys,hv,hq,nq,by rw[aq dO];exact hh',rr.keep kp⟩
 ·by_cases e1:q=p
  ·subst e1;exact⟨_,ay⟩
  ·obtain⟨u,g⟩:=s.es.dm q hq;exact⟨u,by rw[aq e1];exact g⟩
 ·have dO:q≠p:=fun z=>by subst z;rw[s.fr k q ho] at hq;cases hq
  exact(s.ext q u nb hq).to fun v e=>.of (by rw[aq dO];exact e)
theorem SI.frozen (s:SI G O0 H0 O H σ ρ n):ES G O0 H σ (ρ.map Ent.freeze) n:=by
 refine⟨⟨by simp[s.es.er.1],fun i e he=>?_⟩,s.es.ok,s.p0,fun p h=>s.es.dm p (s.sub p h)⟩
 rw[KY] at he
 cases q:ρ[i]? with
 |none=>rw[q] at he;cases he
 |some t=>
  rw[q] at he
  cases he
  have r1:=s.es.er.2 i t q
  cases t with
  |un=>trivial
  |val y=>obtain⟨v,hv,rr⟩:=r1;exact⟨v,hv,rr.less s.sub⟩
  |own t=>
   obtain⟨p,ys,hv,hq,nq,hh',rr⟩:=r1
   have h0:=s.fr i p ⟨_,q,rfl,eK s.es.er q hv⟩
   exact⟨_,hv,.lst (fun z=>by obtain⟨o,g⟩:=s.d0 p z;rw[h0] at g;cases g) hh' rr.1 (rr.less s.sub).2⟩
  |cu t=>
   obtain⟨p,ys,hv,hq,nq,hh',rr⟩:=r1
   have h0:=s.fr i p ⟨_,q,rfl,eK s.es.er q hv⟩
   exact⟨_,hv,.eW (fun z=>by obtain⟨o,g⟩:=s.d0 p z;rw[h0] at g;cases g) (.inl hh') rr.1 fun i a b c d=>(rr.2 i a b c d).less s.sub⟩
theorem SI.f7 (s:SI G O0 H0 O H σ ρ n):SI G O0 H0 O0 H σ (ρ.map Ent.freeze) n:=by
 have no: ∀ i p,¬ fo (ρ.map Ent.freeze) σ i p:=fun i p h=>by
  obtain⟨t,h1,h2,_⟩:=h
  rw[KY] at h1
  cases q:ρ[i]? with
  |none=>rw[q] at h1;cases h1
  |some e=>rw[q] at h1;cases h1;cases e<;>cases h2
 exact⟨s.frozen,s.p0,fun p h=>h,s.ext,fun p h=>.inl h,s.d0,fun i p h=>(no i p h).elim,fun i j p h=>(no i p h).elim⟩
def hide (O0 O:Addr→Prop) (H:Hp):Hp:=fun p=>by
 classical exact if O p∧¬ O0 p then none else H p
theorem qP (h:O p) (h': ¬ O0 p):hide O0 O H p=none:=by unfold hide;rw[Lq ⟨h,h'⟩]
theorem gZ (h: ¬ (O p∧¬ O0 p)):hide O0 O H p=H p:=by unfold hide;rw[Lr h]
theorem SI.now (s:SI G O0 H0 O H σ ρ n):SI G O0 (hide O0 O H) O H σ ρ n:=by
 refine⟨s.es,s.p0,s.sub,fun p o nb h=>?_,fun p h=>?_,fun p h=>?_,fun i p h=>?_,s.dj⟩
 ·by_cases c:O p∧¬ O0 p
  ·rw[qP c.1 c.2] at h;cases h
  ·rw[gZ c] at h;exact .of h
 ·by_cases c:O0 p
  ·exact .inl c
  ·exact .inr (qP h c)
 ·rw[gZ (fun z=>z.2 h)];exact s.es.dm p (s.sub p h)
 ·have h1:=fV s.es h
  have h0:=s.fr i p h
  exact qP h1.1 (fun z=>by obtain⟨o,g⟩:=s.d0 p z;rw[h0] at g;cases g)
theorem SI.base (s:SI G O0 H0 O H σ ρ n):Ext G.B H0 (hide O0 O H):=fun p o nb h=>by
 have c: ¬ (O p∧¬ O0 p):=fun z=>by
  rcases s.gr p z.1 with w|w
  ·exact z.2 w
  ·rw[w] at h;cases h
 exact(s.ext p o nb h).to fun v e=>.of (by rw[gZ c];exact e)
theorem SI.back (s:SI G O0 H0 O H σ ρ n) (x:SI G O0 (hide O0 O H) O' H1 σ' ρ' n'):SI G O0 H0 O' H1 σ' ρ' n':=by
 have none0: ∀ p,¬ G.dD p→hide O0 O H p=none→H0 p=none:=fun p np h=>by
  cases e:H0 p with
  |none=>rfl
  |some o=>obtain⟨_,this⟩:=(s.base p o (fun z=>np (z▸G.pB)) e).there;rw[h] at this;cases this
 refine⟨x.es,x.p0,x.sub,s.base.trans x.ext,fun p h=>?_,s.d0,fun i p h=>none0 p (fV x.es h).2.1 (x.fr i p h),x.dj⟩
 by_cases c:O0 p
 ·exact .inl c
 ·rcases x.gr p h with w|w
  ·exact .inl w
  ·exact .inr (none0 p (fun z=>c (s.p0 p z)) w)
theorem SI.walk {K:Frag} {H1:Hp} {O':Addr→Prop} {σ':St} {ρ':ak} {l:List PV} {J:It} (s:SI G O0 H0 O H σ ρ n) (x:SI G O0 (hide O0 O H) O' H1 σ' ρ' n') (it:gg K G O true H l J):gg K G O' true H1 l J:=by
 have k: ∀ p o,¬ O p→H p=some o→hE H1 p o∧¬ O' p:=fun p o np hp=>by
  have e:hide O0 O H p=some o:=by rw[gZ (fun z=>np z.1)];exact hp
  refine⟨x.ext p o (fun z=>np (z▸s.es.B)) e,fun z=>?_⟩
  rcases x.gr p z with w|w
  ·exact np (s.sub p w)
  ·rw[w] at e;cases e
 cases it with
 |lst np hp h r=>exact .lst np (fun _=>(k _ _ (hp rfl) h).2) (k _ _ (hp rfl) h).1 (r.gB k)
 |tup hp h r=>exact .tup (k _ _ hp h).2 (k _ _ hp h).1 (r.gB k)
 |txt z=>exact .txt z
 |uu lo n=>exact .uu lo n
end
noncomputable def oU (G:Bg φ) (O0:Addr→Prop) (H0:Hp) (D:Ends) (n:Nat):Fl→Prop
 | .nx ρ=> ∀ O σ H,SI G O0 H0 O H σ ρ n→D.nx σ H
 | .bk ρ=> ∀ O σ H,SI G O0 H0 O H σ ρ n→D.bk σ H
 | .ct ρ=> ∀ O σ H,SI G O0 H0 O H σ ρ n→D.ct σ H
 | .rt y=> ∀ x H,Ext G.B H0 H→G.ok H n→Rep G.B O0 H y x→D.rt x H
def Es (φ:eF) (m:ak→M Fl):TS:=fun D σ H=> ∃ (G:Bg φ) (O0:Addr→Prop) (H0:Hp) (O:Addr→Prop) (ρ:ak) (n:Nat),SI G O0 H0 O H σ ρ n∧(m ρ).wp n fun f n'=>oU G O0 H0 D n' f
def SV (φ:eF) (X:Cx) (st:Stmt) (m:ak→M Fl):Prop:=BS X st (Es φ m)
def FZ (φ:eF) (X:Cx) (sts:List Stmt) (m:ak→M Fl):Prop:=BC X sts (Es φ m)
section
variable {X:Cx} {st:Stmt} {sts:List Stmt}
theorem BS.mono (h:BS X st t) (f: ∀ D σ H,t' D σ H→t D σ H):BS X st t':=⟨fun pZ s σ H D I q=>h.out pZ s σ H D I (f D σ H q)⟩
theorem BC.mono (h:BC X sts t) (f: ∀ D σ H,t' D σ H→t D σ H):BC X sts t':=⟨fun pZ s σ H D I q=>h.out pZ s σ H D I (f D σ H q)⟩
def aE (m1 m2:ak→M Fl):ak→M Fl:=fun ρ=>(m1 ρ).bind fun f=>match f with| .nx ρ'=>m2 ρ'|o=>.ret o
theorem dv:FZ φ X [] (fun ρ=>.ret (.nx ρ)):=BC.mono ⟨qq⟩ fun D σ H ⟨G,O0,H0,O,ρ,n,s,w⟩=>w O σ H s
theorem aF (h:SV φ X st m):FZ φ X [st] m:=⟨ic h.out⟩
theorem ax (h:SV φ X st m1) (h':FZ φ X sts m2):FZ φ X (st::sts) (aE m1 m2):=BC.mono ⟨dC h.out h'.out⟩ fun D σ H cy=>by
 obtain⟨G,O0,H0,O,ρ,n,s,w⟩:=cy
 unfold aE at w
 rw[M.wZ] at w
 refine⟨G,O0,H0,O,ρ,n,s,M.wp_mono w fun f n' h=>?_⟩
 cases f with
 |nx ρ'=>exact fun O' σ' H' s'=>⟨G,O0,H0,O',ρ',n',s',h⟩
 |rt y=>exact h
 |bk ρ'=>exact h
 |ct ρ'=>exact h
def bF (k:Nat) (m:ak→M PV):ak→M Fl:=fun ρ=>(m ρ).bind fun y=>.ret (.nx (ρ.set k (.val y)))
theorem cp (h:BS X st (om (rE φ m) (iS k))):SV φ X st (bF k m):=BS.mono h fun D σ H cy=>by
 obtain⟨G,O0,H0,O,ρ,n,s,w⟩:=cy
 unfold bF at w
 rw[M.wZ] at w
 exact⟨G,O,ρ,n,_,s.es,w,fun y x H1 n1 e1 bP r1 w1=>w1 O _ _ ((s.to e1 bP).zb k r1)⟩
def jn (k:Nat) (m:ak→M (List PV)):ak→M Fl:=fun ρ=>(m ρ).bind fun l=>.ret (.nx (ρ.set k (.own l)))
theorem jC (h:BS X st (om (Gj φ m) (iS k))):SV φ X st (jn k m):=BS.mono h fun D σ H cy=>by
 obtain⟨G,O0,H0,O,ρ,n,s,w⟩:=cy
 unfold jn at w
 rw[M.wZ] at w
 exact⟨G,O,ρ,n,_,s.es,w,fun l p xs H1 n1 e1 bP hp hp' r1 w1=>w1 _ _ _ (s.Cd k e1 bP hp hp' r1)⟩
def bR (m:ak→M (List PV)):ak→M PV:=fun ρ=>(m ρ).bind fun l=>.ret (.lst l)
def yB (ks:List Nat) (m:ak→M PV):ak→M Fl:=fun ρ=>(m ρ).bind fun y=>(dS ks y ρ).bind fun ρ'=>.ret (.nx ρ')
theorem pL {G:Bg φ}: ∀ (ks:List Nat) (l:List PV) (xs:List V) (σ:St) (ρ:ak) (Q:St→Hp→Prop),l.length=ks.length→aR G.B O H l xs→SI G O0 H0 O H σ ρ n→(∀ σ',SI G O0 H0 O H σ' (u7 ks l ρ) n→Q σ' H)→nr ks xs σ H Q
 |[],l,xs,σ,ρ,Q,hl,r,s,q=>by
  have e:l=[]:=Lg hl
  subst e
  rw[r.nil_inv]
  exact⟨rfl,q σ s⟩
 |k::ks,l,xs,σ,ρ,Q,hl,r,s,q=>by
  cases l with
  |nil=>simp at hl
  |cons y l=>
   obtain⟨x,t,rfl,r1,r2⟩:=r.cons_inv
   exact⟨x,t,rfl,pL ks l t _ _ Q (by simpa using hl) r2 (s.zb k r1) q⟩
theorem yI {K:Frag} {G:Bg φ} {O0 O:Addr→Prop} {H0 H:Hp} {n:Nat} {ks:List Nat} {y:PV} {x:V} {σ:St} {ρ:ak} {R:ak→Nat→Prop} {Q:St→Hp→Prop} (s:SI G O0 H0 O H σ ρ n) (r:Rep G.B O H y x) (w:(dS ks y ρ).wp n R) (q: ∀ σ' ρ',SI G O0 H0 O H σ' ρ' n→R ρ' n→Q σ' H):AN K ks.length (nr ks) x σ H Q:=by
 unfold dS at w
 cases r with
 | @tup p xs l a b c d=>
  dsimp only at w
  by_cases hc:l.length=ks.length
  ·rw[Lq hc] at w
   exact⟨p,xs,rfl,fu.of b,by rw[←c];exact hc,pL ks l xs σ ρ Q hc ⟨c,d⟩ s fun σ' s'=>q σ' _ s' w⟩
  ·rw[Lr hc] at w;exact w.elim
 |_=>exact w.elim
theorem yP (h:BS X st (om (rE φ m) (AN X.K ks.length (nr ks)))):SV φ X st (yB ks m):=BS.mono h fun D σ H cy=>by
 obtain⟨G,O0,H0,O,ρ,n,s,w⟩:=cy
 unfold yB at w
 rw[M.wZ] at w
 refine⟨G,O,ρ,n,_,s.es,w,fun y x H1 n1 e1 bP r1 w1=>?_⟩
 rw[M.wZ] at w1
 exact yI (s.to e1 bP) r1 w1 fun σ' ρ' s' h=>h O σ' H1 s'
def zT (i j:Nat) (m:ak→M (List PV)):ak→M Fl:=fun ρ=>(m ρ).bind fun l=>match l with|[y,z]=>.ret (.nx ((ρ.set i (.val y)).set j (.val z)))|_=>.fail
theorem Ey (h:BS X st (BY i j (Iw φ m))):SV φ X st (zT i j m):=BS.mono h fun D σ H cy=>by
 obtain⟨G,O0,H0,O,ρ,n,s,w⟩:=cy
 unfold zT at w
 rw[M.wZ] at w
 refine⟨G,O,ρ,n,_,s.es,w,fun l xs H1 n1 e1 bP r1 w1=>?_⟩
 match l,r1,w1 with
 |[y,z],r1,w1=>
  obtain⟨x,t,rfl,h1,h2⟩:=r1.cons_inv
  obtain⟨x',t',rfl,h3,h4⟩:=h2.cons_inv
  rw[h4.nil_inv]
  exact⟨x,x',rfl,w1 O _ _ (((s.to e1 bP).zb i h1).zb j h3)⟩
def de (m:ak→M PV):ak→M Fl:=fun ρ=>(m (ρ.map Ent.freeze)).bind fun y=>.ret (.rt y)
theorem bJ (h:BS X st (Et (rE φ m))):SV φ X st (de m):=BS.mono h fun D σ H cy=>by
 obtain⟨G,O0,H0,O,ρ,n,s,w⟩:=cy
 unfold de at w
 rw[M.wZ] at w
 exact⟨G,O0,_,n,_,s.frozen,w,fun y x H1 n1 e1 bP r1 w1=>w1 x H1 (s.ext.trans e1) bP r1⟩
def fS (mc:ak→M Bool) (ma mb:ak→M Fl):ak→M Fl:=fun ρ=>(mc ρ).bind fun b=>if b=true then ma ρ else mb ρ
theorem eO (h:BS X st (Eu (BD φ mc) (Es φ ma) (Es φ mb))):SV φ X st (fS mc ma mb):=BS.mono h fun D σ H cy=>by
 obtain⟨G,O0,H0,O,ρ,n,s,w⟩:=cy
 unfold fS at w
 rw[M.wZ] at w
 refine⟨G,O,ρ,n,_,s.es,w,fun b H1 n1 e1 bP w1=>?_⟩
 cases b with
 |true=>exact⟨G,O0,H0,O,ρ,n1,s.to e1 bP,w1⟩
 |false=>exact⟨G,O0,H0,O,ρ,n1,s.to e1 bP,w1⟩
noncomputable def d8 (k:Nat) (m:ak→M PV):ak→M Fl:=fun ρ=>match ρ[k]? with|some (.own l)=>(m ρ).bind fun y=>if l.length < 100000 then .ret (.nx (ρ.set k (.own (l++[y])))) else .fail|_=>.fail
theorem gK (h:BS X st (rM (Gm X.K "list" vH (kz k) (iI (rE φ m) rL)))):SV φ X st (d8 k m):=BS.mono h fun D σ H cy=>by
 obtain⟨G,O0,H0,O,ρ,n,s,w⟩:=cy
 unfold d8 at w
 cases hk:ρ[k]? with
 |none=>simp only[hk] at w;exact w.elim
 |some t=>
  cases t with
  |own l=>
   simp only[hk] at w
   obtain⟨p,xs,hx,hO,np,hh,rr⟩:=s.es.er.2 k _ hk
   have hs:=eK s.es.er hk hx
   have npB:p≠G.B:=fun z=>np (z▸G.pB)
   rw[M.wZ] at w
   refine⟨_,hs,.inl ⟨rfl,xs,cV.of hh⟩,G,O,ρ,n,_,s.es,w,fun y x H1 n1 e1 bP r1 w1=>?_⟩
   by_cases hc:l.length < 100000
   ·rw[Lq hc] at w1
    have s1:=s.to e1 bP
    have big:=fE
    refine⟨p,xs,x,rfl,rfl,e1 p _ npB hh,by rw[←rr.1];lia,w1 O _ _ (s1.put hk hs ((rr.ext s.es.B e1).append (.cons r1 .nil)))⟩
   ·rw[Lr hc] at w1;exact w1.elim
  |_=>simp only[hk] at w;exact w.elim
noncomputable def o5 (k:Nat) (mi mv:ak→M PV):ak→M Fl:=fun ρ=>(mv ρ).bind fun y=>match ρ[k]? with|some (.own l)=>(mi ρ).bind fun i=>(AE i).bind fun i=>(M.ft (qM l.length i)).bind fun j=>.ret (.nx (ρ.set k (.own (l.set j y))))|_=>.fail
theorem B1 (h:BS X st (om (rE φ mv) (Dg (kz k) (qc φ mi) DP))):SV φ X st (o5 k mi mv):=BS.mono h fun D σ H cy=>by
 obtain⟨G,O0,H0,O,ρ,n,s,w⟩:=cy
 unfold o5 at w
 rw[M.wZ] at w
 refine⟨G,O,ρ,n,_,s.es,w,fun y x H1 n1 e1 bP r1 w1=>?_⟩
 have s1:=s.to e1 bP
 cases hk:ρ[k]? with
 |none=>simp only[hk] at w1;exact w1.elim
 |some t=>
  cases t with
  |own l=>
   simp only[hk] at w1
   obtain⟨p,xs,hx,hO,np,hh,rr⟩:=s1.es.er.2 k _ hk
   have hs:=eK s.es.er hk hx
   have npB:p≠G.B:=fun z=>np (z▸G.pB)
   rw[M.wZ] at w1
   refine⟨_,hs,G,O,ρ,n1,_,s1.es,w1,fun i x2 H2 n2 e2 kP r2 w2=>?_⟩
   cases i<;>first|exact w2.elim|skip
   rename_i i
   rw[r2.cZ]
   replace w2:((M.ft (qM l.length i)).bind fun j=>M.ret (.nx (ρ.set k (.own (l.set j y)))):M Fl).wp n2 (fun f n'=>oU G O0 H0 D n' f):=w2
   cases hj:qM l.length i with
   |none=>rw[hj] at w2;exact w2.elim
   |some j=>
    rw[hj] at w2
    have s2:=s1.to e2 kP
    exact⟨p,xs,i,j,rfl,rfl,e2 p _ npB hh,by rw[←rr.1];exact hj,w2 O _ _ (s2.put hk hs ((rr.ext s.es.B e2).set j (r1.ext s.es.B e2)))⟩
  |_=>simp only[hk] at w1;exact w1.elim
def FE (m:ak→M Fl):ak→M Fl:=fun ρ=>m (ρ.map Ent.freeze)
theorem yR (h:SV φ X st m):SV φ X st (FE m):=BS.mono h fun D σ H ⟨G,O0,H0,O,ρ,n,s,w⟩=>⟨G,O0,H0,O0,_,n,s.f7,w⟩
noncomputable def IY (φ:eF) (b:PV→ak→M ak):TG:=fun v σ H Q=> ∃ (G:Bg φ) (O0:Addr→Prop) (H0:Hp) (O:Addr→Prop) (ρ:ak) (n:Nat) (R:ak→Nat→Prop) (y:PV),SI G O0 H0 O H σ ρ n∧Rep G.B O H y v∧(b y ρ).wp n R∧
 ∀ (σ':St) (ρ':ak) (n':Nat),SI G O0 H0 O H σ' ρ' n'→R ρ' n'→Q σ' H
def GS (φ:eF) (X:Cx) (tg:Expr) (b:PV→ak→M ak):Prop:=BG X tg (IY φ b)
theorem fX (h:BG X tg (iS k)):GS φ X tg (aP k):=BG.mono h fun v σ H Q ⟨G,O0,H0,O,ρ,n,R,y,s,r,w,q⟩=>q _ _ n (s.zb k r) w
theorem qS (h:BG X tg (AN X.K ks.length (nr ks))):GS φ X tg (dS ks):=BG.mono h fun v σ H Q ⟨G,O0,H0,O,ρ,n,R,y,s,r,w,q⟩=>yI s r w fun σ' ρ' s' h=>q σ' ρ' n s' h
noncomputable def dE (bd:PV→ak→M ak) (mb:ak→M Fl):List PV→ak→M Fl
 |[],ρ=>.ret (.nx ρ)
 |y::r,ρ=>(bd y ρ).bind fun ρ1=>(mb ρ1).bind fun f=>match f with
  | .nx ρ2=>dE bd mb r ρ2
  | .ct ρ2=>dE bd mb r ρ2
  | .bk ρ2=>.ret (.nx ρ2)
  | .rt v=>.ret (.rt v)
def bx (mi:ak→M (List PV)) (bd:PV→ak→M ak) (mb:ak→M Fl):ak→M Fl:=fun ρ=>(mi ρ).bind fun l=>dE bd mb l ρ
theorem fM {mi:ak→M (List PV)} {bd:PV→ak→M ak} {mb:ak→M Fl} (h:BS X st (yM (Gi φ X.K true mi) (IY φ bd) (Es φ mb))):SV φ X st (bx mi bd mb):=BS.mono h fun D σ H cy=>by
 obtain⟨G,O0,H0,O,ρ,n,s,w⟩:=cy
 unfold bx at w
 rw[M.wZ] at w
 refine⟨G,O,ρ,n,_,s.es,w,fun l J H1 n1 e1 bP it w1=>?_⟩
 have s1:=s.to e1 bP
 refine⟨fun i m σ' H'=>m=l.length - i∧i≤l.length∧∃ (O':Addr→Prop) (ρ':ak) (n':Nat),SI G O0 (hide O0 O H1) O' H' σ' ρ' n'∧(dE bd mb (l.drop i) ρ').wp n' (fun f n'=>oU G O0 H0 D n' f),
  ⟨l.length,by simp,K6 _,O,ρ,n1,s1.now,by simpa using w1⟩,?_⟩
 rintro i m σ' H' ⟨rfl,hi,O',ρ',n',s',w'⟩
 have it':=s1.walk s' it
 by_cases hV:i < l.length
 ·have hget:l[i]?=some l[i]:=Ku hV
  have nk:l.drop i=l[i]::l.drop (i+1):=List.drop_eq_getElem_cons hV
  rw[nk] at w'
  unfold dE at w'
  obtain⟨g1,g2⟩:=it'.go hget
  refine .inr ⟨g1,fun σ2 H2=> ∃ (O':Addr→Prop) (ρ':ak) (n':Nat),SI G O0 (hide O0 O H1) O' H2 σ2 ρ' n'∧(dE bd mb (l.drop (i+1)) ρ').wp n' (fun f n'=>oU G O0 H0 D n' f),fun σ2 H2 hh=>⟨l.length - (i+1),by lia,rfl,hV,hh⟩,fun x H2 yl=>?_⟩
  obtain⟨eH,rx⟩:=g2 x H2 yl
  subst eH
  rw[M.wZ] at w'
  refine⟨G,O0,_,O',ρ',n',_,l[i],s',rx,w',fun σ2 ρ2 n2 s2 w2=>?_⟩
  rw[M.wZ] at w2
  refine⟨G,O0,_,O',ρ2,n2,s2,M.wp_mono w2 fun f n3 w3=>?_⟩
  cases f with
  |nx ρ3=>exact fun O3 σ3 H3 s3=>⟨O3,ρ3,n3,s3,w3⟩
  |ct ρ3=>exact fun O3 σ3 H3 s3=>⟨O3,ρ3,n3,s3,w3⟩
  |bk ρ3=>exact fun O3 σ3 H3 s3=>w3 O3 σ3 H3 (s1.back s3)
  |rt y=>exact fun x3 H3 e3 ok3 r3=>w3 x3 H3 (s1.base.trans e3) ok3 r3
 ·have e:i=l.length:=by lia
  subst e
  rw[List.drop_length] at w'
  exact .inl ⟨it'.stop,w' O' σ' H' (s1.back s')⟩
noncomputable def yw (mt:ak→M Bool) (mb:ak→M Fl):Nat→ak→M Fl
 |0,_=>.fail
 |k+1,ρ=>(mt ρ).bind fun b=>if b=true then(mb ρ).bind fun f=>(match f with
  | .nx ρ2=>yw mt mb k ρ2
  | .ct ρ2=>yw mt mb k ρ2
  | .bk ρ2=>.ret (.nx ρ2)
  | .rt v=>.ret (.rt v)) else .ret (.nx ρ)
theorem yO {mt:ak→M Bool} {mb:ak→M Fl} (fuel:Nat) (h:BS X st (uj (BD φ mt) (Es φ mb))):SV φ X st (yw mt mb fuel):=BS.mono h fun D σ H cy=>by
 obtain⟨G,O0,H0,O,ρ,n,s,w⟩:=cy
 refine⟨fun m σ' H'=> ∃ (O':Addr→Prop) (ρ':ak) (n':Nat),SI G O0 H0 O' H' σ' ρ' n'∧(yw mt mb m ρ').wp n' (fun f n'=>oU G O0 H0 D n' f),⟨fuel,O,ρ,n,s,w⟩,?_⟩
 rintro m σ' H' ⟨O',ρ',n',s',w'⟩
 cases m with
 |zero=>exact w'.elim
 |succ k=>
  unfold yw at w'
  rw[M.wZ] at w'
  refine⟨G,O',ρ',n',_,s'.es,w',fun b H1 n1 e1 bP w1=>?_⟩
  cases b with
  |true=>
   simp only[if_true] at w1 ⊢
   rw[M.wZ] at w1
   refine⟨fun σ2 H2=> ∃ (O':Addr→Prop) (ρ':ak) (n':Nat),SI G O0 H0 O' H2 σ2 ρ' n'∧(yw mt mb k ρ').wp n' (fun f n'=>oU G O0 H0 D n' f),fun σ2 H2 hh=>⟨k,by lia,hh⟩,G,O0,H0,O',ρ',n1,s'.to e1 bP,M.wp_mono w1 fun f n3 w3=>?_⟩
   cases f with
   |nx ρ3=>exact fun O3 σ3 H3 s3=>⟨O3,ρ3,n3,s3,w3⟩
   |ct ρ3=>exact fun O3 σ3 H3 s3=>⟨O3,ρ3,n3,s3,w3⟩
   |bk ρ3=>exact fun O3 σ3 H3 s3=>w3 O3 σ3 H3 s3
   |rt y=>exact fun x3 H3 e3 ok3 r3=>w3 x3 H3 e3 ok3 r3
  |false=>
   simp only[Lk,if_false] at w1 ⊢
   exact w1 O' σ' H1 (s'.to e1 bP)
end
def dZ:Fl→M PV
 | .nx _=>.ret .aU
 | .rt y=>.ret y
 |_=>.fail
def mC (k:Nat) (l:List PV):ak:=l.map val++List.replicate (k - l.length) .un
def oa (a k:Nat) (m:ak→M Fl) (l:List PV):M PV:=if l.length=a then(m (mC k l)).bind dZ else .fail
theorem kE {vs:List V} {i:Nat} (h:vs[i]?=some x):(start N vs)[i]?=some (some x):=by
 unfold start
 have hi:i < vs.length:=(KD.mp h).1
 rw[Li (by simpa using hi),KY,h]
 rfl
section
variable {P:Program} {w:World} {K:Frag} {mg:Str→Option Value} {base:Heap}
theorem HM {x qual:Str} {st:Stmt} {f:Addr} {fd:FuncData} {N ps:List Str} {k:Nat} {m:ak→M Fl} (F:kr K x qual st f fd) (S:aX N ps (ah st)) (hN:ps.length≤N.length)
  (hb: ∀ (fL:Value) (A:Around) (outer:List Env) (s:Shared) (H:Hp) (E:XK),eN k (A.deeper (envOfC qual (ah st) s.heap.objs.size f fL))→FZ φ (jr ed P w K mg base N qual (ah st) f fL A outer s H E).tZ (av st) m):
  bD P w K mg base ed (k+1) f fd ps (fT φ (oa ps.length N.length m)):=by
 refine F.ok S (fun vs H Q E h=>?_) (fun fL A outer s H vs Q E hr h=>⟨_,(hb fL A outer s H E hr).out,?_⟩)
 ·obtain⟨G,O,l,n,R,_,_,_,r,w,_⟩:=h
  unfold oa at w
  by_cases hc:l.length=ps.length
  ·rw[←r.1,hc]
  ·rw[Lr hc] at w;exact w.elim
 ·obtain⟨G,O,l,n,R,pr,dm,ok,r,w,q⟩:=h
  unfold oa at w
  by_cases hc:l.length=ps.length
  ·rw[Lq hc,M.wZ] at w
   refine⟨G,O,H,O,mC N.length l,n,⟨⟨⟨?_,fun i e he=>?_⟩,ok,pr,dm⟩,pr,fun p h=>h,Ext.refl _ _,fun p h=>.inl h,dm,fun i p h=>?_,fun i j p h=>?_⟩,M.wp_mono w fun f n' h=>?_⟩
   ·unfold start mC;simp[r.1]
   ·unfold mC at he
    by_cases hi:i < l.length
    ·rw[Li (by simpa using hi),KY,Ku hi] at he
     cases he
     obtain⟨x,hx,rr⟩:=r.at (Ku hi)
     exact⟨x,by rw[kE hx];rfl,rr⟩
    ·rw[List.getElem?_append_right (by simpa using hi),List.getElem?_replicate] at he
     split at he
     ·cases he;trivial
     ·cases he
   all_goals try (
    obtain⟨t,h1,h2,_⟩:=h
    exfalso
    unfold mC at h1
    by_cases hi:i < l.length
    ·rw[Li (by simpa using hi),KY,Ku hi] at h1
     cases h1;cases h2
    ·rw[List.getElem?_append_right (by simpa using hi),List.getElem?_replicate] at h1
     split at h1
     ·cases h1;cases h2
     ·cases h1)
   cases f with
   |nx ρ=>exact fun O' σ' H' s'=>q .aU .aU H' n' s'.ext s'.es.ok .aU h
   |rt y=>exact fun x' H' e' ok' r'=>q y x' H' n' e' ok' r' h
   |bk ρ=>exact h.elim
   |ct ρ=>exact h.elim
  ·rw[Lr hc] at w;exact w.elim
end
end
section
variable {φ:eF}
section
variable {X:Cx} {e a b:Expr} {ma mb:ak→M PV}
def J9 (K:Frag) (T:String) (r:V→List V→Hp→VK→Prop) (op:PV→List PV→M PV):Prop:= ∀ (φ:eF) (G:Bg φ) (O:Addr→Prop) (H0 H:Hp) (n:Nat) (R:PV→Nat→Prop) (Q:VK) (y:PV) (x:V) (l:List PV) (xs:List V),
 (∀ p,G.dD p→O p)→(∀ p,O p→∃ o,H p=some o)→G.ok H n→cQ G O H y x→fv G O H l xs→(op y l).wp n R→lj G O H R Q→r x xs H Q
def tyP:PV→String
 | .str _=>"str"
 | .lst _=>"list"
 | .eW _=>"dict"
 |_=>""
def IG (T:String) (op:PV→List PV→M PV) (mo:ak→M PV) (ml:ak→M (List PV)):ak→M PV:=fun ρ=>(mo ρ).bind fun y=>if tyP y=T then(ml ρ).bind fun l=>op y l else .fail
theorem HN (h:BE X e (Gm X.K T r (qc φ mo) (Gk φ ml))) (hv:J9 X.K T r op) (hT:T≠"":=by decide):EV φ X e (IG T op mo ml):=BE.mono h fun σ H Q cy=>by
 obtain⟨G,O,ρ,n,R,s,w,q⟩:=cy
 unfold IG at w
 rw[M.wZ] at w
 refine⟨G,O,ρ,n,_,s,w,fun y x H1 n1 e1 bP r1 w1=>?_⟩
 by_cases hc:tyP y=T
 ·rw[Lq hc] at w1
  have ty:IU X.K T x H1:=by
   subst hc
   cases y<;>first|exact absurd rfl hT|skip
   ·rw[r1.gv];rfl
   ·obtain⟨p,xs,rfl,hh,_⟩:=r1.fR;exact .inl ⟨rfl,xs,cV.of hh⟩
   ·obtain⟨p,ks,rfl,hh,_⟩:=r1.wx;exact .inr (.inr (.inl ⟨rfl,.inl ⟨ks,hh⟩⟩))
  refine⟨ty,?_⟩
  rw[M.wZ] at w1
  refine⟨G,O,ρ,n1,_,s.ext e1 bP,w1,fun l xs H2 n2 e2 kP r2 w2=>?_⟩
  exact hv φ G O H1 H2 n2 R Q y x l xs s.pr (s.ext (e1.trans e2) kP).dm kP (r1.ext s.B e2) r2 w2 fun y x H' n' e o r h=>q y x H' n' (e1.trans (e2.trans e)) o r h
 ·rw[Lr hc] at w1;exact w1.elim
def strsOf:List PV→Option (List Str)
 |[]=>some []
 | .str b::r=>(strsOf r).map (b:: ·)
 |_=>none
theorem rO: ∀ {l:List PV} {xs:List V} {bs:List Str},aR B O H l xs→strsOf l=some bs→xs=bs.map V.str
 |[],xs,bs,h,e=>by simp[strsOf] at e;subst e;exact h.nil_inv
 |y::l,xs,bs,h,e=>by
  cases y<;>simp[strsOf] at e
  obtain⟨bs',e1,rfl⟩:=e
  obtain⟨x,r,rfl,h1,h2⟩:=h.cons_inv
  cases h1
  rw[KI,rO h2 e1]
noncomputable def pz:PV→List PV→M PV
 | .str sep,[.lst l]=>(M.ft (strsOf l)).bind fun ys=>if(ys.map (·.length)).sum+ys.length * sep.length≤16777216 then .ret (.str (Txt.join sep ys)) else .fail
 |_,_=>.fail
theorem xM (w:(pz y l).wp n R): ∃ sep m,y= .str sep∧l=[.lst m]:=by
 unfold pz at w
 split at w
 ·exact⟨_,_,rfl,rfl⟩
 ·exact w.elim
theorem CV {K:Frag}:J9 K "str" (fun x xs H Q=> ∃ (sep:Str) (p:Addr) (ys:List Str),x= .str sep∧xs=[.ref p]∧cV K H p (ys.map V.str)∧(ys.map (·.length)).sum+ys.length * sep.length≤16777216∧Q (.str (Txt.join sep ys)) H) pz:=fun φ G O H0 H n R Q y x l xs pr dm ok r1 r2 w q=>by
 obtain⟨sep,l,rfl,rfl⟩:=xM w
 ·rw[r1.gv]
  obtain⟨x2,ex,r3⟩:=r2.one
  subst ex
  obtain⟨p,xs,ep,hh,rr⟩:=r3.fR
  subst ep
  unfold pz at w
  dsimp only at w
  cases es:strsOf l with
  |none=>rw[es] at w;exact w.elim
  |some ys=>
   rw[es] at w
   replace w:(if(ys.map (·.length)).sum+ys.length * sep.length≤16777216 then M.ret (.str (Txt.join sep ys)) else .fail:M PV).wp n R:=w
   by_cases hc:(ys.map (·.length)).sum+ys.length * sep.length≤16777216
   ·rw[Lq hc] at w
    rw[rO rr es] at hh
    exact⟨sep,p,ys,rfl,rfl,cV.of hh,hc,q.sc ok (.str _) w⟩
   ·rw[Lr hc] at w;exact w.elim
def ij:PV→M PV
 | .int i=>.ret (.int (-i))
 |_=>.fail
theorem la (h:BE X e (IZ (rU fun i=>.int (-i)) (qc φ ma))):EV φ X e (fun ρ=>(ma ρ).bind ij):=BE.mono h fun σ H Q cy=>by
 obtain⟨G,O,ρ,n,R,s,w,q⟩:=cy
 rw[M.wZ] at w
 refine⟨G,O,ρ,n,_,s,w,fun y x H1 n1 e1 bP r1 w1=>?_⟩
 cases y<;>first|exact w1.elim|skip
 rw[r1.cZ]
 exact⟨_,rfl,q _ _ _ _ e1 bP (.int _) w1⟩
noncomputable def Bb (ma mb:ak→M PV):ak→M (List PV):=fun ρ=>(ma ρ).bind fun x=>(mb ρ).bind fun y=>match x,y with| .lst a,.lst b=>if a.length+b.length≤100000 then .ret (a++b) else .fail|_,_=>.fail
theorem FI (h:BE X e (BZ ER (qc φ ma) (qc φ mb))):EF φ X e (Bb ma mb):=BE.mono h fun σ H Q cy=>by
 obtain⟨G,O,ρ,n,R,s,w,q⟩:=cy
 unfold Bb at w
 rw[M.wZ] at w
 refine⟨G,O,ρ,n,_,s,w,fun y x H1 n1 e1 bP r1 w1=>?_⟩
 rw[M.wZ] at w1
 refine⟨G,O,ρ,n1,_,s.ext e1 bP,w1,fun y' x' H2 n2 e2 kP r2 w2=>?_⟩
 replace r1:=r1.ext s.B e2
 cases y<;>cases y'<;>first|exact w2.elim|skip
 rename_i i j
 obtain⟨a,xs,rfl,h1,q1⟩:=r1.fR
 obtain⟨b,ys,rfl,h2,q2⟩:=r2.fR
 dsimp only at w2
 by_cases hc:i.length+j.length≤100000
 ·rw[Lq hc] at w2
  have q':tU G O H2 R Q:=fun l p xs H' n' e o hp a b h=>q l p xs H' n' (e1.trans (e2.trans e)) o (gb (e1.trans e2) kP hp) a b h
  exact⟨a,b,xs,ys,rfl,rfl,h1,h2,KZ (by rw[←q1.1,←q2.1];exact hc) fE,fun p hp=>q'.mk kP hp s.B (q1.append q2) w2⟩
 ·rw[Lr hc] at w2;exact w2.elim
end
end
section
variable {φ:eF}
section
variable {X:Cx} {e a b o:Expr} {es:List Expr} {pos p:Pos} {x:Str} {id T:String} {r:List V→Hp→VK→Prop} {t:TA} {st:Stmt}
theorem bv (i:Nat) (hN:X.N[i]?=some x:=by rfl) (hv:IH X.env.scope x:=by first|exact Or.inl rfl|exact Or.inr (Or.inl rfl)|exact Or.inr (Or.inr rfl)) (hd:(x==("__debug__":Str))=false:=by decide)
  (hcd:(x==("__classdict__":Str))=false:=by decide):BE X (.Name x pos) (kz i):=⟨zL hN hv hd hcd⟩
theorem dc (hc:gm X (.builtin id) r) (hg:Gl X x) (hm:X.mg x=none) (hv:bootBuiltins x=some (.builtin id)) (ha:BA X (e::es) t) (hn:x≠"__name__":=by decide) (qR:(x==("__debug__":Str))=false:=by decide)
  (he:starEach (e::es) X.env=(false,eval e X.env)::starEach es X.env:=by rfl) (ng:(backTo pos (starEach es X.env)).any (·.1)=false:=by rfl):BE X (.Call (.Name x p) (e::es) [] pos) (Ex r t):=⟨r9 hc hg hm hv ha.out hn qR he ng⟩
theorem g8 (hc:gm X (.type T) r) (hg:Gl X x) (hm:X.mg x=none) (hv:bootBuiltins x=some (.type T)) (ha:BA X (e::es) t) (hn:x≠"__name__":=by decide) (qR:(x==("__debug__":Str))=false:=by decide)
  (he:starEach (e::es) X.env=(false,eval e X.env)::starEach es X.env:=by rfl) (ng:(backTo pos (starEach es X.env)).any (·.1)=false:=by rfl):BE X (.Call (.Name x p) (e::es) [] pos) (Ex r t):=⟨xm hc hg hm hv ha.out hn qR he ng⟩
theorem aL (F:bD X.prog X.w X.K X.mg X.base CX k f fd ps sp) (hr:eN k X.A) (hg:Gl X x) (hm:X.mg x=some (.ref f)) (hk:keepIn X.K (.ref f)=true) (hb:Binds X.K fd ps ds) (hd:Vals dvs ds) (hx:Passes CX X E)
  (ha:BA X (e::es) t) (qR:(x==("__debug__":Str))=false:=by decide) (he:starEach (e::es) X.env=(false,eval e X.env)::starEach es X.env:=by rfl) (ng:(backTo pos (starEach es X.env)).any (·.1)=false:=by rfl):
  BE X (.Call (.Name x p) (e::es) [] pos) (rN sp dvs E t):=⟨CA F hr hg hm hk hb hd hx ha.out qR he ng⟩
theorem fi:BA X [] rL:=⟨gM⟩
theorem dA (ha:BE X e te) (hr:BA X es t) (hs:starEach (e::es) X.env=(false,eval e X.env)::starEach es X.env:=by rfl):BA X (e::es) (iI te t):=⟨fe ha.out hr.out hs⟩
theorem g9 {apos lg:Pos} {name:Str} {to:TE} {r:V→List V→Hp→VK→Prop} (pa:PlainAttrs T) (slot:Slot T name id) (hty:typeOf (.builtin id)=pure (.type "method_descriptor")) (hm:JR X id r) (ho:BE X o to) (ha:BA X (e::es) t)
  (hbase:attributeBase o name X.env (eval o X.env)=eval o X.env:=by rfl)
  (hfew:((backTo lg (starEach (e::es) X.env)).all (fun x=>!x.1)&&(backToKw lg (keywordEach [] X.env)).all (fun x=>x.1.isSome)
   &&decide ((e::es).length+([]:List Keyword).length+(if([]:List Keyword).isEmpty then 0 else 1) < 30))=true:=by rfl)
  (hline:(apos.endLine==lg.line)=true:=by rfl) (hs:starEach (e::es) X.env=(false,eval e X.env)::starEach es X.env:=by rfl) (hplain:(backTo lg (starEach es X.env)).any (·.1)=false:=by rfl):
  BE X (.Call (.Attribute o name apos) (e::es) [] lg) (Gm X.K T r to t):=⟨Hd pa slot hty hm ho.out ha.out hbase hfew hline hs hplain⟩
theorem iW (L:bf X scope N js) (hc:X.calm=true) (hi:BI X target iter wi)
  (hg: ∀ s₀ H₀ ex pn,BG (iF X scope N s₀ H₀ ex pn) target g) (ht: ∀ s₀ H₀ ex pn,Gg (iF X scope N s₀ H₀ ex pn) ifs tt) (he: ∀ s₀ H₀ ex pn,BE (iF X scope N s₀ H₀ ex pn) elt te)
  (hs: ∀ x,foldedSetIterable iter X.env x=pure x:=by intro _;rfl):BE X (.ListComp elt [⟨target,iter,ifs,0⟩] scope pos) (Iz js wi g tt te):=⟨Hc L hc hi.out (fun a b c d=>(hg a b c d).out) (fun a b c d=>(ht a b c d).out) (fun a b c d=>(he a b c d).out) hs⟩
theorem bg (hN:X.N.Nodup) (hi:X.N[i]?=some x) (hx:Loc X.env.scope x) (he:BE X e te) (hs:swapsWith e (some (.Name x pos')) pos.line X.env=pure false:=by rfl) (hf:X.fn x=true∨X.env.scope.names.lookup x=some .local:=by first|exact .inl rfl|exact .inr rfl|assumption):
  BS X (.Assign [.Name x pos'] e pos) (om te (iS i)):=⟨iN hN hi hx he.out hs hf⟩
theorem u6 (he:BE X e te) (hg:BG X tg g) (hs:swapsWithSole [tg] e pos.line X.env=pure false:=by rfl) (hw:swappedStores [tg] e X.env=pure none:=by rfl)
  (h1:(assignEach [tg] X.env).map (·.2)=[assign tg X.env]:=by rfl):BS X (.Assign [tg] e pos) (om te g):=⟨uC he.out hg.out hs hw h1⟩
theorem Bk {kt k2 pt2} (hc:X.calm=true) (hN:X.N.Nodup) (hi:X.N[i]?=some x) (hj:X.N[j]?=some y) (hij:i≠j)
  (hx:X.env.scope.names.lookup x=some .local) (hy:X.env.scope.names.lookup y=some .local) (ha:BA X [a,b] ta)
  (hw:swappedStores [.Tuple [.Name x px,.Name y py] kt pt] (.Tuple [a,b] k2 pt2) X.env=pure (some [x,y]))
  (hs:swapsWithSole [.Tuple [.Name x px,.Name y py] kt pt] (.Tuple [a,b] k2 pt2) pos.line X.env=pure false:=by rfl):
  BS X (.Assign [.Tuple [.Name x px,.Name y py] kt pt] (.Tuple [a,b] k2 pt2) pos) (BY i j ta):=⟨EZ hc hN hi hj hij hx hy ha.out hw hs⟩
theorem bN (he:BE X e te):BS X (.Return (some e) pos) (Et te):=⟨qr he.out⟩
theorem eV {c:Expr} {ss tt:List Stmt} {tc:TT} {t u:TS} (hc:BT X c tc) (ha:BC X ss t) (hb:BC X tt u):BS X (.If c ss tt pos) (Eu tc t u):=⟨zB hc.out ha.out hb.out⟩
theorem fO (hp:PassesOwn (model X.prog X.w) X.A X.env X.xe) (hc:X.calm=true) (hi:BI X tg iter wi) (hg:BG X tg g) (hb:BC X body tb)
  (hs: ∀ x,foldedSetIterable iter X.env x=pure x:=by intro _;rfl):BS X (.For tg iter body [] pos) (yM wi g tb):=⟨qt hp hc hi.out hg.out hb.out hs⟩
theorem Bj (hp:PassesOwn (model X.prog X.w) X.A X.env X.xe) (hc:BT X c tc) (hb:BC X body tb):BS X (.While c body [] pos) (uj tc tb):=⟨zA hp hc.out hb.out⟩
theorem eI (he:BE X e te) (hs:swapsWith e none pos.line X.env=pure false:=by rfl):BS X (.Expr e pos) (rM te):=⟨Cs he.out hs⟩
theorem f9 (hg:Gl X "range") (hm:X.mg "range"=none) (ha:BA X [a] ta) (hs:starEach [a] X.env=[(false,eval a X.env)]:=by rfl):BI X tg (.Call (.Name "range" p) [a] [] pos) (AI ta):=⟨xk hg hm ha.out hs⟩
theorem Bq {r:V→Option Int→Option Int→Hp→VK→Prop} {te:TE} {tl th:TO} {lo hi:Option Expr} {p2:Pos} (hr:yo X r) (he:BE X e te) (hl:BO X lo tl) (hu:BO X hi th):BE X (.Subscript e (.Slice lo hi none p2) pos) (I0 r te tl th):=⟨jX hr he.out hl.out hu.out⟩
theorem p5 {op:UnaryOp} {r:V→Hp→VK→Prop} {ta:TE} (ho:II X (unaryOp op) r) (ha:BE X a ta):BE X (.UnaryOp op a pos) (IZ r ta):=⟨G9 ho ha.out⟩
theorem HY {op:Operator} {r:R2} {ta tb:TE} (ho:fw X (binaryOp op) r) (ha:BE X a ta) (hb:BE X b tb):BE X (.BinOp a op b pos) (BZ r ta tb):=⟨cF ho ha.out hb.out⟩
theorem aS (hN:X.N.Nodup) (hi:X.N[i]?=some x) (hx:Loc X.env.scope x) (hf:X.fn x=true∨X.env.scope.names.lookup x=some .local:=by first|exact .inl rfl|exact .inr rfl|assumption):BG X (.Name x pos) (iS i):=⟨lX hN hi hx hf⟩
theorem jh:IS X [] FD:=⟨vK⟩
theorem da {t:TG} {u:BM} (h1:BG X e t) (h2:IS X es u)
  (hs:(assignEach (e::es) X.env).map (·.2)=assign e X.env::(assignEach es X.env).map (·.2):=by rfl):IS X (e::es) (AO t u):=⟨mO h1.out h2.out hs⟩
theorem lh {k:Nat} {t:BM} {n:Nat} (hc:X.calm=true) (h:IS X es t)
  (hn:(assignEach es X.env).length=n:=by rfl) (hst:(assignEach es X.env).findIdx? (·.1)=none:=by rfl):BG X (.Tuple es k pos) (AN X.K n t):=⟨zJ hc h.out hn hst⟩
theorem FT {i:Expr} {to ti:TE} {t:DC} (ho:BE X o to) (hi:BE X i ti) (hs:Gb X t) (H: ∀ (a1:PE X o to) (a2:PE X i ti),PG X (.Subscript o i pos) (Dg to ti t):=by intro a1 a2;exact uE a1 a2 set_list):BG X (.Subscript o i pos) (Dg to ti t):=⟨H ho.out hi.out⟩
end
section
variable {P:Program} {w:World} {K:Frag} {mg:Str→Option Value} {base:Heap}
theorem dI {x qual:Str} {st:Stmt} {f:Addr} {fd:FuncData} {N ps:List Str} {k:Nat} {m:ak→M Fl} {body:List Stmt} {sc:Scope} {Ff:List PV→M PV} (hF:Ff=oa ps.length N.length m) (F:kr K x qual st f fd) (S:aX N ps (ah st)) (hN:ps.length≤N.length) (eb:av st=body) (es:ah st=sc)
  (hb: ∀ (fL:Value) (A:Around) (outer:List Env) (s:Shared) (H:Hp) (E:XK),eN k (A.deeper (envOfC qual sc s.heap.objs.size f fL))→FZ φ (jr ed P w K mg base N qual sc f fL A outer s H E).tZ body m):
  bD P w K mg base ed (k+1) f fd ps (fT φ Ff):=by
 subst hF eb es
 exact HM F S hN hb
end
end
section
open PySem.AutoSeq1 (wpAny_loadPart')
theorem kR:fillsNumberSlot (.type "tuple") "mul"=pure false:=
 PySem.fillsNumberSlot_seq (id:="tuple.__mul__") (r:=some (.builtin "tuple.__rmul__")) F.slot_tuple_mul.lookup (by decide +kernel) F.slot_tuple_rmul.lookup (by decide +kernel)
theorem qp:seqRepeat? (.type "tuple")=pure (some (.builtin "tuple.__mul__")):=by
 unfold seqRepeat?
 rw[PySem.seqSlot_of (T:="tuple") (name:="__mul__") (id:="tuple.__mul__") F.slot_tuple_mul.lookup (by decide +kernel),PySem.seqSlot_of (T:="tuple") (name:="__rmul__") (id:="tuple.__rmul__") F.slot_tuple_rmul.lookup (by decide +kernel)]
 rfl
theorem m9 (a:Int) (t:Tok) (l:Addr) (items:Array Value) (n:Nat) (dd:Option Addr) (sl:Array (Option Value)):
  Meets (Builtin.«int.__rmul__» ⟨[.int a t,.ref l],[]⟩) (fun _ R s=>s.heap.get? l=some {cls:=.type "tuple",dict:=dd,data:=.seq items n,slots:=sl}∧R (.ok (.ret Value.notImplemented)) s):=
 .of_wp fun prog w A R s h=>by obtain⟨hp,g,d,tk,os⟩:=s;obtain⟨hl,h⟩:=h;wp_walk using wpAny_loadPart' hl;exact⟨_,rfl,h⟩
theorem ug (l:Addr) (items:Array Value) (n:Nat) (dd:Option Addr) (sl:Array (Option Value)) (x:Int) (u:Tok) (hc0: ¬(decide (x < -(2 ^ 63))||decide (x ≥ 2 ^ 63))=true) (hc1: ¬(items.isEmpty||x==1)=true) (hc2: ¬(decide (x≤0)||items.isEmpty)=true) (hc3: ¬((items.size:Int) * x > (2 ^ 63 - 1) / 8)) (hc4: ¬Builtin.Tuple.tupleTooMany (items.size * x)=true) (hc5: ¬ (List.foldl (fun x1 x2=>x1++x2) #[] (List.replicate x.toNat items)).size > sizeLine):
  Meets (Builtin.«tuple.__mul__» ⟨[.ref l,.int x u],[]⟩) (fun _ R s=>s.heap.get? l=some {cls:=.type "tuple",dict:=dd,data:=.seq items n,slots:=sl}∧R (.ok (.ret (Value.ref s.heap.objs.size))) {s with heap:=s.heap.push {cls:=Value.type "tuple",data:=Data.seq ((List.replicate x.toNat items).foldl (· ++ ·) #[])},toks:=s.toks}):=
 .of_wp fun prog w A R s h=>by
  obtain⟨hp,g,d,tk,os⟩:=s;obtain⟨hl,h⟩:=h
  have f1:=AutoSeq1.idx_int
  wp_walk using wpAny_loadPart' hl
  refine wpAny_ite_false (K3 hc0) ?_
  wp_walk using wpAny_loadPart' hl
  refine wpAny_ite_false (K3 hc3) ?_
  wp_walk using wpAny_loadPart' hl
  exact⟨_,rfl,h⟩
noncomputable def DQ:R2:=fun x y H Q=> ∃ l k xs,x= .ref l∧y= .int k∧H l=some (.tup xs)∧xs≠[]∧1 < k∧k < 1000∧xs.length * k.toNat≤100000∧∀ p,H p=none→Q (.ref p) (upd H p (.tup (List.replicate k.toNat xs).flatten))
theorem CJ:fw X (binaryOp .Mult) DQ:=by
 intro pZ s σ H x y v u Q I rx ry h
 obtain⟨l,k,xs,rfl,rfl,hH,dO,h1,h2,hz,q⟩:=h
 cases rx
 obtain⟨t,rfl⟩:=ry
 obtain⟨aC,r,p,_⟩:=I.tuple (fu.of (K:=X.K) hH)
 obtain⟨⟨cls,dd,data,sl⟩,ho,hc,n,hd⟩:=id p
 simp only at hc hd
 subst hc hd
 have hlen:=r.length
 have hie:aC≠[]:=fun z=>dO (r.mf.mp z)
 have hnew:List.foldl (fun x1 x2=>x1++x2) #[] (List.replicate k.toNat aC.toArray)=(List.replicate k.toNat aC).flatten.toArray:=by
  have:=foldl_rep aC k.toNat []
  rw[List.nil_append] at this
  exact this
 have e63:(2:Int) ^ 63=9223372036854775808:=by decide
 have hsz:(aC.length:Int) * k≤100000:=by
  have e:(k.toNat:Int)=k:=by lia
  have:((aC.length * k.toNat:Nat):Int)≤100000:=by
   rw[←hlen]
   exact Int.ofNat_le.mpr hz
  rw[Int.natCast_mul,e] at this
  exact this
 have hs:sizeLine=16777216:=Lh
 have hfl:(List.replicate k.toNat xs).flatten.length≤sizeLine:=by rw[len_rep,Nat.mul_comm];lia
 refine wpAny_binaryOp_repeat_ref (T:="tuple") (U:="int") (by decide) ⟨_,ho,rfl⟩ (fun s'=>typeIs_int s' k t) kR F.fills_int_mul F.slot_int_rmul qp F.slot_int_index.lookup
  (call_meets F.slot_int_rmul (typeIs_int s k t) F.entry_int_rmul (F.args_int_rmul_2 _ _) (m9 k t l aC.toArray n dd sl)
   ⟨ho,rfl,⟨_,ho,rfl⟩,call_meets F.slot_tuple_mul ⟨_,ho,rfl⟩ F.entry_tuple_mul (F.args_tuple_mul_2 _ _) (ug l aC.toArray n dd sl k t ?_ ?_ ?_ ?_ ?_ ?_) ⟨ho,?_⟩⟩)
 ·simp;lia
 ·simp[hie];lia
 ·simp[hie];lia
 ·simp only[KC];lia
 ·unfold Builtin.Tuple.tupleTooMany;simp only[KC,decide_eq_true_eq];lia
 ·rw[hnew,KC,len_rep,Nat.mul_comm,←hlen];lia
 ·rw[hnew]
  refine⟨.ref s.heap.objs.size,_,I.laid (t':=s.toks) (o:=.tup (List.replicate k.toNat xs).flatten) (fun b ob q=>Ky _ q) (KG _) ?_,rfl,q _ (I.bS.fresh (KG _))⟩
  exact⟨hfl,_,r.rep k.toNat,IsTup.new _ _⟩
def DS:R2:=fun x y H Q=>zt x y H Q∨DQ x y H Q
theorem j3:fw X (binaryOp .Mult) DS:=CL.or CJ
noncomputable def jI (y z:PV):M PV:=match y,z with
 | .tup l,.int k=>if 0 < l.length∧1 < k∧k < 1000∧l.length * k.toNat≤100000 then .ret (.tup (List.replicate k.toNat l).flatten) else .fail
 |y,z=>xA y z
theorem jY:lK DS jI:=fun φ G O H n R Q y z x x' pr dm ok r1 r2 w q=>by
 have hB:O G.B:=pr _ G.pB
 cases y with
 |tup l=>
  cases z<;>first|exact w.elim|skip
  rename_i k
  obtain⟨a,xs,rfl,h1,e1⟩:=r1.jt
  rw[r2.cZ]
  unfold jI at w
  dsimp only at w
  by_cases hc:0 < l.length∧1 < k∧k < 1000∧l.length * k.toNat≤100000
  ·rw[Lq hc] at w
   refine .inr ⟨a,k,xs,rfl,rfl,h1,fun z=>?_,hc.2.1,hc.2.2.1,by rw[←e1.1];exact hc.2.2.2,fun p hp=>q.tup ok dm hp hB (e1.rep _) w⟩
   subst z
   have:=e1.1
   simp at this
   have:=hc.1
   simp_all
  ·rw[Lr hc] at w;exact w.elim
 |_=>exact .inl (Fb φ G O H n R Q _ z x x' pr dm ok r1 r2 w q)
end
def sX:List PV→M PV:=fun l=>match l with|[.fY,.int m]=>.draw m fun d=>.ret (.int d)|_=>.fail
theorem xW {φ:eF} {P:Program} {w:World} {K:Frag} {mg:Str→Option Value} {base:Heap} {k:Nat} {f:Addr} {fd:FuncData} {ps:List Str} (F:bD P w K mg base ed k f fd ps φ.sp):bD P w K mg base ed k f fd ps (fT φ sX):=by
 refine F.imp fun vs H Q E h=>?_
 obtain⟨G,O,l,n,R,pr,dm,ok,r,w,q⟩:=h
 match l,r,w with
 |[.fY,.int m],r,w=>
  obtain⟨x,t,rfl,r1,r2⟩:=r.cons_inv
  obtain⟨x',t',rfl,r3,r4⟩:=r2.cons_inv
  rw[r4.nil_inv]
  cases r1
  cases r3
  obtain⟨h0,h1,n',rfl,h⟩:=w
  exact G.dr H n' m Q E ok h0 h1 fun d H' d0 d1 e o=>q (.int d) _ H' n' e o (.int d) (h d d0 d1)
structure Gen {α:Type} (m:M α) (c:Nat) (Pr:α→Prop):Prop where
 h: ∀ n,c≤n→m.wp n fun y n'=>n≤n'+c∧Pr y
theorem Gen.ret (h:Pr y):Gen (.ret y) 0 Pr:=⟨fun n _=>⟨KG _,h⟩⟩
theorem Gen.bind (h:Gen m c Pr) (k: ∀ y,Pr y→Gen (f y) d Rr):Gen (m.bind f) (c+d) Rr:=⟨fun n hn=>by
 rw[M.wZ]
 refine M.wp_mono (h.h n (by lia)) fun y n1 ⟨h1,h2⟩=>?_
 exact M.wp_mono ((k y h2).h n1 (by lia)) fun z n2 ⟨h3,h4⟩=>⟨by lia,h4⟩⟩
theorem Gen.mono (h:Gen m c Pr) (hc:c≤d) (k: ∀ y,Pr y→Rr y):Gen m d Rr:=⟨fun n hn=>M.wp_mono (h.h n (by lia)) fun y n1 ⟨h1,h2⟩=>⟨by lia,k y h2⟩⟩
theorem Gen.le (h:Gen m c Pr) (hc:c≤d):Gen m d Pr:=h.mono hc fun _ z=>z
theorem Gen.draw (h0:0 < m) (h1:m < 1073741824):Gen (sX [.fY,.int m]) 1 fun y=> ∃ d,y= .int d∧0≤d∧d < m:=⟨fun n hn=>by
 obtain⟨n',rfl⟩: ∃ n',n=n'+1:=⟨n - 1,by lia⟩
 exact⟨h0,h1,n',rfl,fun d d0 d1=>⟨KG _,d,rfl,d0,d1⟩⟩⟩
theorem Gen.eq (e:m= .ret y) (h:Pr y):Gen m 0 Pr:=e▸Gen.ret h
theorem Gen.lc {te:ak→M PV} {ρ:ak}: ∀ (l:List PV) (ρ':ak),(∀ e,ρ'.set k e=ρ.set k e)→(∀ y∈l,Gen (te (ρ.set k (.val y))) c Pr)→Gen (t5 (aP k) gG te l ρ') (l.length * c) (fun zs=>zs.length=l.length∧∀ z∈zs,Pr z)
 |[],ρ',_,_=>Gen.le (Gen.ret ⟨rfl,fun z hz=>by simp at hz⟩) (by simp)
 |y::l,ρ',hρ,h=>by
  unfold t5
  simp only[aP,gG,rZ,if_true]
  rw[hρ]
  refine Gen.le (Gen.bind (h y Kw) fun z hz=>Gen.bind (Gen.lc (ρ:=ρ) l _ (fun e=>by rw[List.set_set]) fun y' hy=>h y' (Kz _ hy)) fun zs hzs=>Gen.ret ?_) (Nat.le_of_eq ?_)
  ·refine⟨by simp[hzs.1],fun u hu=>?_⟩
   rcases KJ.mp hu with rfl|hu
   ·exact hz
   ·exact hzs.2 u hu
  ·simp only[KO,Nat.succ_mul]
   lia
theorem mn {te:ak→M PV} {f:PV→PV} {ρ:ak}: ∀ (l:List PV) (ρ':ak),(∀ e,ρ'.set k e=ρ.set k e)→(∀ y∈l,te (ρ.set k (.val y))= .ret (f y))→t5 (aP k) gG te l ρ'= .ret (l.map f)
 |[],ρ',_,_=>rfl
 |y::l,ρ',hρ,h=>by
  unfold t5
  simp only[aP,gG,rZ,if_true]
  rw[hρ,h y Kw,mn (f:=f) (ρ:=ρ) l _ (fun e=>by rw[List.set_set]) fun y' hy=>h y' (Kz _ hy)]
  rfl
theorem gc {tt:ak→M Bool} {te:ak→M PV} {p:PV→Bool} {f:PV→PV} {ρ:ak}: ∀ (l:List PV) (ρ':ak),(∀ e,ρ'.set k e=ρ.set k e)→(∀ y∈l,tt (ρ.set k (.val y))= .ret (p y))→(∀ y∈l,p y=true→te (ρ.set k (.val y))= .ret (f y))→t5 (aP k) tt te l ρ'= .ret ((l.filter p).map f)
 |[],ρ',_,_,_=>rfl
 |y::l,ρ',hρ,h,h'=>by
  unfold t5
  simp only[aP,rZ]
  have ih:=gc (p:=p) (f:=f) (ρ:=ρ) l (ρ.set k (.val y)) (fun e=>by rw[List.set_set]) (fun y' hy=>h y' (Kz _ hy)) (fun y' hy=>h' y' (Kz _ hy))
  rw[hρ,h y Kw,rZ]
  cases hp:p y with
  |true=>
   simp only[if_true]
   rw[h' y Kw hp,rZ,ih,List.filter_cons_of_pos hp]
   rfl
  |false=>
   simp only[Lk,if_false]
   rw[ih,List.filter_cons_of_neg (by simp[hp])]
section
variable {φ:eF}
def GZ:V→Option Int→Option Int→Hp→VK→Prop:=fun x lo hi H Q=> ∃ z,x= .str z∧z.length≤100000∧Q (.str (Txt.slice z lo hi)) H
theorem part_of (p:IsPart v o): ∃ l:Option (Int×Tok),v=PySem.partValue l∧l.map (·.1)=o:=by
 cases p with
 |none=>exact⟨none,rfl,rfl⟩
 |int i t=>exact⟨some (i,t),rfl,rfl⟩
theorem EH:yo X GZ:=by
 intro pZ s σ H x v vl vu lo hi sl Q I rx hs pl pu h
 obtain⟨z,rfl,hz,q⟩:=h
 obtain⟨t,rfl⟩:=rx
 obtain⟨l,rfl,hl⟩:=part_of pl
 obtain⟨u,rfl,hu⟩:=part_of pu
 refine⟨"str",_,F.slot_str_getitem.lookup,typeIs_str _ _ _,wpAny_getItem_str_slice (l:=l) (u:=u) (st:=none) hs rfl ?_⟩
 subst hl hu
 exact(post_val_or_str ⟨KZ (Txt.slice_le z _ _) (KZ hz fE),fun t' k=>⟨.str (Txt.slice z _ _),H,I.tok _,⟨_,rfl⟩,q⟩⟩)
section
open HT
variable {prog:Program} {w:World} {A:Around} {E:Value→Shared→Prop} {s:Shared}
theorem jq {t sl:Addr} {items:Array Value} {vl vu:Value} {lo hi:Option Int} {Q:Value→Shared→Prop} (ht:IsTup s.heap t items) (hs:s.heap.IsSliceOf sl vl vu .none) (pl:IsPart vl lo) (pu:IsPart vu hi)
  (hw:dN items.size 0 lo=0∧dN items.size items.size hi=items.size) (h:Q (.ref t) s):wpAny (model prog w) A (getItem (.ref t) (.ref sl)) Q E s:=by
 obtain⟨os,hos,hcs,hds⟩:=id hs
 have hTs:s.TypeIs (.ref sl) "slice":=⟨os,hos,hcs⟩
 unfold getItem
 try with_reducible refine wpAny_holding ?_
 first|refine Kv (KA ?_)|skip
 refine Kv (wpAny_sequenceKey ht.typeIs (by decide) ?_)
 refine Kv (wpAny_callSpecial?_slot (name:=Str.ofString "__getitem__") ht.typeIs PyProof.Rows.slot_tuple_getitem
  (wpAny_call_entry PyProof.Rows.slot_tuple_getitem ht.typeIs entry_tuple_getitem ?_ (args_tuple_getitem _ _)))
 show wpAny _ _ (Builtin.Tuple.tupleItemsOf (.ref t) >>= _) _ _ s
 refine Kv (tupleItemsOf_ ht ?_)
 refine Kv (wpAny_typeOf hTs ?_)
 rw[Lq (by decide)]
 refine Kv (gU hs pl pu ?_)
 have hyes:((((dN items.size 0 lo:Nat):Int)==0&&(1:Int)==1&&(dN items.size items.size hi - dN items.size 0 lo)==items.size)=true):=by
  rw[hw.1,hw.2];simp
 show wpAny _ _ (if(((dN items.size 0 lo:Nat):Int)==0&&(1:Int)==1&&(dN items.size items.size hi - dN items.size 0 lo)==items.size)=true then _ else _) _ _ s
 rw[Lq hyes]
 refine Kv (m:=Builtin.Tuple.tupleIsExact _) (Kv (wpAny_typeOf ht.typeIs (KA ?_)))
 rw[Lq (by decide)]
 refine Kv (wpAny_rule ?_)
 exact KA ⟨_,rfl,KA h⟩
end
def GX:V→Option Int→Option Int→Hp→VK→Prop:=fun x lo hi H Q=> ∃ a xs,x= .ref a∧H a=some (.tup xs)∧(HT.dN xs.length 0 lo=0∧HT.dN xs.length xs.length hi=xs.length)∧Q (.ref a) H
theorem Cb:yo X GX:=by
 intro pZ s σ H x v vl vu lo hi sl Q I rx hs pl pu h
 obtain⟨a,xs,rfl,hx,hw,q⟩:=h
 cases rx
 obtain⟨aC,r,ht,hz⟩:=I.tuple (fu.of (K:=X.K) hx)
 have hlen:aC.toArray.size=xs.length:=by rw[KC];exact r.length.symm
 exact⟨"tuple",_,PyProof.Rows.slot_tuple_getitem.lookup,ht.typeIs,jq ht hs pl pu (by rw[hlen];exact hw) ⟨.ref a,H,I,rfl,q⟩⟩
def G1 (K:Frag):V→Option Int→Option Int→Hp→VK→Prop:=fun x lo hi H Q=>G2 K x lo hi H Q∨GX x lo hi H Q∨GZ x lo hi H Q
theorem Jf:yo X (G1 X.K):=Jg.or (Cb.or EH)
noncomputable def Gn:PV→Option Int→Option Int→M PV
 | .lst l,lo,hi=>.ret (.lst (uW l lo hi))
 | .tup l,lo,hi=>.ret (.tup (uW l lo hi))
 | .str z,lo,hi=>if z.length≤100000 then .ret (.str (Txt.slice z lo hi)) else .fail
 |_,_,_=>.fail
theorem Je {K:Frag}:J8 (G1 K) Gn:=fun φ G O H n R Q y lo hi x pr dm ok r w q=>by
 cases y<;>first|exact w.elim|skip
 ·rename_i z
  rw[r.gv]
  unfold Gn at w
  dsimp only at w
  by_cases hc:z.length≤100000
  ·rw[Lq hc] at w;exact .inr (.inr ⟨z,rfl,hc,q.sc ok (.str _) w⟩)
  ·rw[Lr hc] at w;exact w.elim
 ·rename_i l
  obtain⟨p,xs,rfl,h,e⟩:=r.jt
  replace w:R (.tup (uW l lo hi)) n:=w
  by_cases hc:HT.dN l.length 0 lo=0∧HT.dN l.length l.length hi=l.length
  ·rw[uV l lo hi hc] at w
   cases r with
   |full r=>exact .inr (.inl ⟨p,xs,rfl,h,by rw[←e.1];exact hc,q.sc ok r w⟩)
  ·exact .inl (.inr ⟨p,xs,rfl,fu.of h,by rw[←e.1];exact hc,fun p' hp=>q.tup ok dm hp (pr _ G.pB) (tw e lo hi) w⟩)
 ·rename_i l
  obtain⟨p,xs,rfl,h,e⟩:=r.fR
  exact .inl (.inl ⟨p,xs,rfl,cV.of h,fun p' hp=>q.lst ok dm hp (pr _ G.pB) (tw e lo hi) w⟩)
end
section
variable {φ:eF}
section
variable {X:Cx} {st:Stmt}
def vL (i j:Nat) (ma mb:ak→M (List PV)):ak→M Fl:=fun ρ=>(ma ρ).bind fun y=>(mb ρ).bind fun l=>match l with|[]=>.ret (.nx ((ρ.set i (.own y)).set j (.own [])))|_=>.fail
theorem yQ (h:BS X st (BY i j (iI (Gj φ ma) (iI (Gj φ mb) rL)))):SV φ X st (vL i j ma mb):=BS.mono h fun D σ H cy=>by
 obtain⟨G,O0,H0,O,ρ,n,s,w⟩:=cy
 unfold vL at w
 rw[M.wZ] at w
 refine⟨G,O,ρ,n,_,s.es,w,fun y p1 xs1 H1 n1 e1 bP hp1 hp1' r1 w1=>?_⟩
 rw[M.wZ] at w1
 have s1:=s.to e1 bP
 refine⟨G,O,ρ,n1,_,s1.es,w1,fun l p xs H2 n2 e2 kP hp hp' r2 w2=>?_⟩
 cases l with
 |cons a l=>exact w2.elim
 |nil=>
  have ex:=r2.nil_inv
  subst ex
  exact⟨.ref p1,.ref p,rfl,w2 _ _ _ ((s.Cd i e1 bP hp1 hp1' r1).Cd j e2 kP hp hp' .nil)⟩
end
end
def Cd (P:Program) (w:World) (D:Addr) (S:Key→Bool) (n:Nat):HO:=.ext fun h=>h.SetOf (bz P w) D S n
section
variable {X:Cx}
theorem Cj (r:RelV (kV k) u):j7 k u=true∧u.scannable=true:=by
 cases k with
 |inl i=>obtain⟨t,rfl⟩:=r;exact⟨pq i t,rfl⟩
 |inr x=>obtain⟨t,rfl⟩:=r;exact⟨pk x t,rfl⟩
end
theorem qU (elt gens scope pos):eval (.SetComp elt gens scope pos) env=
  comprehension (.SetComp elt gens scope pos) scope env (firstIterPos gens pos) (newSet (.type "set")) (firstAsync gens) (firstIter gens env):=rfl
theorem yG (elt target iter:Expr) (ifs:List Expr) (scope:Scope) (pos:Pos) (it acc:Value) (env:Env):compTurn (.SetComp elt [⟨target,iter,ifs,0⟩] scope pos) 0 it acc env=(standAt iter.pos >>= fun _=>pyNext it >>= fun r=>match r with
  |none=>pure (.done .next)
  |some v=>letOwnedTupleGo target it v >>= fun _=>assign target env v >>= fun _=>(forIn ifs true fun c r=>if r=true then do let ok ←isTrue c env (eval c env);pure (ForInStep.yield ok) else pure (ForInStep.yield r)) >>= fun ok=>
   if ok=true then(eval elt env >>= fun x=>standAt elt.pos >>= fun _=>call (.builtin "set.add") [acc,x] >>= fun _=>pure ()) >>= fun _=>again (.compLoop (.SetComp elt [⟨target,iter,ifs,0⟩] scope pos) 0 it acc env)
   else again (.compLoop (.SetComp elt [⟨target,iter,ifs,0⟩] scope pos) 0 it acc env)):=rfl
theorem wY (one:codeAny (model prog w) A (.compLoop (.SetComp elt [⟨target,iter,ifs,0⟩] scope pos) 0 it acc env) R s)
  (two:wpAny (model prog w) A (pyIter it) (fun j s'=>codeAny (model prog w) A (.compLoop (.SetComp elt [⟨target,iter,ifs,0⟩] scope pos) 0 j acc env) R s') (notedBy (model prog w) A env fun x s'=>R (.error x) s') s):
  codeAny (model prog w) A (.compStart (.SetComp elt [⟨target,iter,ifs,0⟩] scope pos) 0 it acc env) R s:=
 codeAny_of_tree (wpAny_notedAt (pos:=theWindowsPlace) (m:=compStart (.SetComp elt [⟨target,iter,ifs,0⟩] scope pos) 0 it acc env) (by
  have again_at: ∀ (j:Value) (s':Shared),codeAny (model prog w) A (.compLoop (.SetComp elt [⟨target,iter,ifs,0⟩] scope pos) 0 j acc env) R s'→(Code.compLoop (.SetComp elt [⟨target,iter,ifs,0⟩] scope pos) 0 j acc env).quiet=true∧codeAny (model prog w) A (.compLoop (.SetComp elt [⟨target,iter,ifs,0⟩] scope pos) 0 j acc env) R s':=fun _ _ q=>⟨rfl,q⟩
  unfold compStart
  change wpAny _ _ (ask >>= _) _ _ s
  apply Kv
  apply wpAny_askSetting
  apply wpAny_ite
  split
  ·exact KA (again_at it s one)
  ·apply Kv
   apply wpAny_rule
   apply Kv
   apply wpAny_standAt
   apply Kv
   exact wpAny_mono two (fun j s' q=>KA (again_at j s' q)) fun _ _ q=>q))
theorem uX (I:Nat→Shared→Prop)
  (turn: ∀ n s,I n s→wpAny (model prog w) A (pyNext it) (fun r s₁=>match r with
   |none=>R (.ok .next) s₁
   |some v=>wpAny (model prog w) A (letOwnedTupleGo target it v) (fun _ s₁'=>wpAny (model prog w) A (assign target env v) (fun _ s₂=>
     wpAny (model prog w) A (forIn ifs true fun c r=>if r=true then do let ok ←isTrue c env (eval c env);pure (ForInStep.yield ok) else pure (ForInStep.yield r)) (fun ok s₃=>
      if ok=true then wpAny (model prog w) A (eval elt env) (fun x s₄=>
       wpAny (model prog w) A (call (.builtin "set.add") [acc,x]) (fun _ s₅=> ∃ m,m < n∧I m s₅) (fun _ _=>False) s₄) (fun _ _=>False) s₃
      else ∃ m,m < n∧I m s₃) (fun _ _=>False) s₂) (fun _ _=>False) s₁') (fun _ _=>False) s₁) (fun _ _=>False) s)
  (n:Nat) (h:I n s):
  codeAny (model prog w) A (.compLoop (.SetComp elt [⟨target,iter,ifs,0⟩] scope pos) 0 it acc env) R s:=by
 refine codeAny_loop rfl I (fun n s hI=>?_) n h
 show wpAny _ A ((compTurn (.SetComp elt [⟨target,iter,ifs,0⟩] scope pos) 0 it acc env).onRaise (fun x=>do noteFrame x env;theTreesLotGoes x)) _ _ s
 refine wpAny_noted ?_
 refine wpAny_mono (E:=fun _ _=>False) ?_ (fun _ _ q=>q) fun _ _ q=>q.elim
 rw[yG]
 refine Kv (wpAny_standAt (Kv (cn (turn n s hI) fun r s₁ h₁=>?_)))
 cases r with
 |none=>exact KA h₁
 |some v=>
  refine Kv (cn h₁ fun _ s₁' h₁'=>?_)
  refine Kv (cn h₁' fun _ s₂ h₂=>Kv (cn h₂ fun ok s₃ h₃=>?_))
  cases ok with
  |false=>exact KA ⟨rfl,h₃⟩
  |true=>exact Kv (Kv (cn h₃ fun x s₄ h₄=>Kv (wpAny_standAt (Kv (cn h₄ fun _ s₅ h₅=>KA (KA ⟨rfl,h₅⟩))))))
section
variable {φ:eF}
section
variable {X:Cx} {e:Expr} {pos:Pos}
def keyOf:PV→Key
 | .int i=>.inl i
 | .str x=>.inr x
 |_=>.inl 0
def Dd:PV→M PV
 | .int i=>.ret (.int i)
 | .str x=>.ret (.str x)
 |_=>.fail
def qO (ks:List Key) (k:Key):Bool:=ks.any fun k'=>decide (k'=k)
def dk (zs:List PV):List Key:=zs.foldl (fun ks z=>if qO ks (keyOf z)=true then ks else ks++[keyOf z]) []
theorem wq (zs:List PV) (z:PV):dk (zs++[z])=if qO (dk zs) (keyOf z)=true then dk zs else dk zs++[keyOf z]:=by unfold dk;rw[List.foldl_append];rfl
theorem nK: ∀ (zs:List PV) (ks:List Key),(zs.foldl (fun ks z=>if qO ks (keyOf z)=true then ks else ks++[keyOf z]) ks).length≤ks.length+zs.length
 |[],ks=>by simp
 |z::zs,ks=>by
  rw[List.foldl_cons]
  have h:=nK zs (if qO ks (keyOf z)=true then ks else ks++[keyOf z])
  have:(if qO ks (keyOf z)=true then ks else ks++[keyOf z]).length≤ks.length+1:=by split<;>simp
  simp only[KO]
  lia
theorem FL (zs:List PV):(dk zs).length≤zs.length:=by have:=nK zs [];simpa[dk] using this
theorem JL (zs:List PV) (z:PV):(fun k'=>qO (dk zs) k'||decide (k'=keyOf z))=fun k'=>qO (dk (zs++[z])) k':=by
 funext k'
 rw[wq]
 by_cases h:qO (dk zs) (keyOf z)=true
 ·rw[Lq h]
  by_cases e:k'=keyOf z
  ·subst e;simp[h]
  ·simp[e]
 ·rw[Lr h]
  unfold qO
  rw[List.any_append]
  by_cases e:k'=keyOf z
  ·subst e;simp
  ·have e': ¬ keyOf z=k':=fun z=>e z.symm
   simp[e,e']
theorem JK (zs:List PV) (z:PV):(if qO (dk zs) (keyOf z)=true then(dk zs).length else(dk zs).length+1)=(dk (zs++[z])).length:=by
 rw[wq]
 by_cases h:qO (dk zs) (keyOf z)=true
 ·rw[Lq h,Lq h]
 ·rw[Lr h,Lr h];simp
theorem Dc (r:Rep B O H z x) (w:((Dd z).bind f).wp n R):x=kV (keyOf z)∧(f z).wp n R:=by
 cases r<;>first|exact⟨rfl,w⟩|exact w.elim
noncomputable def Ag (js:List (Option Nat)) (mi:ak→M (List PV)) (bd:PV→ak→M ak) (tt:ak→M Bool) (te:ak→M PV):ak→M (List PV):=fun ρ=>(mi ρ).bind fun l=>if l.length≤4000 then t5 bd tt (fun ρ=>(te ρ).bind Dd) l (ir js ρ) else .fail
noncomputable def Bg.GB (G:Bg φ) (D:Addr) (hD:D≠G.B):Bg φ where
 B:=G.B
 dD:=fun p=>G.dD p∨p=D
 ok:=fun H n=>G.ok H n∧∃ o,H D=some o
 pB:=.inl G.pB
 keep:=fun H H' n k h=>⟨G.keep H H' n (fun p o z=>k p o (z.imp .inl id)) h.1,by obtain⟨o,e⟩:=h.2;exact⟨o,k D _ (.inl (.inr rfl)) e⟩⟩
 tp:=fun e he=>.inl (G.tp e he)
 tab:=fun H n h=>G.tab H n h.1
 wW:=fun H H' n h h1 h2=>⟨G.wW H H' n h.1 h1 h2,by
  obtain⟨o,e⟩:=h.2
  by_cases z:D∈φ.tabs.map (·.1)
  ·obtain⟨q,hq,e3⟩:=KN.mp z
   obtain⟨ps,e2,_⟩:=h1 q hq
   exact⟨_,e3▸e2⟩
  ·exact⟨o,h2 D _ z e⟩⟩
 A4:=fun H n p h z=>by
  rcases z with z|z
  ·exact G.A4 H n p h.1 z
  ·subst z;exact h.2
 dr:=fun H n m Q E h h0 h1 q=>G.dr H n m Q E h.1 h0 h1 fun d H' d0 d1 e o=>q d H' d0 d1 e ⟨o,by
  obtain⟨u,e2⟩:=h.2
  exact(e D u hD e2).there⟩
end
end
section
variable {X:Cx} {pZ:List (Addr×Obj)} {σ:St} {H:Hp} {s:Shared} {h':Heap}
theorem Inv.BV {t':Nat} {wr:List Addr} {T:Addr} (I:Inv X pZ σ H s) (hf: ∀ b∈wr,d6 X pZ H b) (k: ∀ b u,b∉wr→s.heap.get? b=some u→h'.get? b=some u) (hT:s.heap.objs.size≤T)
  (new:dn X.prog X.w (upd H T o) h' T o):Inv X pZ σ (upd H T o) {s with heap:=h',toks:=t'}:=by
 have nT:H T=none:=I.bS.fresh hT
 have neT: ∀ b u,s.heap.get? b=some u→b≠T:=fun b u e z=>absurd (K1 (KS e) (z▸hT)) (Nat.lt_irrefl _)
 have neH: ∀ b u,H b=some u→b≠T:=fun b u e z=>by rw[z,nT] at e;cases e
 have nw: ∀ b u,H b=some u→b∉wr:=fun b u e z=>by rw[(hf b z).1] at e;cases e
 refine I.step (g':=s.gens) (d':=s.drawn) (ch:=wr) (fun b hb=>⟨(hf b hb).2.2.2.1,(hf b hb).2.1,(hf b hb).2.2.2.2.1,(hf b hb).2.2.2.2.2⟩) (fun b u _ _ hc e _=>k b u hc e) (fun b u _ _ hc e _=>⟨u.slots,k b u hc e⟩)
  (fun b u _ e n=>by rw[aq (neT b u e)];exact n) (fun b u hc e=>⟨u,k b u hc e⟩) (fun b xs e=>by rw[aq (neH b _ e)];exact e) (fun b ob u e=>by rw[aq (neH b _ e)];exact e) (fun b ps e=>⟨#[],by rw[aq (neH b _ e),e];simp⟩) (fun m hm=>?_) (fun b u e=>?_) I.bare
 ·obtain⟨ob,es,ep,ho,r⟩:=hm
  exact⟨ob,es,ep,k _ ob (fun z=>(hf _ z).2.1 rfl) ho,r⟩
 ·by_cases hb:b=T
  ·subst hb;rw[ay] at e;cases e;exact new
  ·rw[aq hb] at e
   refine(I.bS b u e).mz (fun c v hc q=>k c v ?_ q) (fun c q=>by rw[aq (neH c _ q)];exact q) fun c xs q=>by rw[aq (neH c _ q)];exact q
   rcases hc with z|z
   ·rw[z];exact nw b u e
   ·exact nw c _ z
theorem Inv.BX {t':Nat} {wr:List Addr} (I:Inv X pZ σ H s) (hf: ∀ b∈wr,d6 X pZ H b) (k: ∀ b u,b∉wr→s.heap.get? b=some u→h'.get? b=some u):Inv X pZ σ H {s with heap:=h',toks:=t'}:=by
 have nw: ∀ b u,H b=some u→b∉wr:=fun b u e z=>by rw[(hf b z).1] at e;cases e
 refine I.step (g':=s.gens) (d':=s.drawn) (ch:=wr) (fun b hb=>⟨(hf b hb).2.2.2.1,(hf b hb).2.1,(hf b hb).2.2.2.2.1,(hf b hb).2.2.2.2.2⟩) (fun b u _ _ hc e _=>k b u hc e) (fun b u _ _ hc e _=>⟨u.slots,k b u hc e⟩)
  (fun b u _ e n=>n) (fun b u hc e=>⟨u,k b u hc e⟩) (fun b xs e=>e) (fun b ob u e=>e) (fun b ps e=>⟨#[],by rw[e];simp⟩) (fun m hm=>?_) (fun b u e=>?_) I.bare
 ·obtain⟨ob,es,ep,ho,r⟩:=hm
  exact⟨ob,es,ep,k _ ob (fun z=>(hf _ z).2.1 rfl) ho,r⟩
 ·refine(I.bS b u e).mz (fun c v hc q=>k c v ?_ q) (fun c q=>q) fun c xs q=>q
  rcases hc with z|z
  ·rw[z];exact nw b u e
  ·exact nw c _ z
end
noncomputable def Eg (K:Frag) (a:Addr):It:=
 ⟨fun i H=> ∃ xs x,cV K H a xs∧xs[i]?=some x,fun i H y H'=> ∃ T,y= .ref T∧H T=none∧∀ xs x,cV K H a xs→xs[i]?=some x→H'=upd H T (.tup [.int i,x]),fun i H=> ∃ xs,cV K H a xs∧xs.length≤i⟩
theorem CB (hT:h.get? T=some {cls:=.type "tuple",data:=.seq #[u,v]}) (ru:RelV x u) (rv:RelV y v):dn P w H h T (.tup [x,y]):=
 ⟨by show 2≤sizeLine;decide,[u,v],.cons ru (.cons rv .nil),_,hT,rfl,_,rfl⟩
theorem wR {P:Program} {w:World} {K:Frag} {elts:List Expr} {kk:Nat} {pos:Pos} (a e it:Addr) (dO:e≠it):Turn P w K (.Tuple elts kk pos) (Eg K a) [e,it] e (fun i h=>(∃ old,IsEnum h e it i old)∧h.IsListIter it a i) where
 mem:=by simp
 obj:=fun i h st b hb=>by
  obtain⟨⟨old,he⟩,o,ho,hc,hd⟩:=st
  have hb':b=e∨b=it:=by simpa using hb
  rcases hb' with rfl|rfl
  ·exact⟨_,he,fun v z=>by cases z⟩
  ·exact⟨o,ho,fun v z=>by rw[hd] at z;cases z⟩
 keep:=fun i h h' st k=>by
  obtain⟨⟨old,he⟩,o,ho,hc,hd⟩:=st
  exact⟨⟨old,k e (by simp) _ he⟩,o,k it (by simp) _ ho,hc,hd⟩
 item:=by
  intro X hP hw hK hc i pZ s σ H E I hf st hg
  subst hP hw hK
  obtain⟨xs,x,hq,hx⟩:=hg
  obtain⟨aC,rv,p,hz⟩:=I.list hq
  obtain⟨u,hu,ru⟩:=rv.get hx
  obtain⟨⟨old,he⟩,hit⟩:=st
  refine wpAny_pyNext_enum_item he hit p.isList (x:=u) (by simpa using hu) dO fun h1 ho hit1 hT hsz k1=>?_
  refine⟨_,rfl,wpAny_letOwnedTupleGo_enum (s:={s with heap:=h1,toks:=s.toks+1}) ho fun h2 he2 s2=>?_⟩
  have lt: ∀ b o,s.heap.get? b=some o→b≠s.heap.objs.size:=fun b o q=>K8 (KS q)
  have neT:s.heap.objs.size≠e:=fun z=>lt e _ he z.symm
  have hT2:h2.get? s.heap.objs.size=some {cls:=.type "tuple",data:=.seq #[.int i s.toks,u]}:=(s2.2 _ neT).trans hT
  have I2:=I.BV (t':=s.toks+1) (h':=h2) (wr:=[e,it]) (T:=s.heap.objs.size) (o:=.tup [.int i,x]) hf (fun b o hb q=>by
   have hb':b≠e∧b≠it:=by simpa using hb
   exact(s2.2 b hb'.1).trans (k1 b o hb'.1 hb'.2 q)) (KG _) (CB hT2 ⟨_,rfl⟩ ru)
  refine⟨.ref s.heap.objs.size,_,I2,rfl,⟨_,rfl,I.bS.fresh (KG _),fun ys y hy hyx=>?_⟩,⟨⟨_,by simpa using he2⟩,hit1.at fun o q=>(s2.2 it dO.symm).trans q⟩,fun b hb=>?_⟩
  ·rw[I.sI hy hq,hx] at hyx
   cases hyx
   rfl
  ·have hV:b≠s.heap.objs.size:=by
    have hb':b=e∨b=it:=by simpa using hb
    rcases hb' with rfl|rfl
    ·exact fun z=>neT z.symm
    ·obtain⟨o,ho',_⟩:=hit
     exact lt _ _ ho'
   rw[aq hV]
   exact(hf b hb).1
 done:=by
  intro X hP hw hK hc i pZ s σ H E I hf st hg
  subst hP hw hK
  obtain⟨xs,hq,hx⟩:=hg
  obtain⟨aC,rv,p,hz⟩:=I.list hq
  have hl:=rv.length
  obtain⟨⟨old,he⟩,hit⟩:=st
  refine wpAny_pyNext_enum_end (I.ok.hd hc) he hit p.isList (by simp;lia) fun h1 k1=>⟨rfl,I.BX (t':=s.toks) hf fun b o hb q=>k1 b o (fun z=>hb (by simp[z])) q⟩
 self:=fun _ _ _ _ _ st h=>by
  obtain⟨⟨old,he⟩,_⟩:=st
  exact wpAny_pyIter_enum he h
noncomputable def Ko (a b:Addr):It:=
 ⟨fun i H=> ∃ xs ys x y,H a=some (.tup xs)∧H b=some (.tup ys)∧xs[i]?=some x∧ys[i]?=some y,fun i H r H'=> ∃ T,r= .ref T∧H T=none∧∀ xs ys x y,H a=some (.tup xs)→H b=some (.tup ys)→xs[i]?=some x→ys[i]?=some y→H'=upd H T (.tup [x,y]),fun i H=> ∃ xs ys,H a=some (.tup xs)∧H b=some (.tup ys)∧(xs.length≤i∨ys.length≤i)⟩
section
variable {X:Cx} {e e2:Expr} {t1 t2:TE} {elts:List Expr} {kk:Nat} {tpos pos p:Pos} {x:Str}
def D7 (K:Frag) (ta:TA):TI:=fun σ H R=>ta σ H fun vs H1=> ∃ a xs,vs=[.ref a]∧cV K H1 a xs∧R (Eg K a) H1
theorem Dl {pZ:List (Addr×Obj)} {σ:St} {H:Hp} {s:Shared} {R:It→Hp→Prop} {a:Addr} {xs:List V} (I:Inv X pZ σ H s) (ha:cV X.K H a xs) (q:R (Eg X.K a) H):
  wpAny (model X.prog X.w) X.A (call (.type "enumerate") [.ref a]) (fun v s1=>wpAny (model X.prog X.w) X.A (pyIter v) (IJ X pZ σ (.Tuple elts kk tpos) R) X.xe s1) X.xe s:=by
 obtain⟨aC,rv,p1,hz⟩:=I.list ha
 refine call_enumerate_list p1.isList fun h1 he hit hsz k1=>?_
 have I1:Inv X pZ σ H {s with heap:=h1}:=I.kept (t':=s.toks) k1
 refine wpAny_pyIter_enum (s:={s with heap:=h1}) he ?_
 refine⟨_,[s.heap.objs.size+1,s.heap.objs.size],_,Eg X.K a,H,rfl,I1,wR a _ _ (Nat.succ_ne_self _),⟨⟨_,he⟩,hit⟩,fun c hc=>?_,q⟩
 have hle:s.heap.objs.size≤c:=by
  rcases KJ.mp hc with h|hc
  ·rw[h];exact Nat.le_succ _
  ·rw[K7.mp hc];exact KG _
 exact I.oN hle (I.bS.fresh hle)
theorem Cv (hg:Gl X x) (hm:X.mg x=none) (hv:bootBuiltins x=some (.type "enumerate")) (ha:PA X [e] ta) (hn:x≠"__name__":=by decide) (qR:(x==("__debug__":Str))=false:=by decide)
  (he:starEach [e] X.env=(false,eval e X.env)::starEach [] X.env:=by rfl) (ng:(backTo pos (starEach [] X.env)).any (·.1)=false:=by rfl):PI X (.Tuple elts kk tpos) (.Call (.Name x p) [e] [] pos) (D7 X.K ta):=by
 intro pZ s σ H R I h
 refine wpAny_Call_Name_kw (kU I hg hm hv ?_ hn qR)
 refine PyProof.Rows.callWith_type1 (cn (ha pos pZ s σ H _ I h) fun us s1 ⟨vs,H1,I1,r1,q1⟩=>?_) he ng
 obtain⟨a,xs,rfl,h1,q⟩:=q1
 obtain⟨u,rfl,ru⟩:=r1.one
 cases ru
 exact Dl I1 h1 q
end
section
variable {φ:eF}
def GA (l1 l2:List PV):List PV:=List.zipWith (fun x y=>PV.tup [x,y]) l1 l2
inductive Kp (G:Bg φ) (O:Addr→Prop) (H:Hp):List PV→It→Prop where
 |zip {a b:Addr} {xs ys:List V} {l1 l2:List PV} (na: ¬ O a) (ha:H a=some (.tup xs)) (ra:aR G.B O H l1 xs) (nb: ¬ O b) (hb:H b=some (.tup ys)) (rb:aR G.B O H l2 ys):Kp G O H (GA l1 l2) (Ko a b)
end
noncomputable def JS (a b:Addr):It:=
 ⟨fun i H=> ∃ xs ys x y,H a=some (.lst xs)∧H b=some (.lst ys)∧xs[i]?=some x∧ys[i]?=some y,fun i H r H'=> ∃ T,r= .ref T∧H T=none∧∀ xs ys x y,H a=some (.lst xs)→H b=some (.lst ys)→xs[i]?=some x→ys[i]?=some y→H'=upd H T (.tup [x,y]),fun i H=> ∃ xs ys,H a=some (.lst xs)∧H b=some (.lst ys)∧(xs.length≤i∨ys.length≤i)⟩
abbrev lit (a:Addr):Obj:={cls:=.type "list_iterator",data:=.fields #[.ref a,.int 0 0]}
section
variable {φ:eF}
section
variable {X:Cx} {e:Expr}
def y1 (a b c:Int):Prop:=0 < c∧c < 1000000000∧-1000000000000 < a∧a < 1000000000000∧-1000000000000 < b∧b < 1000000000000
end
end
section
variable {φ:eF}
instance (a b c:Int):Decidable (y1 a b c):=by unfold y1;infer_instance
end
theorem kT (h0:0≤j) (h1:j < 2 ^ 63):ly i j:=by
 have e:(2:Int) ^ 63=9223372036854775808:=by decide
 have e2:(2:Int) ^ 64=18446744073709551616:=by decide
 rw[e] at h1
 exact .inr ⟨by rw[e2];lia,by rw[e2];lia⟩
theorem ip (h0:0≤i) (h1:i < 2 ^ 63):ly i j:=by
 have e:(2:Int) ^ 63=9223372036854775808:=by decide
 have e2:(2:Int) ^ 64=18446744073709551616:=by decide
 rw[e] at h1
 exact .inl ⟨by rw[e2];lia,by rw[e2];lia⟩
theorem t7 (x:Int) (ns:List Int):ji ((x::ns).map V.int) 0=some (.int x):=(wI (j:=0) rfl:ji ((x::ns).map V.int) ((0:Nat):Int)=some (.int x))
theorem A8 (ns:List Int):kj (ns.map V.int) none (some 63)=(ns.take 63).map V.int:=by
 unfold kj
 rw[HT.mJ]
 have e:HT.dN (ns.map V.int).length (ns.map V.int).length (some 63)=min 63 (ns.map V.int).length:=HT.qm _ _ 63
 rw[e,List.drop_zero,Nat.sub_zero,Kx,←List.map_take]
 congr 1
 rw[List.take_eq_take_iff]
 lia
theorem AR {K:Frag} {a:Addr} {xs:List V} {g:TG} {tb:TS} {D:Ends} {σ:St} {H:Hp} (Pv:Nat→L2.St→Hp→Prop) (h0:Pv 0 σ H) (hl: ∀ i σ H,i≤xs.length→Pv i σ H→cV K H a xs)
  (hs: ∀ i x σ H T,xs[i]?=some x→H T=none→Pv i σ H→g (.ref T) σ (upd H T (.tup [.int i,x])) fun σ2 H2=>tb {D with nx:=Pv (i+1),ct:=Pv (i+1),bk:=D.nx} σ2 H2) (hd: ∀ σ H,Pv xs.length σ H→D.nx σ H):
  ∃ W:Nat→Nat→L2.St→Hp→Prop,(∃ m,W 0 m σ H)∧∀ i m σ H,W i m σ H→
   ((Eg K a).stop i H∧D.nx σ H)∨((Eg K a).go i H∧∃ N:L2.St→Hp→Prop,(∀ σ' H',N σ' H'→∃ m',m' < m∧W (i+1) m' σ' H')∧∀ x H',(Eg K a).yp i H x H'→g x σ H' fun σ2 H2=>tb {D with nx:=N,ct:=N,bk:=D.nx} σ2 H2):=by
 refine⟨fun i m σ H=>m=xs.length - i∧i≤xs.length∧Pv i σ H,⟨xs.length,by simp,K6 _,h0⟩,?_⟩
 rintro i m σ H ⟨rfl,hi,p⟩
 have q:=hl i σ H hi p
 by_cases hV:i < xs.length
 ·refine .inr ⟨⟨xs,xs[i],q,by simp[hV]⟩,Pv (i+1),fun σ' H' p'=>⟨xs.length - (i+1),by lia,rfl,hV,p'⟩,fun x H' y=>?_⟩
  obtain⟨T,rfl,hT,y⟩:=y
  rw[y xs xs[i] q (by simp[hV])]
  exact hs i _ σ H T (by simp[hV]) hT p
 ·have e:i=xs.length:=by lia
  subst e
  exact .inl ⟨⟨xs,q,KG _⟩,hd σ H p⟩
section
variable {X:Cx} {x:Str} {p pos tpos:Pos} {e:Expr} {elts:List Expr} {kk:Nat}
theorem zH (hg:Gl X x) (hm:X.mg x=none) (hv:bootBuiltins x=some (.type "enumerate")) (ha:PA X [e] ta) (hn:x≠"__name__":=by decide) (qR:(x==("__debug__":Str))=false:=by decide)
  (he:starEach [e] X.env=(false,eval e X.env)::starEach [] X.env:=by rfl) (ng:(backTo pos (starEach [] X.env)).any (·.1)=false:=by rfl):PI X (.Tuple elts kk tpos) (.Call (.Name x p) [e] [] pos) (D7 X.K ta):=Cv hg hm hv ha hn qR he ng
end
mutual
def toD:PV→Option PyData
 | .aU=>some .none
 | .bl b=>some (.bool b)
 | .int i=>some (.int i)
 | .str x=>some (.str x)
 | .tup l=>(og l).map .tuple
 | .lst l=>(og l).map .list
 |_=>none
def og:List PV→Option (List PyData)
 |[]=>some []
 |y::l=>(toD y).bind fun d=>(og l).map (d:: ·)
end
theorem kJ: ∀ (l:List PV) (xs:List V) (aC:List Value) (ds:List PyData),l.length=xs.length→(∀ (i:Nat) (y:PV) (x:V),l[i]?=some y→xs[i]?=some x→∀ v d,RelV x v→toD y=some d→∃ as,Reads h v d as)→Vals xs aC→og l=some ds→∃ as,ReadsAll h aC ds as
 |[],[],_,ds,_,_,.nil,e=>by
  simp only[og] at e
  cases e
  exact⟨_,.nil⟩
 |y::l,x::xs,_,ds,hl,ih,.cons r rs,e=>by
  simp only[og] at e
  cases e1:toD y with
  |none=>rw[e1] at e;cases e
  |some d=>
   rw[e1] at e
   cases e2:og l with
   |none=>rw[e2] at e;cases e
   |some dl=>
    rw[e2] at e
    cases e
    obtain⟨as,r1⟩:=ih 0 y x rfl rfl _ d r e1
    obtain⟨bs,r2⟩:=kJ l xs _ dl (by simpa using hl) (fun i y' x' hy hx=>ih (i+1) y' x' hy hx) rs e2
    exact⟨_,.cons r1 r2⟩
 |[],_::_,_,_,hl,_,_,_=>by cases hl
 |_::_,[],_,_,hl,_,_,_=>by cases hl
theorem zj (ok:iY P w H h) (r:Rep B O H y x): ∀ v d,RelV x v→toD y=some d→∃ as,Reads h v d as:=by
 induction r with
 |aU=>
  intro v d rv e
  simp only[toD] at e
  cases e
  cases rv
  exact⟨_,.none⟩
 |bl b=>
  intro v d rv e
  simp only[toD] at e
  cases e
  cases rv
  exact⟨_,.bool b⟩
 |int i=>
  intro v d rv e
  simp only[toD] at e
  cases e
  obtain⟨t,rfl⟩:=rv
  exact⟨_,.int i t⟩
 |str z=>
  intro v d rv e
  simp only[toD] at e
  cases e
  obtain⟨t,rfl⟩:=rv
  exact⟨_,.str z t⟩
 |tup hO hp hl hr ih=>
  intro v d rv e
  simp only[toD] at e
  obtain⟨ds,e1,rfl⟩:=K2.mp e
  cases rv
  obtain⟨_,aC,rs,o,ho,hc,n,hd⟩:=ok _ _ hp
  obtain⟨as,ra⟩:=kJ _ _ aC ds hl ih rs e1
  exact⟨_,.tuple ho hc hd (by simpa using ra)⟩
 |lst hO hp hl hr ih=>
  intro v d rv e
  simp only[toD] at e
  obtain⟨ds,e1,rfl⟩:=K2.mp e
  cases rv
  obtain⟨_,aC,n,rs,ho⟩:=ok _ _ hp
  obtain⟨as,ra⟩:=kJ _ _ aC ds hl ih rs e1
  exact⟨_,.list ho rfl rfl (by simpa using ra)⟩
 |eW hO hp hk hr ih=>
  intro v d rv e
  simp only[toD] at e
  cases e
 |rF hO hp=>
  intro v d rv e
  simp only[toD] at e
  cases e
 |fY=>
  intro v d rv e
  simp only[toD] at e
  cases e
section
variable {X:Cx}
def iL (d:PyData):Prop:=d.showable=true∧d.hasDict=false∧d.shown.length≤1000000∧d.depth≤40
def EM:List V→Hp→VK→Prop:=fun xs H Q=> ∃ (B:Addr) (O:Addr→Prop) (l:List PV) (x:V) (d:PyData),xs=[x]∧Rep B O H (.tup l) x∧toD (.tup l)=some d∧iL d∧Q (.str d.shown) H
theorem u5 (hg:X.A.guards=some []) (hu:X.A.units+64 < cLine):gm X (.builtin "repr") EM:=by
 intro pZ s σ H xs us Q I r h
 obtain⟨B,O,l,x,d,rfl,rp,hd,⟨h1,h2,h3,h4⟩,q⟩:=h
 obtain⟨u,rfl,rx⟩:=vals1 r
 obtain⟨as,rd⟩:=zj I.bS rp u d rx hd
 simp only[toD] at hd
 obtain⟨ds,e1,rfl⟩:=K2.mp hd
 have hz:(PyData.tuple ds).shown.length≤sizeLine:=by rw[Lh];lia
 have rd0:=rd
 cases rd with
 |tuple g1 g2 g3 g4=>
  rename_i a o vs n
  have hz':(tupleText (PyData.shownAll ds)).length≤sizeLine:=by simpa only[PyData.shown] using hz
  obtain⟨bs,hb,hk⟩:=ReprAllK.of_readsAll (prog:=X.prog) (w:=X.w) g4 (by simpa[PyData.showable] using h1) (fun hx=>absurd hx (by simpa[PyData.hasDict] using h2)) (fun t ht=>KZ (tupleText_mem_le ht) hz')
  have hna:a∉bs:=not_mem_of_deeper rd0 (by simp only[PyData.depth];lia) hb
  simp only[PyData.depth] at h4
  refine call_repr_slot (by lia) ⟨o,g1,g2⟩ PySem.F.slot_tuple_repr ?_
  refine call_tuple_reprK (h₀:=s.heap) g1 g2 g3 hna hk (g:=[]) (by first|exact hg|simpa[Around.in1] using hg) (fun b _=>Clear.nil b) (by show X.A.units+1+_ < cLine;lia) (fun _ _ e=>e) (fun h' u tk k=>⟨_,_,rfl,?_⟩) hz'
  exact⟨.str _,H,I.kept k,⟨_,rfl⟩,by simpa only[PyData.shown] using q⟩
end
instance (d:PyData):Decidable (iL d):=by unfold iL;infer_instance
section
variable {X:Cx} {φ:eF} {st:Stmt}
noncomputable def vE:V→List V→Hp→VK→Prop:=fun x vs H Q=> ∃ (l:Addr) (xs:List V) (i:Nat) (y:V),x= .ref l∧vs=[.int i,y]∧H l=some (.lst xs)∧i≤xs.length∧xs.length < 1000000∧Q .aU (upd H l (.lst (xs.take i++y::xs.drop i)))
theorem xB:Gx X "list.insert" vE:=by
 intro pZ s σ H x vs v us Q I rx rv h
 obtain⟨l,xs,i,y,rfl,rfl,hH,hi,hz,q⟩:=h
 cases rx
 obtain⟨u1,u,rfl,r1,ru⟩:=rv.two
 obtain⟨t,rfl⟩:=r1
 obtain⟨z,aC,n,r,hl,e⟩:=I.oG hH
 have hlen:aC.length=xs.length:=r.length.symm
 have fit: ¬ (!Builtin.List.listFitsIndex (i:Int))=true:=by
  have e:Builtin.List.listFitsIndex (i:Int)=true:=by
   unfold Builtin.List.listFitsIndex
   rw[Lf,decide_eq_true_eq,decide_eq_true_eq]
   have e62:(2:Int) ^ 63=9223372036854775808:=by decide
   rw[e62]
   lia
  rw[e]
  simp
 have hsz:aC.toArray.size≤sizeLine:=by rw[KC,Lh];lia
 generalize e0:((i:Nat):Int)=j at fit ⊢
 have mt:=PySem.AutoSeq1.list_insert_list_int_val_1 l aC.toArray n j t u fit hsz
 refine call_meets PySem.F.slot_list_insert ⟨_,e,rfl⟩ PySem.F.entry_list_insert (PySem.F.args_list_insert_3 _ _ _) mt ⟨e,?_⟩
 refine⟨.aU,_,I.Ak (bQ:=aC.take i++u::aC.drop i) hH e ?_ ((r.take i).append (.cons ru (r.drop i))) ?_,rfl,q⟩
 ·have hk:(if j < 0 then(j+((aC.toArray.size:Nat):Int)).toNat else min j.toNat aC.toArray.size)=i:=by
   rw[Lr (by lia),KC]
   lia
  have key: ∀ c:Nat,c=i→(aC.toArray.extract 0 c).push u++aC.toArray.extract c=(aC.take i++u::aC.drop i).toArray:=by
   rintro _ rfl
   apply Array.toList_inj.mp
   simp[List.take_of_length_le]
  exact key _ hk
 ·rw[Lh]
  simp only[K4,List.length_take,KO,List.length_drop]
  lia
noncomputable def uR (k:Nat) (ml:ak→M (List PV)):ak→M Fl:=fun ρ=>match ρ[k]? with
 |some (.own l)=>(ml ρ).bind fun a=>match a with
  |[.int i,y]=>if 0≤i∧i≤l.length∧l.length < 100000 then .ret (.nx (ρ.set k (.own (l.take i.toNat++y::l.drop i.toNat)))) else .fail
  |_=>.fail
 |_=>.fail
theorem AF {l:List PV} {ρ:ak} (w:(match a with
  |[.int i,y]=>if 0≤i∧i≤l.length∧l.length < 100000 then M.ret (Fl.nx (ρ.set k (.own (l.take i.toNat++y::l.drop i.toNat)))) else .fail
  |_=>.fail:M Fl).wp n R): ∃ (i:Nat) (y:PV),a=[.int i,y]∧i≤l.length∧l.length < 100000∧R (.nx (ρ.set k (.own (l.take i++y::l.drop i)))) n:=by
 split at w
 ·rename_i i y
  split at w
  ·rename_i h
   refine⟨i.toNat,y,by rw[Int.toNat_of_nonneg h.1],by lia,h.2.2,w⟩
  ·exact w.elim
 ·exact w.elim
theorem Ez (h:BS X st (rM (Gm X.K "list" vE (kz k) (Iw φ ml)))):SV φ X st (uR k ml):=BS.mono h fun D σ H cy=>by
 obtain⟨G,O0,H0,O,ρ,n,s,w⟩:=cy
 unfold uR at w
 cases hk:ρ[k]? with
 |none=>simp only[hk] at w;exact w.elim
 |some t=>
  cases t with
  |own l=>
   simp only[hk] at w
   obtain⟨p,xs,hx,hO,np,hh,rr⟩:=s.es.er.2 k _ hk
   have hs:=eK s.es.er hk hx
   have npB:p≠G.B:=fun z=>np (z▸G.pB)
   rw[M.wZ] at w
   refine⟨_,hs,.inl ⟨rfl,xs,cV.of hh⟩,G,O,ρ,n,_,s.es,w,fun a vs H1 n1 e1 bP r1 w1=>?_⟩
   obtain⟨i,y,rfl,hi,hc,w2⟩:=AF w1
   obtain⟨x1,t1,rfl,q1,q2⟩:=r1.cons_inv
   obtain⟨x2,t2,rfl,q3,q4⟩:=q2.cons_inv
   rw[q4.nil_inv]
   cases q1
   have s1:=s.to e1 bP
   have rr1:=rr.ext s.es.B e1
   refine⟨p,xs,i,x2,rfl,rfl,e1 p _ npB hh,by rw[←rr.1];exact hi,by rw[←rr.1];lia,w2 O _ _ (s1.put hk hs ((rr1.take i).append (.cons q3 (rr1.drop i))))⟩
  |_=>simp only[hk] at w;exact w.elim
end
section
open PySem.W (KasT kas_rev kas_asc kas_desc kas_tail3 kas_descPart kas_count kas_place kas_bin kas_sort)
section
variable (r:Nat→Int)
def runK {α:Type}:KasT α→α
 | .ret a=>a
 | .ask i j k=>runK (k (decide (r i < r j)))
theorem run_bind (f:α→KasT β): ∀ t:KasT α,runK r (t.bind f)=runK r (f (runK r t))
 | .ret a=>rfl
 | .ask i j k=>run_bind f (k (decide (r i < r j)))
theorem lT [Decidable c] (a b:KasT α):runK r (if c then a else b)=if c then runK r a else runK r b:=by split<;>rfl
def kg (p:Array Nat) (k:Nat):Int:=r (p.getD k 0)
def t8 (p:Array Nat) (m:Nat):Prop:= ∀ i j,i < j→j < m→kg r p i < kg r p j
def BL (p:Array Nat):Prop:= ∀ i j,i < p.size→j < p.size→i≠j→kg r p i≠kg r p j
variable {r}
theorem yz (h1:1≤n) (h:t8 r p n) (h':kg r p (n - 1) < kg r p n):t8 r p (n+1):=fun i j hij hj=>by
 by_cases e:j=n
 ·subst e
  by_cases e2:i=j - 1
  ·subst e2;exact h'
  ·exact Int.lt_trans (h i (j - 1) (by lia) (by lia)) h'
 ·exact h i j hij (by lia)
theorem vd (u:BL r p): ∀ (f n:Nat),1≤n→n+f≤p.size→t8 r p n→∃ m,runK r (kas_asc p f n)=m∧n≤m∧m≤n+f∧t8 r p m∧(m < n+f→kg r p m < kg r p (m - 1))
 |0,n,h1,hz,h=>⟨n,rfl,by lia,by lia,h,fun z=>by lia⟩
 |f+1,n,h1,hz,h=>by
  unfold kas_asc
  show ∃ m,runK r (if decide (r (p.getD n 0) < r (p.getD (n - 1) 0))=true then KasT.ret n else kas_asc p f (n+1))=m∧_
  by_cases c:r (p.getD n 0) < r (p.getD (n - 1) 0)
  ·rw[Lq (by simpa using c)]
   exact⟨n,rfl,by lia,by lia,h,fun _=>c⟩
  ·rw[Lr (by simpa using c)]
   have ne:=u (n - 1) n (by lia) (by lia) (by lia)
   have lt:kg r p (n - 1) < kg r p n:=by
    have: ¬ kg r p n < kg r p (n - 1):=c
    lia
   obtain⟨m,e,a1,a2,a3,a4⟩:=vd u f (n+1) (by lia) (by lia) (yz h1 h lt)
   exact⟨m,e,by lia,by lia,a3,fun z=>a4 (by lia)⟩
def Im (r:Nat→Int) (p:Array Nat) (m:Nat):Prop:= ∀ i j,i < j→j < m→kg r p j < kg r p i
theorem sY (h1:1≤n) (h:Im r p n) (h':kg r p n < kg r p (n - 1)):Im r p (n+1):=fun i j hij hj=>by
 by_cases e:j=n
 ·subst e
  by_cases e2:i=j - 1
  ·subst e2;exact h'
  ·exact Int.lt_trans h' (h i (j - 1) (by lia) (by lia))
 ·exact h i j hij (by lia)
theorem wt (u:BL r p): ∀ (f n:Nat),1≤n→n+f≤p.size→Im r p n→∃ m,runK r (kas_desc f p n 0)=(p,m,0)∧n≤m∧m≤n+f∧Im r p m
 |0,n,h1,hz,h=>⟨n,rfl,by lia,by lia,h⟩
 |f+1,n,h1,hz,h=>by
  unfold kas_desc
  by_cases c:r (p.getD n 0) < r (p.getD (n - 1) 0)
  ·obtain⟨m,e,a1,a2,a3⟩:=wt u f (n+1) (by lia) (by lia) (sY h1 h c)
   refine⟨m,?_,by lia,by lia,a3⟩
   show runK r (if decide (r (p.getD n 0) < r (p.getD (n - 1) 0))=true then _ else _)=_
   rw[Lq (by simpa using c),Lr (by lia)]
   exact e
  ·have ne:=u (n - 1) n (by lia) (by lia) (by lia)
   have lt:r (p.getD (n - 1) 0) < r (p.getD n 0):=by
    have n1: ¬ kg r p n < kg r p (n - 1):=c
    have n2:kg r p (n - 1) < kg r p n:=by lia
    exact n2
   refine⟨n,?_,by lia,by lia,h⟩
   show runK r (if decide (r (p.getD n 0) < r (p.getD (n - 1) 0))=true then _ else _)=_
   rw[Lr (by simpa using c)]
   show runK r (if decide (r (p.getD (n - 1) 0) < r (p.getD n 0))=true then _ else _)=_
   rw[Lq (by simpa using lt)]
   rfl
theorem EL (hm:m≤p.size):(kas_rev p 0 m).getD k 0=if k < m then p.getD (m - 1 - k) 0 else p.getD k 0:=by
 have e:=getElem?_mirror_all (xs:=p) (i:=0) (j:=m) hm k
 unfold kas_rev
 rw[K0,e]
 by_cases c:k < m
 ·rw[Lq ⟨K6 _,c⟩,Lq c,K0]
  congr 2
  lia
 ·rw[Lr (fun z=>c z.2),Lr c,K0]
theorem kH (hm:m≤p.size) (k:Nat):kg r (kas_rev p 0 m) k=if k < m then kg r p (m - 1 - k) else kg r p k:=by
 unfold kg
 rw[EL hm]
 by_cases c:k < m
 ·rw[Lq c,Lq c]
 ·rw[Lr c,Lr c]
theorem vD (hm:m≤p.size) (u:BL r p):BL r (kas_rev p 0 m):=fun i j hi hj ne=>by
 have hz:(kas_rev p 0 m).size=p.size:=mirror_size _ _ _ _
 rw[hz] at hi hj
 rw[kH hm,kH hm]
 split<;>split
 ·exact u _ _ (by lia) (by lia) (by lia)
 ·exact u _ _ (by lia) (by lia) (by lia)
 ·exact u _ _ (by lia) (by lia) (by lia)
 ·exact u _ _ hi hj ne
theorem Ci (hm:m≤p.size) (h:Im r p m):t8 r (kas_rev p 0 m) m:=fun i j hij hj=>by
 rw[kH hm,kH hm,Lq (by lia),Lq hj]
 exact h (m - 1 - j) (m - 1 - i) (by lia) (by lia)
theorem count_is (u:BL r p) (h2:1≤p.size): ∃ m p',runK r (kas_count p.size p)=(m,p')∧1≤m∧m≤p.size∧p'.size=p.size∧p'.Perm p∧BL r p'∧t8 r p' m:=by
 unfold kas_count
 rw[run_bind]
 obtain⟨n,e,a1,a2,a3,a4⟩:=vd u (p.size - 1) 1 (by lia) (by lia) (fun i j hij hj=>by lia)
 rw[e]
 by_cases c1:n=p.size
 ·rw[Lq (by simpa using c1)]
  exact⟨n,p,rfl,a1,by lia,rfl,.refl _,u,a3⟩
 ·rw[Lr (by simpa using c1)]
  by_cases c2:n > 1
  ·rw[Lq c2]
   have lt:r (p.getD 0 0) < r (p.getD (n - 1) 0):=a3 0 (n - 1) (by lia) (by lia)
   refine⟨n,p,?_,a1,by lia,rfl,.refl _,u,a3⟩
   show runK r (if decide (r (p.getD 0 0) < r (p.getD (n - 1) 0))=true then _ else _)=_
   rw[Lq (by simpa using lt)]
   rfl
  ·rw[Lr c2]
   have en:n=1:=by lia
   subst en
   have lt:=a4 (by lia)
   unfold kas_descPart
   rw[run_bind]
   obtain⟨m,e2,b1,b2,b3⟩:=wt u (p.size - (1+1)) (1+1) (by lia) (by lia) (sY (KG 1) (fun i j hij hj=>by lia) lt)
   rw[e2]
   rw[Lr (by show ¬ (0 > 0);lia)]
   unfold kas_tail3
   rw[run_bind]
   have hz:(kas_rev p 0 m).size=p.size:=mirror_size _ _ _ _
   obtain⟨m',e3,d1,d2,d3,d4⟩:=vd (vD (m:=m) (by lia) u) (p.size - m) m (by lia) (by rw[hz];lia) (Ci (by lia) b3)
   rw[e3]
   exact⟨m',kas_rev p 0 m,rfl,by lia,by lia,hz,mirror_perm _ _ _ _,vD (by lia) u,d3⟩
theorem mM (u:BL r p) (hk:k < p.size) (h:t8 r p k): ∀ (f l q:Nat),q≤l+f→q≤k→l≤q→(∀ i,i < l→kg r p i < kg r p k)→(∀ i,q≤i→i < k→kg r p k < kg r p i)→∃ m,runK r (kas_place p k f l q)=m∧m≤k∧(∀ i,i < m→kg r p i < kg r p k)∧∀ i,m≤i→i < k→kg r p k < kg r p i
 |0,l,q,hf,hq,hl,lo,hi=>⟨l,rfl,by lia,lo,fun i h1 h2=>hi i (by lia) h2⟩
 |f+1,l,q,hf,hq,hl,lo,hi=>by
  unfold kas_place
  rw[lT]
  by_cases c:l ≥ q
  ·rw[Lq c]
   exact⟨l,rfl,by lia,lo,fun i h1 h2=>hi i (by lia) h2⟩
  ·rw[Lr c]
   show ∃ m,runK r (if decide (r (p.getD k 0) < r (p.getD ((l+q) / 2) 0))=true then _ else _)=m∧_
   have hmid:(l+q) / 2 < q:=by lia
   by_cases d:r (p.getD k 0) < r (p.getD ((l+q) / 2) 0)
   ·rw[Lq (by simpa using d)]
    refine mM u hk h f l ((l+q) / 2) (by lia) (by lia) (by lia) lo fun i h1 h2=>?_
    by_cases e:i=(l+q) / 2
    ·subst e;exact d
    ·exact Int.lt_trans d (h _ i (by lia) h2)
   ·rw[Lr (by simpa using d)]
    have ne:=u ((l+q) / 2) k (by lia) hk (by lia)
    have lt:kg r p ((l+q) / 2) < kg r p k:=by
     have d': ¬ kg r p k < kg r p ((l+q) / 2):=d
     lia
    refine mM u hk h f ((l+q) / 2+1) q (by lia) hq (by lia) (fun i h1=>?_) hi
    by_cases e:i=(l+q) / 2
    ·subst e;exact lt
    ·exact Int.lt_trans (h i _ (by lia) (by lia)) lt
theorem Bi (hk:k < p.size) (hl:l≤k):kg r (bubble p k (k - l)) i=if i=l then kg r p k else if l < i∧i≤k then kg r p (i - 1) else kg r p i:=by
 have e:=getElem?_bubble (xs:=p) hk (k - l) (by lia) i
 unfold kg
 rw[K0,e,show k - (k - l)=l by lia]
 by_cases c1:i=l
 ·rw[Lq c1,Lq c1,K0]
 ·rw[Lr c1,Lr c1]
  by_cases c2:l < i∧i≤k
  ·rw[Lq c2,Lq c2,K0]
  ·rw[Lr c2,Lr c2,K0]
theorem Bl: ∀ (f:Nat) (p:Array Nat) (k:Nat),k+f=p.size→BL r p→t8 r p k→∃ p',runK r (kas_bin f p k)=p'∧p'.size=p.size∧p'.Perm p∧t8 r p' p.size
 |0,p,k,hz,u,h=>⟨p,rfl,rfl,.refl _,by rw[←hz];exact h⟩
 |f+1,p,k,hz,u,h=>by
  unfold kas_bin
  rw[run_bind]
  obtain⟨l,e,a1,a2,a3⟩:=mM u (show k < p.size by lia) h k 0 k (by lia) (KG _) (K6 _) (fun i hi=>by lia) (fun i h1 h2=>by lia)
  rw[e]
  have hb:(bubble p k (k - l)).size=p.size:=bubble_size _ _ _
  have at_:=fun i=>Bi (r:=r) (p:=p) (k:=k) (l:=l) (i:=i) (by lia) a1
  have u':BL r (bubble p k (k - l)):=fun i j hi hj ne=>by
   rw[hb] at hi hj
   rw[at_ i,at_ j]
   repeat' split
   all_goals first|(exfalso;lia)|exact u _ _ (by lia) (by lia) (by lia)
  have h':t8 r (bubble p k (k - l)) (k+1):=fun i j hij hj=>by
   rw[at_ i,at_ j]
   repeat' split
   all_goals first|(exfalso;lia)|exact a2 _ (by lia)|exact a3 _ (by lia) (by lia)|exact h _ _ (by lia) (by lia)
  obtain⟨p',e',b1,b2,b3⟩:=Bl f (bubble p k (k - l)) (k+1) (by rw[hb];lia) u' h'
  exact⟨p',e',b1.trans hb,b2.trans (bubble_perm _ _ _),by rw[hb] at b3;exact b3⟩
theorem B8 (hn:1≤n) (u: ∀ i j,i < n→j < n→i≠j→r i≠r j): ∃ p,runK r (kas_sort n)=p∧p.size=n∧p.Perm (List.toArray (List.range n))∧t8 r p n:=by
 have hz:(List.toArray (List.range n)).size=n:=by simp
 have u0:BL r (List.toArray (List.range n)):=fun i j hi hj ne=>by
  rw[hz] at hi hj
  unfold kg
  have e: ∀ k,k < n→(List.toArray (List.range n)).getD k 0=k:=fun k hk=>by
   rw[K0]
   simp[hk]
  rw[e i hi,e j hj]
  exact u i j hi hj ne
 unfold kas_sort
 rw[run_bind]
 obtain⟨m,p',e,a1,a2,a3,a4,a5,a6⟩:=count_is u0 (by rw[hz];exact hn)
 rw[hz] at e a2 a3
 rw[e]
 dsimp only
 rw[lT]
 by_cases c:m < n
 ·rw[Lq c,Nat.max_eq_left a1]
  obtain⟨p2,e2,b1,b2,b3⟩:=Bl (n - m) p' m (by lia) a5 a6
  rw[a3] at b1 b3
  exact⟨p2,e2,b1,b2.trans a4,b3⟩
 ·rw[Lr c]
  have:m=n:=by lia
  subst this
  exact⟨p',rfl,a3,a4,a6⟩
end
end
def DE (h:Heap) (mg:Str→Option Value):Prop:= ∃ bm ob,mg "__builtins__"=some (.ref bm)∧bm≠builtinsNs∧h.get? bm=some ob∧ob.cls= .type "module"∧ob.dict=some builtinsNs∧ob.data= .plain
abbrev sW:Obj:={cls:=.none,data:=.fields #[]}
theorem xQ {K:Frag} {a:Addr} {tbs:List Addr} {x:Str} {s:Shared} {vs:List Value}
  (KX:K.In s.heap) (hns:s.heap.Ns mainGlobals mg) (hbn:s.heap.Ns builtinsNs mb) (hbb: ∀ x:Str,x≠"__name__"→mb x=bootBuiltins x) (hlim:s.heap.NoLimit) (hbm:DE s.heap mg) (hg:s.gens= #[])
  (ha:s.heap.get? a=some {cls:=.type "list",data:=.seq vs.toArray}) (hi:IntsAre vs ns) (hl:ns.length≤sizeLine) (hr:eN k callerA)
  (ht: ∀ tb∈tbs,isCodeTable s.heap tb∧s.heap.get? tb=some sW∧K.lookup tb=none)
  (F: ∀ base:Heap,K.In base→base.Ns mainGlobals mg→DE base mg→bD P w K mg base CX k fa fd [x] sp) (hbind: ∀ (s:Shared) (u:Value),BindsTo s fd ⟨[u],[]⟩ [(x,u)])
  (hsp: ∀ H:Hp,(∀ tb∈tbs,H tb=some (.lP #[]))→cV K H a (ns.map V.int)→sp [.ref a] H (fun v _=>v= .bl true) fun _ _ _=>False)
  (hCX: ∀ H e s',CX [] H s (fun _ _ _=>False) e s'→False):
  codeAny (model P w) callerA (.call (.ref fa) ⟨[.ref a],[]⟩) (fun r s'=>r= .ok (.ret (.bool true))∧OldK s.heap s'.heap∧s'.os=s.os∧AllBare s'.gens) s:=by
 have hta:a∉tbs:=fun z=>by
  have gt:=(ht a z).2.1
  rw[ha] at gt
  cases gt
 let so:HO:=.f7 {cls:=.type "list",data:=.seq vs.toArray} (.lst (ns.map V.int))
 let H:Hp:=fun b=>if b∈tbs then some (.lP #[]) else if b=a∧K.lookup a=none then some so else none
 have Ht: ∀ tb∈tbs,H tb=some (.lP #[]):=fun tb z=>Lq z
 have cases_: ∀ b u,H b=some u→(b∈tbs∧u= .lP #[])∨(b=a∧K.lookup a=none∧u=so):=fun b u e=>by
  by_cases c1:b∈tbs
  ·rw[Ht b c1] at e
   cases e
   exact .inl ⟨c1,rfl⟩
  ·by_cases c2:b=a∧K.lookup a=none
   ·rw[show H b=some so from(Lr c1).trans (Lq c2)] at e
    cases e
    exact .inr ⟨c2.1,c2.2,rfl⟩
   ·rw[show H b=none from(Lr c1).trans (Lr c2)] at e
    cases e
 have bS:iY P w H s.heap:=fun b u e=>by
  rcases cases_ b u e with⟨z,rfl⟩|⟨rfl,_,rfl⟩
  ·exact(ht b z).2.1
  ·exact⟨ha,by rw[Kx];exact hl,vs,_,i7 hi,ha⟩
 have free': ∀ {b:Addr} {o:Obj},s.heap.get? b=some o→o≠sW→o≠{cls:=.type "list",data:=.seq vs.toArray}→H b=none:=fun {b o} e n1 n2=>by
  cases q:H b with
  |none=>rfl
  |some u=>
   rcases cases_ b u q with⟨z,_⟩|⟨rfl,_,_⟩
   ·rw[(ht b z).2.1] at e;cases e;exact(n1 rfl).elim
   ·rw[ha] at e;cases e;exact(n2 rfl).elim
 have free: ∀ {b:Addr} {o:Obj} {es:Array DictEntry} {ep:Nat},s.heap.get? b=some o→o.data= .dict es ep→H b=none:=fun {b o es ep} e d=>free' e (fun z=>by rw[z] at d;cases d) (fun z=>by rw[z] at d;cases d)
 have nsK: ∀ {b:Addr} {m:Str→Option Value},s.heap.Ns b m→(qQ s.heap H).Ns b m:=fun {b m} ⟨o,es,ep,e,d,r⟩=>⟨o,es,ep,nh e (free e d),d,r⟩
 have hKb:K.In (qQ s.heap H):=fun b o e=>nh (KX b o e) (by
  cases q:H b with
  |none=>rfl
  |some u=>
   rcases cases_ b u q with⟨z,_⟩|⟨rfl,hk,_⟩
   ·rw[(ht b z).2.2] at e;cases e
   ·rw[hk] at e;cases e)
 have hBI:DE (qQ s.heap H) mg:=by
  obtain⟨bm,ob,b1,b2,b3,b4,b5,b6⟩:=hbm
  exact⟨bm,ob,b1,b2,nh b3 (free' b3 (fun z=>by rw[z] at b6;cases b6) (fun z=>by rw[z] at b6;cases b6)),b4,b5,b6⟩
 have md:Mod K mg (qQ s.heap H):=⟨hKb,nsK hns,⟨mb,nsK hbn,hbb⟩,let ⟨mc,h1,h2⟩:=hlim;⟨mc,nsK h1,h2⟩⟩
 have e0:yf P w K mg (qQ s.heap H) callerA [] s H:=⟨rfl,md,fun b o e=>CQ e,Nat.le_of_eq (xP _ _),trivial,fun b hb=>(nomatch (show b∈([]:List Addr) from hb)),bS,.of_eq hg⟩
 have sq:cV K H a (ns.map V.int):=by
  cases hk:K.lookup a with
  |some o=>
   have e:=KX a o hk
   rw[ha] at e
   cases e
   exact .inr ⟨_,vs.toArray,_,hk,rfl,rfl,rfl,by rw[KC,hi.length];exact hl,by simpa using i7 hi⟩
  |none=>exact .inl (.inr ⟨_,(Lr hta).trans (Lq ⟨rfl,hk⟩)⟩)
 refine codeAny_mono ((F _ hKb (nsK hns) hBI).run callerA [] s H ⟨[.ref a],[]⟩ [.ref a] [.ref a] _ _ hr e0 (hbind s (.ref a)) (.cons rfl .nil) (hsp H Ht sq)) fun r s' h=>?_
 match r,h with
 | .error e,h=>exact(hCX H e s' h).elim
 | .ok (.ret u),h=>
  obtain⟨v,H',os,bare,un,hok',r',q⟩:=h
  obtain rfl:v= .bl true:=q
  obtain rfl:u=Value.bool true:=r'
  have kept: ∀ b o,b∉tbs→s.heap.get? b=some o→s'.heap.get? b=some o:=fun b o nb e=>by
   cases qb:H b with
   |none=>exact un.keep b o e qb (fun z=>nomatch (show b∈([]:List Addr) from z)) (fun z=>nomatch z)
   |some u=>
    rcases cases_ b u qb with⟨z,_⟩|⟨rfl,_,rfl⟩
    ·exact absurd z nb
    ·obtain⟨e1,_⟩:=bS b _ qb
     obtain⟨e2,_⟩:=hok' b _ (un.kc b _ _ qb)
     rw[e] at e1
     cases e1
     exact e2
  have grown: ∀ b∈tbs,∃ more,s'.heap.get? b=some {cls:=.none,data:=.fields (#[]++more)}:=fun b z=>by
   obtain⟨more,et⟩:=un.oh b #[] (Ht b z)
   exact⟨more,hok' b _ et⟩
  refine⟨rfl,⟨fun b o e=>?_,fun b o e=>?_⟩,os,bare⟩
  ·by_cases nb:b∈tbs
   ·obtain⟨more,gt'⟩:=grown b nb
    rw[(ht b nb).2.1] at e
    cases e
    exact .inr (.inl ⟨(ht b nb).1,rfl,#[],more,rfl,gt'⟩)
   ·exact .inl (kept b o nb e)
  ·by_cases nb:b∈tbs
   ·obtain⟨more,gt'⟩:=grown b nb
    exact⟨_,gt'⟩
   ·exact⟨o,kept b o nb e⟩
theorem wO {l:PySem.W.OpenLaw} {YP:World→Heap→Prop} {d:DefRec} {K:Params→Frag} {CX:World→BB} {sp:World→List Addr→Sp} {x:Str}
  (hn:l.most=some n) (hn2:n≤sizeLine) (hdf:d.params.defaults=[]) (hr:eN k callerA)
  (hY: ∀ (w:World) (h:Heap),YP w h→(K w.params).In h)
  (F: ∀ (w:World) (mg:Str→Option Value) (fa:Addr) (h:Heap),(K w.params).In h→h.Ns mainGlobals mg→mg d.name=some (.ref fa)→
   ∃ (fd:FuncData) (ts:List (Str×Addr×Addr)),(∀ e∈ts,PySem.W.tabIn (K w.params) e.1=some e.2∧(K w.params).lookup e.2.2=none∧((recsOf q).find? fun r=>r.name==e.1).isSome=true)∧
    (∀ (s:Shared) (u:Value),BindsTo s fd ⟨[u],[]⟩ [(x,u)])∧
    ∀ base:Heap,(K w.params).In base→base.Ns mainGlobals mg→DE base mg→bD l.prog w (K w.params) mg base (CX w) k fa fd [x] (sp w (ts.map (·.2.2))))
  (hsp: ∀ (w:World) (H:Hp) (a:Addr) (ns:List Int) (tbs:List Addr),ns.length≤n→(∀ tb∈tbs,H tb=some (.lP #[]))→cV (K w.params) H a (ns.map V.int)→sp w tbs [.ref a] H (fun v _=>v= .bl true) fun _ _ _=>False)
  (hCX: ∀ (w:World) (H:Hp) (s:Shared) (e:Value) (s':Shared),CX w [] H s (fun _ _ _=>False) e s'→False):
  PySem.W.WalkO q loose XP YP l.row.toRowW d [] (fun f vs=>PySem.call f vs):=by
 refine Att.tO hn hdf fun w s₀ s₁ mg mb fa o pm cd doc a vs ns G Y ho hd hcd hmg hobj hints hlen hg=>?_
 have KX:=hY w _ Y
 obtain⟨fd,ts,hts,hb,hF⟩:=F w mg fa _ KX G.T.g hmg
 refine xQ (tbs:=ts.map (·.2.2)) KX G.T.g G.T.b G.T.builtins G.T.nolimit ?_ hg hobj hints (KZ hlen hn2) hr (fun tb z=>?_) hF hb (fun H hO hS=>hsp w H a ns _ hlen hO hS) fun H e s'=>hCX w H s₁ e s'
 ·obtain⟨bm,ob,b1,b2,b3,b4,b5,b6⟩:=G.T.bmain
  exact⟨bm,ob,b1,b2,b3,b4,b5,b6⟩
 ·obtain⟨e,he,rfl⟩:=KN.mp z
  obtain⟨h1,h2,h3⟩:=hts e he
  obtain⟨d',h3⟩:=Option.isSome_iff_exists.mp h3
  obtain⟨g1,g2⟩:=PySem.W.tab_of G.T KX h3 h1
  exact⟨(g1.tab g2).isCodeTable,g2,h2⟩
section
open PySem.W (KasT kas_rev kas_asc kas_desc kas_tail3 kas_descPart kas_count kas_place kas_bin kas_sort)
def eX (N:Nat) {α:Type} (V:α→Prop):KasT α→Prop
 | .ret a=>V a
 | .ask i j k=>i < N∧j < N∧∀ b,eX N V (k b)
theorem eX.bind {N:Nat} {α β:Type} {V:α→Prop} {W:β→Prop} {f:α→KasT β}: ∀ {t:KasT α},eX N V t→(∀ a,V a→eX N W (f a))→eX N W (t.bind f)
 | .ret a,h,k=>k a h
 | .ask i j g,h,k=>⟨h.1,h.2.1,fun b=>eX.bind (h.2.2 b) k⟩
theorem eX.ite {N:Nat} {α:Type} {V:α→Prop} {c:Prop} [Decidable c] {a b:KasT α} (h1:eX N V a) (h2:eX N V b):eX N V (if c then a else b):=by
 by_cases h:c
 ·rw[Lq h];exact h1
 ·rw[Lr h];exact h2
def Bd (N:Nat) (p:Array Nat):Prop:=0 < N∧∀ x∈p.toList,x < N
theorem Bd.at (h:Bd N p) (k:Nat):p.getD k 0 < N:=by
 rw[K0]
 cases e:p[k]? with
 |none=>exact h.1
 |some x=>exact h.2 x (Array.mem_toList_iff.mpr (Array.mem_of_getElem? e))
theorem Bd.perm (h:Bd N p) (pm:q.Perm p):Bd N q:=⟨h.1,fun x hx=>h.2 x ((Array.perm_iff_toList_perm.mp pm).mem_iff.mp hx)⟩
theorem Bd.rev (h:Bd N p) (i j:Nat):Bd N (kas_rev p i j):=h.perm (mirror_perm _ _ _ _)
section
variable {N:Nat}
theorem ve (h:Bd N p): ∀ f n,eX N (fun _=>True) (kas_asc p f n)
 |0,_=>trivial
 |f+1,n=>⟨h.at _,h.at _,fun b=>eX.ite trivial (ve h f (n+1))⟩
theorem mr: ∀ (f:Nat) {p:Array Nat} (n q:Nat),Bd N p→eX N (fun r=>Bd N r.1) (kas_desc f p n q)
 |0,_,_,_,h=>h
 |f+1,p,n,q,h=>⟨h.at _,h.at _,fun b=>eX.ite (eX.ite (mr f _ _ (h.rev _ _)) (mr f _ _ h)) ⟨h.at _,h.at _,fun d=>eX.ite h (mr f _ _ h)⟩⟩
theorem rK (h:Bd N p) (n m:Nat):eX N (fun r=>Bd N r.2) (kas_tail3 n m p):=eX.bind (ve (h.rev _ _) _ _) fun a _=>h.rev _ _
theorem lH (h:Bd N p) (n m:Nat):eX N (fun r=>Bd N r.2) (kas_descPart n m p):=eX.bind (mr _ _ _ h) fun r hr=>eX.ite (rK (hr.rev _ _) _ _) (rK hr _ _)
theorem A9 (h:Bd N p) (m:Nat):eX N (fun r=>Bd N r.2) (kas_count m p):=
 eX.bind (ve h _ _) fun n _=>eX.ite h (eX.ite ⟨h.at _,h.at _,fun c=>eX.ite h (lH (h.rev _ _) _ _)⟩ (lH h _ _))
theorem mN {p:Array Nat} (h:Bd N p) (k:Nat): ∀ f l r,eX N (fun _=>True) (kas_place p k f l r)
 |0,_,_=>trivial
 |f+1,l,r=>by
  unfold kas_place
  exact eX.ite trivial ⟨h.at _,h.at _,fun c=>eX.ite (mN h k f _ _) (mN h k f _ _)⟩
theorem Bm: ∀ (f:Nat) {p:Array Nat} (k:Nat),Bd N p→eX N (Bd N) (kas_bin f p k)
 |0,_,_,h=>h
 |f+1,p,k,h=>eX.bind (mN h _ _ _ _) fun l _=>Bm f (k+1) (h.perm (bubble_perm _ _ _))
theorem vx (hN:0 < N):eX N (Bd N) (kas_sort N):=by
 have h:Bd N (List.toArray (List.range N)):=⟨hN,fun x hx=>by simpa using hx⟩
 exact eX.bind (A9 h _) fun r hr=>eX.ite (Bm _ _ hr) hr
theorem wp_run {α:Type} {V:α→Prop} {r:Nat→Int} {cmp:Nat→Nat→(Bool→Shared→Prop)→Shared→Prop} {Q:α→Shared→Prop} {s:Shared} (hc: ∀ i j C,i < N→j < N→C (decide (r i < r j)) s→cmp i j C s): ∀ (t:KasT α),eX N V t→Q (runK r t) s→t.kasWp cmp Q s
 | .ret a,_,h=>h
 | .ask i j k,hi,h=>hc i j _ hi.1 hi.2.1 (wp_run hc (k (decide (r i < r j))) (hi.2.2 _) h)
end
theorem Ax (hx:s.heap.get? x=some ox) (dx:ox.data= .seq #[.int a ta,.int b tb] nx) (hy:s.heap.get? y=some oy) (dy:oy.data= .seq #[.int c tc,.int d td] ny)
  (hb:0≤b∧b < 1000000) (hd:0≤d∧d < 1000000) (h:Q (decide (a * 1000000+b < c * 1000000+d)) s):wpAny (model prog w) A (keyLt' (tuples' true) (.ref x) (.ref y)) Q E s:=by
 refine PySem.W.kat_lt hx dx hy dy ?_
 show PySem.W.KatLex prog w A true false Q [(.int a ta,.int c tc),(.int b tb,.int d td)] 0 s
 refine PySem.W.kat_cons (wpAny_eqBool_int ?_)
 by_cases e1:a=c
 ·subst e1
  have z:(a==a)=true:=by simp
  rw[z]
  refine PySem.W.kat_yes (PySem.W.kat_cons (wpAny_eqBool_int ?_))
  by_cases e2:b=d
  ·subst e2
   have z:(b==b)=true:=by simp
   rw[z]
   refine PySem.W.kat_yes (PySem.W.kat_nil ?_)
   have q:decide (a * 1000000+b < a * 1000000+b)=false:=by simp
   rw[q] at h
   exact h
  ·have z:(b==d)=false:=by simpa using e2
   rw[z]
   refine PySem.W.kat_no ?_
   show wpAny (model prog w) A (oneLt' false (.int b tb) (.int d td)) Q _ s
   refine PySem.W.kat_one _ _ ?_
   have q:decide (a * 1000000+b < a * 1000000+d)=decide (b < d):=decide_eq_decide.mpr ⟨fun z=>by lia,fun z=>by lia⟩
   rw[q] at h
   exact lt_int h
 ·have z:(a==c)=false:=by simpa using e1
  rw[z]
  refine PySem.W.kat_no ?_
  show wpAny (model prog w) A (oneLt' true (.int a ta) (.int c tc)) Q _ s
  refine oneLt_int ?_
  have q:decide (a * 1000000+b < c * 1000000+d)=decide (a < c):=decide_eq_decide.mpr ⟨fun z=>by lia,fun z=>by lia⟩
  rw[q] at h
  exact h
end
section
open PySem.W (kla_fn kla_obj CodeHd tabObj)
theorem C9 {CX:BB} {P:Program} {w:World} {K:Frag} {mg:Str→Option Value} {base:Heap} {f c:Addr} {name qual:Str} {params:Arguments} {body:Expr} {scope:Scope} {pm ctv:Value} {oc:Obj} {fs:Array Value} {tq:Tok} {N ps:List Str} {k:Nat}
  {A:Around} {outer:List Env} {s:Shared} {H:Hp} {args:Args} {us:List Value} {vs:List V} {Q:VK} {E:XK} {tE:TE}
  (S:aX N ps scope) (hr:eN (k+1) A) (e0:yf P w K mg base A outer s H) (hf:s.heap.get? f=some (kla_obj name qual params body scope [] pm c ctv))
  (hc:s.heap.get? c=some oc) (hoc:oc.data= .fields fs) (hfs:fs[1]?=some (.str qual tq))
  (hb:BindsTo s (kla_fn name qual params body scope [] pm (.ref c) ctv) args (ps.zip us)) (hl:vs.length=ps.length) (r:Vals vs us)
  (iR:PE (jr CX P w K mg base N qual scope f (.ref c) A outer s H E) body tE) (hq:tE (start N vs) H Q):
  codeAny (model P w) A (.call (.ref f) args) (CR CX outer P w H s Q E) s:=by
 have lim:s.heap.NoLimit:=e0.mod.nolimit.keeps fun b o e=>(e0.bs b o e).1
 have hkind: ∀ y∈ps.zip us,scope.names.lookup y.1=some .local∨(scope.names.lookup y.1=some .cell∧((cellsFrom (s.heap.objs.size+1) scope.names []).lookup y.1).isSome=true):=fun cy hy=>by
  obtain⟨n,v⟩:=cy
  rcases S.par n (List.of_mem_zip hy).1 with q|q
  ·exact .inl q
  ·exact .inr ⟨q,PySem.W.cellsFrom_some _ _ _ (.inl q)⟩
 refine PySem.W.kla_callFunE hr.depth hf rfl S.co S.gen rfl ⟨c,oc,fs,tq,rfl,hc,hoc,hfs⟩ (hb _ _ _ _ ?_)
 refine wpAny_newFunctionEnv_cells S.kind hkind fun env he s1 x=>?_
 subst he
 refine⟨lim.keeps x.toInCall.keep,PySem.W.kla_codeExpr ?_⟩
 have I:Inv (jr CX P w K mg base N qual scope f (.ref c) A outer s H E) [] (start N vs) H s1:=pE S hr.hd e0 hl r x
 refine wpAny_mono (iR [] s1 (start N vs) H _ I hq) (fun u s' hs=>?_) fun e s' hs=>hs
 obtain⟨v,H',J,rv,q⟩:=hs
 exact⟨v,H',J.os,J.bare,J.base,J.bS,rv,q⟩
theorem Au (S:aX N ps scope) (hr:eN (k+1) A) (hA:A.frames=X.A.frames) (I:Inv X pZ σ H s) (hf:s.heap.get? f=some (kla_obj name qual params body scope [] pm c ctv))
  (hc:s.heap.get? c=some oc) (hoc:oc.data= .fields fs) (hfs:fs[1]?=some (.str qual tq))
  (hb:BindsTo s (kla_fn name qual params body scope [] pm (.ref c) ctv) ⟨us,[]⟩ (ps.zip us)) (hl:vs.length=ps.length) (r:Vals vs us)
  (iR:PE (jr ed X.prog X.w X.K X.mg X.base N qual scope f (.ref c) A X.stack s H E0).tZ body tE) (hq:tE (start N vs) H Q):
  wpAny (model X.prog X.w) A (call (.ref f) us) (EP X pZ σ Q) (fun _ _=>False) s:=by
 have e0:yf X.prog X.w X.K X.mg X.base A X.stack s H:=⟨hA.trans I.qV.frames,I.qV.mod,I.qV.bs,I.qV.BK,I.qV.kZ,I.qV.D8,I.qV.bS,I.qV.bare⟩
 refine wpAny_call (codeAny_mono (C9 S hr e0 hf hc hoc hfs hb hl r iR.tZ hq) fun r s' h=>?_)
 cases r with
 |error e=>exact h
 |ok fl=>
  cases fl with
  |ret u=>exact I.after h
  |next=>exact False.elim h
  |brk=>exact False.elim h
  |cont=>exact False.elim h
end
section
open PySem.W (kas_sort kas_ask KatTups)
theorem Inv.HJ (I:Inv X pZ σ H s) (fp:d6 X pZ H D) (k: ∀ b u,b≠D→s.heap.get? b=some u→h'.get? b=some u) (new:dn X.prog X.w (upd H D o) h' D o):
  Inv X pZ σ (upd H D o) {s with heap:=h',toks:=t'}:=by
 obtain⟨hn,hL,hF,h1,h2,h3⟩:=fp
 have nD: ∀ b u,H b=some u→b≠D:=fun b u e z=>by rw[z,hn] at e;cases e
 refine I.step (g':=s.gens) (d':=s.drawn) (ch:=[D]) (fun b hb=>?_) (fun b u _ _ hc e _=>k b u (fun z=>hc (by simp[z])) e) (fun b u _ _ hc e _=>⟨u.slots,k b u (fun z=>hc (by simp[z])) e⟩) (fun b u hc _ n=>by rw[aq (fun z=>hc (by simp[z]))];exact n)
  (fun b u hc e=>⟨u,k b u (fun z=>hc (by simp[z])) e⟩) (fun b xs e=>by rw[aq (nD b _ e)];exact e) (fun b ob u e=>by rw[aq (nD b _ e)];exact e) (fun b ps e=>⟨#[],by rw[aq (nD b _ e),e];simp⟩) (fun m hm=>?_) (fun b u e=>?_) I.bare
 ·have e:b=D:=by simpa using hb
  subst e
  exact⟨h1,hL,h2,h3⟩
 ·obtain⟨ob,es,ep,ho,r⟩:=hm
  exact⟨ob,es,ep,k _ ob (Ne.symm hL) ho,r⟩
 ·by_cases z:b=D
  ·subst z
   rw[ay] at e
   cases e
   exact new
  ·rw[aq z] at e
   refine(I.bS b u e).mz (fun c v hc q=>k c v ?_ q) (fun c q=>?_) fun c xs q=>?_
   ·rcases hc with y|y
    ·rw[y];exact z
    ·exact nD c _ y
   ·rw[aq (nD c _ q)];exact q
   ·rw[aq (nD c _ q)];exact q
def rk (kf:Nat→Int×Int) (i:Nat):Int:=(kf i).1 * 1000000+(kf i).2
theorem ku: ∀ {Ts:List Addr} {us:List Value},Vals (Ts.map V.ref) us→us=Ts.map Value.ref
 |[],us,h=>by cases h;rfl
 |T::Ts,us,h=>by
  cases h with
  |cons r t=>cases r;rw[ku t];rfl
theorem i9 (hk:iY P w H h) (e:H T=some (.tup [.int a,.int b])): ∃ o n ta tb,h.get? T=some o∧o.cls= .type "tuple"∧o.data= .seq #[.int a ta,.int b tb] n:=by
 obtain⟨_,aC,rv,o,ho,hc,n,hd⟩:=hk T _ e
 cases rv with
 |cons r1 t=>
  cases t with
  |cons r2 t=>
   cases t
   obtain⟨ta,rfl⟩:=r1
   obtain⟨tb,rfl⟩:=r2
   exact⟨o,n,ta,tb,ho,hc,hd⟩
theorem p7: ∀ (Ts:List Addr),(∀ T∈Ts,∃ o n a b ta tb,h.get? T=some o∧o.cls= .type "tuple"∧o.data= .seq #[.int a ta,.int b tb] n)→∃ fs,KatTups h (Ts.map Value.ref) fs∧fs.length=Ts.length∧∀ v∈fs,∃ i t,v=Value.int i t
 |[],_=>⟨[],PySem.W.KatTups.nil,rfl,fun v hv=>nomatch hv⟩
 |T::Ts,k=>by
  obtain⟨o,n,a,b,ta,tb,h1,h2,h3⟩:=k T Kw
  obtain⟨fs,g1,g2,g3⟩:=p7 Ts fun T' h'=>k T' (Kz _ h')
  refine⟨.int a ta::fs,PySem.W.KatTups.cons h1 h2 h3 rfl g1,by simp[g2],fun v hv=>?_⟩
  rcases KJ.mp hv with rfl|hv
  ·exact⟨a,ta,rfl⟩
  ·exact g3 v hv
section
variable {X:Cx} {A:Around} {E:Value→Shared→Prop} {pZ:List (Addr×Obj)} {σ:St} {H:Hp} {s:Shared} {f D:Addr} {aC:List Value} {xs:List V} {kf:Nat→Int×Int} {P:PySem.Fin→Shared→Prop}
theorem oZ {kS:Addr} {Ts:List Addr} {e1:Nat} {st:SortSt} {p:Array Nat} {H1:Hp} (I:Inv X ((D,seqObj "list" #[] e1)::pZ) σ H1 s) (fp:d6 X pZ H1 D) (hk:H1 kS=some (.lst (Ts.map V.ref))) (rv:Vals xs aC) (h64:xs.length < 64) (hTs:Ts.length=xs.length)
  (hz:p.size=xs.length) (har:(arrOf st).map (·.2)=List.toArray (p.toList.map fun i=>aC.getD i Value.none)) (hin: ∀ i∈p.toList,i < xs.length) (hf:failedOf st=none)
  (h: ∀ s',Inv X pZ σ (upd (upd H1 kS (.lst [])) D (.lst (p.toList.map fun i=>xs.getD i .aU))) s'→P (.done (.ret .none)) s'):
  wpAny (model X.prog X.w) A (ksk_tail D false e1 (.ref kS) st) P E s:=by
 obtain⟨_,bQ,n',r1,r2,ho⟩:=I.oG hk
 have hl:=rv.length
 unfold ksk_tail
 try dsimp only
 rw[har]
 refine Kv (listUpdate_at ho rfl ?_ (by rw[KC,Lh];simp at r2;lia) (K6 _))
 have I1:=I.Ak (t':=s.toks) (f:=fun _=>(#[]:Array Value)) (bQ:=[]) (ys:=[]) hk ho rfl .nil (K6 _)
 have hD:=(I1.pin _ (KW _ Kw)).1
 refine Kv (wpAny_letGo ?_)
 refine Kv (seqEpoch_at hD rfl ?_)
 refine Kv (listUpdate_at hD rfl ?_ (K6 _) (by simp only[Lk,if_false,KC,Kx,Le];rw[hz,Lh];lia))
 rw[hf]
 simp only[bne_self_eq_false,Lk,if_false]
 have neD:kS≠D:=fun z=>by rw[z,fp.1] at hk;cases hk
 have fp1:d6 X pZ (upd H1 kS (.lst [])) D:=⟨by rw[aq (Ne.symm neD)];exact fp.1,fp.2⟩
 have I2:Inv X pZ σ (upd H1 kS (.lst [])) {s with heap:=s.heap.update kS (Obj.mapSeq fun _=>(#[]:Array Value))}:=I1.i8 fun q hq=>I1.pin q (KW _ (Kz _ hq))
 refine KA (h _ (I2.HJ (t':=s.toks) fp1 (fun b u hb e=>(Heap.get?_update_other _ _ (Ne.symm hb)).trans e) ?_))
 have g:=get?_update_seq hD fun _=>List.toArray (p.toList.map fun i=>aC.getD i Value.none)
 refine⟨by rw[Kx,Le,hz,Lh];lia,p.toList.map fun i=>aC.getD i Value.none,_,?_,g⟩
 have go: ∀ l:List Nat,(∀ i∈l,i < xs.length)→Vals (l.map fun i=>xs.getD i V.aU) (l.map fun i=>aC.getD i Value.none):=fun l=>by
  induction l with
  |nil=>intro _;exact .nil
  |cons i l ih=>
   intro hl'
   refine .cons ?_ (ih fun j hj=>hl' j (Kz _ hj))
   have hi:=hl' i Kw
   obtain⟨u,hu,ru⟩:=rv.get (Ku hi)
   show RelV (xs.getD i V.aU) (aC.getD i Value.none)
   rw[KU,KU,hu,Ku hi]
   exact ru
 exact go _ hin
theorem uq (I:Inv X pZ σ H s) (fp:d6 X pZ H D) (ho:s.heap.get? D=some (seqObj "list" aC.toArray n0)) (rv:Vals xs aC) (h64:xs.length < 64)
  (oM: ∀ (lB:List (Addr×Obj)) (H1:Hp) (s1:Shared) (i:Nat) (u:Value),aC[i]?=some u→hM H H1→Inv X lB σ H1 s1→wpAny (model X.prog X.w) A (call (.ref f) [u]) (EP X lB σ fun v H2=> ∃ T,v= .ref T∧H1 T=none∧H2=upd H1 T (.tup [.int (kf i).1,.int (kf i).2])) (fun _ _=>False) s1)
  (hb: ∀ i,i < xs.length→0≤(kf i).2∧(kf i).2 < 1000000) (dO: ∀ i j,i < xs.length→j < xs.length→i≠j→rk kf i≠rk kf j)
  (h: ∀ (H':Hp) (p:Array Nat) (s':Shared),Inv X pZ σ H' s'→H' D=some (.lst (p.toList.map fun i=>xs.getD i .aU))→hM H H'→p.size=xs.length→p.Perm (List.toArray (List.range xs.length))→t8 (rk kf) p xs.length→P (.done (.ret .none)) s'):
  wpAny (model X.prog X.w) A (Builtin.«list.sort» ⟨[.ref D],[(Str.ofString "key",.ref f)]⟩) P E s:=by
 have hl:=rv.length
 have hzL:aC.length≤sizeLine:=by rw[Lh];lia
 rw[ksk_t1]
 unfold ksk_tree
 refine Kv (listItems_at ho rfl ?_)
 refine Kv (listUpdate_at ho rfl ?_ (by rw[KC];exact hzL) (K6 _))
 obtain⟨e1,ho1⟩: ∃ e1,(s.heap.update D (Obj.mapSeq fun _=>(#[]:Array Value))).get? D=some (seqObj "list" #[] e1):=⟨_,get?_update_seq ho fun _=> #[]⟩
 refine Kv (seqEpoch_at ho1 rfl ?_)
 refine Kv (wpAny_newTuple ?_ hzL)
 refine Kv (wpAny_newList ?_ (K6 _))
 refine wpAny_holding ?_
 have I1:Inv X pZ σ H {s with heap:=s.heap.update D (Obj.mapSeq fun _=>(#[]:Array Value))}:=I.turned (t':=s.toks) (fun b u hb' e=>(Heap.get?_update_other _ _ (Ne.symm hb')).trans e) fp.1 fp.2.1 fp.2.2.2.1 fp.2.2.2.2.1 fp.2.2.2.2.2
 have I2:Inv X ((D,seqObj "list" #[] e1)::pZ) σ H {s with heap:=s.heap.update D (Obj.mapSeq fun _=>(#[]:Array Value))}:=I1.i8 fun q hq=>by
  rcases KJ.mp hq with rfl|hq
  ·exact⟨ho1,fp.1,fp.2.1,fp.2.2.1,fun v z=>by cases z⟩
  ·exact I1.pin q (KW _ hq)
 have I3:Inv X ((D,seqObj "list" #[] e1)::pZ) σ H {s with heap:=(s.heap.update D (Obj.mapSeq fun _=>(#[]:Array Value))).push (seqObj "tuple" aC.toArray 0)}:=I2.kept (t':=s.toks) fun b u e=>Ky _ e
 have hkn:H ((s.heap.update D (Obj.mapSeq fun _=>(#[]:Array Value))).push (seqObj "tuple" aC.toArray 0)).objs.size=none:=I3.fresh
 have I4:=I3.C4 (t':=s.toks) (ys:=[]) (aC:=[]) .nil (K6 _)
 generalize hks:((s.heap.update D (Obj.mapSeq fun _=>(#[]:Array Value))).push (seqObj "tuple" aC.toArray 0)).objs.size=kS at *
 have hDk: ∀ (H1:Hp),H1 D=none→H1 kS≠none→kS≠D:=fun H1 a b z=>b (z▸a)
 unfold ksk_rest
 refine Kv (wpAny_rule ?_)
 rw[List.forIn_toArray]
 refine Kv (ksk_fold (fun i s'=> ∃ (Hi:Hp) (Ts:List Addr),Inv X ((D,seqObj "list" #[] e1)::pZ) σ Hi s'∧Hi kS=some (.lst (Ts.map V.ref))∧Ts.length=i∧(∀ j T,Ts[j]?=some T→Hi T=some (.tup [.int (kf j).1,.int (kf j).2]))∧hM H Hi) aC 0 _ ?_ (fun j x s' hx hJ=>?_) fun s' hJ=>?_)
 ·refine⟨_,[],I4,ay,rfl,fun j T e=>by simp at e,fun b o e=>?_⟩
  rw[aq (ba e hkn)]
  exact e
 ·obtain⟨Hi,Ts,J,hk,hT,tt,sm⟩:=hJ
  rw[Nat.zero_add] at hT
  refine Kv (wpAny_attempt (wpAny_mono (oM _ Hi s' j x hx sm J) (fun k s'' hk'=>?_) fun _ _ hF=>hF.elim))
  obtain⟨v,H2,J2,rk',T,rfl,hTn,rfl⟩:=hk'
  cases rk'
  have nT:kS≠T:=ba hk hTn
  have hk2:upd Hi T (.tup [.int (kf j).1,.int (kf j).2]) kS=some (.lst (Ts.map V.ref)):=by rw[aq nT];exact hk
  obtain⟨_,bQ,n',r1,r2,hob⟩:=J2.oG hk2
  have hjl:j < aC.length:=(KD.mp hx).1
  have hs':bQ.length=j:=by rw[←r2,Kx,hT]
  try dsimp only
  refine Kv (listUpdate_at hob rfl ?_ (by rw[KC,Lh];lia) (KZ (Nat.le_of_eq (Array.size_push ..)) (by rw[KC,Lh];lia)))
  have J3:=J2.Ak (t':=s''.toks) (f:=(·.push (Value.ref T))) (bQ:=bQ++[.ref T]) (ys:=Ts.map V.ref++[.ref T]) hk2 hob (by simp) (r1.append (show Vals [V.ref T] [Value.ref T] from .cons rfl .nil)) (by rw[K4,Kx,List.length_singleton,Lh];lia)
  refine KA ⟨rfl,_,Ts++[T],J3,by rw[ay];simp,by simp[hT],fun i T' e=>?_,fun b o e=>?_⟩
  ·by_cases c:i < Ts.length
   ·rw[Li c] at e
    have g:=tt i T' e
    have n1:T'≠kS:=fun z=>by rw[z,hk] at g;cases g
    rw[aq n1,aq (ba g hTn)]
    exact g
   ·rw[List.getElem?_append_right (by lia)] at e
    have hi:i=Ts.length:=by
     by_cases z:i - Ts.length=0
     ·lia
     ·rw[List.getElem?_eq_none (by simp;lia)] at e;cases e
    subst hi
    simp at e
    subst e
    rw[aq (Ne.symm nT),ay,hT]
  ·have g:=sm b o e
   have n1:b≠kS:=ba e hkn
   rw[aq n1,aq (ba g hTn)]
   exact g
 ·obtain⟨Hi,Ts,J,hk,hT,tt,sm⟩:=hJ
  rw[Nat.zero_add] at hT
  have hTx:Ts.length=xs.length:=by lia
  obtain⟨_,bQ,n',r1,r2,hob⟩:=J.oG hk
  have hks':=ku r1
  subst hks'
  have fpD:d6 X pZ Hi D:=⟨(J.pin _ (KW _ Kw)).2.1,fp.2⟩
  have hkD:kS≠D:=fun z=>by rw[z,fpD.1] at hk;cases hk
  have fin: ∀ (p:Array Nat) (s'':Shared),p.size=xs.length→p.Perm (List.toArray (List.range xs.length))→t8 (rk kf) p xs.length→Inv X pZ σ (upd (upd Hi kS (.lst [])) D (.lst (p.toList.map fun i=>xs.getD i .aU))) s''→P (.done (.ret .none)) s'':=fun p s'' hz hp hu J'=>by
   refine h _ p s'' J' ay (fun b o e=>?_) hz hp hu
   rw[aq (ba e fp.1),aq (ba e hkn)]
   exact sm b o e
  have inP: ∀ p:Array Nat,p.Perm (List.toArray (List.range xs.length))→∀ i∈p.toList,i < xs.length:=fun p hp i hi=>by
   have:=(Array.perm_iff_toList_perm.mp hp).mem_iff.mp hi
   simpa using this
  have hkl:(Ts.map Value.ref).length=aC.length:=by simp[hT]
  try dsimp only
  refine Kv (listItems_at hob rfl ?_)
  unfold ksk_end
  try dsimp only
  simp only[Lk,if_false]
  by_cases h2:aC.toArray.size < 2
  ·rw[Lq h2,Lq h2]
   refine Kv (KA ?_)
   rw[StateT.run_pure]
   refine Kv (KA ?_)
   try dsimp only
   rw[KC] at h2
   have hz:(List.toArray (List.range xs.length)).size=xs.length:=by simp
   refine oZ (p:=List.toArray (List.range xs.length)) J fpD hk rv h64 hTx hz ?_ (inP _ (Array.Perm.refl _)) rfl fun s'' J'=>fin _ s'' hz (Array.Perm.refl _) (fun i j hij hj=>by lia) J'
   have hmap:=PySem.W.kat_snds (ks:=Ts.map Value.ref) (vs:=aC) hkl (st:=SortSt.mk' general' ((Ts.map Value.ref).toArray.zip aC.toArray) #[] 7 none) (p:=List.toArray (List.range xs.length)) (by
    have e:=PySem.W.kas_range ((Ts.map Value.ref).toArray.zip aC.toArray)
    rw[show ((Ts.map Value.ref).toArray.zip aC.toArray).size=xs.length by simp[hT];lia] at e
    exact e.symm)
   exact hmap
  ·rw[Lr h2,Lr h2]
   rw[KC] at h2
   obtain⟨fs,kt,hfl,hfi⟩:=p7 (h:=s'.heap) Ts fun T hT'=>by
    obtain⟨i,hi,e⟩:=List.getElem_of_mem hT'
    obtain⟨o,n,ta,tb,g1,g2,g3⟩:=i9 J.bS (tt i T (KD.mpr ⟨hi,e⟩))
    exact⟨o,n,_,_,ta,tb,g1,g2,g3⟩
   refine Kv (PySem.W.kat_kind (T:=Value.type "int") kt (by lia) (fun v hv=>?_) rfl ?_)
   ·obtain⟨i,t,rfl⟩:=hfi v hv
    exact PySem.W.Looks.now
   ·obtain⟨p,ep,hz,hp,hu⟩:=B8 (r:=rk kf) (n:=xs.length) (by lia) dO
    refine Kv (wpAny_mono (PySem.W.kat_run (vs:=aC) (ks:=Ts.map Value.ref) (Q:=fun st' s''=> ∃ p':Array Nat,arrOf st'=p'.map (PySem.W.kas_item ((Ts.map Value.ref).toArray.zip aC.toArray))∧failedOf st'=none∧p'=p∧s''=s') (G:=fun p' s''=>p'=p∧s''=s')
     hkl (by lia) (by lia) (fun p' st' s'' a1 a2 a3 a4=>⟨p',a2,a3,a4.1,a4.2⟩) ?_) ?_ fun _ _ e=>e)
    ·rw[show aC.length=xs.length from hl.symm]
     refine wp_run (N:=xs.length) (V:=Bd xs.length) (r:=rk kf) (fun i j C hi hj hC=>?_) _ (vx (by lia)) ⟨ep,rfl⟩
     have hi':i < Ts.length:=by lia
     have hj':j < Ts.length:=by lia
     obtain⟨oi,ni,ai,bi,g1,g2,g3⟩:=i9 J.bS (tt i _ (Ku hi'))
     obtain⟨oj,nj,aj,bj,k1,k2,k3⟩:=i9 J.bS (tt j _ (Ku hj'))
     unfold PySem.W.kas_ask
     rw[KU,KU,KY,KY,Ku hi',Ku hj']
     exact Ax g1 g3 k1 k3 (hb i hi) (hb j hj) hC
    ·rintro⟨⟨⟩,st'⟩ s'' ⟨p',har,hf,rfl,rfl⟩
     try dsimp only
     exact oZ J fpD hk rv h64 hTx hz (PySem.W.kat_snds hkl har) (inP _ hp) hf fun s3 J'=>fin _ s3 hz hp hu J'
end
end
section
open PySem.W (kla_fn kla_obj CodeHd tabObj)
theorem qf (I:Inv X pZ σ H s) (hT:T="list"∨T="tuple") (ho:s.heap.get? l=some o) (hc:o.cls= .type T) (hd:o.data= .seq aC.toArray n0) (rv:Vals xs aC) (h64:xs.length < 64)
  (oM: ∀ (lB:List (Addr×Obj)) (H1:Hp) (s1:Shared) (i:Nat) (u:Value),aC[i]?=some u→hM H H1→Inv X lB σ H1 s1→wpAny (model X.prog X.w) X.A.in1.in1 (call (.ref f) [u]) (EP X lB σ fun v H2=> ∃ T,v= .ref T∧H1 T=none∧H2=upd H1 T (.tup [.int (kf i).1,.int (kf i).2])) (fun _ _=>False) s1)
  (hb: ∀ i,i < xs.length→0≤(kf i).2∧(kf i).2 < 1000000) (dO: ∀ i j,i < xs.length→j < xs.length→i≠j→rk kf i≠rk kf j)
  (hq: ∀ (D:Addr) (H':Hp) (p:Array Nat),H D=none→H' D=some (.lst (p.toList.map fun i=>xs.getD i .aU))→hM H H'→p.size=xs.length→p.Perm (List.toArray (List.range xs.length))→t8 (rk kf) p xs.length→Q (.ref D) H'):
  wpAny (model X.prog X.w) X.A (call (.builtin "sorted") [.ref l] [(Str.ofString "key",.ref f)]) (EP X pZ σ Q) X.xe s:=by
 have hl:=rv.length
 refine call_function_entry_kw kind_sorted plain_sorted entry_sorted (ksk_s1 _ _) ?_
 unfold Builtin.«sorted»
 refine Kv (m:=checkCount "sorted" 1 1 _) (KA ?_)
 refine Kv (wpAny_collect_seq l hT ho hc hd (fun h1 kp=>?_) (by rw[KC,Lh];lia))
 have I1:Inv X pZ σ H {s with heap:=h1}:=I.kept (t':=s.toks) kp
 have fr:H h1.objs.size=none:=I1.fresh
 have fp:d6 X pZ H h1.objs.size:=I1.oN (KG _) fr
 refine Kv (wpAny_newList ?_ (by show aC.length≤_;rw[Lh];lia))
 have I2:Inv X pZ σ H {s with heap:=h1.push (seqObj "list" aC.toArray 0)}:=I1.kept (t':=s.toks) fun b u e=>Ky _ e
 have hoL:(h1.push (seqObj "list" aC.toArray 0)).get? h1.objs.size=some (seqObj "list" aC.toArray 0):=KP _ rfl
 refine Kv (wpAny_holding (wpAny_call_entry_kw slot_list_sort ⟨_,hoL,rfl⟩ entry_list_sort ?body (ksk_l1 _ _)))
 case body=>
  show wpAny (model X.prog X.w) X.A.in1.in1 (Builtin.«list.sort» ⟨[.ref h1.objs.size],[(Str.ofString "key",.ref f)]⟩) _ _ {s with heap:=h1.push (seqObj "list" aC.toArray 0)}
  refine uq I2 fp hoL rv h64 oM hb dO fun H' p s' J e1 sm hz hp hu=>⟨_,rfl,KA ⟨_,rfl,.ref h1.objs.size,H',J,rfl,hq _ H' p fr e1 sm hz hp hu⟩⟩
theorem vg (l:List Value) (h:TriplesOk l) (hn:codeAmong pos (l++[rawInt a,rawInt b,c])=some cv):codeAmong pos l=some cv∨cv=c:=by
 fun_induction TriplesOk l with
 |case1=>
  simp[codeAmong,rawInt] at hn
  exact .inr hn.2.symm
 |case2 a' t b' u x rest ih=>
  simp only[List.cons_append,codeAmong] at hn ⊢
  split at hn
  ·rename_i hc
   rw[Lq hc]
   exact .inl hn
  ·rename_i hc
   rw[Lr hc]
   exact ih h hn
 |case3 l h1 h2=>exact h.elim
theorem As (I:Inv X pZ σ H s) (hB:DE X.base X.mg) (hcode:X.env.code= .ref c) (hC:CodeHd X.base c P) (tab:TabAt H (P,X.env.qual++"<lambda>")) (hcl:closureFor scope X.env=pure []) (hdef:defaultsOf params X.env=([],[]))
  (h: ∀ (f c':Addr) (oc:Obj) (fs:Array Value) (tq:Tok) (pm ctv:Value) (H':Hp) (s':Shared),Inv X pZ σ H' s'→H f=none→H' f=some (.f7 (kla_obj "<lambda>" (X.env.qual++"<lambda>") params body scope [] pm c' ctv) (.own f))→H' c'=some (.f7 oc (.own c'))→oc.data= .fields fs→fs[1]?=some (.str (X.env.qual++"<lambda>") tq)→
   TabAt H' (P,X.env.qual++"<lambda>")→(∀ b o,b≠P→H b=some o→H' b=some o)→Q (.ref f) s'):
  wpAny (model X.prog X.w) X.A (eval (.Lambda params body scope pos) X.env) Q E s:=by
 obtain⟨ps,hP,ht,hrow⟩:=tab
 have gP:s.heap.get? P=some (tabObj ps):=I.bS P _ hP
 obtain⟨bm,ob,b1,b2,b3,b4,b5,b6⟩:=hB
 have hg:s.heap.Ns mainGlobals X.mg:=I.mod.glob.keeps I.bk
 have hgP:mainGlobals≠P:=fun q=>by
  obtain⟨o,es,ep,e,hd,_⟩:=hg
  rw[q,gP] at e;cases e;cases hd
 have hbP:bm≠P:=fun q=>by
  have e:=I.bk _ _ b3
  rw[q,gP] at e;cases e;cases b4
 have hbG:bm≠mainGlobals:=fun q=>by
  obtain⟨o,es,ep,e,hd,_⟩:=I.mod.glob
  rw[q,e] at b3;cases b3;rw[hd] at b6;cases b6
 have hBA:s.heap.BuiltinsAt X.mg P:=⟨bm,ob,b1,b2,hbG,hbP,I.bk _ _ b3,b4,b5,b6⟩
 refine PySem.W.kla_eval hdef ?_
 cases hf:codeAmong pos ps.toList with
 |none=>
  refine PySem.W.kla_makeFunction (mg:=X.mg) hcl I.ok.glob hg hcode (hC.keeps I.bk) gP ht hf hgP hBA fun c' ctv h' tk hx hge hV hrec htb=>?_
  obtain⟨c2,oc,fs,tq,e2,hoc,hfd,hfs⟩:=hrec
  cases e2
  generalize hko:kla_obj "<lambda>" (X.env.qual++"<lambda>") params body scope [] ((X.mg "__name__").getD .none) c' ctv=ko
  have hkf:ko.isFreed=false:=by rw[←hko];rfl
  have hcn:H c'=none:=I.bS.fresh hge
  have hfn:H h'.objs.size=none:=I.bS.fresh (KZ hge (Nat.le_of_lt hV))
  have ncP:c'≠P:=fun z=>by rw[z,hP] at hcn;cases hcn
  have nfP:h'.objs.size≠P:=fun z=>by rw[z,hP] at hfn;cases hfn
  have nfc:h'.objs.size≠c':=Nat.ne_of_gt hV
  let H':Hp:=upd (upd (upd H P (.lP (ps++ #[rawInt pos.line,rawInt pos.col,.ref c']))) c' (.f7 oc (.own c'))) h'.objs.size (.f7 ko (.own h'.objs.size))
  have at_f:H' h'.objs.size=some (.f7 ko (.own h'.objs.size)):=ay
  have at_c:H' c'=some (.f7 oc (.own c')):=by
   show upd _ _ _ c'=_
   rw[aq (Ne.symm nfc),ay]
  have at_P:H' P=some (.lP (ps++ #[rawInt pos.line,rawInt pos.col,.ref c'])):=by
   show upd _ _ _ P=_
   rw[aq (Ne.symm nfP),aq (Ne.symm ncP),ay]
  have at_o: ∀ b,b≠h'.objs.size→b≠c'→b≠P→H' b=H b:=fun b n1 n2 n3=>by
   show upd _ _ _ b=_
   rw[aq n1,aq n2,aq n3]
  have gW: ∀ b o,b≠P→H b=some o→H' b=some o:=fun b o nb e=>by
   rw[at_o b (ba e hfn) (ba e hcn) nb]
   exact e
  have kp: ∀ b o,b≠P→s.heap.get? b=some o→(h'.push ko).get? b=some o:=fun b o nb e=>Ky _ (hx b o nb e)
  have tbP:(h'.push ko).get? P=some (tabObj (ps++ #[rawInt pos.line,rawInt pos.col,.ref c'])):=Ky _ htb
  have un:Un X.fs [] H H' s.heap (h'.push ko):=by
   have nP: ∀ b,H b=none→b≠P:=fun b n z=>by rw[z,hP] at n;cases n
   refine⟨fun b o e n _ _=>kp b o (nP b n) e,fun b o e n _ _=>⟨o.slots,kp b o (nP b n) e⟩,fun b o e n _=>?_,fun b o e _=>?_,fun b xs e=>gW b _ (fun z=>by rw[z,hP] at e;cases e) e,fun b ob u e=>gW b _ (fun z=>by rw[z,hP] at e;cases e) e,fun b qs e=>?_⟩
   ·have lt:=KS e
    rw[at_o b (K8 (K1 lt (KZ hge (Nat.le_of_lt hV)))) (K8 (K1 lt hge)) (nP b n)]
    exact n
   ·by_cases z:b=P
    ·exact⟨_,z▸tbP⟩
    ·exact⟨o,kp b o z e⟩
   ·by_cases z:b=P
    ·subst z
     rw[hP] at e
     cases e
     exact⟨_,at_P⟩
    ·exact⟨#[],by rw[gW b _ z e];simp⟩
  have bS:iY X.prog X.w H' (h'.push ko):=fun b u e=>by
   by_cases n1:b=h'.objs.size
   ·subst n1
    rw[at_f] at e
    cases e
    exact⟨KP _ hkf,_,KP _ hkf⟩
   ·by_cases n2:b=c'
    ·subst n2
     rw[at_c] at e
     cases e
     exact⟨Ky _ hoc,_,Ky _ hoc⟩
    ·by_cases n3:b=P
     ·subst n3
      rw[at_P] at e
      cases e
      exact tbP
     ·rw[at_o b n1 n2 n3] at e
      refine(I.bS b u e).mz (fun d v hd q=>kp d v ?_ q) (fun d q=>gW d _ (fun z=>by rw[z,hP] at q;cases q) q) fun d xs q=>gW d _ (fun z=>by rw[z,hP] at q;cases q) q
      rcases hd with z|z
      ·rw[z];exact n3
      ·exact fun y=>by rw[y,hP] at z;cases z
  subst hko
  refine h h'.objs.size c' oc fs tq _ ctv H' _ (I.un (t':=tk) un bS) hfn at_f at_c hfd hfs ⟨_,at_P,?_,fun pos' cv e=>?_⟩ gW
  ·rw[Array.toList_append]
   exact TriplesOk_snoc _ _ _ _ ht
  ·rw[Array.toList_append] at e
   rcases vg _ ht e with e|rfl
   ·obtain⟨c3,o3,f3,t3,rfl,g1,g2,g3⟩:=hrow pos' cv e
    exact⟨c3,o3,f3,t3,rfl,gW _ _ (fun z=>by rw[z,hP] at g1;cases g1) g1,g2,g3⟩
   ·exact⟨c',oc,fs,tq,rfl,at_c,hfd,hfs⟩
 |some cv=>
  obtain⟨c',oc,fs,tq,rfl,g1,hfd,hfs⟩:=hrow pos cv hf
  refine PySem.W.kla_makeFunctionHit (mg:=X.mg) hcl I.ok.glob hg hcode (hC.keeps I.bk) gP ht hf hBA fun ctv h' tk hk hsz=>?_
  have hfn:H h'.objs.size=none:=I.bS.fresh hsz
  have nf: ∀ b u,H b=some u→b≠h'.objs.size:=fun b u e=>ba e hfn
  have J:=I.laid (t':=tk) (h':=h'.push (kla_obj "<lambda>" (X.env.qual++"<lambda>") params body scope [] ((X.mg "__name__").getD .none) c' ctv)) (a:=h'.objs.size) (o:=.f7 (kla_obj "<lambda>" (X.env.qual++"<lambda>") params body scope [] ((X.mg "__name__").getD .none) c' ctv) (.own h'.objs.size))
   (fun b u e=>Ky _ (hk b u e)) hsz ⟨KP _ rfl,_,KP _ rfl⟩
  refine h h'.objs.size c' oc fs tq _ ctv _ _ J hfn ay (by rw[aq (nf _ _ g1)];exact g1) hfd hfs ⟨ps,by rw[aq (nf _ _ hP)];exact hP,ht,fun pos' cv e=>?_⟩ fun b o _ e=>by rw[aq (nf _ _ e)];exact e
  obtain⟨c3,o3,f3,t3,rfl,k1,k2,k3⟩:=hrow pos' cv e
  exact⟨c3,o3,f3,t3,rfl,by rw[aq (nf _ _ k1)];exact k1,k2,k3⟩
end
section
open PySem.W (kla_fn kla_obj CodeHd tabObj)
def Ed (e:Addr×Str) (N:List Str) (tE:TE) (Q:VK) (x:V) (H1:Hp):Prop:= ∃ (l:Addr) (xs:List V) (kf:Nat→Int×Int),x= .ref l∧(H1 l=some (.lst xs)∨H1 l=some (.tup xs))∧xs.length < 64∧TabAt H1 e∧
 (∀ i x,xs[i]?=some x→∀ H2,(∀ b o,b≠e.1→H1 b=some o→H2 b=some o)→tE (start N [x]) H2 fun v H3=> ∃ T,v= .ref T∧H2 T=none∧H3=upd H2 T (.tup [.int (kf i).1,.int (kf i).2]))∧
 (∀ i,i < xs.length→0≤(kf i).2∧(kf i).2 < 1000000)∧(∀ i j,i < xs.length→j < xs.length→i≠j→rk kf i≠rk kf j)∧
 ∀ (D:Addr) (H':Hp) (p:Array Nat),H1 D=none→H' D=some (.lst (p.toList.map fun i=>xs.getD i .aU))→(∀ b o,b≠e.1→H1 b=some o→H' b=some o)→TabAt H' e→p.size=xs.length→p.Perm (List.toArray (List.range xs.length))→t8 (rk kf) p xs.length→Q (.ref D) H'
def yK (e:Addr×Str) (N:List Str) (tE ta:TE):TE:=fun σ H Q=>ta σ H (Ed e N tE Q)
def Ga (e:Addr×Str) (N:List Str) (tE:TE) (Q:VK):List V→Hp→Prop
 |[x],H1=>Ed e N tE Q x H1
 |_,_=>False
theorem zN (hr:eN (k+3) X.A) (hB:DE X.base X.mg) (hcode:X.env.code= .ref c) (hC:CodeHd X.base c P) (hcl:closureFor scope X.env=pure []) (hdef:defaultsOf params X.env=([],[])) (S:aX N [y] scope)
  (hbind: ∀ (s:Shared) (pm:Value) (c:Addr) (ctv u:Value),BindsTo s (kla_fn "<lambda>" (X.env.qual++"<lambda>") params body scope [] pm (.ref c) ctv) ⟨[u],[]⟩ [(y,u)])
  (iR: ∀ (f c:Addr) (A:Around) (s:Shared) (H:Hp),PE (jr ed X.prog X.w X.K X.mg X.base N (X.env.qual++"<lambda>") scope f (.ref c) A X.stack s H E0).tZ body tE)
  (hg:Gl X "sorted") (hm:X.mg "sorted"=none) (ha:PE X e ta) (hs:starEach [e] X.env=(false,eval e X.env)::starEach [] X.env:=by rfl):
  PE X (.Call (.Name "sorted" p) [e] [⟨some (Str.ofString "key"),.Lambda params body scope lpos,kpos⟩] pos) (yK (P,X.env.qual++"<lambda>") N tE ta):=by
 intro pZ s σ H Q I h
 refine wpAny_Call_Name_kw (kU I hg hm boot_sorted ?_)
 have hpa:=fe ha gM hs
 refine callWith_kw (cn (hpa pos pZ s σ H (Ga (P,X.env.qual++"<lambda>") N tE Q) I h) fun us s1 hu=>?_) (by rw[hs];rfl) (by rw[hs];rfl)
 obtain⟨vs,H1,I1,r,q⟩:=hu
 match vs,r,q with
 |[x],r,q=>
 obtain⟨u,rfl,rx⟩:=vals1 r
 obtain⟨l,xs,kf,rfl,hl,h64,tab,hk,hb,dO,q⟩:=q
 cases rx
 refine kws_cons (As I1 hB hcode hC tab hcl hdef fun f c' oc fs tq pm ctv H' s' J hfn at_f at_c hfd hfs tab' gW=>kws_nil ?_)
 show wpAny (model X.prog X.w) X.A (call (.builtin "sorted") [.ref l] [(Str.ofString "key",.ref f)]) (EP X pZ σ Q) X.xe s'
 have nl:l≠P:=fun z=>by
  obtain⟨ps,hP,_⟩:=tab
  have hP:H1 P=some (.lP ps):=hP
  rw[z,hP] at hl
  rcases hl with z|z<;>cases z
 have src: ∃ T o n0 aC,(T="list"∨T="tuple")∧s'.heap.get? l=some o∧o.cls= .type T∧o.data= .seq (List.toArray aC) n0∧Vals xs aC:=by
  rcases hl with hl|hl
  ·obtain⟨_,aC,n,rv,ho⟩:=J.bS l _ (gW l _ nl hl)
   exact⟨"list",_,n,aC,.inl rfl,ho,rfl,rfl,rv⟩
  ·obtain⟨_,aC,rv,o,ho,hc,n,hd⟩:=J.bS l _ (gW l _ nl hl)
   exact⟨"tuple",o,n,aC,.inr rfl,ho,hc,hd,rv⟩
 obtain⟨T,o,n0,aC,hT,ho,hc,hd,rv⟩:=src
 refine qf J hT ho hc hd rv h64 (fun lB H2 s2 i u hu sm J2=>?_) hb dO fun D H3 p' hD e1 sm hz hp hu=>?_
 ·have hi:i < xs.length:=by rw[rv.length];exact(KD.mp hu).1
  obtain⟨u',hu',ru⟩:=rv.get (Ku hi)
  rw[hu] at hu'
  cases hu'
  exact Au S hr.in1.in1 rfl J2 (J2.bS f _ (sm _ _ at_f)).1 (J2.bS c' _ (sm _ _ at_c)).1 hfd hfs (hbind s2 pm c' ctv u) rfl (show Vals [xs[i]] [u] from .cons ru .nil) (iR f c' _ s2 H2)
   (hk i _ (Ku hi) H2 fun b o nb e=>sm b o (gW b o nb e))
 ·refine q D H3 p' ?_ e1 (fun b o nb e=>sm b o (gW b o nb e)) (tab'.keep (fun ps e=>sm _ _ e) fun b ob u e=>sm _ _ e) hz hp hu
  cases e:H1 D with
  |none=>rfl
  |some o=>
   by_cases z:D=P
   ·obtain⟨ps,hP,_⟩:=tab'
    have hP:H' P=some (.lP ps):=hP
    rw[z,hP] at hD
    cases hD
   ·rw[gW D o z e] at hD
    cases hD
def DI (K:Frag) (i j:Int):TE:=GI (iI (BZ (Cm K) (kz 0) (tC (.int i))) (iI (BZ (Cm K) (kz 0) (tC (.int j))) rL))
theorem yL {K:Frag} {i j a b:Int} {N:List Str} {H:Hp} {p:Addr} {ys:List V} (h:H p=some (.tup ys)) (hi:ji ys i=some (.int a)) (hj:ji ys j=some (.int b)):
  DI K i j (start N [.ref p]) H fun v H3=> ∃ T,v= .ref T∧H T=none∧H3=upd H T (.tup [.int a,.int b]):=by
 have e0:(start N [V.ref p])[0]?=some (some (.ref p)):=kE rfl
 exact⟨_,e0,p,ys,i,_,rfl,rfl,fu.of h,hi,_,e0,p,ys,j,_,rfl,rfl,fu.of h,hj,by show 2≤sizeLine;rw[Lh];lia,fun T hT=>⟨T,rfl,hT,rfl⟩⟩
def j6:PV→Option (Int×Int)
 | .tup l=>match (l[2]?:Option PV),(l[1]?:Option PV) with
  |some (PV.int m),some (PV.int n)=>some (m,n)
  |_,_=>none
 |_=>none
def ym (y:PV):Int×Int:=(j6 y).getD (0,0)
def jm (y:PV):Int:=(ym y).1 * 1000000+(ym y).2
theorem xH (h:j6 y=some k): ∃ l,y= .tup l∧l[2]?=some (.int k.1)∧l[1]?=some (.int k.2):=by
 cases y with
 |tup l=>
  simp only[j6] at h
  split at h
  ·rename_i m n e1 e2
   cases h
   exact⟨l,rfl,e1,e2⟩
  ·cases h
 |_=>cases h
def xO (y:PV):List PV→List PV
 |[]=>[y]
 |z::l=>if jm y < jm z then y::z::l else z::xO y l
def aN:List PV→List PV
 |[]=>[]
 |y::l=>xO y (aN l)
def Gq (y:PV):Bool:=match j6 y with
 |some k=>decide (0≤k.2)&&decide (k.2 < 1000000)
 |none=>false
def Ho (l:List PV):Bool:=decide (l.length < 64)&&l.all Gq&&decide (l.map jm).Nodup
theorem vP (h:Gq y=true): ∃ k,j6 y=some k∧0≤k.2∧k.2 < 1000000:=by
 unfold Gq at h
 cases e:j6 y with
 |none=>rw[e] at h;cases h
 |some k=>
  rw[e] at h
  simp only[Lf,decide_eq_true_eq] at h
  exact⟨k,rfl,h.1,h.2⟩
theorem kY (y:PV): ∀ l,(xO y l).Perm (y::l)
 |[]=>.refl _
 |z::l=>by
  unfold xO
  split
  ·exact .refl _
  ·exact((kY y l).cons z).trans (.swap _ _ _)
theorem dG: ∀ l,(aN l).Perm l
 |[]=>.refl _
 |y::l=>(kY y _).trans ((dG l).cons y)
abbrev Gy (a b:PV):Prop:=jm a < jm b
theorem v8 (y:PV): ∀ l,l.Pairwise Gy→(∀ z∈l,jm y≠jm z)→(xO y l).Pairwise Gy
 |[],_,_=>List.pairwise_singleton _ _
 |z::l,h,n=>by
  have h':=Lu.mp h
  unfold xO
  split
  ·rename_i c
   refine Lu.mpr ⟨fun x hx=>?_,h⟩
   rcases KJ.mp hx with rfl|hx
   ·exact c
   ·exact Int.lt_trans c (h'.1 x hx)
  ·rename_i c
   have nz:=n z Kw
   refine Lu.mpr ⟨fun x hx=>?_,v8 y l h'.2 fun x hx=>n x (Kz _ hx)⟩
   rcases KJ.mp ((kY y l).mem_iff.mp hx) with rfl|hx
   ·show jm z < jm x
    lia
   ·exact h'.1 x hx
theorem j8: ∀ l,(l.map jm).Nodup→(aN l).Pairwise Gy
 |[],_=>.nil
 |y::l,h=>by
  rw[KI,List.nodup_cons] at h
  refine v8 y _ (j8 l h.2) fun z hz e=>h.1 ?_
  rw[e]
  exact K9 ((dG l).mem_iff.mp hz)
theorem yA: ∀ (l m:List PV),l.Pairwise Gy→m.Pairwise Gy→l.Perm m→l=m
 |[],m,_,_,p=>(List.nil_perm.mp p).symm
 |a::l,[],_,_,p=>absurd p.length_eq (by simp)
 |a::l,b::m,h1,h2,p=>by
  have h1':=Lu.mp h1
  have h2':=Lu.mp h2
  have ea:a=b:=by
   rcases KJ.mp (p.mem_iff.mp Kw) with e|ha
   ·exact e
   rcases KJ.mp (p.mem_iff.mpr Kw) with e|hb
   ·exact e.symm
   have x1:jm a < jm b:=h1'.1 b hb
   have x2:jm b < jm a:=h2'.1 a ha
   lia
  subst ea
  rw[yA l m h1'.2 h2'.2 (List.perm_cons a |>.mp p)]
theorem v3 (nd:(l.map jm).Nodup) (p:m.Perm l) (u:m.Pairwise Gy):aN l=m:=yA _ _ (j8 l nd) u ((dG l).trans p.symm)
theorem zW (nd:(l.map jm).Nodup) (hk: ∀ i,i < l.length→kf i=ym (l.getD i .aU)) (hz:p.size=l.length) (hp:p.Perm (List.toArray (List.range l.length))) (hu:t8 (rk kf) p l.length):aN l=p.toList.map fun i=>l.getD i .aU:=by
 have ng:p.toList.Perm (List.range l.length):=Array.perm_iff_toList_perm.mp hp
 have hV: ∀ i∈p.toList,i < l.length:=fun i hi=>by
  have:=ng.mem_iff.mp hi
  simpa using this
 refine v3 nd ?_ ?_
 ·have e:(List.range l.length).map (fun i=>l.getD i .aU)=l:=by
   apply List.ext_getElem?
   intro i
   rw[KY]
   by_cases hi:i < l.length
   ·rw[List.getElem?_range hi,Ku hi]
    simp[hi]
   ·rw[List.getElem?_eq_none (by simpa using hi),List.getElem?_eq_none (by simpa using hi)]
    rfl
  rw[←e]
  have:=ng.map fun i=>l.getD i .aU
  rw[e] at this ⊢
  exact this
 ·rw[List.pairwise_map,List.pairwise_iff_getElem]
  intro i j hi hj hij
  have hj':j < l.length:=by rw[Le,hz] at hj;exact hj
  have x:=hu i j hij hj'
  unfold kg rk at x
  have gi:p.getD i 0=p.toList[i]:=by
   rw[K0,K5 (by rw[hz];lia)]
   rfl
  have gj:p.getD j 0=p.toList[j]:=by
   rw[K0,K5 (by rw[hz];lia)]
   rfl
  rw[gi,gj,hk _ (hV _ (Ll hi)),hk _ (hV _ (Ll hj))] at x
  exact x
end
section
variable {φ:eF}
def rV:PV→Option (List PV)
 | .lst l=>some l
 | .tup l=>some l
 |_=>none
def mE (y:PV):M (List PV):=match rV y with
 |some l=>if Ho l then .ret (aN l) else .fail
 |none=>.fail
theorem xa (w:(mE y).wp n R): ∃ l,rV y=some l∧l.length < 64∧(∀ z∈l,Gq z=true)∧(l.map jm).Nodup∧R (aN l) n:=by
 unfold mE at w
 cases e:rV y with
 |none=>rw[e] at w;exact w.elim
 |some l=>
  rw[e] at w
  dsimp only at w
  by_cases c:Ho l=true
  ·rw[Lq c] at w
   unfold Ho at c
   simp only[Lf,decide_eq_true_eq,List.all_eq_true] at c
   exact⟨l,rfl,c.1.1,c.1.2,c.2,w⟩
  ·rw[Lr c] at w;exact w.elim
theorem Ce (r:cQ G O H y x) (e:rV y=some l): ∃ p xs,x= .ref p∧(H p=some (.lst xs)∨H p=some (.tup xs))∧aR G.B O H l xs:=by
 cases y with
 |lst l'=>
  cases e
  obtain⟨p,xs,rfl,h,r⟩:=r.fR
  exact⟨p,xs,rfl,.inl h,r⟩
 |tup l'=>
  cases e
  obtain⟨p,xs,rfl,h,r⟩:=r.jt
  exact⟨p,xs,rfl,.inr h,r⟩
 |_=>cases e
theorem iu {α:Type} {l:List α} {k:Nat} {x:α} (h:l[k]?=some x):ji l (k:Int)=some x:=by
 have hk:k < l.length:=(KD.mp h).1
 unfold ji qM
 rw[Lq (by lia),Lq (by lia)]
 show l[((k:Nat):Int).toNat]?=_
 rw[Int.toNat_natCast]
 exact h
theorem A2 {X:Cx} {e:Expr} {tb:Addr×Str} {N:List Str} {me:ak→M PV} (hin:tb∈φ.tabs) (hun: ∀ q∈φ.tabs,q.1=tb.1→q=tb) (h:BE X e (yK tb N (DI X.K 2 1) (qc φ me))):EF φ X e (fun ρ=>(me ρ).bind mE):=BE.mono h fun σ H Q cy=>by
 obtain⟨G,O,ρ,n,R,s,w,q⟩:=cy
 rw[M.wZ] at w
 refine⟨G,O,ρ,n,_,s,w,fun y x H1 n1 e1 bP r1 w1=>?_⟩
 obtain⟨l,hl,h64,bS,nd,hR⟩:=xa w1
 obtain⟨p,xs,rfl,hp,rs⟩:=Ce r1 hl
 have s1:=s.ext e1 bP
 have tab:=G.tab H1 n1 bP tb hin
 have hlen:l.length=xs.length:=rs.1
 have pO:O tb.1:=s.pr _ (G.tp tb hin)
 obtain⟨ps,hP,_⟩:=id tab
 refine⟨p,xs,fun i=>ym (l.getD i .aU),rfl,hp,by lia,tab,fun i x hx H2 k2=>?_,fun i hi=>?_,fun i j hi hj ne=>?_,fun D H' p' hD hD' kp tab' hz hpm hu=>?_⟩
 ·obtain⟨y,hy,ry⟩:=rs.at' hx
  obtain⟨k,ek,b0,b1⟩:=vP (bS y (List.mem_of_getElem? hy))
  obtain⟨l',rfl,g2,g1⟩:=xH ek
  obtain⟨q',ys,rfl,hq',r'⟩:=(cQ.full ry:cQ G O H1 _ _).jt
  obtain⟨v2,hv2,rv2⟩:=r'.at g2
  obtain⟨v1,hv1,rv1⟩:=r'.at g1
  cases rv2
  cases rv1
  have ekk:ym (l.getD i .aU)=k:=by
   rw[KU,hy]
   show (j6 _).getD _=k
   rw[Option.getD_some,ek]
   rfl
  dsimp only
  rw[ekk]
  exact yL (k2 _ _ (fun z=>by rw[z,hP] at hq';cases hq') hq') (iu hv2) (iu hv1)
 ·have hi':i < l.length:=by lia
  obtain⟨k,ek,b0,b1⟩:=vP (bS _ (Ll hi'))
  have ekk:ym (l.getD i .aU)=k:=by
   rw[KU,Ku hi']
   show (j6 _).getD _=k
   rw[Option.getD_some,ek]
   rfl
  dsimp only
  rw[ekk]
  exact⟨b0,b1⟩
 ·have hi':i < l.length:=by lia
  have hj':j < l.length:=by lia
  intro z
  have e1: ∀ k,(hk:k < l.length)→rk (fun i=>ym (l.getD i .aU)) k=(l.map jm)[k]'(by simpa using hk):=fun k hk=>by
   rw[List.getElem_map]
   unfold rk jm
   dsimp only
   rw[KU,Ku hk]
   rfl
  rw[e1 i hi',e1 j hj'] at z
  have pw:=List.pairwise_iff_getElem.mp nd
  rcases Nat.lt_or_gt_of_ne ne with c|c
  ·exact pw i j (by simpa using hi') (by simpa using hj') c z
  ·exact pw j i (by simpa using hj') (by simpa using hi') c z.symm
 ·have kp1: ∀ b o,¬ O b→H1 b=some o→H' b=some o:=fun b o nb eb=>kp b o (fun z=>nb (z▸pO)) eb
  have ext:Ext G.B H1 H':=fun b o nb eb=>by
   by_cases z:b=tb.1
   ·obtain⟨qs,hQ,_⟩:=tab'
    rw[z,hP] at eb
    cases eb
    exact⟨qs,z▸hQ⟩
   ·exact .of (kp b o z eb)
  have ok':G.ok H' n1:=G.wW H1 H' n1 bP (fun q' hq'=>by
   by_cases z:q'.1=tb.1
   ·rw[hun q' hq' z]
    exact tab'
   ·exact(G.tab H1 n1 bP q' hq').keep (fun qs eq=>kp _ _ z eq) fun b ob u eq=>kp b _ (fun y=>by rw[y,hP] at eq;cases eq) eq) fun b o nb eb=>kp b o (fun z=>nb (KN.mpr ⟨tb,hin,z.symm⟩)) eb
  have ei:=zW (p:=p') nd (kf:=fun i=>ym (l.getD i .aU)) (fun i _=>rfl) (by lia) (by rw[hlen];exact hpm) (by rw[hlen];exact hu)
  have hV: ∀ i∈p'.toList,i < l.length:=fun i hi=>by
   have:=(Array.perm_iff_toList_perm.mp hpm).mem_iff.mp hi
   simp at this
   lia
  refine q (aN l) D _ H' n1 (e1.trans ext) ok' (gb e1 bP hD) hD' ?_ hR
  rw[ei]
  have go:aR G.B O H1 (p'.toList.map fun i=>l.getD i .aU) (p'.toList.map fun i=>xs.getD i .aU):=by
   refine⟨by simp,fun i y x a b=>?_⟩
   rw[KY] at a b
   cases c:p'.toList[i]? with
   |none=>rw[c] at a;cases a
   |some j=>
    rw[c] at a b
    cases a
    cases b
    have hj:=hV j (List.mem_of_getElem? c)
    obtain⟨x,hx,rx⟩:=rs.at (Ku hj)
    show Rep G.B O H1 (l.getD j .aU) (xs.getD j .aU)
    rw[KU,KU,hx,Ku hj]
    exact rx
  exact go.keep (O':=fun q=>O q∨q=D) (H':=H') fun b o nb eb=>⟨kp1 b o nb eb,fun z=>by
   rcases z with z|z
   ·exact nb z
   ·rw[z,hD] at eb;cases eb⟩
end
theorem w6 (t:SetTable) (n:Nat):(t.orStandIn n).led=t.led∧(t.plain=false→(t.orStandIn n).plain=false):=by
 unfold SetTable.orStandIn
 split
 ·exact⟨rfl,id⟩
 ·exact⟨rfl,fun _=>rfl⟩
theorem C7 (t:SetTable) (es:Array (Int×Value)) (h:Int) (x:Value):(layNew t es h x).2.1.led=t.led∧(t.plain=false→(layNew t es h x).2.1.plain=false):=by
 unfold layNew
 split
 ·exact w6 _ _
 ·exact⟨rfl,fun _=>rfl⟩
theorem xi (t:SetTable) (es:Array (Int×Value)) (n:Nat):(relayAll t es n).2.1.led=t.led∧(t.plain=false→(relayAll t es n).2.1.plain=false):=by
 unfold relayAll
 split
 ·rename_i t' order e
  have e':t'.led=t.led∧t'.plain=t.plain:=by
   unfold SetTable.relaid SetTable.laid at e
   cases hl:SetTable.layClean (SetTable.sizeAbove n - 1) (es.map (·.1)) with
   |none=>rw[hl] at e;cases e
   |some ow=>rw[hl] at e;cases e;exact⟨rfl,rfl⟩
  dsimp only
  split
  ·exact⟨e'.1,fun h=>e'.2.trans h⟩
  ·exact⟨rfl,fun _=>rfl⟩
 ·exact⟨rfl,fun _=>rfl⟩
def meet (l:List Str) (z:Str):List Str:=if l.any (· ==z) then l else l++[z]
def met (zs:List Str):List Str:=zs.foldl meet []
theorem bG:Slot "set_iterator" "__next__" "set_iterator.__next__":=by
 refine .of (owner:="set_iterator") (n:="__next__") ?_ (by decide +kernel) (by decide +kernel) (by decide +kernel) ?_ ?_
 ·rw[typeLookup_type,builtinLookup_eq_fast]
  kernel_rfl
 ·first|exact .inl (by decide +kernel)|exact .inr (by decide +kernel)
 ·rw[isSubtype_type]
  kernel_rfl
theorem fg:entryFor table "set_iterator.__next__"=some Builtin.«set_iterator.__next__»:=by
 first|exact entryFor_of_fast (by kernel_rfl)|exact entryFor_of_tree (by kernel_rfl)
theorem fI (a:Value):argsOk "set_iterator.__next__" ⟨[a],[]⟩:=by
 unfold argsOk
 kernel_rfl
theorem nI:entryFor table "set.__iter__"=some Builtin.«frozenset.__iter__»:=by
 exact entryFor_alias (id':="frozenset.__iter__") (by kernel_rfl) rfl (by decide +kernel) (by kernel_rfl)
abbrev jl (first:Value) (i:Nat) (D:Addr) (n ep:Nat):Obj:={cls:=.type "set_iterator",data:=.fields #[first,.int i 0,.ref D,.int n 0,.int ep 0]}
section
variable {prog:Program} {w:World} {A:Around} {E:Value→Shared→Prop} {s:Shared} {I D T:Addr} {o:Obj} {es:Array (Int×Value)} {ep i slot nx:Nat} {t:SetTable} {x:Value} {Q:Option Value→Shared→Prop}
theorem rS (hI:s.heap.get? I=some (jl (.int slot 0) i D es.size ep)) (hD:s.heap.get? D=some o) (hd:o.data= .set es ep t) (hf:t.fits es.size=true)
  (hN: ∀ {Q':Option (Value×Nat)→Shared→Prop} {E':Value→Shared→Prop},Q' (some (x,nx)) s→wpAny (model prog w) A.in1 (setNext D slot i ep) Q' E' s)
  (hQ: ∀ h',h'.get? I=some (jl (.int nx 0) (i+1) D es.size ep)→Heap.SameBut I s.heap h'→Q (some x) {s with heap:=h'}):wpAny (model prog w) A (pyNext (.ref I)) Q E s:=by
 have hT:s.TypeIs (.ref I) "set_iterator":=⟨_,hI,rfl⟩
 unfold pyNext
 refine Kv (wpAny_attempt (wpAny_callSpecial?_slot (name:=Str.ofString "__next__") hT bG (wpAny_call_entry bG hT fg ?_ (fI _))))
 unfold Builtin.«set_iterator.__next__» slotArgs fieldsOf
 show wpAny _ _ (pure (Value.ref I,([]:List Value)) >>= _) _ _ s
 refine Kv (KA ?_)
 show wpAny _ _ ((load I >>= _) >>= _) _ _ s
 refine Kv (Kv (wpAny_load hI (KA ?_)))
 show wpAny _ _ (setEntries D >>= _) _ _ s
 refine Kv (PySem.wpAny_setEntries_of hD hd hf ?_)
 dsimp only
 rw[Lr (by simp)]
 show wpAny _ _ (setNext D ((slot:Nat):Int).toNat ((i:Nat):Int).toNat ((ep:Nat):Int).toNat >>= _) _ _ s
 simp only[Int.toNat_natCast]
 refine Kv (hN ?_)
 show wpAny _ _ (setField (.ref I) 0 (rawInt nx) >>= _) _ _ s
 refine Kv (wpAny_setField_rec hI (by simp) fun h1 g1 b1=>?_)
 show wpAny _ _ (setField (.ref I) 1 (rawInt (i+1)) >>= _) _ _ _
 refine Kv (wpAny_setField_rec g1 (by simp) fun h2 g2 b2=>?_)
 exact KA ⟨x,rfl,KA (hQ h2 g2 (b1.trans b2))⟩
theorem vz (hh:A.handled=none) (hI:s.heap.get? I=some (jl (.int slot 0) i D es.size ep)) (hD:s.heap.get? D=some o) (hd:o.data= .set es ep t) (hf:t.fits es.size=true)
  (hN: ∀ {Q':Option (Value×Nat)→Shared→Prop} {E':Value→Shared→Prop},Q' none s→wpAny (model prog w) A.in1 (setNext D slot i ep) Q' E' s)
  (hQ: ∀ h',Heap.ExtBut I s.heap h'→Q none {s with heap:=h'}):wpAny (model prog w) A (pyNext (.ref I)) Q E s:=by
 have hT:s.TypeIs (.ref I) "set_iterator":=⟨_,hI,rfl⟩
 unfold pyNext
 refine Kv (wpAny_attempt (wpAny_callSpecial?_slot (name:=Str.ofString "__next__") hT bG (wpAny_call_entry bG hT fg ?_ (fI _))))
 unfold Builtin.«set_iterator.__next__» slotArgs fieldsOf
 show wpAny _ _ (pure (Value.ref I,([]:List Value)) >>= _) _ _ s
 refine Kv (KA ?_)
 show wpAny _ _ ((load I >>= _) >>= _) _ _ s
 refine Kv (Kv (wpAny_load hI (KA ?_)))
 show wpAny _ _ (setEntries D >>= _) _ _ s
 refine Kv (PySem.wpAny_setEntries_of hD hd hf ?_)
 dsimp only
 rw[Lr (by simp)]
 show wpAny _ _ (setNext D ((slot:Nat):Int).toNat ((i:Nat):Int).toNat ((ep:Nat):Int).toNat >>= _) _ _ s
 simp only[Int.toNat_natCast]
 refine Kv (hN ?_)
 show wpAny _ _ (setField (.ref I) 2 Value.none >>= _) _ _ s
 refine Kv (wpAny_setField_rec hI (by simp) fun h1 g1 b1=>?_)
 show wpAny _ _ (newExc (.type "StopIteration") [] >>= _) _ _ _
 refine Kv ?_
 simp only[newExc,newTuple]
 refine Kv (wpAny_newObj_type ?_ (by size_fits))
 refine Kv (m:=firstArgMember _ _) (wpAny_of_eq (a:=Value.none) (by first|rfl|(simp only[firstArgMember];rfl)) ?_)
 refine wpAny_newObj_type ?_ (by size_fits)
 simp only[raiseNew]
 refine Kv (wpAny_handled ?_)
 rw[show A.in1.handled=none from hh]
 refine Kv (KA (wpAny_throw ?_))
 refine Kv (wpAny_isInstance (T:="StopIteration") (b:=true) ⟨_,KP _ rfl,rfl⟩ isSubtype_stop ?_)
 exact KA (hQ _ ((b1.extBut.push _).push _))
theorem xc (hI:s.heap.get? I=some (jl (.ref T) i D es.size ep)) (hD:s.heap.get? D=some o) (hd:o.data= .set es ep t) (hf:t.fits es.size=true) (hT0:s.heap.get? T=some oT) (hTd:oT.data= .seq places m) (hp:places[i]?=some (.int (j:Nat) 0)) (hx:es[j]?.map (·.2)=some x)
  (hQ: ∀ h',h'.get? I=some (jl (.ref T) (i+1) D es.size ep)→Heap.SameBut I s.heap h'→Q (some x) {s with heap:=h'}):wpAny (model prog w) A (pyNext (.ref I)) Q E s:=by
 have hT:s.TypeIs (.ref I) "set_iterator":=⟨_,hI,rfl⟩
 unfold pyNext
 refine Kv (wpAny_attempt (wpAny_callSpecial?_slot (name:=Str.ofString "__next__") hT bG (wpAny_call_entry bG hT fg ?_ (fI _))))
 unfold Builtin.«set_iterator.__next__» slotArgs fieldsOf
 show wpAny _ _ (pure (Value.ref I,([]:List Value)) >>= _) _ _ s
 refine Kv (KA ?_)
 show wpAny _ _ ((load I >>= _) >>= _) _ _ s
 refine Kv (Kv (wpAny_load hI (KA ?_)))
 show wpAny _ _ (setEntries D >>= _) _ _ s
 refine Kv (PySem.wpAny_setEntries_of hD hd hf ?_)
 dsimp only
 rw[Lr (by simp)]
 show wpAny _ _ (seqItems? (.ref T) >>= _) _ _ s
 refine Kv (wpAny_seqItems hT0 hTd ?_)
 simp only[Int.toNat_natCast,hp]
 show wpAny _ _ (setNextDrawn D _ _ >>= _) _ _ s
 refine Kv ?_
 unfold setNextDrawn
 refine Kv (PySem.wpAny_setState_of hD hd hf ?_)
 cases hj:es[j]? with
 |none=>rw[hj] at hx;cases hx
 |some e=>
  rw[hj] at hx
  cases hx
  simp only[Int.toNat_natCast,bne_self_eq_false,Lk,if_false,hj]
  refine KA ?_
  show wpAny _ _ (setField (.ref I) 1 (rawInt (i+1)) >>= _) _ _ _
  refine Kv (wpAny_setField_rec hI (by simp) fun h2 g2 b2=>?_)
  exact KA ⟨e.2,rfl,KA (hQ h2 g2 b2)⟩
theorem za (hh:A.handled=none) (hI:s.heap.get? I=some (jl (.ref T) i D es.size ep)) (hD:s.heap.get? D=some o) (hd:o.data= .set es ep t) (hf:t.fits es.size=true) (hT0:s.heap.get? T=some oT) (hTd:oT.data= .seq places m) (hp:places[i]?=none)
  (hQ: ∀ h',Heap.ExtBut I s.heap h'→Q none {s with heap:=h'}):wpAny (model prog w) A (pyNext (.ref I)) Q E s:=by
 have hT:s.TypeIs (.ref I) "set_iterator":=⟨_,hI,rfl⟩
 unfold pyNext
 refine Kv (wpAny_attempt (wpAny_callSpecial?_slot (name:=Str.ofString "__next__") hT bG (wpAny_call_entry bG hT fg ?_ (fI _))))
 unfold Builtin.«set_iterator.__next__» slotArgs fieldsOf
 show wpAny _ _ (pure (Value.ref I,([]:List Value)) >>= _) _ _ s
 refine Kv (KA ?_)
 show wpAny _ _ ((load I >>= _) >>= _) _ _ s
 refine Kv (Kv (wpAny_load hI (KA ?_)))
 show wpAny _ _ (setEntries D >>= _) _ _ s
 refine Kv (PySem.wpAny_setEntries_of hD hd hf ?_)
 dsimp only
 rw[Lr (by simp)]
 show wpAny _ _ (seqItems? (.ref T) >>= _) _ _ s
 refine Kv (wpAny_seqItems hT0 hTd ?_)
 simp only[Int.toNat_natCast,hp]
 show wpAny _ _ (setField (.ref I) 0 (rawInt 0) >>= _) _ _ s
 refine Kv (wpAny_setField_rec hI (by simp) fun h0 g0 b0=>?_)
 show wpAny _ _ (setField (.ref I) 2 Value.none >>= _) _ _ _
 refine Kv (wpAny_setField_rec g0 (by simp) fun h1 g1 b1=>?_)
 show wpAny _ _ (newExc (.type "StopIteration") [] >>= _) _ _ _
 refine Kv ?_
 simp only[newExc,newTuple]
 refine Kv (wpAny_newObj_type ?_ (by size_fits))
 refine Kv (m:=firstArgMember _ _) (wpAny_of_eq (a:=Value.none) (by first|rfl|(simp only[firstArgMember];rfl)) ?_)
 refine wpAny_newObj_type ?_ (by size_fits)
 simp only[raiseNew]
 refine Kv (wpAny_handled ?_)
 rw[show A.in1.handled=none from hh]
 refine Kv (KA (wpAny_throw ?_))
 refine Kv (wpAny_isInstance (T:="StopIteration") (b:=true) ⟨_,KP _ rfl,rfl⟩ isSubtype_stop ?_)
 exact KA (hQ _ (((b0.trans b1).extBut.push _).push _))
end
theorem ju:Slot "set_iterator" "__iter__" "set_iterator.__iter__":=by
 refine .of (owner:="set_iterator") (n:="__iter__") ?_ (by decide +kernel) (by decide +kernel) (by decide +kernel) ?_ ?_
 ·rw[typeLookup_type,builtinLookup_eq_fast]
  kernel_rfl
 ·first|exact .inl (by decide +kernel)|exact .inr (by decide +kernel)
 ·rw[isSubtype_type]
  kernel_rfl
theorem nH:entryFor table "set_iterator.__iter__"=some Builtin.«dict_keyiterator.__iter__»:=by
 exact entryFor_alias (id':="dict_keyiterator.__iter__") (by kernel_rfl) rfl (by decide +kernel) (by kernel_rfl)
theorem oQ (a:Value):argsOk "set_iterator.__iter__" ⟨[a],[]⟩:=by
 unfold argsOk
 kernel_rfl
theorem jK: ∀ (l:List α) (i:Nat) (x:α),l[i]?=some x→(x::l.eraseIdx i).Perm l
 |[],i,x,h=>by simp at h
 |y::l,0,x,h=>by simp at h;subst h;exact .rfl
 |y::l,i+1,x,h=>by
  simp only[KQ] at h
  exact(List.Perm.swap y x _).trans ((jK l i x h).cons y)
theorem o7 (next:Nat→Nat): ∀ (n k:Nat) (l:List α) (out:Array α),l.length=n→(pickOrder.go next n k l out).toList.Perm (out.toList++l)
 |0,k,l,out,h=>by
  have:l=[]:=Lg h
  subst this
  simp[pickOrder.go]
 |n+1,k,l,out,h=>by
  unfold pickOrder.go
  have hl:next k % l.length < l.length:=Nat.mod_lt _ (by lia)
  have e:l[next k % l.length]?=some l[next k % l.length]:=Ku hl
  rw[e]
  dsimp only
  refine(o7 next n (k+1) (l.eraseIdx (next k % l.length)) _ (by rw[List.length_eraseIdx];split<;>lia)).trans ?_
  rw[Array.toList_push,List.append_assoc]
  exact(jK l _ _ e).append_left _
section
variable {prog:Program} {w:World} {A:Around} {E:Value→Shared→Prop}
theorem BP (hn:0 < n) (h: ∀ (j:Nat) d',j < n→Q j {s with drawn:=d'}):wpAny (model prog w) A (choose .order n) Q E s:=fun Γ p hΓ=>by
 unfold choose
 rw[Sem.wp_choose]
 exact⟨by lia,h _ _ (Nat.mod_lt _ hn)⟩
theorem pR: ∀ (n:Nat) (l:List α) (s:Shared) (Q:List α→Shared→Prop),l.length=n→(∀ (ys:List α) d',ys.Perm l→Q ys {s with drawn:=d'})→wpAny (model prog w) A (drawOrder n l) Q E s
 |0,l,s,Q,hl,h=>by
  have:l=[]:=Lg hl
  subst this
  exact KA (h [] s.drawn .rfl)
 |n+1,[],s,Q,hl,h=>by cases hl
 |n+1,y::l,s,Q,hl,h=>by
  unfold drawOrder
  refine Kv (BP (by simp) fun j d' hj=>?_)
  have e:(y::l)[j]?=some (y::l)[j]:=Ku hj
  rw[e]
  dsimp only
  refine Kv (pR n _ _ _ (by rw[List.length_eraseIdx];split<;>lia) fun ys d2 hp=>?_)
  exact KA (h _ d2 ((hp.cons _).trans (jK _ _ _ e)))
theorem mG (hI:s.heap.get? I=some (jl first i D n ep)) (h:Q (.ref I) s):wpAny (model prog w) A (pyIter (.ref I)) Q E s:=by
 have hT:s.TypeIs (.ref I) "set_iterator":=⟨_,hI,rfl⟩
 refine wpAny_pyIter_slot hT ju (wpAny_call_entry ju hT nH ?_ (oQ _))
 show wpAny _ _ (ret (.ref I)) _ _ s
 exact KA ⟨_,rfl,"set_iterator",_,hT,bG.lookup,h⟩
theorem GF {I D T:Addr} {o oT:Obj} {ps:List Nat} (hh:A.handled=none) (hID:I≠D) (hIT:I≠T) (hd:o.data= .set es ep t) (hf:t.fits es.size=true) (hTd:oT.data= .seq (ps.map fun (j:Nat)=>rawInt j).toArray m) (hps: ∀ j∈ps,j < es.size):
  Walks prog w A I [I,D,T] [I] ps.length (fun i v=>(ps.map fun j=>(es[j]?.map (·.2)).getD .none)[i]?=some v) (fun i h=>h.get? I=some (jl (.ref T) i D es.size ep)∧h.get? D=some o∧h.get? T=some oT) where
 sub:=fun c hc=>by simp at hc;simp[hc]
 frame:=fun i h h' st k=>⟨k I (by simp) _ st.1,k D (by simp) _ st.2.1,k T (by simp) _ st.2.2⟩
 item:=fun i s Q E hi st hQ=>by
  have hj:=hps ps[i] (Ll hi)
  refine xc (x:=(es[ps[i]]).2) (j:=ps[i]) st.1 st.2.1 hd hf st.2.2 hTd ?_ ?_ fun h' g sb=>?_
  ·simp[Ku hi,rawInt]
  ·rw[K5 hj];rfl
  ·refine hQ _ h' s.toks ?_ ⟨g,(sb.2 D hID.symm).trans st.2.1,(sb.2 T hIT.symm).trans st.2.2⟩ fun c u hc e=>(sb.2 c fun z=>hc (by simp[z])).trans e
   simp[Ku hi,K5 hj]
 done:=fun s Q E st hQ=>by
  refine za hh st.1 st.2.1 hd hf st.2.2 hTd (by simp) fun h' eb=>?_
  exact hQ h' s.toks fun c u hc e=>eb c u (fun z=>hc (by simp[z])) e
 self:=fun i s Q E st hQ=>mG st.1 hQ
end
section
variable {prog:Program} {w:World} {A:Around} {E:Value→Shared→Prop} {s:Shared} {I D:Addr} {o:Obj} {es:Array (Int×Value)} {ep:Nat} {t:SetTable}
theorem i6 (h:Q (w.params.followText "set-order") s):wpAny (model prog w) A setsByText Q E s:=by
 unfold setsByText
 exact Kv (wpAny_askSetting (KA h))
theorem nextT (hb:w.params.followText "set-order"=true) (hD:s.heap.get? D=some o) (hd:o.data= .set es ep t) (hf:t.fits es.size=true) (h:Q (((pickOrder (w.params.setOrder D ep) es)[i]?).map fun e=>(e.2,slot)) s):wpAny (model prog w) A (setNext D slot i ep) Q E s:=by
 unfold setNext
 refine Kv (PySem.wpAny_setState_of hD hd hf ?_)
 dsimp only
 refine Kv (i6 ?_)
 rw[hb,Lq rfl,Lr (by simp)]
 refine Kv ?_
 unfold setWalk
 refine Kv (PySem.wpAny_setState_of hD hd hf ?_)
 dsimp only
 refine Kv (i6 ?_)
 rw[hb,Lq rfl]
 refine Kv (wpAny_askSetting (KA ?_))
 exact KA h
theorem o8 (next:Nat→Nat) (es:Array (Int×Value)):(pickOrder next es).toList.Perm es.toList:=by
 have:=o7 next es.size 0 es.toList #[] (by simp)
 simpa[pickOrder] using this
theorem kN (next:Nat→Nat) (es:Array (Int×Value)):(pickOrder next es).size=es.size:=by
 have:=(o8 next es).length_eq
 simpa using this
theorem GD (hh:A.handled=none) (hID:I≠D) (hb:w.params.followText "set-order"=true) (hd:o.data= .set es ep t) (hf:t.fits es.size=true):
  Walks prog w A I [I,D] [I] es.size (fun i v=>((pickOrder (w.params.setOrder D ep) es).toList.map (·.2))[i]?=some v) (fun i h=>h.get? I=some (jl (.int (0:Nat) 0) i D es.size ep)∧h.get? D=some o) where
 sub:=fun c hc=>by simp at hc;simp[hc]
 frame:=fun i h h' st k=>⟨k I (by simp) _ st.1,k D (by simp) _ st.2⟩
 item:=fun i s Q E hi st hQ=>by
  have hz:=kN (w.params.setOrder D ep) es
  have e:(pickOrder (w.params.setOrder D ep) es)[i]?=some (pickOrder (w.params.setOrder D ep) es)[i]:=K5 (by lia)
  refine rS (x:=(pickOrder (w.params.setOrder D ep) es)[i].2) (nx:=0) st.1 st.2 hd hf (fun {Q' E'} h=>nextT hb st.2 hd hf (by rw[e];exact h)) fun h' g sb=>?_
  refine hQ _ h' s.toks ?_ ⟨g,(sb.2 D hID.symm).trans st.2⟩ fun c u hc e=>(sb.2 c fun z=>hc (by simp[z])).trans e
  rw[KY,Array.getElem?_toList,e]
  rfl
 done:=fun s Q E st hQ=>by
  have hz:=kN (w.params.setOrder D ep) es
  refine vz hh st.1 st.2 hd hf (fun {Q' E'} h=>nextT hb st.2 hd hf (by rw[Array.getElem?_eq_none (by lia)];exact h)) fun h' eb=>?_
  exact hQ h' s.toks fun c u hc e=>eb c u (fun z=>hc (by simp[z])) e
 self:=fun i s Q E st hQ=>mG st.1 hQ
def Eh (prog:Program) (w:World) (A:Around) (es:Array (Int×Value)) (D I:Addr) (h:Heap) (z:Nat):Prop:=
 ∃ (out:List Value) (fp:List Addr) (Sx:Nat→Heap→Prop),out.Perm (es.toList.map (·.2))∧Walks prog w A I fp [I] out.length (fun i v=>out[i]?=some v) Sx∧Sx 0 h∧∀ c∈fp,c=D∨z≤c
end
abbrev Ds (w:World):Bool:=w.params.followText "set-order"
theorem mH:typeLookup (.type "set") "__len__"=pure (some (.builtin "set.__len__")):=by
 rw[typeLookup_type,builtinLookup_eq_fast]
 kernel_rfl
theorem Inv.HE (I:Inv X pZ σ H s) (k: ∀ b u,s.heap.get? b=some u→h'.get? b=some u):Inv X pZ σ H {s with heap:=h',drawn:=d',toks:=t'}:=by
 refine I.step (g':=s.gens) (ch:=[]) (fun _ z=>nomatch z) (fun b u _ _ _ e _=>k b u e) (fun b u _ _ _ e _=>⟨u.slots,k b u e⟩) (fun b u _ e n=>n) (fun b u _ e=>⟨u,k b u e⟩) (fun b xs e=>e) (fun b ob u e=>e) (fun b ps e=>⟨#[],by rw[e];simp⟩) (fun m hm=>?_) (I.bS.kept k) I.bare
 obtain⟨ob,es,ep,ho,r⟩:=hm
 exact⟨ob,es,ep,k _ ob ho,r⟩
structure DD (K:Frag) (x qual:Str) (st:Stmt) (f:Addr) (fd:FuncData) (c tb:Addr):Prop where
 ex: ∃ (oc:Value) (od:Option Addr) (kV doc pm:Value) (an:Option Addr) (ct:Value) (osl:Array (Option Value)),
  fd=fnOf x qual (bp st) (av st) (ah st) .none kV doc pm an (.ref c) ct∧K.lookup f=some ⟨oc,od,.func fd,osl⟩∧codeIn K (.ref c) qual=true
 hd:PySem.W.codeHdIn K c tb=true
section
variable {φ:eF} {P:Program} {w:World} {K:Frag} {mg:Str→Option Value} {base:Heap}
theorem DD.ok {x qual:Str} {st:Stmt} {f c tb:Addr} {fd:FuncData} {N ps:List Str} {k:Nat} {sp:Sp} (F:DD K x qual st f fd c tb) (S:aX N ps (ah st)) (len: ∀ vs H Q E,sp vs H Q E→vs.length=ps.length)
  (iR: ∀ (A:Around) (outer:List Env) (s:Shared) (H:Hp) (vs:List V) (Q:VK) (E:XK),eN k (A.deeper (envOfC qual (ah st) s.heap.objs.size f (.ref c)))→sp vs H Q E→
   ∃ t,ua (jr ed P w K mg base N qual (ah st) f (.ref c) A outer s H E).tZ (av st) t∧t {nx:=fun _ H'=>Q .aU H',rt:=Q} (start N vs) H):bD P w K mg base ed (k+1) f fd ps sp:=by
 obtain⟨oc,od,kV,doc,pm,an,ct,osl,rfl,lk,hcd⟩:=F.ex
 refine D9 lk hcd S len fun A outer s H vs Q E hr hsp=>?_
 obtain⟨t,h,q⟩:=iR A outer s H vs Q E hr hsp
 exact⟨t,h.tZ,q⟩
end
noncomputable def kF (K:Frag) (tbs:List Addr):Sp:=fun vs H Q _=> ∃ (a:Addr) (ns:List Int),vs=[.ref a]∧cV K H a (ns.map V.int)∧ns.length≤63∧(∀ tb∈tbs,H tb=some (.lP #[]))∧∀ H',Q (.bl true) H'
def t9 (c dp:Nat) (y:PV):Prop:= ∃ d:PyData,toD y=some d∧d.showable=true∧d.hasDict=false∧d.shown.length≤c∧d.depth≤dp
theorem t9.mono (h:t9 c dp y) (hc:c≤c') (hd:dp≤dp'):t9 c' dp' y:=by
 obtain⟨d,h1,h2,h3,h4,h5⟩:=h
 exact⟨d,h1,h2,h3,KZ h4 hc,KZ h5 hd⟩
theorem Ca (h:i.natAbs < 10 ^ 61):t9 62 0 (.int i):=by
 refine⟨.int i,by simp only[toD],?_,by simp only[PyData.hasDict],?_,by simp only[PyData.depth];lia⟩
 ·simp only[PyData.showable,decide_eq_true_eq]
  by_cases z:i.natAbs=0
  ·rw[z];decide
  ·rw[Nat.log2_lt z]
   exact K1 h (by decide +kernel)
 ·simp only[PyData.shown]
  have:=int_text_length_le10 (k:=61) (by decide) h
  show (Str.ofString (toString i)).length≤62
  rw[PySem.ofString_length]
  lia
theorem B9 (h:x.length≤k) (hc: ∀ c∈x.cps.toList,c < 16 ^ 8):t9 (10 * k+2) 0 (.str x):=by
 refine⟨.str x,by simp only[toD],by simp only[PyData.showable],by simp only[PyData.hasDict],?_,by simp only[PyData.depth];lia⟩
 simp only[PyData.shown]
 have:=PySem.StrLaws.reprText_len x hc
 lia
theorem GR: ∀ (l:List PV),(∀ z∈l,t9 c dp z)→∃ ds,og l=some ds∧ds.length=l.length∧PyData.showableAll ds=true∧PyData.hasDictAll ds=false∧(∀ t∈PyData.shownAll ds,t.length≤c)∧(PyData.shownAll ds).length=l.length∧PyData.depthAll ds≤dp
 |[],_=>⟨[],by simp only[og],rfl,by simp only[PyData.showableAll],by simp only[PyData.hasDictAll],(by simp only[PyData.shownAll];exact fun t h=>absurd h KL),(by simp only[PyData.shownAll,List.length_nil]),(by simp only[PyData.depthAll];lia)⟩
 |y::l,h=>by
  obtain⟨d,h1,h2,h3,h4,h5⟩:=h y Kw
  obtain⟨ds,g1,g2,g3,g4,g5,g6,g7⟩:=GR l fun z hz=>h z (Kz _ hz)
  refine⟨d::ds,by simp only[og,h1,g1,Option.bind_some,Option.map_some],by simp[g2],by simp only[PyData.showableAll,h2,g3,Bool.and_self],by simp only[PyData.hasDictAll,h3,g4,Bool.or_self],?_,by simp only[PyData.shownAll,KO,g6],by simp only[PyData.depthAll];lia⟩
  simp only[PyData.shownAll]
  intro t ht
  rcases KJ.mp ht with rfl|ht
  ·exact h4
  ·exact g5 t ht
theorem join_le: ∀ (ts:List Str),(∀ t∈ts,t.length≤c)→(Str.join ", " ts).length≤ts.length * (c+2)
 |[],_=>by show (0:Nat)≤_;lia
 |[x],h=>by
  have:=h x Kw
  show x.length≤1 * (c+2)
  lia
 |x::y::r,h=>by
  have ih:=join_le (y::r) fun t ht=>h t (Kz _ ht)
  have hx:=h x Kw
  show (x++", "++Str.join ", " (y::r)).length≤_
  have e2:((", ":String):Str).length=2:=rfl
  rw[strLen_append,strLen_append,e2,KO,Nat.succ_mul]
  lia
theorem lQ (h: ∀ z∈l,t9 c dp z) (hl:l.length≤n):t9 (n * (c+2)+3) (dp+1) (.tup l):=by
 obtain⟨ds,g1,g2,g3,g4,g5,g6,g7⟩:=GR l h
 refine⟨.tuple ds,by simp only[toD,g1,Option.map_some],by simp only[PyData.showable,g3],by simp only[PyData.hasDict,g4],?_,by simp only[PyData.depth];lia⟩
 simp only[PyData.shown]
 have hj:=join_le _ g5
 rw[g6] at hj
 have hm:l.length * (c+2)≤n * (c+2):=Nat.mul_le_mul_right _ hl
 unfold tupleText
 rw[strLen_append,strLen_append]
 have e1:(("(":String):Str).length=1:=rfl
 have e2:((if(PyData.shownAll ds).length==1 then ",)" else ")":String):Str).length≤2:=by
  by_cases z:((PyData.shownAll ds).length==1)=true
  ·rw[Lq z];decide
  ·rw[Lr z];decide
 lia
def Il (K:Frag) (a:Addr) (xs:List V):It:=⟨fun i H=>cV K H a xs∧i < xs.length,fun i H x H'=>H'=H∧xs.reverse[i]?=some x,fun i H=>cV K H a xs∧i=xs.length⟩
theorem yH {P:Program} {w:World} {K:Frag} {tg:Expr} (a it:Addr) (xs:List V):Turn P w K tg (Il K a xs) [it] it (fun i h=>h.IsRevIter it a ((xs.length:Int) - 1 - i)) where
 mem:=by simp
 obj:=fun i h st b hb=>by
  have e:b=it:=by simpa using hb
  subst e
  obtain⟨o,e,c,d⟩:=st
  exact⟨o,e,fun v z=>by rw[d] at z;cases z⟩
 keep:=fun i h h' st k=>st.at fun o e=>k it (by simp) o e
 item:=by
  intro X hP hw hK hc i pZ s σ H E I hf st hg
  subst hP hw hK
  obtain⟨hq,hi⟩:=hg
  obtain⟨aC,rv,p,hz⟩:=I.list hq
  have hl:=rv.length
  obtain⟨u,hu,ru⟩:=rv.get (Ku (show xs.length - 1 - i < xs.length by lia))
  obtain⟨f0,f1,f2,f3,f4,f5⟩:=hf it (by simp)
  have ei:(xs.length:Int) - 1 - i=((xs.length - 1 - i:Nat):Int):=by lia
  have st2:=st
  rw[ei] at st2
  refine wpAny_pyNext_rev_item st2 p.isList (x:=u) (by simpa using hu) fun h' st' sb=>?_
  have I1:Inv X pZ σ H {s with heap:=h'}:=I.turned (t':=s.toks) (fun b o hb e=>(sb.2 b hb).trans e) f0 f1 f3 f4 f5
  have e2:((xs.length - 1 - i:Nat):Int) - 1=(xs.length:Int) - 1 - ((i+1:Nat):Int):=by lia
  rw[e2] at st'
  obtain⟨o,e,c,d⟩:=id st'
  refine⟨u,rfl,pI (s:={s with heap:=h'}) e c d (by decide) ⟨_,H,I1,ru,⟨rfl,?_⟩,st',fun b hb=>(hf b hb).1⟩⟩
  rw[List.getElem?_reverse hi]
  exact Ku _
 done:=by
  intro X hP hw hK hc i pZ s σ H E I hf st hg
  subst hP hw hK
  obtain⟨hq,rfl⟩:=hg
  obtain⟨f0,f1,f2,f3,f4,f5⟩:=hf it (by simp)
  rw[show (xs.length:Int) - 1 - (xs.length:Int)= -1 by lia] at st
  exact wpAny_pyNext_rev_end (I.ok.hd hc) st fun h' eb=>⟨rfl,I.turned (t':=s.toks) (fun b o hb e=>eb b o hb e) f0 f1 f3 f4 f5⟩
 self:=fun _ _ _ _ _ st h=>wpAny_pyIter_revIter st h
def JC (K:Frag) (ta:TA):TI:=fun σ H R=>ta σ H fun vs H1=> ∃ a xs,vs=[.ref a]∧cV K H1 a xs∧R (Il K a xs) H1
section
variable {X:Cx} {x:Str} {p pos:Pos} {e tg:Expr}
theorem E2 {ta:TA} (hg:Gl X x) (hm:X.mg x=none) (hv:bootBuiltins x=some (.type "reversed")) (ha:PA X [e] ta) (hn:x≠"__name__":=by decide) (qR:(x==("__debug__":Str))=false:=by decide)
  (he:starEach [e] X.env=(false,eval e X.env)::starEach [] X.env:=by rfl) (ng:(backTo pos (starEach [] X.env)).any (·.1)=false:=by rfl):PI X tg (.Call (.Name x p) [e] [] pos) (JC X.K ta):=by
 intro pZ s σ H R I h
 refine wpAny_Call_Name_kw (kU I hg hm hv ?_ hn qR)
 refine PyProof.Rows.callWith_type1 (cn (ha pos pZ s σ H _ I h) fun us s1 ⟨vs,H1,I1,r1,q1⟩=>?_) he ng
 obtain⟨a,xs,rfl,hq,q⟩:=q1
 obtain⟨u,rfl,ru⟩:=r1.one
 cases ru
 obtain⟨aC,rv,p,hz⟩:=I1.list hq
 have hl:=rv.length
 refine call_reversed_list p.isList ?_
 have I2:Inv X pZ σ H1 {s1 with heap:=s1.heap.push (revObj a ((aC.toArray.size:Int) - 1))}:=I1.kept (t':=s1.toks) fun b o e=>Ky _ e
 have ez:((aC.toArray.size:Nat):Int) - 1=(xs.length:Int) - 1 - ((0:Nat):Int):=by rw[KC];lia
 have st:(s1.heap.push (revObj a ((aC.toArray.size:Int) - 1))).IsRevIter s1.heap.objs.size a ((xs.length:Int) - 1 - ((0:Nat):Int)):=by
  rw[←ez]
  exact⟨_,KP _ rfl,rfl,rfl⟩
 refine wpAny_pyIter_revIter st ?_
 refine⟨s1.heap.objs.size,[s1.heap.objs.size],_,_,H1,rfl,I2,yH a _ xs,st,fun b hb=>?_,q⟩
 have e:b=s1.heap.objs.size:=by simpa using hb
 subst e
 exact I1.oN (KG _) (I1.bS.fresh (KG _))
end
theorem Di {K:Frag} {a:Addr} {xs:List V} {g:TG} {tb:TS} {D:Ends} {σ:St} {H:Hp} (Pv:Nat→L2.St→Hp→Prop) (h0:Pv 0 σ H) (hl: ∀ i σ H,i≤xs.length→Pv i σ H→cV K H a xs)
  (hs: ∀ i x σ H,x∈xs→i < xs.length→Pv i σ H→g x σ H fun σ2 H2=>tb {D with nx:=Pv (i+1),ct:=Pv (i+1),bk:=D.nx} σ2 H2) (hd: ∀ σ H,Pv xs.length σ H→D.nx σ H):
  ∃ W:Nat→Nat→L2.St→Hp→Prop,(∃ m,W 0 m σ H)∧∀ i m σ H,W i m σ H→
   ((Il K a xs).stop i H∧D.nx σ H)∨((Il K a xs).go i H∧∃ N:L2.St→Hp→Prop,(∀ σ' H',N σ' H'→∃ m',m' < m∧W (i+1) m' σ' H')∧∀ x H',(Il K a xs).yp i H x H'→g x σ H' fun σ2 H2=>tb {D with nx:=N,ct:=N,bk:=D.nx} σ2 H2):=by
 refine⟨fun i m σ H=>m=xs.length - i∧i≤xs.length∧Pv i σ H,⟨xs.length,by simp,K6 _,h0⟩,?_⟩
 rintro i m σ H ⟨rfl,hi,p⟩
 have q:=hl i σ H hi p
 by_cases hV:i < xs.length
 ·refine .inr ⟨⟨q,hV⟩,Pv (i+1),fun σ' H' p'=>⟨xs.length - (i+1),by lia,rfl,hV,p'⟩,fun x H' y=>?_⟩
  obtain⟨rfl,y⟩:=y
  exact hs i x σ _ (List.mem_reverse.mp (List.mem_of_getElem? y)) hV p
 ·have e:i=xs.length:=by lia
  subst e
  exact .inl ⟨⟨q,rfl⟩,hd σ H p⟩
structure Ih (H:Hp) (a:Addr) (n:Nat):Prop where
 ex: ∃ (d sd k:Int),H a=some (.lst [.int d,.int sd,.int k])∧0≤d∧0≤sd∧sd < 2305843009213693951∧0≤k∧k≤n
noncomputable def yX:Sp:=fun vs H Q _=> ∃ (a:Addr) (n:Nat) (m:Int),vs=[.ref a,.int m]∧Ih H a n∧n < 1000000∧0 < m∧m < 1073741824∧
 ∀ (d:Int) (o:HO),0≤d→d < m→Ih (upd H a o) a (n+1)→Q (.int d) (upd H a o)
def qe (K:Frag):Sp:=fun vs H Q _=> ∃ (a:Addr) (ns:List Int),vs=[.ref a]∧cV K H a (ns.map V.int)∧ns.length≤63∧∀ (b:Addr) (H':Hp),hM H H'→Ih H' b 0→Q (.ref b) H'
abbrev uS (K:Frag) (tabs:List (Addr×Str)):eF:=⟨K,yX,tabs⟩
noncomputable def o6 (K:Frag) (tabs:List (Addr×Str)) (a:Addr):Bg (uS K tabs) where
 B:=a
 dD:=fun p=>p=a∨p∈tabs.map (·.1)
 ok:=fun H n=>(∃ k,k+n≤1000000∧Ih H a k)∧∀ e∈tabs,TabAt H e
 pB:=.inl rfl
 keep:=fun H H' n k h=>by
  obtain⟨⟨j,hj,b⟩,ht⟩:=h
  obtain⟨d,sd,k',h1,r⟩:=b.ex
  exact⟨⟨j,hj,d,sd,k',k a _ (.inl (.inl rfl)) h1,r⟩,fun e he=>(ht e he).keep (fun ps z=>k _ _ (.inl (.inr (K9 he))) z) fun b ob u z=>k _ _ (.inr trivial) z⟩
 tp:=fun e he=>.inr (K9 he)
 tab:=fun H n h=>h.2
 wW:=fun H H' n h h1 h2=>by
  obtain⟨⟨j,hj,b⟩,ht⟩:=h
  obtain⟨d,sd,k',g1,r⟩:=b.ex
  have no:a∉tabs.map (·.1):=fun z=>by
   obtain⟨e',he',z2⟩:=KN.mp z
   obtain⟨ps,e2,_⟩:=ht e' he'
   rw[z2,g1] at e2;cases e2
  exact⟨⟨j,hj,d,sd,k',h2 a _ no g1,r⟩,h1⟩
 A4:=fun H n p h z=>by
  obtain⟨⟨j,hj,b⟩,ht⟩:=h
  obtain⟨d,sd,k',g1,r⟩:=b.ex
  rcases z with rfl|z
  ·exact⟨_,g1⟩
  ·obtain⟨e',he',rfl⟩:=KN.mp z
   obtain⟨ps,e3,_⟩:=ht e' he'
   exact⟨_,e3⟩
 dr:=fun H n m Q E ok h0 h1 q=>by
  obtain⟨⟨k,hk,b⟩,ht⟩:=ok
  obtain⟨_,_,_,e1,_⟩:=id b.ex
  exact⟨a,k,m,rfl,b,by lia,h0,h1,fun d o d0 d1 b'=>q d _ d0 d1 (fun p u np hp=>.of (by rw[aq np];exact hp)) ⟨⟨k+1,by lia,b'⟩,fun e he=>(ht e he).keep (fun ps z=>by rw[aq (Af z e1 (by intro y;cases y))];exact z) fun b ob u z=>by rw[aq (Af z e1 (by intro y;cases y))];exact z⟩⟩
end L2
namespace HT
open L2
open L2.Ent (val un)
end HT
namespace L2
open Ent (val un)
section
open PySem.W (kla_fn kla_obj CodeHd tabObj)
def zr:List V→Hp→VK→Prop:=fun xs H Q=> ∃ (B:Addr) (O:Addr→Prop) (y:PV) (x:V) (d:PyData),xs=[x]∧Rep B O H y x∧(∀ l,y≠.lst l)∧toD y=some d∧iL d∧Q (.str d.shown) H
theorem nR (hg:X.A.guards=some []) (hu:X.A.units+64 < cLine):gm X (.builtin "repr") zr:=by
 intro pZ s σ H xs us Q I r h
 obtain⟨B,O,y,x,d,rfl,rp,nl,hd,hs,q⟩:=h
 cases y with
 |tup l=>exact u5 hg hu pZ s σ H [x] us Q I r ⟨B,O,l,x,d,rfl,rp,hd,hs,q⟩
 |lst l=>exact absurd rfl (nl l)
 |aU=>
  obtain⟨u,rfl,rx⟩:=vals1 r
  cases rp
  cases rx
  simp only[toD] at hd
  cases hd
  exact PySem.P.repr_of_none ⟨.str _,H,I.tok _,⟨_,rfl⟩,by simpa only[PyData.shown] using q⟩
 |bl b=>
  obtain⟨u,rfl,rx⟩:=vals1 r
  cases rp
  cases rx
  simp only[toD] at hd
  cases hd
  exact PySem.P.repr_of_bool ⟨.str _,H,I.tok _,⟨_,rfl⟩,by simpa only[PyData.shown] using q⟩
 |int i=>
  obtain⟨u,rfl,rx⟩:=vals1 r
  cases rp
  obtain⟨t,rfl⟩:=rx
  simp only[toD] at hd
  cases hd
  exact PySem.P.repr_of_int (by simpa only[PyData.showable,decide_eq_true_eq] using hs.1) ⟨.str _,H,I.tok _,⟨_,rfl⟩,by simpa only[PyData.shown] using q⟩
 |str z=>
  obtain⟨u,rfl,rx⟩:=vals1 r
  cases rp
  obtain⟨t,rfl⟩:=rx
  simp only[toD] at hd
  cases hd
  have h3:=hs.2.2.1
  simp only[PyData.shown] at h3
  exact PySem.P.repr_of_str ⟨.str _,H,I.tok _,⟨_,rfl⟩,by simpa only[PyData.shown] using q⟩ (by rw[Lh];lia)
 |eW l=>simp only[toD] at hd;cases hd
 |rF l=>simp only[toD] at hd;cases hd
 |fY=>simp only[toD] at hd;cases hd
def Gr:PV→Bool
 | .lst _=>false
 |_=>true
def jw:List PV→M PV
 |[y]=>if Gr y then(M.ft (toD y)).bind fun d=>if iL d then .ret (.str d.shown) else .fail else .fail
 |_=>.fail
theorem tu:n8 zr jw:=fun φ G O H n R Q l xs pr dm ok r w q=>by
 match l,r,w with
 |[y],r,w=>
  obtain⟨x,rfl,r1⟩:=r.one
  unfold jw at w
  dsimp only at w
  by_cases c:Gr y=true
  ·rw[Lq c] at w
   cases e:toD y with
   |none=>rw[e] at w;exact w.elim
   |some d=>
    rw[e] at w
    have w':(if iL d then M.ret (PV.str d.shown) else .fail).wp n R:=w
    by_cases hs:iL d
    ·rw[Lq hs] at w'
     cases r1 with
     |full h=>exact⟨G.B,O,y,x,d,rfl,h,(fun l z=>by rw[z] at c;cases c),e,hs,q.sc ok (.str _) w'⟩
     |top np h r=>cases c
     |uh np h r=>simp only[toD] at e;cases e
    ·rw[Lr hs] at w';exact w'.elim
  ·rw[Lr c] at w;exact w.elim
theorem zh (h:t9 c dp y) (hl:Gr y=true) (hc:c≤1000000) (hd:dp≤40): ∃ t:Str,jw [y]= .ret (.str t):=by
 obtain⟨d,h1,h2,h3,h4,h5⟩:=h
 refine⟨d.shown,?_⟩
 unfold jw
 dsimp only
 rw[Lq hl,h1]
 show (if iL d then M.ret (PV.str d.shown) else .fail)=_
 rw[Lq ⟨h2,h3,by lia,by lia⟩]
def bi (kf:Nat→Int×Int):Nat→Option Nat
 |0=>none
 |j+1=>match bi kf j with
  |none=>some j
  |some b=>if rk kf b < rk kf j then some j else some b
theorem Bo: ∀ {j b:Nat},bi kf j=some b→b < j
 |0,b,h=>by cases h
 |j+1,b,h=>by
  unfold bi at h
  cases e:bi kf j with
  |none=>rw[e] at h;cases h;lia
  |some c=>
   rw[e] at h
   dsimp only at h
   have:=Bo e
   by_cases z:rk kf c < rk kf j
   ·rw[Lq z] at h;cases h;lia
   ·rw[Lr z] at h;cases h;lia
theorem wG: ∀ {j:Nat},0 < j→∃ b,bi kf j=some b
 |j+1,_=>by
  unfold bi
  cases e:bi kf j with
  |none=>exact⟨_,rfl⟩
  |some c=>
   dsimp only
   by_cases z:rk kf c < rk kf j
   ·exact⟨_,Lq z⟩
   ·exact⟨_,Lr z⟩
end
section
open PySem.W (kla_fn kla_obj CodeHd tabObj)
variable {φ:eF}
def nS:List PV→Option PV:=fun l=>(bi (fun i=>ym (l.getD i .aU)) l.length).map fun b=>l.getD b .aU
end
section
variable {X:Cx} {pZ:List (Addr×Obj)} {σ:St} {H:Hp} {s:Shared} {d:Addr} {o:Obj} {ks:List (Key×V)}
theorem AK (x:iY P w H h) (e:H d=some u) (no: ∀ y,u≠.own y) (nt: ∀ xs,u≠.tup xs) (new:dn P w H h d u'):iY P w (upd H d u') h:=fun b v q=>by
 have ho: ∀ y c,H c=some (.own y)→upd H d u' c=some (.own y):=fun y c g=>by
  rw[aq (fun z=>by subst z;rw[e] at g;exact no y (Lv g))];exact g
 have ht: ∀ c xs,H c=some (.tup xs)→upd H d u' c=some (.tup xs):=fun c xs g=>by
  rw[aq (fun z=>by subst z;rw[e] at g;exact nt xs (Lv g))];exact g
 by_cases hb:b=d
 ·subst hb
  rw[ay] at q;cases q
  exact new.mz (fun _ _ _ g=>g) (fun c g=>ho _ c g) ht
 ·rw[aq hb] at q
  exact(x b v q).mz (fun _ _ _ g=>g) (fun c g=>ho _ c g) ht
theorem Inv.swap (I:Inv X pZ σ H s) (e:H d=some u) (no: ∀ y,u≠.own y) (nt: ∀ xs,u≠.tup xs) (nb: ∀ ps,u≠.lP ps) (nf: ∀ ob v,X.H₀ d=some (.f7 ob v)→u'= .f7 ob v) (new:dn X.prog X.w H s.heap d u'):Inv X pZ σ (upd H d u') s:=by
 have nn: ∀ b,H b=none→upd H d u' b=none:=fun b g=>by
  rw[aq (fun z=>by subst z;rw[e] at g;cases g)];exact g
 refine⟨I.ok,I.os,I.bare,⟨I.base.keep,I.base.slot,fun b o q n hx=>nn b (I.base.free b o q n hx),I.base.there,fun b xs q=>?_,fun b ob v q=>?_,fun b ps q=>?_⟩,I.loc,I.cell,nn _ I.free,fun x c q=>nn _ (I.iT x c q),fun p hp=>?_,AK I.bS e no nt new,I.len⟩
 ·have g:=I.base.p8 b xs q
  rw[aq (fun z=>by subst z;rw[e] at g;exact nt xs (Lv g))];exact g
 ·by_cases hb:b=d
  ·subst hb
   rw[ay,nf ob v q]
  ·rw[aq hb];exact I.base.kc b ob v q
 ·obtain⟨more,g⟩:=I.base.oh b ps q
  exact⟨more,by rw[aq (fun z=>by subst z;rw[e] at g;exact nb _ (Lv g))];exact g⟩
 ·obtain⟨a1,a2,a3⟩:=I.pin p hp
  exact⟨a1,nn _ a2,a3⟩
def Gw (X:Cx) (d:Addr) (o:Obj) (ks:List (Key×V)) (u:HO):Prop:=(u= .dK ks∧∀ ob v,X.H₀ d≠some (.f7 ob v))∨u= .f7 o (.dK ks)
theorem Inv.Jz (I:Inv X pZ σ H s) (r:Rd H d (.dK ks)): ∃ o u,s.heap.get? d=some o∧H d=some u∧Gw X d o ks u∧Inv X pZ σ (upd H d (.f7 o (.dK ks))) s:=by
 rcases r with e|⟨o,e⟩
 ·obtain⟨_,_,vs,_,o,es,ep,g,_⟩:=I.bS d _ e
  refine⟨o,_,g,e,.inl ⟨rfl,fun ob v q=>?_⟩,I.swap e (fun _ z=>nomatch z) (fun _ z=>nomatch z) (fun _ z=>nomatch z) (fun ob v q=>?_) ⟨g,I.bS d _ e⟩⟩
  ·have:=I.base.kc d ob v q;rw[e] at this;cases this
  ·have:=I.base.kc d ob v q;rw[e] at this;cases this
 ·obtain⟨g,_⟩:=I.bS d _ e
  refine⟨o,_,g,e,.inr rfl,I.swap e (fun _ z=>nomatch z) (fun _ z=>nomatch z) (fun _ z=>nomatch z) (fun ob v q=>?_) (I.bS d _ e)⟩
  have:=I.base.kc d ob v q;rw[e] at this;exact Lv this
theorem Inv.qa (I:Inv X pZ σ H s) (e:H d=some (.f7 o (.dK ks))) (w:Gw X d o ks u):Inv X pZ σ (upd H d u) s:=by
 rcases w with⟨rfl,nf⟩|rfl
 ·exact I.swap e (fun _ z=>nomatch z) (fun _ z=>nomatch z) (fun _ z=>nomatch z) (fun ob v q=>absurd q (nf ob v)) (I.bS d _ e).2
 ·exact I.swap e (fun _ z=>nomatch z) (fun _ z=>nomatch z) (fun _ z=>nomatch z) (fun ob v q=>by have:=I.base.kc d ob v q;rw[e] at this;exact Lv this) (I.bS d _ e)
def p9 (X:Cx) (P:Hp→Prop) (H:Hp):Prop:= ∃ d o ks u,H d=some (.f7 o (.dK ks))∧Gw X d o ks u∧P (upd H d u)
def Ends.qa (X:Cx) (D:Ends):Ends:=⟨fun σ H=>p9 X (D.nx σ) H,fun v H=>p9 X (D.rt v) H,fun σ H=>p9 X (D.bk σ) H,fun σ H=>p9 X (D.ct σ) H⟩
theorem Cr {st:Stmt} {t:TS} (h:PS X st t):PS X st (fun D σ H=>t (D.qa X) σ H):=fun pZ s σ H D I q=>by
 refine cn (h pZ s σ H (D.qa X) I q) fun f s1 q1=>?_
 cases f with
 |next=>obtain⟨σ',H',I',d,o,ks,u,e,w,p⟩:=q1;exact⟨σ',_,I'.qa e w,p⟩
 |brk=>obtain⟨σ',H',I',d,o,ks,u,e,w,p⟩:=q1;exact⟨σ',_,I'.qa e w,p⟩
 |cont=>obtain⟨σ',H',I',d,o,ks,u,e,w,p⟩:=q1;exact⟨σ',_,I'.qa e w,p⟩
 |ret v=>obtain⟨x,σ',H',I',r,d,o,ks,u,e,w,p⟩:=q1;exact⟨x,σ',_,I'.qa e w,r,p⟩
theorem HF (h:(bz P w).is k u=true):RelV (kV k) u:=by
 rw[uN] at h
 rcases cg h with⟨i,t,rfl,rfl⟩|⟨x,t,rfl,rfl⟩
 ·exact⟨t,rfl⟩
 ·exact⟨t,rfl⟩
noncomputable def Ka (d:Addr) (o:Obj) (ks:List (Key×V)):It:=
 ⟨fun i H=>H d=some (.f7 o (.dK ks))∧i < ks.length,fun i H x H'=>H'=H∧∃ k,(ks.map (·.1))[i]?=some k∧x=kV k,fun i H=>H d=some (.f7 o (.dK ks))∧ks.length≤i⟩
theorem KV.at {kvs:List (Key×V)} {vs:List (Key×Value)} (r:KV kvs vs) (i:Nat) (h:i < kvs.length): ∃ k v,vs[i]?=some (k,v)∧(kvs.map (·.1))[i]?=some k:=by
 have hl:=r.length
 refine⟨(vs[i]'(by lia)).1,(vs[i]'(by lia)).2,by rw[Ku],?_⟩
 rw[KV.keys r,KY,Ku (by lia)]
 rfl
theorem wU {P:Program} {w:World} {K:Frag} {tg:Expr} {vs:List (Key×Value)} {es:Array DictEntry} {ep:Nat} (d it:Addr) (o:Obj) (ks:List (Key×V)) (r:KV ks vs) (ho:o.ExactDict∧o.data= .dict es ep∧KeysOf (bz P w) es∧Pairs (bz P w) es.toList vs∧(vs.map (·.1)).Nodup):
  Turn P w K tg (Ka d o ks) [it] it (fun i h=>h.IsKeyIter it d i vs.length ep) where
 mem:=by simp
 obj:=fun i h st b hb=>by
  have e:b=it:=by simpa using hb
  subst e
  obtain⟨o,e,c,d⟩:=st
  exact⟨o,e,fun v z=>by rw[d] at z;cases z⟩
 keep:=fun i h h' st k=>st.at fun o e=>k it (by simp) o e
 item:=by
  intro X hP hw hK hc i pZ s σ H E I hf st hg
  subst hP hw hK
  obtain⟨e,hi⟩:=hg
  obtain⟨g,_⟩:=I.bS d _ e
  obtain⟨f0,f1,f2,f3,f4,f5⟩:=hf it (by simp)
  obtain⟨k,v,hk,hk'⟩:=r.at i hi
  refine wpAny_pyNext_dict_item (knd:=bz X.prog X.w) st ⟨o,es,g,ho⟩ hk fun key h' ik st' sb=>?_
  have I1:Inv X pZ σ H {s with heap:=h'}:=I.turned (t':=s.toks) (fun b o hb e=>(sb.2 b hb).trans e) f0 f1 f3 f4 f5
  obtain⟨o',e',c',d'⟩:=id st'
  exact⟨key,rfl,pI (s:={s with heap:=h'}) e' c' d' (by decide) ⟨kV k,H,I1,HF ik,⟨rfl,k,hk',rfl⟩,st',fun b hb=>(hf b hb).1⟩⟩
 done:=by
  intro X hP hw hK hc i pZ s σ H E I hf st hg
  subst hP hw hK
  obtain⟨e,hi⟩:=hg
  obtain⟨g,_⟩:=I.bS d _ e
  obtain⟨f0,f1,f2,f3,f4,f5⟩:=hf it (by simp)
  have hl:=r.length
  exact wpAny_pyNext_dict_end (knd:=bz X.prog X.w) (I.ok.hd hc) st ⟨o,es,g,ho⟩ (List.getElem?_eq_none_iff.mpr (by lia)) fun h' eb=>⟨rfl,I.turned (t':=s.toks) (fun b o hb e=>eb b o hb e) f0 f1 f3 f4 f5⟩
 self:=fun _ _ _ _ _ st h=>wpAny_pyIter_keyiter st h
def AJ (X:Cx) (td:TE):TI:=fun σ H R=>td σ H fun x H1=> ∃ d ks,x= .ref d∧Rd H1 d (.dK ks)∧∀ o u,H1 d=some u→Gw X d o ks u→R (Ka d o ks) (upd H1 d (.f7 o (.dK ks)))
theorem Cw {l:Expr} {tg:Expr} {td:TE} (hl:PE X l td):PI X tg l (AJ X td):=by
 intro pZ s σ H R I h
 refine cn (hl pZ s σ H _ I h) fun v s1 ⟨x,H1,I1,r1,q1⟩=>?_
 obtain⟨a,ks,e,hq,q⟩:=q1
 subst e
 cases r1
 obtain⟨o,u,g,eu,wu,I2⟩:=I1.Jz hq
 obtain⟨_,hs,vs,r,ob,es,ep,g',rest⟩:=hq.ok I1.bS
 rw[g] at g';cases g'
 refine wpAny_pyIter_dict (knd:=bz X.prog X.w) (kvs:=vs) (ep:=ep) hs ⟨o,es,g,rest⟩ ?_
 refine⟨s1.heap.objs.size,[s1.heap.objs.size],_,_,_,rfl,I2.kept (t':=s1.toks) fun b o e=>Ky _ e,wU a _ o ks r rest,⟨_,KP _ rfl,rfl,rfl⟩,fun b hb=>?_,q o u eu wu⟩
 have e:b=s1.heap.objs.size:=by simpa using hb
 subst e
 exact I2.oN (KG _) (I2.bS.fresh (KG _))
end
section
variable {φ:eF} {G:Bg φ} {O0 O:Addr→Prop} {H0 H H':Hp} {σ:St} {ρ:ak} {n n':Nat}
theorem SI.Jh (s:SI G O0 H0 O H σ ρ n) (k:Nat) (x:Ext G.B H H') (ok:G.ok H' n') (hp:H p=none) (hp':H' p=some (.dK xs)) (r:bw G.B (fun q=>O q∨q=p) H' l xs):
  SI G O0 H0 (fun q=>O q∨q=p) H' (σ.set k (some (.ref p))) (ρ.set k (.cu l)) n':=by
 have nO: ¬ O p:=fun z=>by obtain⟨o,g⟩:=s.es.dm p z;rw[hp] at g;cases g
 have np: ¬ G.dD p:=fun z=>nO (s.es.pr p z)
 have h0:H0 p=none:=by
  cases e:H0 p with
  |none=>rfl
  |some o=>obtain⟨_,this⟩:=(s.ext p o (fun z=>np (z▸G.pB)) e).there;rw[hp] at this;cases this
 have hB:O G.B:=s.es.B
 have gw: ∀ q,(O q∨q=p)→O q∨H q=none:=fun q z=>by
  rcases z with z|z
  ·exact .inl z
  ·subst z;exact .inr hp
 have s':=s.es.ext x ok
 have es:ES G (fun q=>O q∨q=p) H' σ ρ n':=by
  refine⟨⟨s.es.er.1,fun i e he=>?_⟩,ok,fun q z=>.inl (s.es.pr q z),fun q z=>?_⟩
  ·have r1:=s.es.er.2 i e he
   cases e with
   |un=>trivial
   |val y=>obtain⟨v,hv,rr⟩:=r1;exact⟨v,hv,(rr.grow gw).ext (.inl hB) x⟩
   |own t=>
    obtain⟨q,ys,hv,hq,nq,hh,rr⟩:=r1
    exact⟨q,ys,hv,.inl hq,nq,x q _ (fun z=>nq (z▸G.pB)) hh,(rr.grow gw).ext (.inl hB) x⟩
   |cu t=>
    obtain⟨q,ys,hv,hq,nq,hh,rr⟩:=r1
    exact⟨q,ys,hv,.inl hq,nq,x q _ (fun z=>nq (z▸G.pB)) hh,⟨rr.1,fun i a b c d=>((rr.2 i a b c d).grow gw).ext (.inl hB) x⟩⟩
  ·rcases z with z|z
   ·exact s'.dm q z
   ·subst z;exact⟨_,hp'⟩
 have ow: ∀ i q,fo (ρ.set k (.cu l)) (σ.set k (some (.ref p))) i q→(i=k∧q=p)∨(i≠k∧fo ρ σ i q):=fun i q h=>by
  obtain⟨t,h1,h2,h3⟩:=h
  by_cases hk:k=i
  ·subst hk
   rw[List.getElem?_set] at h3
   split at h3
   ·split at h3
    ·cases h3;exact .inl ⟨rfl,rfl⟩
    ·cases h3
   ·rename_i hh;exact absurd rfl hh
  ·rw[Lb hk] at h1 h3
   exact .inr ⟨fun z=>hk z.symm,t,h1,h2,h3⟩
 refine⟨es.set k (t:=.cu l) ⟨p,xs,rfl,.inr rfl,np,hp',r⟩,s.p0,fun q z=>.inl (s.sub q z),s.ext.trans x,fun q z=>?_,s.d0,fun i q h=>?_,fun i j q h h'=>?_⟩
 ·rcases z with z|z
  ·exact s.gr q z
  ·subst z;exact .inr h0
 ·rcases ow i q h with⟨_,rfl⟩|⟨_,h⟩
  ·exact h0
  ·exact s.fr i q h
 ·rcases ow i q h with⟨rfl,rfl⟩|⟨n1,h1⟩
  ·rcases ow j q h' with⟨rfl,_⟩|⟨n2,h2⟩
   ·rfl
   ·obtain⟨_,_,o,g⟩:=fV s.es h2;rw[hp] at g;cases g
  ·rcases ow j q h' with⟨rfl,rfl⟩|⟨n2,h2⟩
   ·obtain⟨_,_,o,g⟩:=fV s.es h1;rw[hp] at g;cases g
   ·exact s.dj i j q h1 h2
theorem SI.putD (s:SI G O0 H0 O H σ ρ n) {k:Nat} {l l':List (Key×PV)} {p:Addr} {xs':List (Key×V)} (hk:ρ[k]?=some (.cu l)) (hp:σ[k]?=some (some (.ref p))) (r:bw G.B O H l' xs'):SI G O0 H0 O (upd H p (.dK xs')) σ (ρ.set k (.cu l')) n:=by
 have ho:fo ρ σ k p:=⟨_,hk,rfl,hp⟩
 obtain⟨hO,np,o,hh⟩:=fV s.es ho
 have Hr:=sa s.es ho hh
 have kp: ∀ q u,¬ O q→H q=some u→upd H p (.dK xs') q=some u∧¬ O q:=fun q u nq hq=>⟨by
  have dO:q≠p:=fun z=>nq (z▸hO)
  rw[aq dO];exact hq,nq⟩
 have ow: ∀ i q,fo (ρ.set k (.cu l')) σ i q→fo ρ σ i q:=fun i q h=>by
  obtain⟨t,h1,h2,h3⟩:=h
  by_cases e:k=i
  ·subst e;exact⟨_,hk,rfl,h3⟩
  ·rw[Lb e] at h1;exact⟨t,h1,h2,h3⟩
 refine⟨⟨⟨by simp[s.es.er.1],fun i e he=>?_⟩,G.keep H _ _ (fun q u hq hu=>by
   have dO:q≠p:=fun z=>by
    rcases hq with hq|hq
    ·exact np (z▸hq)
    ·rw[z,hh] at hu;cases hu;exact Hr hq
   rw[aq dO];exact hu) s.es.ok,s.es.pr,fun q hq=>?_⟩,s.p0,s.sub,fun q u nb hq=>?_,s.gr,s.d0,fun i q h=>s.fr i q (ow i q h),fun i j q h h'=>s.dj i j q (ow i q h) (ow j q h')⟩
 ·by_cases e1:k=i
  ·subst e1
   have hl:k < ρ.length:=(KD.mp hk).1
   rw[Ls hl] at he
   cases he
   rw[hp]
   exact⟨p,xs',rfl,hO,np,ay,r.keep kp⟩
  ·rw[Lb e1] at he
   have r1:=s.es.er.2 i e he
   cases e with
   |un=>trivial
   |val y=>obtain⟨v,hv,rr⟩:=r1;exact⟨v,hv,rr.keep kp⟩
   |own t=>
    obtain⟨q,ys,hv,hq,nq,hh',rr⟩:=r1
    have dO:q≠p:=fun z=>by
     subst z
     exact e1 (s.dj k i q ho ⟨_,he,rfl,eK s.es.er he hv⟩)
    exact⟨q,ys,hv,hq,nq,by rw[aq dO];exact hh',rr.keep kp⟩
   |cu t=>
    obtain⟨q,ys,hv,hq,nq,hh',rr⟩:=r1
    have dO:q≠p:=fun z=>by
     subst z
     exact e1 (s.dj k i q ho ⟨_,he,rfl,eK s.es.er he hv⟩)
    exact⟨q,ys,hv,hq,nq,by rw[aq dO];exact hh',rr.keep kp⟩
 ·by_cases e1:q=p
  ·subst e1;exact⟨_,ay⟩
  ·obtain⟨u,g⟩:=s.es.dm q hq;exact⟨u,by rw[aq e1];exact g⟩
 ·have dO:q≠p:=fun z=>by subst z;rw[s.fr k q ho] at hq;cases hq
  exact(s.ext q u nb hq).to fun v e=>.of (by rw[aq dO];exact e)
end
def jk (l:List (Key×PV)) (k:Key):Option PV:=(l.find? fun kv=>decide (kv.1=k)).map (·.2)
def ou (l:List (Key×PV)) (k:Key) (y:PV):List (Key×PV):=
 if(l.any fun kv=>decide (kv.1=k))=true then l.map (fun kv=>if kv.1=k then(kv.1,y) else kv) else l++[(k,y)]
def xI:Key→PV
 | .inl i=>.int i
 | .inr x=>.str x
def oI:PV→Option Key
 | .int i=>some (.inl i)
 | .str x=>some (.inr x)
 |_=>none
section
variable {B:Addr} {O:Addr→Prop} {H:Hp}
theorem bw.nil:bw B O H [] []:=⟨rfl,fun i y x a=>by simp at a⟩
theorem bw.cons {y:Key×PV} {x:Key×V} {l:List (Key×PV)} {ks:List (Key×V)} (e:y.1=x.1) (r:Rep B O H y.2 x.2) (t:bw B O H l ks):bw B O H (y::l) (x::ks):=by
 refine⟨by simp[e,t.1],fun i a b h1 h2=>?_⟩
 cases i with
 |zero=>simp at h1 h2;subst h1 h2;exact r
 |succ i=>simp at h1 h2;exact t.2 i a b h1 h2
theorem bw.inv (r:bw B O H l ks):(l=[]∧ks=[])∨∃ y l' x ks',l=y::l'∧ks=x::ks'∧y.1=x.1∧Rep B O H y.2 x.2∧bw B O H l' ks':=by
 cases l with
 |nil=>exact .inl ⟨rfl,by have:=r.1;simpa using this.symm⟩
 |cons y l=>
  cases ks with
  |nil=>have:=r.1;simp at this
  |cons x ks=>
   have h:=r.1
   simp only[KI,List.cons.injEq] at h
   exact .inr ⟨y,l,x,ks,rfl,rfl,h.1,r.2 0 y x rfl rfl,h.2,fun i a b h1 h2=>r.2 (i+1) a b (by simpa using h1) (by simpa using h2)⟩
theorem bw.val (k:Key): ∀ {l:List (Key×PV)} {ks:List (Key×V)},bw B O H l ks→(jk l k=none∧jS ks k=none)∨∃ y x,jk l k=some y∧jS ks k=some x∧Rep B O H y x
 |[],ks,r=>by
  rcases r.inv with⟨_,rfl⟩|⟨_,_,_,_,e,_⟩
  ·exact .inl ⟨rfl,rfl⟩
  ·cases e
 |y::l,ks,r=>by
  rcases r.inv with⟨e,_⟩|⟨y',l',x,ks',e,rfl,ek,ry,rt⟩
  ·cases e
  ·cases e
   by_cases c:y.1=k
   ·refine .inr ⟨y.2,x.2,by simp[jk,c],?_,ry⟩
    exact jQ (ek.symm.trans c)
   ·have c': ¬ x.1=k:=fun z=>c (ek.trans z)
    rw[jR c']
    have e1:jk (y::l) k=jk l k:=by simp[jk,List.find?_cons,c]
    rw[e1]
    exact bw.val k rt
theorem bw.any (k:Key) (r:bw B O H l ks):(l.any fun kv=>decide (kv.1=k))=ks.any fun kv=>decide (kv.1=k):=by
 have e1:(l.any fun kv=>decide (kv.1=k))=(l.map (·.1)).any fun z=>decide (z=k):=by rw[List.any_map];rfl
 have e2:(ks.any fun kv=>decide (kv.1=k))=(ks.map (·.1)).any fun z=>decide (z=k):=by rw[List.any_map];rfl
 rw[e1,e2,r.1]
theorem bw.snoc (rx:Rep B O H y x): ∀ {l:List (Key×PV)} {ks:List (Key×V)},bw B O H l ks→bw B O H (l++[(k,y)]) (ks++[(k,x)])
 |[],ks,r=>by
  rcases r.inv with⟨_,rfl⟩|⟨_,_,_,_,e,_⟩
  ·exact bw.cons (y:=(k,y)) (x:=(k,x)) rfl rx bw.nil
  ·cases e
 |z::l,ks,r=>by
  rcases r.inv with⟨e,_⟩|⟨y',l',x',ks',e,rfl,ek,ry,rt⟩
  ·cases e
  ·cases e
   exact bw.cons ek ry (bw.snoc rx rt)
theorem bw.uv (rx:Rep B O H y x): ∀ {l:List (Key×PV)} {ks:List (Key×V)},bw B O H l ks→bw B O H (l.map fun kv=>if kv.1=k then(kv.1,y) else kv) (ks.map fun kv=>if kv.1=k then(kv.1,x) else kv)
 |[],ks,r=>by
  rcases r.inv with⟨_,rfl⟩|⟨_,_,_,_,e,_⟩
  ·exact bw.nil
  ·cases e
 |z::l,ks,r=>by
  rcases r.inv with⟨e,_⟩|⟨y',l',x',ks',e,rfl,ek,ry,rt⟩
  ·cases e
  ·cases e
   rw[KI,KI]
   by_cases c:z.1=k
   ·rw[Lq c,Lq (ek.symm.trans c)]
    exact bw.cons ek rx (bw.uv rx rt)
   ·rw[Lr c,Lr (fun q=>c (ek.trans q))]
    exact bw.cons ek ry (bw.uv rx rt)
theorem bw.put {k:Key} {y:PV} {x:V} {l:List (Key×PV)} {ks:List (Key×V)} (r:bw B O H l ks) (rx:Rep B O H y x):bw B O H (ou l k y) (putK ks k x):=by
 unfold ou putK
 rw[r.any k]
 split
 ·exact r.uv rx
 ·exact r.snoc rx
theorem Ay (k:Key):Rep B O H (xI k) (kV k):=by
 cases k with
 |inl i=>exact .int i
 |inr x=>exact .str x
end
theorem m6 {φ:eF} {G:Bg φ} {O:Addr→Prop} {H:Hp} {y:PV} {x:V} {k:Key} (r:cQ G O H y x) (e:oI y=some k):x=kV k:=by
 cases y<;>first|cases e|skip
 ·rw[r.cZ];rfl
 ·rw[r.gv];rfl
theorem bw.len {B:Addr} {O:Addr→Prop} {H:Hp} {l:List (Key×PV)} {ks:List (Key×V)} (r:bw B O H l ks):l.length=ks.length:=by simpa using congrArg List.length r.1
section
variable {φ:eF} {X:Cx} {e o i a b:Expr} {pos:Pos} {md mk mv:ak→M PV}
def pS:PV→PV→M PV
 | .eW l,y=>(M.ft (oI y)).bind fun k=>M.ft (jk l k)
 |_,_=>.fail
theorem qG {α:Type} {o:Option α} {n:Nat} {R:α→Nat→Prop} (w:(M.ft o).wp n R): ∃ y,o=some y∧R y n:=by
 cases o with
 |none=>exact w.elim
 |some y=>exact⟨y,rfl,w⟩
theorem Dj (h:BE X e (DJ (qc φ md) (qc φ mk))):EV φ X e (ag pS md mk):=BE.mono h fun σ H Q cy=>by
 obtain⟨G,O,ρ,n,R,s,w,q⟩:=cy
 unfold ag at w
 rw[M.wZ] at w
 refine⟨G,O,ρ,n,_,s,w,fun y x H1 n1 e1 bP r1 w1=>?_⟩
 have s1:=s.ext e1 bP
 rw[M.wZ] at w1
 refine⟨G,O,ρ,n1,_,s1,w1,fun z x' H2 n2 e2 kP r2 w2=>?_⟩
 cases y<;>first|exact w2.elim|skip
 rename_i l
 unfold pS at w2
 rw[M.wZ] at w2
 obtain⟨k,ek,w2⟩:=qG w2
 obtain⟨v,ev,w2⟩:=qG w2
 obtain⟨p,ks,rfl,hd,rr⟩:=(r1.ext s.B e2).wx
 rcases rr.val k with⟨z1,_⟩|⟨v',xv,z1,z2,rv⟩
 ·rw[z1] at ev;cases ev
 ·rw[z1] at ev;cases ev
  exact⟨p,xv,rfl,.inl ⟨ks,k,hd,m6 r2 ek,z2.symm⟩,q _ _ _ _ (e1.trans e2) kP rv w2⟩
def nM (neg:Bool):PV→PV→M PV
 |y,.eW l=>(M.ft (oI y)).bind fun k=>.ret (.bl ((jk l k).isSome !=neg))
 |_,_=>.fail
theorem tj {neg:Bool} {σ:St} {H:Hp} {Q:VK} (h:rE φ (ag (nM neg) mk md) σ H Q):qc φ mk σ H fun y H1=>qc φ md σ H1 fun x H2=> ∃ a o,x= .ref a∧yg H2 a y o∧Q (.bl (o.isSome !=neg)) H2:=by
 obtain⟨G,O,ρ,n,R,s,w,q⟩:=h
 unfold ag at w
 rw[M.wZ] at w
 refine⟨G,O,ρ,n,_,s,w,fun z x' H1 n1 e1 bP r1 w1=>?_⟩
 have s1:=s.ext e1 bP
 rw[M.wZ] at w1
 refine⟨G,O,ρ,n1,_,s1,w1,fun y x H2 n2 e2 kP r2 w2=>?_⟩
 cases y<;>first|(simp only[nM] at w2;exact w2.elim)|skip
 rename_i l
 have w2':((M.ft (oI z)).bind fun k=>M.ret (.bl ((jk l k).isSome !=neg)):M PV).wp n2 R:=by cases z<;>exact w2
 rw[M.wZ] at w2'
 obtain⟨k,ek,w2'⟩:=qG w2'
 obtain⟨p,ks,rfl,hd,rr⟩:=r2.wx
 refine⟨p,jS ks k,rfl,.inl ⟨ks,k,hd,m6 (r1.ext s.B e2) ek,rfl⟩,q _ _ _ _ (e1.trans e2) kP (.bl _) ?_⟩
 have e3:(jS ks k).isSome=(jk l k).isSome:=by
  rcases rr.val k with⟨z1,z2⟩|⟨_,_,z1,z2,_⟩<;>simp[z1,z2]
 rw[e3]
 exact w2'
theorem FU (hu:X.A.units+1 < cLine) (hk:EB φ X a mk) (hd:EB φ X b md) (hm:behindInMarks .In b=false):EV φ X (.Compare a [.In] [b] pos) (ag (nM false) mk md):=
 BE.mono ⟨E6 (zQ hu hk.out hd.out) hm⟩ fun σ H Q h=>by
  obtain h:=tj h
  unfold Ew
  simpa only[Bool.bne_false] using h
theorem Ep (hu:X.A.units+1 < cLine) (hk:EB φ X a mk) (hd:EB φ X b md) (hm:behindInMarks .In b=false):TV φ X (.Compare a [.In] [b] pos) (bu (ag (nM false) mk md)):=
 BT.mono ⟨EY (zQ hu hk.out hd.out) hm⟩ (rA fun σ H Q h=>by
  obtain h:=tj h
  unfold Ew
  simpa only[Bool.bne_false] using h)
theorem Dv (hu:X.A.units+1 < cLine) (ho:EB φ X o md) (hi:EB φ X i mk) (hs:Gd i):EV φ X (.Subscript o i pos) (ag pS md mk):=Dj ⟨Cy hu ho.out hi.out hs⟩
end
section
variable {φ:eF} {X:Cx} {st:Stmt}
def zV (k:Nat):ak→M Fl:=fun ρ=>.ret (.nx (ρ.set k (.cu [])))
theorem vo (h:BS X st (om yN (iS k))):SV φ X st (zV k):=BS.mono h fun D σ H ⟨G,O0,H0,O,ρ,n,s,w⟩ p hp=>
 w _ _ _ (s.Jh k (Ext.new hp _) (Bg.new s.es.ok hp _) hp ay bw.nil)
noncomputable def lG (k:Nat) (mk mv:ak→M PV):ak→M Fl:=fun ρ=>(mv ρ).bind fun y=>match ρ[k]? with|some (.cu l)=>(mk ρ).bind fun z=>(M.ft (oI z)).bind fun key=>if l.length < 100000 then .ret (.nx (ρ.set k (.cu (ou l key y)))) else .fail|_=>.fail
theorem vn {k:Nat} {mk mv:ak→M PV} (h:BS X st (zd (kz k) (qc φ mk) (rE φ mv))):SV φ X st (lG k mk mv):=BS.mono h fun D σ H cy=>by
 obtain⟨G,O0,H0,O,ρ,n,s,w⟩:=cy
 unfold lG at w
 rw[M.wZ] at w
 refine⟨G,O,ρ,n,_,s.es,w,fun y x H1 n1 e1 bP r1 w1=>?_⟩
 have s1:=s.to e1 bP
 cases hk:ρ[k]? with
 |none=>simp only[hk] at w1;exact w1.elim
 |some t=>
  cases t with
  |cu l=>
   simp only[hk] at w1
   obtain⟨p,xs,hx,hO,np,hh,rr⟩:=s1.es.er.2 k _ hk
   have hs:=eK s.es.er hk hx
   have npB:p≠G.B:=fun z=>np (z▸G.pB)
   rw[M.wZ] at w1
   refine⟨_,hs,G,O,ρ,n1,_,s1.es,w1,fun i x2 H2 n2 e2 kP r2 w2=>?_⟩
   rw[M.wZ] at w2
   obtain⟨key,ek,w2⟩:=qG w2
   by_cases c:l.length < 100000
   ·rw[Lq c] at w2
    have s2:=s1.to e2 kP
    have hh2:H2 p=some (.dK xs):=e2 p _ npB hh
    refine⟨p,_,rfl,.inl ⟨xs,key,hh2,m6 r2 ek,?_,rfl⟩,w2 O _ _ (s2.putD hk hs ((rr.ext s.es.B e2).put (r1.ext s.es.B e2)))⟩
    rw[←rr.len,Lh];lia
   ·rw[Lr c] at w2;exact w2.elim
  |_=>simp only[hk] at w1;exact w1.elim
theorem wC (hu:X.A.units+1 < cLine) (ho:BE X o td) (hi:BE X i ty) (hv:BE X value tv) (hs:swapsWith value (some (.Subscript o i pos')) pos.line X.env=pure false:=by rfl):
  BS X (.Assign [.Subscript o i pos'] value pos) (zd td ty tv):=⟨Ct hu ho.out hi.out hv.out hs⟩
end
def DK (ks:List (Key×V)) (u:HO):Prop:=u= .dK ks∨∃ o,u= .f7 o (.dK ks)
theorem DK.rd (h:DK ks u) (e:H p=some u):Rd H p (.dK ks):=by
 rcases h with rfl|⟨o,rfl⟩
 ·exact .inl e
 ·exact .inr ⟨o,e⟩
theorem DK.Hr (h:DK ks u): ¬ Ge u:=by
 rcases h with rfl|⟨o,rfl⟩<;>exact id
section
variable {B:Addr} {O:Addr→Prop} {H:Hp} {p:Addr} {ks:List (Key×V)} {u u':HO}
theorem Rep.gR (r:Rep B O H y x) (e:H p=some u) (d:DK ks u) (d':DK ks u'):Rep B O (upd H p u') y x:=by
 have ne: ∀ q v,H q=some v→¬ DK ks v→upd H p u' q=some v:=fun q v g nd=>by
  rw[aq (fun z=>by subst z;rw[e] at g;cases g;exact nd d)];exact g
 induction r with
 |aU=>exact .aU
 |bl b=>exact .bl b
 |int i=>exact .int i
 |str x=>exact .str x
 |tup hO h hl hr ih=>exact .tup hO (ne _ _ h (fun z=>by rcases z with z|⟨_,z⟩<;>cases z)) hl ih
 |lst hO h hl hr ih=>exact .lst hO (ne _ _ h (fun z=>by rcases z with z|⟨_,z⟩<;>cases z)) hl ih
 |rF hO h=>
  obtain⟨o,h⟩:=h
  exact .rF hO ⟨o,ne _ _ h (fun z=>by rcases z with z|⟨_,z⟩<;>cases z)⟩
 | @eW q ks' l hO h hl hr ih=>
  by_cases c:q=p
  ·subst c
   obtain rfl:=zm h (d.rd e)
   exact .eW hO (d'.rd ay) hl ih
  ·refine .eW hO ?_ hl ih
   rcases h with h|⟨o,h⟩
   ·exact .inl (by rw[aq c];exact h)
   ·exact .inr ⟨o,by rw[aq c];exact h⟩
 |fY=>exact .fY
theorem j9 (h:q≠p):hide O0 O (upd H p u') q=hide O0 O H q:=by
 unfold hide
 by_cases c:O q∧¬ O0 q
 ·rw[Lq c,Lq c]
 ·rw[Lr c,Lr c,aq h]
end
section
variable {φ:eF} {G:Bg φ} {O0 O O':Addr→Prop} {H Ha Hx:Hp} {σ:St} {ρ:ak} {n:Nat} {p:Addr} {ks:List (Key×V)} {u u':HO}
theorem Ext.gR (nO: ¬ O p) (x:Ext G.B (hide O0 O Ha) Hx):Ext G.B (hide O0 O (upd Ha p u')) (upd Hx p u'):=fun q v nb h=>by
 by_cases c:q=p
 ·subst c
  rw[gZ (fun z=>nO z.1),ay] at h
  cases h
  exact .of ay
 ·rw[j9 c] at h
  exact(x q v nb h).to fun v e=>.of (by rw[aq c];exact e)
theorem Bg.gR (ok:G.ok Hx n) (np: ¬ G.dD p) (e:Hx p=some u) (d:DK ks u):G.ok (upd Hx p u') n:=G.keep Hx _ _ (fun q v hq hv=>by
 have dO:q≠p:=fun z=>by
  rcases hq with hq|hq
  ·exact np (z▸hq)
  ·rw[z,e] at hv;cases hv;exact d.Hr hq
 rw[aq dO];exact hv) ok
theorem SI.gR (s:SI G O0 (hide O0 O Ha) O' Hx σ ρ n) (nO: ¬ O p) (nO': ¬ O' p) (e:Hx p=some u) (d:DK ks u) (d':DK ks u'):SI G O0 (hide O0 O (upd Ha p u')) O' (upd Hx p u') σ ρ n:=by
 have np: ¬ G.dD p:=fun z=>nO' (s.es.pr p z)
 have ne: ∀ q,O' q→q≠p:=fun q h z=>nO' (z▸h)
 refine⟨⟨⟨s.es.er.1,fun i t ht=>?_⟩,Bg.gR s.es.ok np e d,s.es.pr,fun q hq=>?_⟩,s.p0,s.sub,Ext.gR nO s.ext,fun q hq=>?_,fun q hq=>?_,fun i q h=>?_,s.dj⟩
 ·have r1:=s.es.er.2 i t ht
  cases t with
  |un=>trivial
  |val y=>obtain⟨v,hv,rr⟩:=r1;exact⟨v,hv,rr.gR e d d'⟩
  |own t=>
   obtain⟨q,ys,hv,hq,nq,hh,rr⟩:=r1
   exact⟨q,ys,hv,hq,nq,by rw[aq (ne q hq)];exact hh,rr.1,fun i a b c f=>(rr.2 i a b c f).gR e d d'⟩
  |cu t=>
   obtain⟨q,ys,hv,hq,nq,hh,rr⟩:=r1
   exact⟨q,ys,hv,hq,nq,by rw[aq (ne q hq)];exact hh,rr.1,fun i a b c f=>(rr.2 i a b c f).gR e d d'⟩
 ·obtain⟨v,g⟩:=s.es.dm q hq
  exact⟨v,by rw[aq (ne q hq)];exact g⟩
 ·rw[j9 (ne q hq)];exact s.gr q hq
 ·rw[j9 (ne q (s.sub q hq))];exact s.d0 q hq
 ·rw[j9 (ne q (fV s.es h).1)];exact s.fr i q h
end
section
variable {φ:eF} {X:Cx} {st:Stmt}
def sL:PV→M (List PV)
 | .eW l=>.ret (l.map fun kv=>xI kv.1)
 |_=>.fail
theorem Em (e:H p=some u):upd H p u=H:=by
 funext q
 by_cases c:q=p
 ·subst c;rw[ay,e]
 ·rw[aq c]
theorem Gw.dk (h:Gw X d o ks u):DK ks u:=by
 rcases h with⟨rfl,_⟩|rfl
 ·exact .inl rfl
 ·exact .inr ⟨o,rfl⟩
theorem B2 (h:BS X st (fun D σ H=>yM (AJ X (rE φ mi)) (IY φ bd) (Es φ mb) (D.qa X) σ H)):SV φ X st (bx (fun ρ=>(mi ρ).bind sL) bd mb):=BS.mono h fun D σ H cy=>by
 obtain⟨G,O0,H0,O,ρ,n,s,w⟩:=cy
 unfold bx at w
 rw[M.bZ,M.wZ] at w
 refine⟨G,O,ρ,n,_,s.es,w,fun y x H1 n1 e1 bP r1 w1=>?_⟩
 cases y<;>first|exact w1.elim|skip
 rename_i l0
 obtain⟨l,hl⟩: ∃ l,l=l0.map fun kv=>xI kv.1:=⟨_,rfl⟩
 replace w1:(dE bd mb l ρ).wp n1 (fun f n'=>oU G O0 H0 D n' f):=by rw[hl];exact w1
 cases r1 with
 | @eW p ks _ hO hd hk hr=>
 refine⟨p,ks,rfl,hd,fun o u eu wu=>?_⟩
 have s1:=s.to e1 bP
 have sf:SI G O0 (hide O0 O (upd H1 p (.f7 o (.dK ks)))) O (upd H1 p (.f7 o (.dK ks))) σ ρ n1:=s1.now.gR hO hO eu wu.dk (.inr ⟨o,rfl⟩)
 have nB:p≠G.B:=fun z=>hO (z▸s.es.B)
 have hlen:l.length=ks.length:=by rw[hl,Kx];simpa using congrArg List.length hk
 have hid: ∀ q:Addr,hide O0 O (upd (upd H1 p (.f7 o (.dK ks))) p u) q=hide O0 O H1 q:=fun q=>by rw[BU,Em eu]
 have hid':hide O0 O (upd (upd H1 p (.f7 o (.dK ks))) p u)=hide O0 O H1:=funext hid
 have hpf:hide O0 O (upd H1 p (.f7 o (.dK ks))) p=some (.f7 o (.dK ks)):=by rw[gZ (fun z=>hO z.1)];exact ay
 have at_: ∀ {H3:Hp},Ext G.B (hide O0 O (upd H1 p (.f7 o (.dK ks)))) H3→H3 p=some (.f7 o (.dK ks)):=fun x=>x p _ nB hpf
 have nO': ∀ {O':Addr→Prop} {H':Hp} {σ':St} {ρ':ak} {n':Nat},SI G O0 (hide O0 O (upd H1 p (.f7 o (.dK ks)))) O' H' σ' ρ' n'→¬ O' p:=fun x z=>by
  rcases x.gr p z with g|g
  ·exact hO (s.sub p g)
  ·rw[hpf] at g;cases g
 have thw: ∀ {O':Addr→Prop} {H':Hp} {σ':St} {ρ':ak} {n':Nat},SI G O0 (hide O0 O (upd H1 p (.f7 o (.dK ks)))) O' H' σ' ρ' n'→SI G O0 H0 O' (upd H' p u) σ' ρ' n':=fun x=>by
  have q:=x.gR hO (nO' x) (at_ x.ext) (.inr ⟨o,rfl⟩) wu.dk
  rw[hid'] at q
  exact s1.back q
 refine⟨fun i m σ' H'=>m=l.length - i∧i≤l.length∧∃ (O':Addr→Prop) (ρ':ak) (n':Nat),SI G O0 (hide O0 O (upd H1 p (.f7 o (.dK ks)))) O' H' σ' ρ' n'∧(dE bd mb (l.drop i) ρ').wp n' (fun f n'=>oU G O0 H0 D n' f),
  ⟨l.length,by simp,K6 _,O,ρ,n1,sf,by simpa using w1⟩,?_⟩
 rintro i m σ' H' ⟨rfl,hi,O',ρ',n',s',w'⟩
 have hp':=at_ s'.ext
 by_cases hV:i < l.length
 ·have nk:l.drop i=l[i]::l.drop (i+1):=List.drop_eq_getElem_cons hV
  rw[nk] at w'
  unfold dE at w'
  refine .inr ⟨⟨hp',by lia⟩,fun σ2 H2=> ∃ (O':Addr→Prop) (ρ':ak) (n':Nat),SI G O0 (hide O0 O (upd H1 p (.f7 o (.dK ks)))) O' H2 σ2 ρ' n'∧(dE bd mb (l.drop (i+1)) ρ').wp n' (fun f n'=>oU G O0 H0 D n' f),fun σ2 H2 hh=>⟨l.length - (i+1),by lia,rfl,hV,hh⟩,fun x H2 yl=>?_⟩
  obtain⟨eH,k,ek,rfl⟩:=yl
  subst eH
  have elk:l[i]=xI k:=by
   have g:l[i]?=some (xI k):=by
    have g0:(l0.map fun x=>x.1)[i]?=some k:=by rw[hk];exact ek
    rw[KY] at g0
    rw[hl,KY]
    cases c:l0[i]? with
    |none=>rw[c] at g0;cases g0
    |some z=>
     rw[c] at g0
     have g1:z.1=k:=Lv g0
     show some (xI z.1)=_
     rw[g1]
   rw[Ku hV] at g
   exact Lv g
  rw[M.wZ] at w'
  refine⟨G,O0,_,O',ρ',n',_,l[i],s',by rw[elk];exact Ay k,w',fun σ2 ρ2 n2 s2 w2=>?_⟩
  rw[M.wZ] at w2
  refine⟨G,O0,_,O',ρ2,n2,s2,M.wp_mono w2 fun f n3 w3=>?_⟩
  cases f with
  |nx ρ3=>exact fun O3 σ3 H3 s3=>⟨O3,ρ3,n3,s3,w3⟩
  |ct ρ3=>exact fun O3 σ3 H3 s3=>⟨O3,ρ3,n3,s3,w3⟩
  |bk ρ3=>exact fun O3 σ3 H3 s3=>⟨p,o,ks,u,at_ s3.ext,wu,w3 O3 σ3 _ (thw s3)⟩
  |rt y=>exact fun x3 H3 e3 ok3 r3=>⟨p,o,ks,u,at_ e3,wu,w3 x3 _ (by
    have q:=Ext.gR (u':=u) hO e3
    rw[hid'] at q
    exact s1.base.trans q) (Bg.gR ok3 (fun z=>hO (s.es.pr p z)) (at_ e3) (.inr ⟨o,rfl⟩)) (r3.gR (at_ e3) (.inr ⟨o,rfl⟩) wu.dk)⟩
 ·have e:i=l.length:=by lia
  subst e
  rw[List.drop_length] at w'
  exact .inl ⟨⟨hp',by lia⟩,p,o,ks,u,hp',wu,w' O' σ' _ (thw s')⟩
theorem Dt (hp:PassesOwn (model X.prog X.w) X.A X.env X.xe) (hc:X.calm=true) (hi:BE X iter td) (hg:BG X tg g) (hb:BC X body tb)
  (hs: ∀ x,foldedSetIterable iter X.env x=pure x:=by intro _;rfl):BS X (.For tg iter body [] pos) (fun D σ H=>yM (AJ X td) g tb (D.qa X) σ H):=⟨Cr (qt hp hc (Cw hi.out) hg.out hb.out hs)⟩
end
section
open AutoSeq1 (wpAny_loadPart')
noncomputable def JT (K:Frag) (a:Addr):It:=
 ⟨fun i H=> ∃ xs x,fu K H a xs∧xs[i]?=some x,fun i H y H'=> ∃ T,y= .ref T∧H T=none∧∀ xs x,fu K H a xs→xs[i]?=some x→H'=upd H T (.tup [.int i,x]),fun i H=> ∃ xs,fu K H a xs∧xs.length≤i⟩
end
section
variable {φ:eF}
def Eb (l:List PV):List PV:=l.mapIdx fun i x=>PV.tup [.int i,x]
inductive JU (K:Frag) (G:Bg φ) (O:Addr→Prop) (H:Hp):List PV→It→Prop where
 |Kt {a:Addr} {xs:List V} {l:List PV} (na: ¬ O a) (ha:H a=some (.lst xs)) (ra:aR G.B O H l xs):JU K G O H (Eb l) (Eg K a)
 |Ks {a:Addr} {xs:List V} {l:List PV} (na: ¬ O a) (ha:H a=some (.tup xs)) (ra:aR G.B O H l xs):JU K G O H (Eb l) (JT K a)
 |Kq {a b:Addr} {xs ys:List V} {l1 l2:List PV} (na: ¬ O a) (ha:H a=some (.lst xs)) (ra:aR G.B O H l1 xs) (nb: ¬ O b) (hb:H b=some (.lst ys)) (rb:aR G.B O H l2 ys):JU K G O H (GA l1 l2) (JS a b)
end
theorem Ap {tabs:List (Addr×Str)} {P:Program} {w:World} {K:Frag} {mg:Str→Option Value} {base:Heap} {x qual:Str} {st s0:Stmt} {f:Addr} {fd:FuncData} {N:List Str} {k b:Nat} {m:ak→M Fl} {rest:List Stmt} {sc:Scope} {c tb:Addr} (F:DD K x qual st f fd c tb) (S:aX N ["_law_script"] (ah st)) (eb:av st=s0::rest) (es:ah st=sc)
  (h0: ∀ (A:Around) (outer:List Env) (s:Shared) (H:Hp) (E:XK),eN k (A.deeper (envOfC qual sc s.heap.objs.size f (.ref c)))→BS (jr ed P w K mg base N qual sc f (.ref c) A outer s H E).tZ s0 (om (rN (qe K) [] E0 (iI (kz 0) rL)) (iS b)))
  (hb: ∀ (A:Around) (outer:List Env) (s:Shared) (H:Hp) (E:XK),eN k (A.deeper (envOfC qual sc s.heap.objs.size f (.ref c)))→FZ (uS K tabs) (jr ed P w K mg base N qual sc f (.ref c) A outer s H E).tZ rest m)
  (hm:(m ((List.replicate N.length un).set b (.val .fY))).wp 1000000 fun f _=>f= .rt (.bl true)) (h1:0 < N.length) (hb1:b < N.length) (hb0:b≠0):
  bD P w K mg base ed (k+1) f fd ["_law_script"] (kF K (tabs.map (·.1))):=by
 subst es
 refine F.ok S (fun vs H Q E h=>by obtain⟨a,ns,rfl,_⟩:=h;rfl) (fun A outer s H vs Q E hr h=>?_)
 rw[eb]
 refine⟨_,dC (h0 A outer s H E hr).out (hb A outer s H E hr).out,?_⟩
 obtain⟨a,ns,rfl,hS,h63,ht,q⟩:=h
 refine⟨.ref a,?_,a,ns,rfl,hS,h63,fun b' H' sm fY=>?_⟩
 ·exact kE (N:=N) rfl
 ·have hl:(start N [V.ref a]).length=N.length:=by
   unfold start
   simp only[K4,Kx,List.length_replicate,KO,List.length_nil]
   lia
  have oE:(o6 K tabs b').ok H' 1000000:=⟨⟨0,by lia,fY⟩,fun e he=>⟨#[],sm _ _ (ht _ (K9 he)),trivial,fun pos cv z=>nomatch z⟩⟩
  have no: ∀ i p,¬ fo ((List.replicate N.length un).set b (.val .fY)) ((start N [V.ref a]).set b (some (V.ref b'))) i p:=fun i p hh=>by
   obtain⟨t,g1,g2,_⟩:=hh
   by_cases e:b=i
   ·subst e
    rw[Ls (by simpa using hb1)] at g1
    cases g1;cases g2
   ·rw[Lb e,List.getElem?_replicate] at g1
    split at g1
    ·cases g1;cases g2
    ·cases g1
  refine⟨o6 K tabs b',(o6 K tabs b').dD,H',(o6 K tabs b').dD,_,1000000,⟨⟨⟨by simp[hl],fun i e he=>?_⟩,oE,fun p z=>z,fun p z=>(o6 K tabs b').A4 H' 1000000 p oE z⟩,fun p z=>z,fun p z=>z,Ext.refl _ _,fun p z=>.inl z,fun p z=>(o6 K tabs b').A4 H' 1000000 p oE z,fun i p hh=>(no i p hh).elim,fun i j p hh=>(no i p hh).elim⟩,M.wp_mono hm fun f n' hf=>?_⟩
  ·by_cases e1:b=i
   ·subst e1
    rw[Ls (by simpa using hb1)] at he
    cases he
    rw[Ls (by lia)]
    exact⟨_,rfl,.fY⟩
   ·rw[Lb e1,List.getElem?_replicate] at he
    split at he
    ·cases he;trivial
    ·cases he
  ·subst hf
   intro x' H2 _ _ r2
   cases r2
   exact q H2
abbrev fZ (xs:Array Nat):Prop:=xs.toList.Pairwise (· < ·)
theorem fZ.lt (h:fZ xs) {i j:Nat} (hij:i < j) (ha:xs[i]?=some a) (hb:xs[j]?=some b):a < b:=by
 obtain⟨hi,rfl⟩:=Array.getElem?_eq_some_iff.mp ha
 obtain⟨hj,rfl⟩:=Array.getElem?_eq_some_iff.mp hb
 have:=List.pairwise_iff_getElem.mp h i j (by simpa using hi) (by simpa using hj) hij
 simpa using this
theorem nV {j:Nat} (h:fZ xs): ∀ (fuel lo hi:Nat),lo≤hi→hi≤xs.size→hi - lo≤fuel→(∀ i a,i < lo→xs[i]?=some a→a < j)→(∀ i a,hi≤i→xs[i]?=some a→j≤a)→
  SetTable.below.go xs j fuel lo hi≤xs.size∧(∀ i a,i < SetTable.below.go xs j fuel lo hi→xs[i]?=some a→a < j)∧∀ i a,SetTable.below.go xs j fuel lo hi≤i→xs[i]?=some a→j≤a
 |0,lo,hi,h1,h2,h3,h4,h5=>by
  have:lo=hi:=by lia
  subst this
  exact⟨h2,h4,h5⟩
 |fuel+1,lo,hi,h1,h2,h3,h4,h5=>by
  unfold SetTable.below.go
  by_cases c:lo < hi
  ·rw[Lq c]
   have hm:(lo+hi) / 2 < hi:=by lia
   have hm2:lo≤(lo+hi) / 2:=by lia
   have e:xs[(lo+hi) / 2]?=some xs[(lo+hi) / 2]:=K5 (by lia)
   have eg:xs.getD ((lo+hi) / 2) j=xs[(lo+hi) / 2]:=by
    rw[K0,e]
    rfl
   dsimp only
   rw[eg]
   by_cases d:xs[(lo+hi) / 2] < j
   ·rw[Lq d]
    refine nV h fuel _ hi (by lia) h2 (by lia) (fun i a hi' ha=>?_) h5
    by_cases ei:i=(lo+hi) / 2
    ·subst ei;rw[e] at ha;cases ha;exact d
    ·exact Nat.lt_trans (h.lt (by lia) ha e) d
   ·rw[Lr d]
    refine nV h fuel lo _ hm2 (by lia) (by lia) h4 (fun i a hi' ha=>?_)
    by_cases ei:i=(lo+hi) / 2
    ·subst ei;rw[e] at ha;cases ha;lia
    ·have:=h.lt (by lia:(lo+hi) / 2 < i) e ha
     lia
  ·rw[Lr c]
   have:lo=hi:=by lia
   subst this
   exact⟨h2,h4,h5⟩
theorem tK (h:fZ xs) (j:Nat):SetTable.below xs j≤xs.size∧(∀ i a,i < SetTable.below xs j→xs[i]?=some a→a < j)∧∀ i a,SetTable.below xs j≤i→xs[i]?=some a→j≤a:=
 nV h _ 0 _ (K6 _) (KG _) (by lia) (fun i a hi=>absurd hi (Nat.not_lt_zero _)) fun i a hi ha=>by
  rw[Array.getElem?_eq_none hi] at ha;cases ha
theorem nW (h:fZ xs) (hp:p≤xs.size) (h1: ∀ i a,i < p→xs[i]?=some a→a < j) (h2: ∀ i a,p≤i→xs[i]?=some a→j≤a):SetTable.below xs j=p:=by
 obtain⟨b0,b1,b2⟩:=tK h j
 rcases Nat.lt_trichotomy (SetTable.below xs j) p with c|c|c
 ·have e:xs[SetTable.below xs j]?=some xs[SetTable.below xs j]:=K5 (by lia)
  have:=h1 _ _ c e
  have:=b2 _ _ (KG _) e
  lia
 ·exact c
 ·have e:xs[p]?=some xs[p]:=K5 (by lia)
  have:=b1 _ _ c e
  have:=h2 _ _ (KG _) e
  lia
theorem sP (xs:Array α) (p:Nat) (x:α):(SetTable.insertAt xs p x).toList=xs.toList.take p++x::xs.toList.drop p:=by
 unfold SetTable.insertAt
 simp[Array.toList_append,Array.toList_push]
 exact List.take_of_length_le (by simp)
theorem zx {t:SetTable} {j:Nat} (h:fZ t.place) (hj:j∉t.place.toList):fZ (t.put j).1.place:=by
 obtain⟨b0,b1,b2⟩:=tK h j
 show (SetTable.insertAt t.place (SetTable.below t.place j) j).toList.Pairwise _
 rw[sP,List.pairwise_append]
 have tk: ∀ a∈t.place.toList.take (SetTable.below t.place j),a < j:=fun a ha=>by
  obtain⟨i,hi,e⟩:=List.getElem_of_mem ha
  have hi':i < SetTable.below t.place j:=by simp at hi;lia
  refine b1 i a hi' ?_
  rw[←e]
  simp at hi ⊢
 have dr: ∀ a∈t.place.toList.drop (SetTable.below t.place j),j < a:=fun a ha=>by
  obtain⟨i,hi,e⟩:=List.getElem_of_mem ha
  have h1:t.place[SetTable.below t.place j+i]?=some a:=by
   rw[←e]
   simp at hi ⊢
  have h2:=b2 _ a (by lia) h1
  have h3:a∈t.place.toList:=List.mem_of_mem_drop ha
  rcases Nat.lt_or_eq_of_le h2 with c|c
  ·exact c
  ·exact absurd (c▸h3) hj
 refine⟨h.sublist (List.take_sublist _ _),Lu.mpr ⟨dr,h.sublist (List.drop_sublist _ _)⟩,fun a ha b hb=>?_⟩
 rcases KJ.mp hb with rfl|hb
 ·exact tk a ha
 ·exact Nat.lt_trans (tk a ha) (dr b hb)
theorem vy {t:SetTable} (h:fZ t.place) (hs: ∀ i,t.slot j≠.live i):j∉t.place.toList:=fun hj=>by
 obtain⟨i,hi,e⟩:=List.getElem_of_mem hj
 have e':t.place[i]?=some j:=by
  rw[←e]
  simp at hi ⊢
 have hb:SetTable.below t.place j=i:=nW h (by simp at hi;lia) (fun k a hk ha=>h.lt hk ha e') fun k a hk ha=>by
  rcases Nat.lt_or_eq_of_le hk with c|c
  ·exact Nat.le_of_lt (h.lt c e' ha)
  ·subst c;rw[e'] at ha;cases ha;exact KG _
 refine hs i ?_
 unfold SetTable.slot
 rw[hb]
 dsimp only
 rw[e']
 simp
theorem mL: ∀ (fuel:Nat) (p:SetTable.Probe) (j:Nat) (d:Option Nat),(∀ k,p.dummy=some k→t.slot k= .dummy)→SetTable.probe.go t hashAt h fuel p=some (.empty j d)→t.slot j= .empty∧∀ k,d=some k→t.slot k= .dummy
 |0,p,j,d,hd,e=>by unfold SetTable.probe.go at e;cases e
 |fuel+1,p,j,d,hd,e=>by
  have ad: ∀ q:SetTable.Probe,(t.advance q).dummy=q.dummy:=fun q=>by
   unfold SetTable.advance
   split<;>rfl
  unfold SetTable.probe.go at e
  split at e
  ·rename_i c
   cases e
   exact⟨c,hd⟩
  ·rename_i c
   refine mL fuel _ j d (fun k hk=>?_) e
   rw[ad] at hk
   cases hk
   exact c
  ·rename_i i c
   split at e
   ·cases e
   ·refine mL fuel _ j d (fun k hk=>?_) e
    rw[ad] at hk
    exact hd k hk
theorem Dh {t:SetTable} {j:Nat} {b:Bool} (hr:fZ t.place) (e:t.freeSlot h=some (j,b)):j∉t.place.toList:=by
 unfold SetTable.freeSlot at e
 split at e
 ·rename_i j' d c
  cases e
  obtain⟨h1,h2⟩:=mL _ _ _ _ (fun k hk=>by cases hk) c
  cases d with
  |none=>exact vy hr fun i z=>by have z':t.slot j'= .live i:=z;rw[h1] at z';cases z'
  |some k=>exact vy hr fun i z=>by have z':t.slot k= .live i:=z;rw[h2 k rfl] at z';cases z'
 ·cases e
theorem ib (n:Nat):fZ (Array.range n):=by
 show (Array.range n).toList.Pairwise _
 rw[Array.toList_range]
 exact List.pairwise_lt_range
theorem um {t:SetTable} (h:fZ t.place):fZ (t.orStandIn n).place:=by
 unfold SetTable.orStandIn
 split
 ·exact h
 ·exact ib n
theorem An {t:SetTable} (hr:fZ t.place):fZ (layNew t es h x).2.1.place:=by
 unfold layNew
 split
 ·rename_i slot wd e
  exact um (zx hr (Dh hr e))
 ·exact ib _
theorem uw (t:SetTable) (es:Array (Int×Value)) (n:Nat):fZ (relayAll t es n).2.1.place:=by
 unfold relayAll
 split
 ·rename_i t' order e
  have r':fZ t'.place:=by
   unfold SetTable.relaid SetTable.laid at e
   cases hl:SetTable.layClean (SetTable.sizeAbove n - 1) (es.map (·.1)) with
   |none=>rw[hl] at e;cases e
   |some ow=>
    rw[hl] at e
    cases e
    show List.Pairwise _ _
    rw[List.pairwise_map,List.pairwise_filterMap]
    refine List.pairwise_lt_range.imp fun {a b} hab p hp q hq=>?_
    obtain⟨_,_,rfl⟩:=K2.mp hp
    obtain⟨_,_,rfl⟩:=K2.mp hq
    exact hab
  dsimp only
  split
  ·exact r'
  ·exact ib _
 ·exact ib _
def lq (h:Heap) (a:Addr) (b:Bool):Prop:= ∃ o es ep t,h.get? a=some o∧o.data= .set es ep t∧t.led=b∧fZ t.place
theorem lq.at (x:lq h a b) (k: ∀ o,h.get? a=some o→h'.get? a=some o):lq h' a b:=by
 obtain⟨o,es,ep,t,ho,r⟩:=x
 exact⟨o,es,ep,t,k o ho,r⟩
section
variable {prog:Program} {w:World} {A:Around} {E:Value→Shared→Prop} {s:Shared} {K:Type} [DecidableEq K] {knd:PySem.KeyKind prog w K}
theorem oX {h:Heap} {a:Addr} {es':Array (Int×Value)} {t':SetTable} {S':K→Bool} {b:Bool} (ho:h.get? a=some o) (hex:o.ExactSet) (hd:o.data= .set es ep t) (hel:PySem.ElemsOf knd es'.toList) (hmem: ∀ k,S' k=true↔∃ e∈es'.toList,knd.is k e.2=true) (hb:es'.size < PySem.scanBound) (hf:t'.fits es'.size=true) (hl:t'.led=b) (hp:fZ t'.place):
  (h.update a (Obj.putSet es' t')).SetOf knd a S' es'.size∧lq (h.update a (Obj.putSet es' t')) a b:=by
 obtain⟨h1,h2⟩:=PySem.SetOf_store (knd:=knd) ho hex hd hel hmem hb hf
 exact⟨h2,_,es',ep+1,t',h1,rfl,hl,hp⟩
theorem DA {Q:Bool→Shared→Prop} (oM:knd.is k x=true) (hsc:x.scannable=true) (hS:s.heap.SetOf knd a S n) (hL:lq s.heap a b) (hroom:n+1 < PySem.scanBound)
  (h: ∀ h',Heap.SameBut a s.heap h'→h'.SetOf knd a (fun k'=>S k'||decide (k'=k)) (if S k then n else n+1)→lq h' a b→Q (!S k) {s with heap:=h'}):
  wpAny (model prog w) A (setAddHashed a x (knd.hash k)) Q E s:=by
 have hS0:=hS
 obtain⟨o,es,ep,t,ho,hex,hd,hel,hmem,hb,hf,hn⟩:=hS
 obtain⟨o',es',ep',t',ho',hd',led,pl⟩:=id hL
 rw[ho] at ho'
 cases ho'
 rw[hd] at hd'
 cases hd'
 unfold setAddHashed setAddHashedIn
 refine wpAny_holding (Kv (PySem.wpAny_setState_of ho hd hf ?_))
 dsimp only
 rw[PySem.byScan_of hsc hb hel]
 simp only[↓reduceIte]
 unfold setAddByScan
 refine Kv (Kv (wpAny_rule (Kv (PySem.wpAny_setScan_of oM ho hd hf hel ?_))))
 cases hr:List.findIdx? (fun e=>knd.is k e.2) es.toList with
 |some j=>
  dsimp only
  obtain⟨hj,hpj,_⟩:=List.findIdx?_eq_some_iff_getElem.mp hr
  have hSk:S k=true:=(hmem k).mpr ⟨_,Ll hj,hpj⟩
  refine KA (KA ?_)
  have q:=h s.heap (Heap.SameBut.refl a s.heap)
  rw[hSk] at q
  refine q ⟨o,es,ep,t,ho,hex,hd,hel,fun k'=>?_,hb,hf,hn⟩ hL
  rw[Bool.or_eq_true,decide_eq_true_eq,←hmem k']
  exact⟨fun z=>z.elim id fun e=>e▸hSk,.inl⟩
 |none=>
  dsimp only
  have hSk:S k=false:=by
   cases hk:S k with
   |false=>rfl
   |true=>
    obtain⟨e,he,hp⟩:=(hmem k).mp hk
    have z:=List.findIdx?_eq_none_iff.mp hr e he
    rw[hp] at z
    cases z
  have gw: ∀ (g:Bool) {s₁:Shared} {Q':Unit→Shared→Prop},Q' () s₁→wpAny (model prog w) A (match g with|true=>rule "set.scan.the-table-gave-way"|false=>pure ()) Q' E s₁:=fun g s₁ Q' hq=>by
   cases g
   ·exact KA hq
   ·exact wpAny_rule hq
  have l1:=layNew_perm t es (knd.hash k) x
  have l2:=layNew_fits t es (knd.hash k) x
  have l3:=C7 t es (knd.hash k) x
  have l4:=An (es:=es) (h:=knd.hash k) (x:=x) pl
  generalize layNew t es (knd.hash k) x=L at l1 l2 l3 l4 ⊢
  obtain⟨es1,t1,wasDummy,gave⟩:=L
  dsimp only at l1 l2 l3 l4 ⊢
  rw[Array.toList_push] at l1
  have z1:es1.size=n+1:=by
   rw[←Le,l1.length_eq,K4,Le,hn]
   rfl
  have hel1:PySem.ElemsOf knd es1.toList:=(hel.push oM hsc).perm l1
  have hmem1:=PySem.mem_push_iff oM hmem l1
  have q: ∀ h',Heap.SameBut a s.heap h'→h'.SetOf knd a (fun k'=>S k'||decide (k'=k)) (n+1)→lq h' a b→Q true {s with heap:=h'}:=fun h' c1 c2 c3=>by
   have q:=h h' c1
   rw[hSk] at q
   exact q c2 c3
  refine Kv (gw _ ?_)
  have fin: ∀ t2:SetTable,t2.fits es1.size=true→t2.led=b→fZ t2.place→wpAny (model prog w) A (do
    storeSet a es1 t2
    if(!wasDummy&&t2.tooFull)=true then do
      (match (relayAll t2 es1 (SetTable.grown es1.size)).2.2 with|true=>rule "set.scan.the-table-gave-way"|false=>pure ())
      storeSet a (relayAll t2 es1 (SetTable.grown es1.size)).1 (relayAll t2 es1 (SetTable.grown es1.size)).2.1
      pure (some true)
     else pure (some true)) (fun r s'=>wpAny (model prog w) A (match r with|some added=>pure added|none=>setAddHashedIn a x (knd.hash k) 99999) Q E s') E s:=fun t2 f2 led2 pl2=>by
   refine Kv (PySem.wpAny_storeSet_of ho hd ?_ (PySem.fits_of_scanBound (by lia)))
   obtain⟨c1,c2⟩:=oX (knd:=knd) (b:=b) ho hex hd hel1 hmem1 (by lia) f2 led2 pl2
   obtain⟨c3,_⟩:=PySem.SetOf_store (knd:=knd) ho hex hd hel1 hmem1 (by lia) f2
   have c4:=Heap.SameBut.update s.heap a (Obj.putSet es1 t2)
   split
   ·have r1:=relayAll_perm t2 es1 (SetTable.grown es1.size)
    have r2:=relayAll_fits t2 es1 (SetTable.grown es1.size)
    have r3:=xi t2 es1 (SetTable.grown es1.size)
    have r4:=uw t2 es1 (SetTable.grown es1.size)
    generalize relayAll t2 es1 (SetTable.grown es1.size)=Rl at r1 r2 r3 r4 ⊢
    obtain⟨es2,t3,gave2⟩:=Rl
    dsimp only at r1 r2 r3 r4 ⊢
    have z2:es2.size=n+1:=by rw[←Le,r1.length_eq,Le,z1]
    refine Kv (gw _ ?_)
    refine Kv (PySem.wpAny_storeSet_of c3 rfl ?_ (PySem.fits_of_scanBound (by lia)))
    obtain⟨d1,d2⟩:=oX (knd:=knd) (b:=b) c3 hex rfl (hel1.perm r1) (fun k'=>(hmem1 k').trans ⟨fun ⟨e,he,q⟩=>⟨e,r1.mem_iff.mpr he,q⟩,fun ⟨e,he,q⟩=>⟨e,r1.mem_iff.mp he,q⟩⟩) (by lia) r2 (r3.1.trans led2) r4
    rw[z2] at d1
    exact KA (KA (q _ (c4.trans (Heap.SameBut.update _ a _)) d1 d2))
   ·rw[z1] at c1
    exact KA (KA (q _ c4 c1 c2))
  cases hp:t1.plain with
  |true=>
   simp only[if_true]
   refine Kv ?_
   rw[PySem.hashByValue_scannable 8 hsc]
   cases PySem.plainKind x with
   |true=>exact KA (fin t1 l2 (l3.1.trans led) l4)
   |false=>exact KA (fin {t1 with plain:=false} (PySem.SetTable.fits_plain_off l2) (l3.1.trans led) l4)
  |false=>
   simp only[Lk,if_false]
   refine Kv (KA ?_)
   simp only[↓reduceIte]
   exact fin t1 l2 (l3.1.trans led) l4
theorem Bz (oM:knd.is k key=true) (hsc:key.scannable=true) (hS:s.heap.SetOf knd a S n) (hL:lq s.heap a b) (hroom:n+1 < PySem.scanBound)
  (h: ∀ h',Heap.SameBut a s.heap h'→h'.SetOf knd a (fun k'=>S k'||decide (k'=k)) (if S k then n else n+1)→lq h' a b→Q .none {s with heap:=h',toks:=s.toks+1}):
  wpAny (model prog w) A (call (.builtin "set.add") [.ref a,key]) Q E s:=by
 refine wpAny_call_entry PySem.F.slot_set_add hS.typeIs PySem.F.entry_set_add ?_ (PySem.F.args_set_add_2 _ _)
 unfold Builtin.«set.add» Builtin.Frozenset.oneOther
 simp only[List.isEmpty_nil,bind_assoc]
 unfold Builtin.Frozenset.addrOf setAdd
 refine Kv (KA ?_)
 try dsimp only
 refine Kv (KA ?_)
 try dsimp only
 refine Kv ?_
 refine wpAny_holding ?_
 refine Kv (knd.pyHash oM ?_)
 refine DA (s:={s with toks:=s.toks+1}) oM hsc hS hL hroom fun h' hsb hS' hL'=>?_
 show wpAny _ _ (ret Value.none) _ _ _
 exact KA ⟨_,rfl,h h' hsb hS' hL'⟩
theorem CT (h:(s.heap.push {cls:=.type "set",dict:=none,data:=.set #[] 0 (.fresh 0 0 (!Ds w))}).SetOf knd s.heap.objs.size (fun _=>false) 0→lq (s.heap.push {cls:=.type "set",dict:=none,data:=.set #[] 0 (.fresh 0 0 (!Ds w))}) s.heap.objs.size (!Ds w)→
   Q (.ref s.heap.objs.size) {s with heap:=s.heap.push {cls:=.type "set",dict:=none,data:=.set #[] 0 (.fresh 0 0 (!Ds w))}}):
  wpAny (model prog w) A (newSet (.type "set")) Q E s:=by
 unfold newSet setsByText
 refine Kv (Kv (wpAny_askSetting (KA ?_)))
 dsimp only
 simp only[newObj]
 exact Kv (wpAny_alloc (KA (h ⟨_,#[],0,_,KP _ rfl,⟨rfl,rfl,rfl⟩,rfl,fun e he=>by simp at he,fun k=>by simp,by decide,by rfl,rfl⟩ ⟨_,#[],0,_,KP _ rfl,rfl,rfl,.nil⟩)))
end
def fK (P:Program) (w:World) (D:Addr) (S:Key→Bool) (n:Nat):HO:=.ext fun h=>h.SetOf (bz P w) D S n∧lq h D (!Ds w)
theorem qj (hS:h.SetOf (bz P w) D S n) (hL:lq h D (!Ds w)):dn P w H h D (fK P w D S n):=by
 refine⟨⟨hS,hL⟩,?_,?_⟩
 ·obtain⟨o,es,ep,t,e,_⟩:=hS
  exact⟨o,e⟩
 ·rintro h1 h2 ⟨⟨o,es,ep,t,e,c⟩,l⟩ k
  exact⟨⟨o,es,ep,t,k _ e,c⟩,l.at fun o e=>k _ e⟩
theorem vA (x:iY P w H h) (e:H D=some (fK P w D S n)):h.SetOf (bz P w) D S n∧lq h D (!Ds w):=(x D _ e).1
section
variable {X:Cx}
noncomputable def G7 (P:Program) (w:World):V→List V→Hp→VK→Prop:=fun x vs H Q=> ∃ (D:Addr) (k:Key) (S:Key→Bool) (n:Nat),x= .ref D∧vs=[kV k]∧H D=some (fK P w D S n)∧n+1 < PySem.scanBound∧Q .aU (upd H D (fK P w D (fun k'=>S k'||decide (k'=k)) (if S k=true then n else n+1)))
theorem CY:Gx X "set.add" (G7 X.prog X.w):=by
 intro pZ s σ H x vs v us Q I rx rv h
 obtain⟨D,k,S,n,rfl,rfl,hH,hn,q⟩:=h
 cases rx
 obtain⟨u,rfl,ru⟩:=rv.one
 obtain⟨hk,hs⟩:=Cj ru
 refine Bz (knd:=bz X.prog X.w) hk hs (vA I.bS hH).1 (vA I.bS hH).2 hn fun h' hsb hS' hL'=>?_
 refine⟨.aU,_,I.write (t':=s.toks+1) (x:=D) (e:=D) (o:=fK X.prog X.w D (fun k'=>S k'||decide (k'=k)) (if S k=true then n else n+1)) (by rw[hH];exact trivial) (.inl rfl) (fun b u hb hu=>(hsb.2 b hb).trans hu) (qj (P:=X.prog) (w:=X.w) (H:=H) hS' hL').2.1 (qj hS' hL'),rfl,q⟩
end
section
variable {X:Cx} {pZ:List (Addr×Obj)} {σ:St} {H:Hp} {s:Shared} {scope:Scope} {N:List Str} {js:List (Option Nat)} {fp:List Addr}
def Km (P:Program) (w:World) (J:It) (D:Addr) (g:TG) (tt:TT) (te:TE) (Q:VK) (σ0:St) (H1:Hp):Prop:=
 ∃ W:Nat→Nat→St→Hp→Prop,(∃ m,W 0 m σ0 (upd H1 D (fK P w D (fun _=>false) 0)))∧∀ i m σ' H',W i m σ' H'→
  (J.stop i H'∧Q (.ref D) H')∨(J.go i H'∧∀ x H2,J.yp i H' x H2→g x σ' H2 fun σ2 H3=>tt σ2 H3 fun ok H4=>
   if ok=true then te σ2 H4 fun y H5=> ∃ (k:Key) (S:Key→Bool) (c:Nat),y=kV k∧H5 D=some (fK P w D S c)∧c+1 < PySem.scanBound∧∃ m',m' < m∧W (i+1) m' σ2 (upd H5 D (fK P w D (fun k'=>S k'||decide (k'=k)) (if S k=true then c else c+1)))
   else ∃ m',m' < m∧W (i+1) m' σ2 H4)
def Iy (P:Program) (w:World) (js:List (Option Nat)) (wi:TI) (g:TG) (tt:TT) (te:TE):TE:=fun σ H Q=>wi σ H fun J H1=> ∀ D,H1 D=none→Km P w J D g tt te Q (gC js σ) H1
theorem B7 {iter:Expr} {Q:VK} {R:Value→Addr→Result→Shared→Prop}
  (L:bf X scope N js) (hc:X.calm=true)
  (hg: ∀ s₀ H₀ ex pn,PG (iF X scope N s₀ H₀ ex pn) target g) (ht: ∀ s₀ H₀ ex pn,yd (iF X scope N s₀ H₀ ex pn) ifs tt) (he: ∀ s₀ H₀ ex pn,PE (iF X scope N s₀ H₀ ex pn) elt te)
  (I:Inv X pZ σ H s) (T:Turn X.prog X.w X.K target J fp it tn) (st:tn 0 s.heap) (hf: ∀ b∈fp,d6 X pZ H b) {h₁:Heap} {tk:Nat} (I3:Inv X pZ σ (upd H D (fK X.prog X.w D (fun _=>false) 0)) s3) (hDl: ∀ b o,s.heap.get? b=some o→b≠D) (k3: ∀ b o,s.heap.get? b=some o→s3.heap.get? b=some o)
  (hns₁:h₁.Ns s3.heap.objs.size (fun _=>none)) (kk: ∀ b o,s3.heap.get? b=some o→h₁.get? b=some o)
  (w: ∃ W:Nat→Nat→St→Hp→Prop,(∃ m,W 0 m (gC js σ) (upd H D (fK X.prog X.w D (fun _=>false) 0)))∧∀ i m σ' H',W i m σ' H'→
   (J.stop i H'∧Q (.ref D) H')∨(J.go i H'∧∀ x H2,J.yp i H' x H2→g x σ' H2 fun σ2 H3=>tt σ2 H3 fun ok H4=>
    if ok=true then te σ2 H4 fun y H5=> ∃ (k:Key) (S:Key→Bool) (c:Nat),y=kV k∧H5 D=some (fK X.prog X.w D S c)∧c+1 < PySem.scanBound∧∃ m',m' < m∧W (i+1) m' σ2 (upd H5 D (fK X.prog X.w D (fun k'=>S k'||decide (k'=k)) (if S k=true then c else c+1)))
    else ∃ m',m' < m∧W (i+1) m' σ2 H4))
  (hR: ∀ C s' H',Inv X pZ σ H' s'→d6 X pZ H' C→(∃ m,s'.heap.Ns C m)→Q (.ref D) H'→R (.ref D) C (.ok .next) s'):
  codeAny (model X.prog X.w) X.A (.compStart (.SetComp elt [⟨target,iter,ifs,0⟩] scope pos) 0 (.ref it) (.ref D) {newEnv scope s3.heap.objs.size X.env.globals (tF scope.names X.env.cells) X.env.qual none .none (some X.env) builtinsNs with scope:=relabel scope X.env}) (R (.ref D) s3.heap.objs.size) {s3 with heap:=h₁,toks:=tk}:=by
 have obj:=T.obj 0 s.heap st
 have ho3: ∀ b∈fp,∃ o,s3.heap.get? b=some o:=fun b hb=>by obtain⟨o,e,_⟩:=obj b hb;exact⟨o,k3 b o e⟩
 have hf3: ∀ b∈fp,d6 X pZ (upd H D (fK X.prog X.w D (fun _=>false) 0)) b:=fun b hb=>by
  refine⟨?_,(hf b hb).2⟩
  obtain⟨o,e,_⟩:=obj b hb
  rw[aq (hDl b o e)]
  exact(hf b hb).1
 have I4:Inv (iF X scope N s3 (upd H D (fK X.prog X.w D (fun _=>false) 0)) fp (X.pn++pZ)) [] (gC js σ) (upd H D (fK X.prog X.w D (fun _=>false) 0)) {s3 with heap:=h₁,toks:=tk}:=
  L.start I3 hc hf3 ho3 hns₁ kk
 obtain⟨W,⟨m0,w0⟩,turn⟩:=w
 have st4:tn 0 h₁:=T.keep 0 _ _ st fun b _ o e=>kk b o (k3 b o e)
 generalize hX:iF X scope N s3 (upd H D (fK X.prog X.w D (fun _=>false) 0)) fp (X.pn++pZ)=Y at I4
 have fpY: ∀ b∈fp,b≠Y.env.locals∧b∉Y.fs∧(b∈Y.ex∨Y.s₀.heap.objs.size≤b)∧(∀ x c,Y.env.cells.lookup x=some c→c≠b)∧∀ p∈Y.pn++[],p.1≠b:=fun b hb=>by
  rw[←hX]
  obtain⟨o,e⟩:=ho3 b hb
  refine⟨K8 (KS e),fun z=>?_,.inl hb,fun x c h=>(hf b hb).2.2.2.2.1 x c (fh _ _ _ (fun _ _ e=>by simp at e) x c h),fun p hp=>(hf b hb).2.2.2.2.2 p (by simpa[iF] using hp)⟩
  rcases KJ.mp (I3.kA b z) with q|q
  ·exact(hf b hb).2.1 q
  ·exact(hf b hb).2.2.1 q
 have loop:codeAny (model X.prog X.w) X.A (.compLoop (.SetComp elt [⟨target,iter,ifs,0⟩] scope pos) 0 (.ref it) (.ref D) Y.env) (R (.ref D) s3.heap.objs.size) {s3 with heap:=h₁,toks:=tk}:=by
  have pr:Y.prog=X.prog:=by rw[←hX];rfl
  have pw:Y.w=X.w:=by rw[←hX];rfl
  have pK:Y.K=X.K:=by rw[←hX];rfl
  have pA:Y.A=X.A:=by rw[←hX];rfl
  have pc:Y.calm=true:=by rw[←hX];rfl
  have px:Y.xe=fun _ _=>False:=by rw[←hX];rfl
  have mB: ∀ {H':Hp},(∀ b∈fp,H' b=none)→∀ b∈fp,d6 Y [] H' b:=fun hn b hb=>⟨hn b hb,fpY b hb⟩
  refine uX (fun n s'=> ∃ i σ' H',Inv Y [] σ' H' s'∧tn i s'.heap∧(∀ b∈fp,H' b=none)∧W i n σ' H') ?_ m0 ⟨0,_,_,I4,st4,fun b hb=>(hf3 b hb).1,w0⟩
  rintro n s5 ⟨i,σ5,H5,I5,st5,fr5,w5⟩
  have gY:PG Y target g:=by rw[←hX];exact hg _ _ _ _
  have tY:yd Y ifs tt:=by rw[←hX];exact ht _ _ _ _
  have eY:PE Y elt te:=by rw[←hX];exact he _ _ _ _
  unfold PG at gY;unfold yd at tY;unfold PE at eY
  rw[pr,pw,pA,px] at gY tY eY
  have ap:=CY (X:=Y)
  unfold Gx at ap
  rw[pr,pw,pA,px] at ap
  rcases turn i n σ5 H5 w5 with⟨stop,q⟩|⟨go,step⟩
  ·have d:=T.done Y pr pw pK pc i [] s5 σ5 H5 (fun _ _=>False) I5 (mB fr5) st5 stop
   rw[pA] at d
   refine cn d fun r s6 ⟨hr,I6⟩=>?_
   subst hr
   have I6':Inv (iF X scope N s3 (upd H D (fK X.prog X.w D (fun _=>false) 0)) fp (X.pn++pZ)) [] σ5 H5 s6:=by rw[hX];exact I6
   obtain⟨a1,a2,a3⟩:=Al I3 hf3 I6'
   exact hR _ s6 H5 a1 a2 a3 q
  ·have d:=T.item Y pr pw pK pc i [] s5 σ5 H5 (fun _ _=>False) I5 (mB fr5) st5 go
   rw[pA] at d
   refine cn d fun r s6 ⟨u,hr,h6⟩=>?_
   subst hr
   refine cn h6 fun _ s7 ⟨x,H7,I7,r7,y7,st7,fr7⟩=>?_
   have I7':=I7.pinned (mB fr7) (T.obj _ _ st7)
   refine cn (gY _ s7 σ5 H7 x u _ I7' r7 (step x H7 y7)) fun _ s8 ⟨σ8,H8,I8,q8⟩=>?_
   have again: ∀ {σ9:St} {H9:Hp} {s9:Shared},Inv Y ([]++kM fp s7.heap) σ9 H9 s9→(∃ m',m' < n∧W (i+1) m' σ9 H9)→∃ m,m < n∧∃ i σ' H',Inv Y [] σ' H' s9∧tn i s9.heap∧(∀ b∈fp,H' b=none)∧W i m σ' H':=fun {σ9 H9 s9} I9 ⟨m',hm,w9⟩=>by
    refine⟨m',hm,i+1,σ9,H9,I9.iH,T.keep _ _ _ st7 fun b hb o e=>(I9.pin (b,o) (KW _ (KW _ (fB hb e)))).1,fun b hb=>?_,w9⟩
    obtain⟨o,e,d⟩:=T.obj _ _ st7 b hb
    exact(I9.pin (b,o) (KW _ (KW _ (fB hb e)))).2.1
   refine cn (tY _ s8 σ8 H8 _ I8 q8) fun ok s9 ⟨H9,I9,q9⟩=>?_
   cases ok with
   |false=>
    rw[Lr (by decide)] at q9
    rw[Lr (by decide)]
    exact again I9 q9
   |true=>
    rw[Lq rfl] at q9
    rw[Lq rfl]
    refine cn (eY _ s9 σ8 H9 _ I9 q9) fun v s10 ⟨y,H10,I10,r10,ky,S,c,eky,eys,lys,q10⟩=>?_
    refine cn (ap _ s10 σ8 H10 (.ref D) [y] (.ref D) [v] (fun _ H'=> ∃ m',m' < n∧W (i+1) m' σ8 H') I10 rfl (.cons r10 .nil) ⟨D,ky,S,c,rfl,by rw[eky],eys,lys,q10⟩) fun v2 s11 ⟨y2,H11,I11,_,q11⟩=>?_
    exact again I11 q11
 have ee:({newEnv scope s3.heap.objs.size X.env.globals (tF scope.names X.env.cells) X.env.qual none .none (some X.env) builtinsNs with scope:=relabel scope X.env}:Env)=Y.env:=by rw[←hX];rfl
 rw[ee]
 exact wY loop (T.self _ 0 _ _ _ st4 loop)
theorem yV {iter:Expr} {Q:VK} {E:Value→Shared→Prop} {R:Value→Addr→Result→Shared→Prop}
  (L:bf X scope N js) (hc:X.calm=true)
  (hg: ∀ s₀ H₀ ex pn,PG (iF X scope N s₀ H₀ ex pn) target g) (ht: ∀ s₀ H₀ ex pn,yd (iF X scope N s₀ H₀ ex pn) ifs tt) (he: ∀ s₀ H₀ ex pn,PE (iF X scope N s₀ H₀ ex pn) elt te)
  (I:Inv X pZ σ H s) (T:Turn X.prog X.w X.K target J fp it tn) (st:tn 0 s.heap) (hf: ∀ b∈fp,d6 X pZ H b)
  (w: ∀ D,H D=none→∃ W:Nat→Nat→St→Hp→Prop,(∃ m,W 0 m (gC js σ) (upd H D (fK X.prog X.w D (fun _=>false) 0)))∧∀ i m σ' H',W i m σ' H'→
   (J.stop i H'∧Q (.ref D) H')∨(J.go i H'∧∀ x H2,J.yp i H' x H2→g x σ' H2 fun σ2 H3=>tt σ2 H3 fun ok H4=>
    if ok=true then te σ2 H4 fun y H5=> ∃ (k:Key) (S:Key→Bool) (c:Nat),y=kV k∧H5 D=some (fK X.prog X.w D S c)∧c+1 < PySem.scanBound∧∃ m',m' < m∧W (i+1) m' σ2 (upd H5 D (fK X.prog X.w D (fun k'=>S k'||decide (k'=k)) (if S k=true then c else c+1)))
    else ∃ m',m' < m∧W (i+1) m' σ2 H4))
  (hR: ∀ D C s' H',Inv X pZ σ H' s'→d6 X pZ H' C→(∃ m,s'.heap.Ns C m)→Q (.ref D) H'→R (.ref D) C (.ok .next) s'):
  wpAny (model X.prog X.w) X.A (newSet (.type "set")) (fun acc s₃=>wpAny (model X.prog X.w) X.A (newFunctionEnv scope X.env.globals (tF scope.names X.env.cells) [] X.env.qual none .none (some X.env)) (fun cenv s₄=>
   codeAny (model X.prog X.w) X.A (.compStart (.SetComp elt [⟨target,iter,ifs,0⟩] scope pos) 0 (.ref it) acc {cenv with scope:=relabel scope X.env}) (R acc cenv.locals) s₄) E s₃) E s:=by
 have hD:=I.fresh
 refine CT (knd:=bz X.prog X.w) fun hS hL=>?_
 have I3:Inv X pZ σ (upd H s.heap.objs.size (fK X.prog X.w s.heap.objs.size (fun _=>false) 0)) {s with heap:=s.heap.push {cls:=.type "set",dict:=none,data:=.set #[] 0 (.fresh 0 0 (!Ds X.w))}}:=I.laid (t':=s.toks) (fun b o e=>Ky _ e) (KG _) (qj hS hL)
 refine wpAny_newFunctionEnv L.uL (by intro y hy;simp at hy) (fun h₁ hns₁ hsb₁=>?_) L.kind
 dsimp only at hns₁ hsb₁
 exact B7 (Q:=Q) (R:=R) (s3:={s with heap:=s.heap.push {cls:=.type "set",dict:=none,data:=.set #[] 0 (.fresh 0 0 (!Ds X.w))}}) L hc hg ht he I T st hf I3 (fun b o e=>K8 (KS e)) (fun b o e=>Ky _ e) hns₁
  (fun b o e=>hsb₁.extBut b o (K8 (KS e)) (Ky _ e)) (w _ hD) (fun C=>hR _ C)
theorem Hb (L:bf X scope N js) (hc:X.calm=true) (hi:PI X target iter wi)
  (hg: ∀ s₀ H₀ ex pn,PG (iF X scope N s₀ H₀ ex pn) target g) (ht: ∀ s₀ H₀ ex pn,yd (iF X scope N s₀ H₀ ex pn) ifs tt) (he: ∀ s₀ H₀ ex pn,PE (iF X scope N s₀ H₀ ex pn) elt te)
  (hs: ∀ x,foldedSetIterable iter X.env x=pure x:=by intro _;rfl):PE X (.SetComp elt [⟨target,iter,ifs,0⟩] scope pos) (Iy X.prog X.w js wi g tt te):=by
 intro pZ s σ H Q I h
 rw[qU]
 refine wpAny_comprehension_free (use:=none) rfl hs (nQ (L.FQ I.ok)) L.kind L.names (cn (hi pZ s σ H _ I h) fun v s1 h1=>cn h1 fun itv s2 h2=>?_)
 obtain⟨it,fp,tn,J,H2,e,I2,T,st2,f2,w⟩:=h2
 subst e
 refine yV (Q:=Q) (R:=fun acc C=>compPost (model X.prog X.w) X.A X.xe none (EP X pZ σ Q) acc C) L hc hg ht he I2 T st2 f2 w ?_
 intro D C s' H' I' f' ⟨m,hn⟩ q
 exact⟨m,hn,fun h' hs'=>⟨.ref D,H',I'.gone (m:=m) f' hs',rfl,q⟩⟩
end
section
variable {prog:Program} {w:World} {A:Around} {E:Value→Shared→Prop} {s:Shared} {I D:Addr} {o:Obj} {es:Array (Int×Value)} {ep:Nat} {t:SetTable}
theorem sA (hb:w.params.followText "set-order"=false) (hD:s.heap.get? D=some o) (hd:o.data= .set es ep t) (hf:t.fits es.size=true) (hl:t.led=true) (hc:(!t.plain&&decide (es.size > 1))=false)
  (h1: ∀ e j,es[SetTable.below t.place slot]?=some e→t.place[SetTable.below t.place slot]?=some j→Q (some (e.2,j+1)) s) (h2:es[SetTable.below t.place slot]?=none→Q none s):wpAny (model prog w) A (setNext D slot i ep) Q E s:=by
 unfold setNext
 refine Kv (PySem.wpAny_setState_of hD hd hf ?_)
 dsimp only
 refine Kv (i6 ?_)
 rw[hb,Lr (by simp)]
 refine wpAny_ite ?_
 split
 ·rename_i c
  have c':(!t.plain&&decide (es.size > 1))=true:=c
  rw[hc] at c'
  cases c'
 ·refine Kv (wpAny_of_eq (a:=PUnit.unit) ?_ ?_)
  ·show (if(!t.led&&!es.isEmpty)=true then(unsupported "set:maker-not-led":Sem PUnit) else pure PUnit.unit)=pure PUnit.unit
   rw[hl]
   rfl
  ·refine KA ?_
   have z:t.place.size=es.size:=by
    unfold SetTable.fits at hf
    simp at hf
    exact hf.1
   cases e1:es[SetTable.below t.place slot]? with
   |none=>exact h2 e1
   |some e=>
    have lt:=(Array.getElem?_eq_some_iff.mp e1).1
    have e2:t.place[SetTable.below t.place slot]?=some (t.place[SetTable.below t.place slot]'(by lia)):=K5 (by lia)
    have q:=h1 e _ e1 e2
    rw[e2]
    exact q
def slotAt (pl:Array Nat):Nat→Nat
 |0=>0
 |i+1=>pl.getD i 0+1
theorem nU (h:fZ pl): ∀ {i:Nat},i≤pl.size→SetTable.below pl (slotAt pl i)=i
 |0,_=>nW h (K6 _) (fun k a hk=>absurd hk (Nat.not_lt_zero _)) fun k a _ _=>K6 _
 |i+1,hi=>by
  have e:pl[i]?=some pl[i]:=K5 (by lia)
  have eg:slotAt pl (i+1)=pl[i]+1:=by
   show pl.getD i 0+1=_
   rw[K0,e]
   rfl
  rw[eg]
  refine nW h hi (fun k a hk ha=>?_) fun k a hk ha=>?_
  ·rcases Nat.lt_or_eq_of_le (Nat.le_of_lt_succ hk) with c|c
   ·exact Nat.lt_succ_of_lt (h.lt c ha e)
   ·subst c;rw[e] at ha;cases ha;exact Nat.lt_succ_self _
  ·exact h.lt (by lia) e ha
theorem yx (hh:A.handled=none) (hID:I≠D) (hb:w.params.followText "set-order"=false) (hd:o.data= .set es ep t) (hf:t.fits es.size=true) (hl:t.led=true) (hc:(!t.plain&&decide (es.size > 1))=false) (hr:fZ t.place):
  Walks prog w A I [I,D] [I] es.size (fun i v=>(es.toList.map (·.2))[i]?=some v) (fun i h=>h.get? I=some (jl (.int (slotAt t.place i:Nat) 0) i D es.size ep)∧h.get? D=some o) where
 sub:=fun c hc=>by simp at hc;simp[hc]
 frame:=fun i h h' st k=>⟨k I (by simp) _ st.1,k D (by simp) _ st.2⟩
 item:=fun i s Q E hi st hQ=>by
  have z:t.place.size=es.size:=by
   unfold SetTable.fits at hf
   simp at hf
   exact hf.1
  have e1:es[i]?=some es[i]:=K5 hi
  have e2:t.place[i]?=some (t.place[i]'(by lia)):=K5 (by lia)
  have hbl:=nU hr (i:=i) (by lia)
  refine rS (x:=es[i].2) (nx:=slotAt t.place (i+1)) st.1 st.2 hd hf (fun {Q' E'} h=>sA hb st.2 hd hf hl hc (fun e j he hj=>?_) fun he=>?_) fun h' g sb=>?_
  ·rw[hbl,e1] at he
   rw[hbl,e2] at hj
   cases he
   cases hj
   have eg:slotAt t.place (i+1)=t.place[i]'(by lia)+1:=by
    show t.place.getD i 0+1=_
    rw[K0,e2]
    rfl
   rw[eg] at h
   exact h
  ·rw[hbl,e1] at he
   cases he
  ·refine hQ _ h' s.toks ?_ ⟨g,(sb.2 D hID.symm).trans st.2⟩ fun c u hc e=>(sb.2 c fun z=>hc (by simp[z])).trans e
   rw[KY,Array.getElem?_toList,e1]
   rfl
 done:=fun s Q E st hQ=>by
  have z:t.place.size=es.size:=by
   unfold SetTable.fits at hf
   simp at hf
   exact hf.1
  have hbl:=nU hr (i:=es.size) (by lia)
  have en:es[es.size]?=none:=Array.getElem?_eq_none (KG _)
  refine vz hh st.1 st.2 hd hf (fun {Q' E'} h=>sA hb st.2 hd hf hl hc (fun e j he hj=>?_) fun he=>h) fun h' eb=>?_
  ·rw[hbl,en] at he
   cases he
  ·exact hQ h' s.toks fun c u hc e=>eb c u (fun z=>hc (by simp[z])) e
 self:=fun i s Q E st hQ=>mG st.1 hQ
theorem xf (hh:A'.handled=none) (hex:o.ExactSet) (hD:s.heap.get? D=some o) (hd:o.data= .set es ep t) (hf:t.fits es.size=true) (hl:t.led=!w.params.followText "set-order") (hr:fZ t.place) (hz:es.size≤4096)
  (h: ∀ (I:Addr) (h':Heap) d',Eh prog w A' es D I h' s.heap.objs.size→(∀ b u,s.heap.get? b=some u→h'.get? b=some u)→h'.get? I≠none→s.heap.objs.size≤I→Q (.ref I) {s with heap:=h',drawn:=d'}):
  wpAny (model prog w) A (pyIter (.ref D)) Q E s:=by
 have hT:s.TypeIs (.ref D) "set":=⟨o,hD,hex.1⟩
 have ltD:D < s.heap.objs.size:=KS hD
 refine wpAny_pyIter_slot hT PySem.F.slot_set_iter (wpAny_call_entry PySem.F.slot_set_iter hT nI ?_ (PySem.F.args_set_iter_1 _))
 unfold Builtin.«frozenset.__iter__» Builtin.Frozenset.slot0 slotArgs
 show wpAny _ _ ((pure (Value.ref D,([]:List Value)) >>= _) >>= _) _ _ s
 refine Kv (Kv (KA ?_))
 unfold Builtin.Frozenset.addrOf Builtin.Frozenset.sizeOf
 refine KA ?_
 refine Kv (Kv (PySem.wpAny_setEntries_of hD hd hf (KA ?_)))
 have fin: ∀ (first:Value) (h1:Heap) (d1:Drawn),h1.get? D=some o→(∀ b u,s.heap.get? b=some u→h1.get? b=some u)→s.heap.objs.size≤h1.objs.size→Eh prog w A' es D h1.objs.size (h1.push (jl first 0 D es.size ep)) s.heap.objs.size→
   wpAny (model prog w) A.in1 (setEpoch D >>= fun e=>newFields "set_iterator" [first,rawInt 0,Value.ref D,rawInt es.size,rawInt e] >>= fun v=>ret v) (fun fin s'=> ∃ v,fin=Fin.done (Flow.ret v)∧∃ T' r,s'.TypeIs v T'∧typeLookup (Value.type T') (Str.ofString "__next__")=pure (some r)∧Q v s') E {s with heap:=h1,drawn:=d1}:=fun first h1 d1 g1 k1 z1 fd=>by
  refine Kv ?_
  unfold setEpoch
  refine Kv (PySem.wpAny_setState_of g1 hd hf (KA ?_))
  refine Kv (wpAny_newObj_type (KA ⟨_,rfl,"set_iterator",_,⟨_,KP _ rfl,rfl⟩,bG.lookup,?_⟩))
  refine h _ _ d1 fd (fun b u e=>Ky _ (k1 b u e)) ?_ z1
  rw[KP _ rfl]
  simp
 have new: ∀ (first:Value) (h1:Heap),(h1.push (jl first 0 D es.size ep)).get? h1.objs.size=some (jl first 0 D es.size ep):=fun _ _=>KP _ rfl
 refine Kv ?_
 unfold setDrawn
 refine Kv (PySem.wpAny_setState_of hD hd hf ?_)
 dsimp only
 refine Kv (i6 (KA ?_))
 show wpAny _ _ (if(!w.params.followText "set-order"&&(!t.plain&&decide (es.size > 1)))=true then _ else _) _ _ s
 cases hb:w.params.followText "set-order" with
 |true=>
  rw[Lr (by simp)]
  refine Kv (KA ?_)
  refine fin (rawInt 0) s.heap s.drawn hD (fun _ _ e=>e) (KG _) ⟨(pickOrder (w.params.setOrder D ep) es).toList.map (·.2),[s.heap.objs.size,D],fun i h=>h.get? s.heap.objs.size=some (jl (.int (0:Nat) 0) i D es.size ep)∧h.get? D=some o,(o8 _ _).map _,?_,⟨new _ _,Ky _ hD⟩,fun c hc=>?_⟩
  ·rw[Kx,Le,kN]
   exact GD hh (Nat.ne_of_gt ltD) hb hd hf
  ·simp only[KJ,KL,or_false] at hc
   rcases hc with rfl|rfl
   ·exact .inr (KG _)
   ·exact .inl rfl
 |false=>
  rw[hb] at hl
  cases hcc:(!t.plain&&decide (es.size > 1)) with
  |true=>
   have c:es.size > 1:=by simp at hcc;exact hcc.2
   rw[Lq (by simp)]
   refine Kv (pR es.size _ s _ (by simp) fun ps d' pp=>?_)
   have zp:ps.length=es.size:=by rw[pp.length_eq,List.length_range]
   refine Kv (wpAny_newTuple ?_ (by rw[Kx,zp,Lh];lia))
   have gT:(s.heap.push {cls:=.type "tuple",data:=.seq (ps.map fun (i:Nat)=>rawInt i).toArray}).get? s.heap.objs.size=some {cls:=.type "tuple",data:=.seq (ps.map fun (i:Nat)=>rawInt i).toArray}:=KP _ rfl
   have z1:(s.heap.push {cls:=.type "tuple",data:=.seq (ps.map fun (i:Nat)=>rawInt i).toArray}).objs.size=s.heap.objs.size+1:=Heap.size_push ..
   refine fin (.ref s.heap.objs.size) _ d' (Ky _ hD) (fun _ _ e=>Ky _ e) (by rw[z1];exact Nat.le_succ _) ⟨ps.map fun j=>(es[j]?.map (·.2)).getD .none,[s.heap.objs.size+1,D,s.heap.objs.size],fun i h=>h.get? (s.heap.objs.size+1)=some (jl (.ref s.heap.objs.size) i D es.size ep)∧h.get? D=some o∧h.get? s.heap.objs.size=some {cls:=.type "tuple",data:=.seq (ps.map fun (i:Nat)=>rawInt i).toArray},?_,?_,⟨by rw[←z1];exact new _ _,Ky _ (Ky _ hD),Ky _ gT⟩,fun c hc=>?_⟩
   ·refine(pp.map _).trans (List.Perm.of_eq ?_)
    apply List.ext_getElem
    ·simp
    ·intro i h1 h2
     have hi:i < es.size:=by simpa using h1
     simp[hi]
   ·rw[Kx]
    rw[z1]
    exact GF hh (Nat.ne_of_gt (Nat.lt_succ_of_lt ltD)) (Nat.ne_of_gt (Nat.lt_succ_self _)) hd hf rfl fun j hj=>by simpa using pp.mem_iff.mp hj
   ·simp only[KJ,KL,or_false] at hc
    rcases hc with rfl|rfl|rfl
    ·exact .inr (Nat.le_succ _)
    ·exact .inl rfl
    ·exact .inr (KG _)
  |false=>
   rw[Lr (by simp)]
   refine Kv (KA ?_)
   refine fin (rawInt 0) s.heap s.drawn hD (fun _ _ e=>e) (KG _) ⟨es.toList.map (·.2),[s.heap.objs.size,D],fun i h=>h.get? s.heap.objs.size=some (jl (.int (slotAt t.place i:Nat) 0) i D es.size ep)∧h.get? D=some o,.rfl,?_,⟨new _ _,Ky _ hD⟩,fun c hc=>?_⟩
   ·rw[Kx,Le]
    exact yx hh (Nat.ne_of_gt ltD) hb hd hf hl hcc hr
   ·simp only[KJ,KL,or_false] at hc
    rcases hc with rfl|rfl
    ·exact .inr (KG _)
    ·exact .inl rfl
end
section
variable {prog:Program} {w:World} {A:Around} {E:Value→Shared→Prop} {s:Shared} {D:Addr} {o:Obj} {es:Array (Int×Value)} {ep:Nat} {t:SetTable}
theorem qi (hh:A.handled=none) (hex:o.ExactSet) (hD:s.heap.get? D=some o) (hd:o.data= .set es ep t) (hf:t.fits es.size=true) (hl:t.led=!w.params.followText "set-order") (hr:fZ t.place) (hz:es.size≤4096)
  (h: ∀ (out:List Value) (s':Shared),out.Perm (es.toList.map (·.2))→(∀ b u,s.heap.get? b=some u→s'.heap.get? b=some u)→s'.gens=s.gens→s'.os=s.os→s.toks≤s'.toks→Q out s'):
  wpAny (model prog w) A (collect (.ref D)) Q E s:=by
 have ltD:D < s.heap.objs.size:=KS hD
 unfold collect
 refine Kv (wpAny_runValue (codeAny_builtin PySem.F.entry_proto_collect ?_))
 rw[Around.under_plainId PySem.F.plain_proto_collect _]
 show wpAny _ A.in1 (newList [] >>= fun l=>again (.builtin "list.__iadd__" ⟨[l,.ref D],[]⟩)) _ _ s
 refine Kv (wpAny_newObj_type (KA ⟨plainId_quiet PySem.F.plain_list_iadd _,codeAny_builtin PySem.F.entry_list_iadd ?_⟩))
 rw[Around.under_plainId PySem.F.plain_list_iadd _]
 show wpAny _ A.in1 (Builtin.List.listExtendWith (.ref s.heap.objs.size) (.ref D) (.ref s.heap.objs.size)) _ _ _
 unfold Builtin.List.listExtendWith
 have g0:(s.heap.push {cls:=.type "list",data:=.seq ([]:List Value).toArray}).get? s.heap.objs.size=some {cls:=.type "list",data:=.seq ([]:List Value).toArray}:=KP _ rfl
 have gD:(s.heap.push {cls:=.type "list",data:=.seq ([]:List Value).toArray}).get? D=some o:=Ky _ hD
 generalize hh1:s.heap.push {cls:=.type "list",data:=.seq ([]:List Value).toArray}=h1 at g0 gD
 have k1: ∀ b u,s.heap.get? b=some u→h1.get? b=some u:=fun b u e=>hh1▸Ky _ e
 have z1:h1.objs.size=s.heap.objs.size+1:=by rw[←hh1];exact Heap.size_push ..
 have hT:Shared.TypeIs {s with heap:=h1} (.ref D) "set":=⟨o,gD,hex.1⟩
 refine Kv (wpAny_typeOf hT ?_)
 have c1:Builtin.List.listSameRef (.ref s.heap.objs.size) (.ref D)=false:=by simp[Builtin.List.listSameRef,Nat.ne_of_gt ltD]
 have c2:(Value.type "set"==Value.type "list")=false:=by decide
 have c3:(Value.type "set"==Value.type "tuple")=false:=by decide
 simp only[c1,c2,c3,Bool.or_false,Lk,if_false]
 refine Kv (xf (s:={s with heap:=h1}) (A':=A.in1) (by simp[hh]) hex gD hd hf hl hr hz fun I h2 d' fd k2 hI zI=>?_)
 refine Kv (wpAny_holding ?_)
 have hT2:Shared.TypeIs {s with heap:=h2,drawn:=d'} (.ref D) "set":=⟨o,k2 _ _ gD,hex.1⟩
 unfold Builtin.List.listLengthHint
 refine Kv (wpAny_specialOf hT2 mH ?_)
 have sp:splitId "set.__len__"=some ("set","__len__"):=by first|rfl|decide +kernel
 dsimp only
 simp only[sp]
 refine Kv (wpAny_isInstance hT2 sub_set_self ?_)
 simp only[Bool.not_true,Lk,if_false]
 refine wpAny_ite ?_
 rw[Lq (by decide +kernel)]
 refine Kv (wpAny_typeOf hT2 (KA ?_))
 refine wpAny_ite ?_
 rw[Lq (by decide +kernel)]
 refine Kv (wpAny_rule ?_)
 have g2:h2.get? s.heap.objs.size=some {cls:=.type "list",data:=.seq ([]:List Value).toArray}:=k2 _ _ g0
 refine Kv ?_
 show wpAny _ A.in1 (updateSeq s.heap.objs.size (·.push .none) >>= fun _=>updateSeq s.heap.objs.size (·.pop)) _ _ _
 refine Kv (wpAny_updateSeq g2 rfl ?_)
 have g3:=Heap.get?_update_self (Obj.mapSeq (·.push Value.none)) g2 rfl
 refine wpAny_updateSeq g3 rfl ?_
 have g4:=Heap.get?_update_self (Obj.mapSeq (·.pop)) g3 rfl
 have Gp: ∀ b u,b≠s.heap.objs.size→h2.get? b=some u→((h2.update s.heap.objs.size (Obj.mapSeq (·.push Value.none))).update s.heap.objs.size (Obj.mapSeq (·.pop))).get? b=some u:=fun b u hb e=>(Heap.get?_update_other _ _ (Ne.symm hb)).trans ((Heap.get?_update_other _ _ (Ne.symm hb)).trans e)
 obtain⟨out,fp,Sx,pm,W,st,lf⟩:=fd
 have nf:s.heap.objs.size∉fp:=fun hm=>by
  rcases lf _ hm with e|e
  ·exact absurd e (Nat.ne_of_gt ltD)
  ·have e':h1.objs.size≤s.heap.objs.size:=e
   rw[z1] at e'
   exact absurd e' (Nat.not_succ_le_self _)
 refine KA ⟨plainId_quiet PySem.F.plain_extend_loop _,codeAny_extend_loopS W.toS (by rw[pm.length_eq,Kx,Le,Lh];lia) _ nf _ out.length 0 _ _ _ rfl (K6 _) (W.frame 0 h2 _ st fun b hb u e=>Gp b u (fun z=>nf (z▸hb)) e) g4 (ItemsOf.nil _) fun s' acc c' mv gS ia=>?_⟩
 show wpAny _ A (load s.heap.objs.size >>= _) _ _ s'
 refine Kv (wpAny_load gS (KA ?_))
 have ea:acc.toList=out:=by
  apply List.ext_getElem?
  intro i
  by_cases hi:i < acc.size
  ·have e:=ia.2 i acc[i] (by simp[hi])
   rw[Array.getElem?_toList,e]
   simp[hi]
  ·rw[List.getElem?_eq_none (by simpa using hi),List.getElem?_eq_none (by have:=ia.1;lia)]
 rw[ea]
 refine h out s' pm (fun b u e=>?_) mv.gens mv.os mv.toks
 refine mv.heap b u ?_ (Gp b u (K8 (KS e)) (k2 _ _ (k1 _ _ e)))
 simp only[KJ,KL,or_false,not_or]
 have lb:b < s.heap.objs.size:=KS e
 refine⟨K8 lb,K8 (K1 lb (KZ (Nat.le_succ _) (KZ (Nat.le_of_eq z1.symm) zI)))⟩
end
section
variable {φ:eF}
def uB (x:Int):List Int→List Int
 |[]=>[x]
 |y::l=>if y < x then y::uB x l else x::y::l
def iK:List Int→List Int
 |[]=>[]
 |x::l=>uB x (iK l)
theorem kK (x:Int): ∀ l:List Int,(uB x l).Perm (x::l)
 |[]=>.rfl
 |y::l=>by
  unfold uB
  split
  ·exact((kK x l).cons y).trans (.swap x y l)
  ·exact .rfl
theorem hZ: ∀ l:List Int,(iK l).Perm l
 |[]=>.rfl
 |x::l=>(kK x _).trans ((hZ l).cons x)
theorem vJ (x:Int): ∀ l:List Int,l.Pairwise (·≤·)→(uB x l).Pairwise (·≤·)
 |[],_=>by simp[uB]
 |y::l,h=>by
  obtain⟨h1,h2⟩:=Lu.mp h
  unfold uB
  by_cases c:y < x
  ·rw[Lq c]
   refine Lu.mpr ⟨fun z hz=>?_,vJ x l h2⟩
   rcases KJ.mp ((kK x l).mem_iff.mp hz) with rfl|hz
   ·exact Int.le_of_lt c
   ·exact h1 z hz
  ·rw[Lr c]
   refine Lu.mpr ⟨fun z hz=>?_,h⟩
   rcases KJ.mp hz with rfl|hz
   ·lia
   ·exact Int.le_trans (by lia) (h1 z hz)
theorem mD: ∀ l:List Int,(iK l).Pairwise (·≤·)
 |[]=>.nil
 |x::l=>vJ x _ (mD l)
theorem o4: ∀ (l m:List Int),l.Pairwise (·≤·)→m.Pairwise (·≤·)→l.Perm m→l=m
 |[],m,_,_,p=>(List.nil_perm.mp p).symm
 |a::l,[],_,_,p=>absurd p.length_eq (by simp)
 |a::l,b::m,h1,h2,p=>by
  have ea:a=b:=by
   rcases KJ.mp (p.mem_iff.mp Kw) with e|ha
   ·exact e
   rcases KJ.mp (p.mem_iff.mpr Kw) with e|hb
   ·exact e.symm
   exact Int.le_antisymm (List.rel_of_pairwise_cons h1 hb) (List.rel_of_pairwise_cons h2 ha)
  subst ea
  rw[o4 l m (Lu.mp h1).2 (Lu.mp h2).2 (List.perm_cons a |>.mp p)]
theorem yZ (p:ys.Perm zs) (h:ys.Pairwise (·≤·)):ys=iK zs:=o4 _ _ h (mD zs) (p.trans (hZ zs).symm)
def intOf:Value→Int
 | .int i _=>i
 |_=>0
theorem intsAre_map: ∀ (vs:List Value),(∀ v,v∈vs→∃ x t,v= .int x t)→IntsAre vs (vs.map intOf)
 |[],_=>.nil
 |v::vs,h=>by
  obtain⟨x,t,rfl⟩:=h v (Kw ..)
  exact .cons x t (intsAre_map vs fun u hu=>h u (Kz _ hu))
theorem lC: ∀ (l m:List Int),l.Nodup→(∀ x∈l,x∈m)→m.length≤l.length→m.Perm l
 |[],m,_,_,h=>by
  have:m=[]:=Lg (Nat.le_zero.mp h)
  rw[this]
 |x::l,m,nd,hs,h=>by
  have hx:=hs x Kw
  have p1:=List.perm_cons_erase hx
  rw[List.nodup_cons] at nd
  refine p1.trans ((lC l (m.erase x) nd.2 (fun y hy=>?_) ?_).cons x)
  ·refine(List.mem_erase_of_ne ?_).mpr (hs y (Kz _ hy))
   rintro rfl
   exact nd.1 hy
  ·rw[List.length_erase_of_mem hx]
   simp only[KO] at h
   lia
section
variable {prog:Program} {w:World} {A:Around} {E:Value→Shared→Prop} {s:Shared} {D:Addr} {o:Obj} {es:Array (Int×Value)} {ep:Nat} {t:SetTable}
theorem rT (hh:A.handled=none) (hex:o.ExactSet) (hD:s.heap.get? D=some o) (hd:o.data= .set es ep t) (hf:t.fits es.size=true) (hl:t.led=!w.params.followText "set-order") (hr:fZ t.place) (hz:es.size < 64) (hs: ∀ v∈es.toList.map (·.2),∃ x u,v= .int x u)
  (h: ∀ (out:Array Value) (n:Nat) (ss:List Int) (s1:Shared) (h':Heap),IntsAre out.toList ss→ss.Perm ((es.toList.map (·.2)).map intOf)→ss.Pairwise (·≤·)→(∀ b u,s.heap.get? b=some u→s1.heap.get? b=some u)→s1.gens=s.gens→s1.os=s.os→(∀ b u,s1.heap.get? b=some u→h'.get? b=some u)→h'.get? s1.heap.objs.size=some (seqObj "list" out n)→Q (.ref s1.heap.objs.size) {s1 with heap:=h'}):
  wpAny (model prog w) A (call (.builtin "sorted") [.ref D]) Q E s:=by
 refine Calls.call_function_entry kind_sorted plain_sorted entry_sorted (args_sorted1 _) ?_
 unfold Builtin.«sorted»
 refine Kv (m:=checkCount "sorted" 1 1 _) (KA ?_)
 refine Kv (qi (by simp[hh]) hex hD hd hf hl hr (by lia) fun vs s1 pm k1 e1 e2 e3=>?_)
 have zv:vs.length < 64:=by rw[pm.length_eq,Kx,Le];exact hz
 have hv: ∀ v,v∈vs→∃ x u,v= .int x u:=fun v hv=>hs v (pm.mem_iff.mp hv)
 have hS:=intsAre_map vs hv
 refine Kv (wpAny_newList ?_ (by show vs.length≤_;rw[Lh];lia))
 have hoL:(s1.heap.push (seqObj "list" vs.toArray 0)).get? s1.heap.objs.size=some (seqObj "list" vs.toArray 0):=KP _ rfl
 refine Kv (wpAny_holding (wpAny_call_entry slot_list_sort ⟨_,hoL,rfl⟩ entry_list_sort (list_sort_tree hoL hS zv fun out ns' a1 a2 a3=>⟨_,rfl,?_⟩) (args_list_sort _)))
 refine KA ⟨_,rfl,?_⟩
 have ne: ∀ b u,s1.heap.get? b=some u→b≠s1.heap.objs.size:=fun b u e=>K8 (KS e)
 obtain⟨n,g⟩:=sortedHeap_at (out:=out) hoL
 refine h _ _ ns' s1 _ a1 (a2.trans (pm.map _)) a3 k1 e1 e2 (fun b u e=>?_) g
 rw[sortedHeap_old (ne b u e) (by rw[size_push'];exact Nat.lt_succ_of_lt (KS e))]
 exact Ky _ e
end
theorem m7 (h:j7 (.inl i) v=true): ∃ t,v= .int i t:=by
 rcases cg h with⟨j,t,e,rfl⟩|⟨x,t,e,_⟩
 ·cases e;exact⟨t,rfl⟩
 ·cases e
section
variable {X:Cx} {e:Expr}
noncomputable def uA (P:Program) (w:World):List V→Hp→VK→Prop:=fun xs H Q=> ∃ (D:Addr) (is:List Int),xs=[.ref D]∧H D=some (fK P w D (fun k=>qO (is.map Sum.inl) k) is.length)∧is.Nodup∧is.length < 64∧∀ (ys:List Int) (p:Addr),ys.Perm is→ys.Pairwise (·≤·)→H p=none→Q (.ref p) (upd H p (.lst (ys.map V.int)))
theorem uZ (hc:X.calm=true):gm X (.builtin "sorted") (uA X.prog X.w):=by
 intro pZ s σ H xs us Q I r h
 obtain⟨D,is,rfl,hD,nd,n1,q⟩:=h
 obtain⟨u,rfl,rx⟩:=vals1 r
 cases rx
 obtain⟨⟨hS,hL⟩,_⟩:=I.bS D _ hD
 obtain⟨o,es,ep,t,ho,hex,hd,hel,hmem,hb,hf,hn⟩:=hS
 obtain⟨o',es',ep',t',ho',hd',led,pl⟩:=hL
 rw[ho] at ho'
 cases ho'
 rw[hd] at hd'
 cases hd'
 have num: ∀ e∈es.toList,∃ x u,e.2= .int x u∧x∈is:=fun e he=>by
  obtain⟨⟨k,hk,_⟩,_⟩:=hel e he
  have:=(hmem k).mpr ⟨e,he,hk⟩
  obtain⟨z,hz,e'⟩:=List.any_eq_true.mp this
  obtain⟨i,hi,rfl⟩:=KN.mp hz
  have ek:Sum.inl i=k:=of_decide_eq_true e'
  subst ek
  obtain⟨u,hu⟩:=m7 hk
  exact⟨i,u,hu,hi⟩
 have cover:((es.toList.map (·.2)).map intOf).Perm is:=by
  refine lC _ _ nd (fun x hx=>?_) (by simp[hn])
  obtain⟨e,he,hk⟩:=(hmem (.inl x)).mp (List.any_eq_true.mpr ⟨Sum.inl x,K9 hx,by simp⟩)
  obtain⟨u,hu⟩:=m7 hk
  refine KN.mpr ⟨e.2,KN.mpr ⟨e,he,rfl⟩,?_⟩
  rw[hu]
  rfl
 refine rT (I.ok.hd hc) hex ho hd hf led pl (by lia) (fun v hv=>?_) fun out n ss s1 h' c1 c2 c3 k1 e1 e2 k2 g=>?_
 ·obtain⟨e,he,rfl⟩:=KN.mp hv
  obtain⟨x,u,h1,_⟩:=num e he
  exact⟨x,u,h1⟩
 ·obtain⟨hp1,g1,d1,t1,os1⟩:=s1
  simp only at e1 e2
  subst e1 e2
  have I1:Inv X pZ σ H {s with heap:=hp1,drawn:=d1,toks:=t1}:=I.HE k1
  have I2:=I1.laid (t':=t1) (h':=h') (a:=hp1.objs.size) (o:=.lst (ss.map V.int)) k2 (KG _) ⟨by rw[Kx,(c2.trans cover).length_eq,Lh];lia,out.toList,n,?_,?_⟩
  ·exact⟨.ref hp1.objs.size,_,I2,rfl,q ss _ (c2.trans cover) c3 (I1.bS.fresh (KG _))⟩
  ·exact i7 c1
  ·simpa using g
def mZ:List Key→Option (List Int)
 |[]=>some []
 | .inl i::l=>(mZ l).map (i:: ·)
 | .inr _::_=>none
theorem sM: ∀ {l:List Key} {is:List Int},mZ l=some is→l=is.map Sum.inl
 |[],is,e=>by cases e;rfl
 | .inl i::l,is,e=>by
  obtain⟨js,h,rfl⟩:=K2.mp e
  rw[sM h]
  rfl
 | .inr _::_,is,e=>by cases e
def sortI (zs:List PV):M (List PV):=(M.ft (mZ (dk zs))).bind fun is=>if is.length < 64 then .ret ((iK is).map PV.int) else .fail
theorem tf (zs:List PV):(dk zs).Nodup:=by
 have: ∀ (zs:List PV) (ks:List Key),ks.Nodup→(zs.foldl (fun ks z=>if qO ks (keyOf z)=true then ks else ks++[keyOf z]) ks).Nodup:=fun zs=>by
  induction zs with
  |nil=>exact fun ks h=>h
  |cons z zs ih=>
   intro ks h
   refine ih _ ?_
   dsimp only
   by_cases c:qO ks (keyOf z)=true
   ·rw[Lq c];exact h
   ·rw[Lr c,List.nodup_append]
    refine⟨h,by simp,fun a ha b hb=>?_⟩
    rw[K7] at hb
    subst hb
    rintro rfl
    exact c (List.any_eq_true.mpr ⟨_,ha,by simp⟩)
 exact this zs [] List.nodup_nil
theorem xh (ys:List Int):aR B O H (ys.map PV.int) (ys.map V.int):=by
 refine⟨by simp,fun i y x hy hx=>?_⟩
 rw[KY] at hy hx
 obtain⟨z,hz,rfl⟩:=K2.mp hy
 rw[hz] at hx
 cases hx
 exact .int z
theorem xb (w:(sortI zs).wp n R): ∃ is,mZ (dk zs)=some is∧is.length < 64∧R ((iK is).map PV.int) n:=by
 unfold sortI at w
 cases e:mZ (dk zs) with
 |none=>rw[e] at w;exact w.elim
 |some is=>
  rw[e] at w
  have w':(if is.length < 64 then M.ret ((iK is).map PV.int) else .fail).wp n R:=w
  split at w'
  ·rename_i h
   exact⟨is,rfl,h,w'⟩
  ·exact w'.elim
theorem GQ {K:Frag} {P:Program} {wd:World} {js:List (Option Nat)} {mi:ak→M (List PV)} {bd:PV→ak→M ak} {tt:ak→M Bool} {te:ak→M PV}: ∀ σ H Q,Gj φ (fun ρ=>(Ag js mi bd tt te ρ).bind sortI) σ H Q→Iy P wd js (Gi φ K false mi) (GH φ bd) (BD φ tt) (rE φ te) σ H (fun x H'=>uA P wd [x] H' Q):=fun σ H Q cy=>by
 obtain⟨G,O,ρ,n,R,s,w,q⟩:=cy
 rw[M.wZ] at w
 unfold Ag at w
 rw[M.wZ] at w
 refine⟨G,O,ρ,n,_,s,w,fun l J H1 n1 e1 bP it w1=>fun D hD=>?_⟩
 by_cases hl:l.length≤4000
 case neg=>rw[Lr hl] at w1;exact w1.elim
 rw[Lq hl] at w1
 have s1:=s.ext e1 bP
 have nD: ¬ O D:=fun z=>by obtain⟨o,g⟩:=s1.dm D z;rw[hD] at g;cases g
 have pD: ¬ G.dD D:=fun z=>nD (s.pr _ z)
 have hBD:D≠G.B:=fun z=>pD (z▸G.pB)
 have dO: ∀ p o,H1 p=some o→p≠D:=fun p o hp z=>by subst z;rw[hD] at hp;cases hp
 let O':Addr→Prop:=fun p=>O p∨p=D
 let G':Bg φ:=G.GB D hBD
 have k0: ∀ p o,¬ O p→H1 p=some o→upd H1 D (fK P wd D (fun _=>false) 0) p=some o∧¬ O' p:=fun p o np hp=>⟨by rw[aq (dO p o hp)];exact hp,fun z=>by
  rcases z with z|z
  ·exact np z
  ·exact dO p o hp z⟩
 have kD: ∀ (H5:Hp) (o:HO) p u,¬ O' p→H5 p=some u→upd H5 D o p=some u∧¬ O' p:=fun H5 o p u np hp=>⟨by rw[aq (fun z=>np (.inr z))];exact hp,np⟩
 refine⟨fun i m σ' H'=>m=l.length - i∧i≤l.length∧∃ (zs:List PV) (ρ':ak) (n':Nat),zs.length≤i∧H' D=some (fK P wd D (fun k=>qO (dk zs) k) (dk zs).length)∧ES G' O' H' σ' ρ' n'∧Ext G.B H1 H'∧gg K G' O' false H' l J∧
  (t5 bd tt (fun ρ=>(te ρ).bind Dd) (l.drop i) ρ').wp n' (fun t k=>(sortI (zs++t)).wp k R),⟨l.length,by simp,K6 _,[],ir js ρ,n1,KG _,ay,?_,Ext.new hD _,?_,?_⟩,?_⟩
 ·have er:=tI s1.er js
  refine⟨⟨er.1,fun i e he=>?_⟩,⟨Bg.new bP hD _,_,ay⟩,fun p z=>?_,fun p z=>?_⟩
  ·have r1:=er.2 i e he
   cases e with
   |un=>trivial
   |val y=>obtain⟨x,hx,rr⟩:=r1;exact⟨x,hx,rr.keep k0⟩
   |own t=>
    obtain⟨p,xs,hx,hp,np,hh,rr⟩:=r1
    exact⟨p,xs,hx,.inl hp,fun z=>by
     rcases z with z|z
     ·exact np z
     ·exact dO p _ hh z,by rw[aq (dO p _ hh)];exact hh,rr.keep k0⟩
   |cu t=>
    obtain⟨p,xs,hx,hp,np,hh,rr⟩:=r1
    exact⟨p,xs,hx,.inl hp,fun z=>by
     rcases z with z|z
     ·exact np z
     ·exact dO p _ hh z,by rw[aq (dO p _ hh)];exact hh,rr.keep k0⟩
  ·rcases z with z|z
   ·exact .inl (s.pr p z)
   ·exact .inr z
  ·rcases z with z|z
   ·obtain⟨o,g⟩:=s1.dm p z;exact⟨o,by rw[aq (dO p o g)];exact g⟩
   ·subst z;exact⟨_,ay⟩
 ·cases it with
  |lst np hp h r=>
   exact .lst (fun z=>by
    rcases z with z|z
    ·exact np z
    ·exact dO _ _ h z) (fun z=>by cases z) (by rw[aq (dO _ _ h)];exact h) (r.keep k0)
  |tup hp h r=>exact .tup (k0 _ _ hp h).2 (k0 _ _ hp h).1 (r.keep k0)
  |txt z=>exact .txt z
  |uu lo n=>exact .uu lo n
 ·simpa using w1
 ·rintro i m σ' H' ⟨rfl,hi,zs,ρ',n',hy,hDy,s',ex,it',w'⟩
  by_cases hV:i < l.length
  ·have hget:l[i]?=some l[i]:=Ku hV
   have nk:l.drop i=l[i]::l.drop (i+1):=List.drop_eq_getElem_cons hV
   rw[nk] at w'
   unfold t5 at w'
   obtain⟨g1,g2⟩:=it'.go hget
   refine .inr ⟨g1,fun x H2 yl=>?_⟩
   obtain⟨eH,rx⟩:=g2 x H2 yl
   subst eH
   rw[M.wZ] at w'
   refine⟨G',O',ρ',n',_,l[i],s',rx,w',fun σ2 ρ2 n2 s2 w2=>?_⟩
   rw[M.wZ] at w2
   refine⟨G',O',ρ2,n2,_,s2,w2,fun ok H4 n4 e4 ok4 w4=>?_⟩
   have D4:H4 D=some (fK P wd D (fun k=>qO (dk zs) k) (dk zs).length):=e4 D _ hBD hDy
   have it4:gg K G' O' false H4 l J:=it'.gB (fun p o np hp=>⟨e4 p o (fun z=>np (.inl (z▸s.B))) hp,np⟩) (.inr fun p xs np hp=>e4 p _ (fun z=>np (z▸G'.pB)) hp) fun p z=>by cases z
   cases ok with
   |true=>
    simp only[if_true] at w4 ⊢
    rw[M.bZ,M.wZ] at w4
    refine⟨G',O',ρ2,n4,_,s2.ext e4 ok4,w4,fun z x5 H5 n5 e5 ok5 r5 w5=>?_⟩
    have D5:H5 D=some (fK P wd D (fun k=>qO (dk zs) k) (dk zs).length):=e5 D _ hBD D4
    obtain⟨ek,w5⟩:=Dc r5 w5
    rw[M.wZ] at w5
    have s5:=s2.ext (e4.trans e5) ok5
    have it5:gg K G' O' false H5 l J:=it4.gB (fun p o np hp=>⟨e5 p o (fun z=>np (.inl (z▸s.B))) hp,np⟩) (.inr fun p xs np hp=>e5 p _ (fun z=>np (z▸G'.pB)) hp) fun p z=>by cases z
    have hdl:=FL zs
    refine⟨keyOf z,_,_,ek,D5,by show _ < 4096;lia,l.length - (i+1),by lia,rfl,hV,zs++[z],ρ2,n5,by simp;lia,by rw[ay,JL,JK],?_,?_,?_,?_⟩
    ·refine⟨⟨s5.er.1,fun j e he=>?_⟩,⟨G.keep H5 _ _ (fun p o hp hpo=>by
      have hpd:p≠D:=fun z=>by
       rcases hp with hp|hp
       ·exact pD (z▸hp)
       ·rw[z,D5] at hpo;cases hpo;exact hp
      rw[aq hpd];exact hpo) ok5.1,_,ay⟩,s5.pr,fun p hp=>?_⟩
     ·have r1:=s5.er.2 j e he
      cases e with
      |un=>trivial
      |val y=>obtain⟨x,hx,rr⟩:=r1;exact⟨x,hx,rr.keep (kD H5 _)⟩
      |own t=>
       obtain⟨p,xs,hx,hp,np,hh,rr⟩:=r1
       exact⟨p,xs,hx,hp,np,by rw[aq (fun z=>np (.inr z))];exact hh,rr.keep (kD H5 _)⟩
      |cu t=>
       obtain⟨p,xs,hx,hp,np,hh,rr⟩:=r1
       exact⟨p,xs,hx,hp,np,by rw[aq (fun z=>np (.inr z))];exact hh,rr.keep (kD H5 _)⟩
     ·by_cases hpd:p=D
      ·subst hpd;exact⟨_,ay⟩
      ·obtain⟨o,g⟩:=s5.dm p hp;exact⟨o,by rw[aq hpd];exact g⟩
    ·intro p o np hp
     exact((ex.trans (e4.trans e5)) p o np hp).to fun u e=>.of (by rw[aq (dO p o hp)];exact e)
    ·exact it5.keep (kD H5 _) (.inr fun p xs np hp=>by rw[aq (fun z=>np (.inr z))];exact hp) fun p z=>by cases z
    ·refine M.wp_mono w5 fun t k' hk=>?_
     have hk':(sortI (zs++z::t)).wp k' R:=hk
     simpa using hk'
   |false=>
    exact⟨l.length - (i+1),by lia,rfl,hV,zs,ρ2,n4,by lia,D4,s2.ext e4 ok4,ex.trans e4,it4,w4⟩
  ·have e:i=l.length:=by lia
   subst e
   refine .inl ⟨it'.stop,?_⟩
   rw[List.drop_length] at w'
   have w2:(sortI (zs++[])).wp n' R:=w'
   rw[List.append_nil] at w2
   obtain⟨is,hk,h64,hR⟩:=xb w2
   have hk':=sM hk
   have nd:=tf zs
   rw[hk'] at hDy nd
   rw[Kx] at hDy
   refine⟨D,is,rfl,hDy,?_,h64,fun ys p pm hs hp=>?_⟩
   ·exact List.Pairwise.of_map Sum.inl (fun a b h z=>h (by rw[z])) nd
   ·rw[yZ pm hs]
    have e3:Ext G.B H' (upd H' p (.lst ((iK is).map V.int))):=Ext.new hp _
    have nb:H p=none:=gb (e1.trans ex) s'.ok.1 hp
    exact q _ p _ _ n' ((e1.trans ex).trans e3) (Bg.new s'.ok.1 hp _) nb ay (xh _) hR
theorem HX (L:bf X scope N js) (hc:X.calm=true) (hi:BI X target iter wi)
  (hg: ∀ s₀ H₀ ex pn,BG (iF X scope N s₀ H₀ ex pn) target g) (ht: ∀ s₀ H₀ ex pn,Gg (iF X scope N s₀ H₀ ex pn) ifs tt) (he: ∀ s₀ H₀ ex pn,BE (iF X scope N s₀ H₀ ex pn) elt te)
  (hs: ∀ x,foldedSetIterable iter X.env x=pure x:=by intro _;rfl):BE X (.SetComp elt [⟨target,iter,ifs,0⟩] scope pos) (Iy X.prog X.w js wi g tt te):=⟨Hb L hc hi.out (fun a b c d=>(hg a b c d).out) (fun a b c d=>(ht a b c d).out) (fun a b c d=>(he a b c d).out) hs⟩
theorem xV (h:BE X e (Ex (uA X.prog X.w) (iI (Iy X.prog X.w js (Gi φ X.K false mi) (GH φ bd) (BD φ tt) (rE φ te)) rL))):EF φ X e (fun ρ=>(Ag js mi bd tt te ρ).bind sortI):=BE.mono h fun σ H Q hq=>GQ σ H Q hq
end
end
section
variable {φ:eF}
theorem yC:typeOf (.builtin "list.extend")=pure (.type "method_descriptor"):=by show builtinType _=_;rw[builtinType_eq_fast];kernel_rfl
section
variable {X:Cx} {st:Stmt}
def Hz:PV→M (List PV)
 | .lst l=>.ret l
 |_=>.fail
noncomputable def xU (k:Nat) (m:ak→M PV):ak→M Fl:=fun ρ=>match ρ[k]? with|some (.own l)=>(m ρ).bind fun y=>(Hz y).bind fun zs=>if l.length+zs.length≤100000 then .ret (.nx (ρ.set k (.own (l++zs)))) else .fail|_=>.fail
theorem EA (h:BS X st (rM (Gm X.K "list" vG (kz k) (iI (rE φ m) rL)))):SV φ X st (xU k m):=BS.mono h fun D σ H hq=>by
 obtain⟨G,O0,H0,O,ρ,n,s,w⟩:=hq
 unfold xU at w
 cases hk:ρ[k]? with
 |none=>simp only[hk] at w;exact w.elim
 |some t=>
  cases t with
  |own l=>
   simp only[hk] at w
   obtain⟨p,xs,hx,hO,np,hh,rr⟩:=s.es.er.2 k _ hk
   have hs:=eK s.es.er hk hx
   have npB:p≠G.B:=fun z=>np (z▸G.pB)
   rw[M.wZ] at w
   refine⟨_,hs,.inl ⟨rfl,xs,cV.of hh⟩,G,O,ρ,n,_,s.es,w,fun y x H1 n1 e1 bP r1 w1=>?_⟩
   have hy: ∃ zs,y= .lst zs∧(if l.length+zs.length≤100000 then(M.ret (Fl.nx (ρ.set k (.own (l++zs))))) else M.fail).wp n1 fun f n'=>oU G O0 H0 D n' f:=by
    cases y<;>first|exact⟨_,rfl,w1⟩|exact w1.elim
   obtain⟨zs,rfl,w2⟩:=hy
   obtain⟨b,ys,rfl,hb,e⟩:=(cQ.full (G:=G) r1).fR
   by_cases hc:l.length+zs.length≤100000
   ·rw[Lq hc] at w2
    have s1:=s.to e1 bP
    have big:=fE
    have e':=e.1
    refine⟨p,b,xs,ys,rfl,rfl,e1 p _ npB hh,hb,by rw[←rr.1,←e.1];lia,w2 O _ _ (s1.put hk hs ((rr.ext s.es.B e1).append e))⟩
   ·rw[Lr hc] at w2;exact w2.elim
  |_=>simp only[hk] at w;exact w.elim
end
section
variable {X:Cx}
theorem a1 (h0:EV φ X e0 m0) (s0:isStar e0=false:=by rfl):AV φ X [e0] (aa m0 (fun _=>.ret [])):=af h0 (az) s0
theorem a2 (h0:EV φ X e0 m0) (h1:EV φ X e1 m1) (s0:isStar e0=false:=by rfl) (s1:isStar e1=false:=by rfl):AV φ X [e0,e1] (aa m0 (aa m1 (fun _=>.ret []))):=af h0 (af h1 (az) s1) s0
theorem a3 (h0:EV φ X e0 m0) (h1:EV φ X e1 m1) (h2:EV φ X e2 m2) (s0:isStar e0=false:=by rfl) (s1:isStar e1=false:=by rfl) (s2:isStar e2=false:=by rfl):AV φ X [e0,e1,e2] (aa m0 (aa m1 (aa m2 (fun _=>.ret [])))):=af h0 (af h1 (af h2 (az) s2) s1) s0
theorem a4 (h0:EV φ X e0 m0) (h1:EV φ X e1 m1) (h2:EV φ X e2 m2) (h3:EV φ X e3 m3) (s0:isStar e0=false:=by rfl) (s1:isStar e1=false:=by rfl) (s2:isStar e2=false:=by rfl) (s3:isStar e3=false:=by rfl):AV φ X [e0,e1,e2,e3] (aa m0 (aa m1 (aa m2 (aa m3 (fun _=>.ret []))))):=af h0 (af h1 (af h2 (af h3 (az) s3) s2) s1) s0
theorem a5 (h0:EV φ X e0 m0) (h1:EV φ X e1 m1) (h2:EV φ X e2 m2) (h3:EV φ X e3 m3) (h4:EV φ X e4 m4) (s0:isStar e0=false:=by rfl) (s1:isStar e1=false:=by rfl) (s2:isStar e2=false:=by rfl) (s3:isStar e3=false:=by rfl) (s4:isStar e4=false:=by rfl):AV φ X [e0,e1,e2,e3,e4] (aa m0 (aa m1 (aa m2 (aa m3 (aa m4 (fun _=>.ret [])))))):=af h0 (af h1 (af h2 (af h3 (af h4 (az) s4) s3) s2) s1) s0
theorem a6 (h0:EV φ X e0 m0) (h1:EV φ X e1 m1) (h2:EV φ X e2 m2) (h3:EV φ X e3 m3) (h4:EV φ X e4 m4) (h5:EV φ X e5 m5) (s0:isStar e0=false:=by rfl) (s1:isStar e1=false:=by rfl) (s2:isStar e2=false:=by rfl) (s3:isStar e3=false:=by rfl) (s4:isStar e4=false:=by rfl) (s5:isStar e5=false:=by rfl):AV φ X [e0,e1,e2,e3,e4,e5] (aa m0 (aa m1 (aa m2 (aa m3 (aa m4 (aa m5 (fun _=>.ret []))))))):=af h0 (af h1 (af h2 (af h3 (af h4 (af h5 (az) s5) s4) s3) s2) s1) s0
end
structure JV (K:Frag) (mg:Str→Option Value) (x:Str) (st:Stmt) (a:Addr) (d:FuncData) (ps:List Str):Prop where
 F:kr K x x st a d
 m:mg x=some (.ref a)
 b:Binds K d ps []
theorem ec {X:Cx} {x:Str} {p pos:Pos} {e:Expr} {es:List Expr} {st:Stmt} {k k':Nat} {f:Addr} {fd:FuncData} {ps:List Str} {Fm:List PV→M PV} {ml:ak→M (List PV)} (G:bD X.prog X.w X.K X.mg X.base ed k f fd ps (fT φ Fm)) (c:JV X.K X.mg x st f fd ps) (hr:eN k' X.A) (ha:AV φ X (e::es) ml) (hk:k≤k':=by decide) (hg:Gl X x:=by rfl) (qR:(x==("__debug__":Str))=false:=by decide)
  (he:starEach (e::es) X.env=(false,eval e X.env)::starEach es X.env:=by rfl) (ng:(backTo pos (starEach es X.env)).any (·.1)=false:=by rfl):EV φ X (.Call (.Name x p) (e::es) [] pos) (fun ρ=>(ml ρ).bind Fm):=aM (aL G (hr.mono hk) hg c.m c.F.kp c.b .nil bM ha qR he ng)
end
section
variable {φ:eF}
def Kd:Expr→List Str
 | .Name x _=>[x]
 | .Tuple es _ _=>es.filterMap fun e=>match e with| .Name x _=>some x|_=>none
 |_=>[]
def Kr (tg:Expr) (XN:List Str) (js:List (Option Nat)):List Str:=Kd tg++js.filterMap fun o=>o.bind fun i=>XN[i]?
end
section
open PySem.W (KasT kas_rev kas_asc kas_desc kas_tail3 kas_descPart kas_count kas_place kas_bin kas_sort)
open PySem.W (kas_sort kas_ask KatTups)
open PySem.W (kla_fn kla_obj CodeHd tabObj)
def Bp (N:Nat) (p0 p:Array Nat):Prop:=Bd N p∧p.Perm p0
theorem Bp.at {N:Nat} {p0 p:Array Nat} (h:Bp N p0 p) (k:Nat):p.getD k 0 < N:=h.1.at k
theorem Bp.perm {N:Nat} {p0 p q:Array Nat} (h:Bp N p0 p) (pm:q.Perm p):Bp N p0 q:=⟨h.1.perm pm,pm.trans h.2⟩
theorem Bp.rev {N:Nat} {p0 p:Array Nat} (h:Bp N p0 p) (i j:Nat):Bp N p0 (kas_rev p i j):=h.perm (mirror_perm _ _ _ _)
section
variable {N:Nat} {p0:Array Nat}
theorem rq {p:Array Nat} (h:Bp N p0 p): ∀ f n,eX N (fun _=>True) (kas_asc p f n)
 |0,_=>trivial
 |f+1,n=>⟨h.at _,h.at _,fun b=>eX.ite trivial (rq h f (n+1))⟩
theorem kh: ∀ (f:Nat) {p:Array Nat} (n q:Nat),Bp N p0 p→eX N (fun r=>Bp N p0 r.1) (kas_desc f p n q)
 |0,_,_,_,h=>h
 |f+1,p,n,q,h=>⟨h.at _,h.at _,fun b=>eX.ite (eX.ite (kh f _ _ (h.rev _ _)) (kh f _ _ h)) ⟨h.at _,h.at _,fun d=>eX.ite h (kh f _ _ h)⟩⟩
theorem oW {p:Array Nat} (h:Bp N p0 p) (n m:Nat):eX N (fun r=>Bp N p0 r.2) (kas_tail3 n m p):=eX.bind (rq (h.rev _ _) _ _) fun a _=>h.rev _ _
theorem ki {p:Array Nat} (h:Bp N p0 p) (n m:Nat):eX N (fun r=>Bp N p0 r.2) (kas_descPart n m p):=eX.bind (kh _ _ _ h) fun r hr=>eX.ite (oW (hr.rev _ _) _ _) (oW hr _ _)
theorem xZ {p:Array Nat} (h:Bp N p0 p) (m:Nat):eX N (fun r=>Bp N p0 r.2) (kas_count m p):=
 eX.bind (rq h _ _) fun n _=>eX.ite h (eX.ite ⟨h.at _,h.at _,fun c=>eX.ite h (ki (h.rev _ _) _ _)⟩ (ki h _ _))
theorem kL {p:Array Nat} (h:Bp N p0 p) (k:Nat): ∀ f l r,eX N (fun _=>True) (kas_place p k f l r)
 |0,_,_=>trivial
 |f+1,l,r=>by
  unfold kas_place
  exact eX.ite trivial ⟨h.at _,h.at _,fun c=>eX.ite (kL h k f _ _) (kL h k f _ _)⟩
theorem wF: ∀ (f:Nat) {p:Array Nat} (k:Nat),Bp N p0 p→eX N (Bp N p0) (kas_bin f p k)
 |0,_,_,h=>h
 |f+1,p,k,h=>eX.bind (kL h _ _ _ _) fun l _=>wF f (k+1) (h.perm (bubble_perm _ _ _))
theorem yY (hN:0 < N):eX N (Bp N (List.toArray (List.range N))) (kas_sort N):=by
 have h:Bp N (List.toArray (List.range N)) (List.toArray (List.range N)):=⟨⟨hN,fun x hx=>by simpa using hx⟩,Array.Perm.refl _⟩
 exact eX.bind (xZ h _) fun r hr=>eX.ite (wF _ _ hr) hr
end
theorem ze {N:Nat} {α:Type} {V:α→Prop} {r:Nat→Int}: ∀ (t:KasT α),eX N V t→V (runK r t)
 | .ret a,h=>h
 | .ask i j k,h=>ze (k (decide (r i < r j))) (h.2.2 _)
def jG (r:Nat→Int) (n:Nat):Array Nat:=if n < 2 then List.toArray (List.range n) else runK r (kas_sort n)
theorem ja (r:Nat→Int) (n:Nat):(jG r n).Perm (List.toArray (List.range n)):=by
 unfold jG
 split
 ·exact Array.Perm.refl _
 ·exact(ze (r:=r) _ (yY (N:=n) (by omega))).2
theorem xo (r:Nat→Int) (n:Nat):(jG r n).size=n:=by
 have:=(Array.perm_iff_toList_perm.mp (ja r n)).length_eq
 simpa using this
variable {φ:eF}
end
section
open PySem.W (kas_sort kas_ask KatTups)
noncomputable def uM (now e1:Nat):Unit→Sem PySem.Fin:=fun _=>if(now !=e1)=true then rule "list.sort.modified" >>= fun _=>(raiseErrorWords "ValueError" "list modified during sort":Sem PUnit) >>= fun _=>ret .none else ret .none
noncomputable def qH (a:Addr) (e1:Nat) (s:SortSt):Sem PySem.Fin:=seqEpoch a >>= fun now=>Builtin.List.listUpdate (.ref a) (fun _=>(arrOf s).map (·.2)) >>= fun _=>match failedOf s with
 |some e=>rule "list.sort.comparison-raised" >>= fun _=>(throw e:Sem PUnit) >>= fun _=>uM now e1 ()
 |_=>uM now e1 ()
noncomputable def qI (a:Addr) (items:Array Value) (before:Nat) (kind:SortKind):Sem PySem.Fin:=(if items.size < 2 then pure () else sortRuns').run (SortSt.mk' kind (items.zip items) #[] 7 none) >>= fun r=>match r with
 |(PUnit.unit,s)=>qH a before s
noncomputable def vQ (a:Addr):Sem PySem.Fin:=Builtin.List.listItems (.ref a) >>= fun items=>Builtin.List.listUpdate (.ref a) (fun _=> #[]) >>= fun _=>seqEpoch a >>= fun before=>newTuple items.toList >>= fun held=>newList [] >>= fun keyStore=>
 holding [held,keyStore] (if items.size < 2 then pure general' >>= fun kind=>qI a items before kind else keyKind' items >>= fun kind=>qI a items before kind)
theorem Jr (a:Addr):Builtin.«list.sort» ⟨[.ref a],[]⟩=vQ a:=by rfl
section
variable {X:Cx} {A:Around} {E:Value→Shared→Prop} {pZ:List (Addr×Obj)} {σ:St} {H:Hp} {s:Shared} {D:Addr} {aC:List Value} {xs:List V} {kf:Nat→Int×Int} {P:PySem.Fin→Shared→Prop}
theorem mU {e1:Nat} {st:SortSt} {p:Array Nat} {H1:Hp} (I:Inv X ((D,seqObj "list" #[] e1)::pZ) σ H1 s) (fp:d6 X pZ H1 D) (rv:Vals xs aC) (h64:xs.length < 64)
  (hz:p.size=xs.length) (har:(arrOf st).map (·.2)=List.toArray (p.toList.map fun i=>aC.getD i Value.none)) (hin: ∀ i∈p.toList,i < xs.length) (hf:failedOf st=none)
  (h: ∀ s',Inv X pZ σ (upd H1 D (.lst (p.toList.map fun i=>xs.getD i .aU))) s'→P (.done (.ret .none)) s'):
  wpAny (model X.prog X.w) A (qH D e1 st) P E s:=by
 have hD:=(I.pin _ (KW _ Kw)).1
 unfold qH
 rw[har]
 refine Kv (seqEpoch_at hD rfl ?_)
 refine Kv (listUpdate_at hD rfl ?_ (K6 _) (by simp only[KC,Kx,Le];rw[hz,Lh];lia))
 rw[hf]
 dsimp only
 unfold uM
 simp only[bne_self_eq_false,Lk,if_false]
 have I2:Inv X pZ σ H1 s:=I.i8 fun q hq=>I.pin q (KW _ (Kz _ hq))
 refine KA (h _ (I2.HJ (t':=s.toks) fp (fun b u hb e=>(Heap.get?_update_other _ _ (Ne.symm hb)).trans e) ?_))
 have g:=get?_update_seq hD fun _=>List.toArray (p.toList.map fun i=>aC.getD i Value.none)
 refine⟨by rw[Kx,Le,hz,Lh];lia,p.toList.map fun i=>aC.getD i Value.none,_,?_,g⟩
 have go: ∀ l:List Nat,(∀ i∈l,i < xs.length)→Vals (l.map fun i=>xs.getD i V.aU) (l.map fun i=>aC.getD i Value.none):=fun l=>by
  induction l with
  |nil=>intro _;exact .nil
  |cons i l ih=>
   intro hl'
   refine .cons ?_ (ih fun j hj=>hl' j (Kz _ hj))
   have hi:=hl' i Kw
   obtain⟨u,hu,ru⟩:=rv.get (Ku hi)
   show RelV (xs.getD i V.aU) (aC.getD i Value.none)
   rw[KU,KU,hu,Ku hi]
   exact ru
 exact go _ hin
theorem uo {Ts:List Addr} (I:Inv X pZ σ H s) (fp:d6 X pZ H D) (ho:s.heap.get? D=some (seqObj "list" aC.toArray n0)) (rv:Vals xs aC) (h64:xs.length < 64) (hT:xs=Ts.map V.ref)
  (tt: ∀ j T,Ts[j]?=some T→H T=some (.tup [.int (kf j).1,.int (kf j).2])) (hb: ∀ i,i < xs.length→0≤(kf i).2∧(kf i).2 < 1000000)
  (h: ∀ (s':Shared),Inv X pZ σ (upd H D (.lst ((jG (rk kf) xs.length).toList.map fun i=>xs.getD i .aU))) s'→P (.done (.ret .none)) s'):
  wpAny (model X.prog X.w) A (Builtin.«list.sort» ⟨[.ref D],[]⟩) P E s:=by
 have hl:=rv.length
 have hTx:Ts.length=xs.length:=by rw[hT,Kx]
 have hzL:aC.length≤sizeLine:=by rw[Lh];lia
 have hks:aC=Ts.map Value.ref:=ku (by rw[←hT];exact rv)
 rw[Jr]
 unfold vQ
 refine Kv (listItems_at ho rfl ?_)
 refine Kv (listUpdate_at ho rfl ?_ (by rw[KC];exact hzL) (K6 _))
 obtain⟨e1,ho1⟩: ∃ e1,(s.heap.update D (Obj.mapSeq fun _=>(#[]:Array Value))).get? D=some (seqObj "list" #[] e1):=⟨_,get?_update_seq ho fun _=> #[]⟩
 refine Kv (seqEpoch_at ho1 rfl ?_)
 refine Kv (wpAny_newTuple ?_ hzL)
 refine Kv (wpAny_newList ?_ (K6 _))
 refine wpAny_holding ?_
 have I1:Inv X pZ σ H {s with heap:=s.heap.update D (Obj.mapSeq fun _=>(#[]:Array Value))}:=I.turned (t':=s.toks) (fun b u hb' e=>(Heap.get?_update_other _ _ (Ne.symm hb')).trans e) fp.1 fp.2.1 fp.2.2.2.1 fp.2.2.2.2.1 fp.2.2.2.2.2
 have I2:Inv X ((D,seqObj "list" #[] e1)::pZ) σ H {s with heap:=s.heap.update D (Obj.mapSeq fun _=>(#[]:Array Value))}:=I1.i8 fun q hq=>by
  rcases KJ.mp hq with rfl|hq
  ·exact⟨ho1,fp.1,fp.2.1,fp.2.2.1,fun v z=>by cases z⟩
  ·exact I1.pin q (KW _ hq)
 have J:Inv X ((D,seqObj "list" #[] e1)::pZ) σ H {s with heap:=((s.heap.update D (Obj.mapSeq fun _=>(#[]:Array Value))).push (seqObj "tuple" aC.toArray 0)).push (seqObj "list" #[] 0)}:=I2.kept (t':=s.toks) fun b u e=>Ky _ (Ky _ e)
 generalize hs1:({s with heap:=((s.heap.update D (Obj.mapSeq fun _=>(#[]:Array Value))).push (seqObj "tuple" aC.toArray 0)).push (seqObj "list" #[] 0)}:Shared)=s1 at *
 have inP: ∀ p:Array Nat,p.Perm (List.toArray (List.range xs.length))→∀ i∈p.toList,i < xs.length:=fun p hp i hi=>by
  have:=(Array.perm_iff_toList_perm.mp hp).mem_iff.mp hi
  simpa using this
 have fin: ∀ (p:Array Nat) (s'':Shared),p=jG (rk kf) xs.length→Inv X pZ σ (upd H D (.lst (p.toList.map fun i=>xs.getD i .aU))) s''→P (.done (.ret .none)) s'':=fun p s'' hp J'=>by
  subst hp
  exact h s'' J'
 by_cases h2:aC.toArray.size < 2
 ·rw[Lq h2]
  refine Kv (KA ?_)
  unfold qI
  rw[Lq h2,StateT.run_pure]
  refine Kv (KA ?_)
  dsimp only
  rw[KC] at h2
  have hz:(List.toArray (List.range xs.length)).size=xs.length:=by simp
  refine mU (p:=List.toArray (List.range xs.length)) J fp rv h64 hz ?_ (inP _ (Array.Perm.refl _)) rfl fun s'' J'=>fin _ s'' (by unfold jG;rw[Lq (by lia)]) J'
  have hmap:=PySem.W.kat_snds (ks:=aC) (vs:=aC) rfl (st:=SortSt.mk' general' (aC.toArray.zip aC.toArray) #[] 7 none) (p:=List.toArray (List.range xs.length)) (by
   have e:=PySem.W.kas_range (aC.toArray.zip aC.toArray)
   rw[show (aC.toArray.zip aC.toArray).size=xs.length by simp;lia] at e
   exact e.symm)
  exact hmap
 ·rw[Lr h2]
  rw[KC] at h2
  obtain⟨fs,kt,hfl,hfi⟩:=p7 (h:=s1.heap) Ts fun T hT'=>by
   obtain⟨i,hi,e⟩:=List.getElem_of_mem hT'
   obtain⟨o,n,ta,tb,g1,g2,g3⟩:=i9 J.bS (tt i T (KD.mpr ⟨hi,e⟩))
   exact⟨o,n,_,_,ta,tb,g1,g2,g3⟩
  rw[←hks] at kt
  refine Kv (PySem.W.kat_kind (T:=Value.type "int") kt (by lia) (fun v hv=>?_) rfl ?_)
  ·obtain⟨i,t,rfl⟩:=hfi v hv
   exact PySem.W.Looks.now
  ·obtain⟨p,ep⟩: ∃ p,runK (rk kf) (kas_sort xs.length)=p:=⟨_,rfl⟩
   have eo:p=jG (rk kf) xs.length:=by unfold jG;rw[Lr (by lia)];exact ep.symm
   have hp:p.Perm (List.toArray (List.range xs.length)):=eo▸ja _ _
   have hz:p.size=xs.length:=eo▸xo _ _
   unfold qI
   rw[Lr (by rw[KC];exact h2)]
   refine Kv (wpAny_mono (PySem.W.kat_run (vs:=aC) (ks:=aC) (Q:=fun st' s''=> ∃ p':Array Nat,arrOf st'=p'.map (PySem.W.kas_item (aC.toArray.zip aC.toArray))∧failedOf st'=none∧p'=p∧s''=s1) (G:=fun p' s''=>p'=p∧s''=s1)
    rfl (by lia) (by lia) (fun p' st' s'' a1 a2 a3 a4=>⟨p',a2,a3,a4.1,a4.2⟩) ?_) ?_ fun _ _ e=>e)
   ·rw[show aC.length=xs.length from hl.symm]
    refine wp_run (N:=xs.length) (V:=Bd xs.length) (r:=rk kf) (fun i j C hi hj hC=>?_) _ (vx (by lia)) ⟨ep,rfl⟩
    have hi':i < Ts.length:=by lia
    have hj':j < Ts.length:=by lia
    obtain⟨oi,ni,ai,bi,g1,g2,g3⟩:=i9 J.bS (tt i _ (Ku hi'))
    obtain⟨oj,nj,aj,bj,k1,k2,k3⟩:=i9 J.bS (tt j _ (Ku hj'))
    unfold PySem.W.kas_ask
    rw[hks,KU,KU,KY,KY,Ku hi',Ku hj']
    exact Ax g1 g3 k1 k3 (hb i hi) (hb j hj) hC
   ·rintro⟨⟨⟩,st'⟩ s'' ⟨p',har,hf,rfl,rfl⟩
    dsimp only
    exact mU J fp rv h64 hz (PySem.W.kat_snds rfl har) (inP _ hp) hf fun s3 J'=>fin _ s3 eo J'
end
section
variable {X:Cx}
noncomputable def zq:List V→Hp→VK→Prop:=fun vs H Q=> ∃ (l:Addr) (xs:List V) (Ts:List Addr) (kf:Nat→Int×Int),vs=[.ref l]∧H l=some (.lst xs)∧xs.length < 64∧xs=Ts.map V.ref∧(∀ j T,Ts[j]?=some T→H T=some (.tup [.int (kf j).1,.int (kf j).2]))∧(∀ i,i < xs.length→0≤(kf i).2∧(kf i).2 < 1000000)∧
 ∀ D,H D=none→Q (.ref D) (upd H D (.lst ((jG (rk kf) xs.length).toList.map fun i=>xs.getD i .aU)))
theorem u4:gm X (.builtin "sorted") zq:=by
 intro pZ s σ H xs us Q I r h
 obtain⟨l,ys,Ts,kf,rfl,hl,h64,hT,tt,hb,q⟩:=h
 obtain⟨u,rfl,rx⟩:=vals1 r
 cases rx
 obtain⟨_,aC,n0,rv,ho⟩:=I.bS l _ hl
 have hlen:=rv.length
 refine Calls.call_function_entry kind_sorted plain_sorted entry_sorted (args_sorted1 _) ?_
 unfold Builtin.«sorted»
 refine Kv (m:=checkCount "sorted" 1 1 _) (KA ?_)
 refine Kv (wpAny_collect_seq l (.inl rfl) ho rfl rfl (fun h1 kp=>?_) (by rw[KC,Lh];lia))
 have I1:Inv X pZ σ H {s with heap:=h1}:=I.kept (t':=s.toks) kp
 have fr:H h1.objs.size=none:=I1.fresh
 have fp:d6 X pZ H h1.objs.size:=I1.oN (KG _) fr
 refine Kv (wpAny_newList ?_ (by show aC.length≤_;rw[Lh];lia))
 have I2:Inv X pZ σ H {s with heap:=h1.push (seqObj "list" aC.toArray 0)}:=I1.kept (t':=s.toks) fun b u e=>Ky _ e
 have hoL:(h1.push (seqObj "list" aC.toArray 0)).get? h1.objs.size=some (seqObj "list" aC.toArray 0):=KP _ rfl
 refine Kv (wpAny_holding (wpAny_call_entry slot_list_sort ⟨_,hoL,rfl⟩ entry_list_sort ?body (args_list_sort _)))
 case body=>
  show wpAny (model X.prog X.w) X.A.in1.in1 (Builtin.«list.sort» ⟨[.ref h1.objs.size],[]⟩) _ _ {s with heap:=h1.push (seqObj "list" aC.toArray 0)}
  exact uo I2 fp hoL rv h64 hT tt hb fun s' J=>⟨_,rfl,KA ⟨_,rfl,.ref h1.objs.size,_,J,rfl,q _ fr⟩⟩
end
def kQ:PV→Int×Int
 | .tup [.int a,.int b]=>(a,b)
 |_=>(0,0)
def Hn:PV→Bool
 | .tup [.int _,.int b]=>decide (0≤b∧b < 1000000)
 |_=>false
theorem vO (h:Hn y=true): ∃ a b,y= .tup [.int a,.int b]∧0≤b∧b < 1000000:=by
 unfold Hn at h
 split at h
 ·rename_i a b
  have:=of_decide_eq_true h
  exact⟨a,b,rfl,this.1,this.2⟩
 ·cases h
def CF (l:List PV):List PV:=(jG (rk fun i=>kQ (l.getD i .aU)) l.length).toList.map fun i=>l.getD i .aU
def rR:List PV→M (List PV)
 |[.lst l]=>if l.length < 64∧∀ z∈l,Hn z=true then .ret (CF l) else .fail
 |_=>.fail
theorem Ba:Ej zq rR:=fun φ G O H n R Q l xs pr dm ok r w q=>by
 match l,r,w with
 |[.lst z],r,w=>
  obtain⟨x,ex,r1⟩:=r.one;subst ex;clear r;have r:=r1;clear r1
  obtain⟨p,ys,rfl,h,e⟩:=r.fR
  simp only[rR] at w
  by_cases c:z.length < 64∧∀ y∈z,Hn y=true
  ·rw[Lq c] at w
   have hlen:z.length=ys.length:=e.1
   obtain⟨Ts,eT,tt⟩: ∃ Ts:List Addr,ys=Ts.map V.ref∧∀ j T,Ts[j]?=some T→H T=some (.tup [.int (kQ (z.getD j .aU)).1,.int (kQ (z.getD j .aU)).2]):=by
    have key: ∀ (z:List PV) (ys:List V),aR G.B O H z ys→(∀ y∈z,Hn y=true)→∃ Ts:List Addr,ys=Ts.map V.ref∧∀ j T,Ts[j]?=some T→H T=some (.tup [.int (kQ (z.getD j .aU)).1,.int (kQ (z.getD j .aU)).2]):=by
     intro z
     induction z with
     |nil=>
      intro ys r _
      cases ys with
      |nil=>exact⟨[],rfl,fun j T h=>by simp at h⟩
      |cons y ys=>have:=r.1;simp at this
     |cons y z ih=>
      intro ys r hk
      obtain⟨x,ys',rfl,r1,r2⟩:=r.cons_inv
      obtain⟨Ts,rfl,tt⟩:=ih ys' r2 fun y hy=>hk y (Kz _ hy)
      obtain⟨a,b,rfl,_,_⟩:=vO (hk y Kw)
      cases r1 with
      | @tup T zs _ nO hT hl hr=>
       have rz:aR G.B O H [PV.int a,PV.int b] zs:=⟨hl,hr⟩
       obtain⟨z1,zs1,rfl,q1,q2⟩:=rz.cons_inv
       obtain⟨z2,zs2,rfl,q3,q4⟩:=q2.cons_inv
       rw[q4.nil_inv] at hT
       cases q1
       cases q3
       refine⟨T::Ts,rfl,fun j T' h=>?_⟩
       cases j with
       |zero=>simp at h;subst h;exact hT
       |succ j=>exact tt j T' (by simpa using h)
    exact key z ys e c.2
   refine⟨p,ys,Ts,fun j=>kQ (z.getD j .aU),rfl,h,by lia,eT,tt,fun i hi=>?_,fun D hD=>?_⟩
   ·have hi':i < z.length:=by lia
    obtain⟨a,b,e1,e2,e3⟩:=vO (c.2 _ (Ll hi'))
    dsimp only
    rw[KU,Ku hi',Option.getD_some,e1]
    exact⟨e2,e3⟩
   ·refine q.mk ok hD (pr _ G.pB) (l:=CF z) ?_ w
    unfold CF
    rw[←hlen]
    refine⟨by simp,fun i y x a b=>?_⟩
    rw[KY] at a b
    cases d:(jG (rk fun i=>kQ (z.getD i .aU)) z.length).toList[i]? with
    |none=>rw[d] at a;cases a
    |some j=>
     rw[d] at a b
     cases a
     cases b
     have hj:j < z.length:=by
      have:=(Array.perm_iff_toList_perm.mp (ja (rk fun i=>kQ (z.getD i .aU)) z.length)).mem_iff.mp (List.mem_of_getElem? d)
      simpa using this
     obtain⟨x,hx,rx⟩:=e.at (Ku hj)
     show Rep G.B O H (z.getD j .aU) (ys.getD j .aU)
     rw[KU,KU,hx,Ku hj]
     exact rx
  ·rw[Lr c] at w;exact w.elim
end
section
open PySem.W (KasT kas_rev kas_asc kas_desc kas_tail3 kas_descPart kas_count kas_place kas_bin kas_sort)
section
variable {r:Nat→Int}
def wL (r:Nat→Int) (p:Array Nat) (m:Nat):Prop:= ∀ i j,i≤j→j < m→kg r p i≤kg r p j
def Ei (r:Nat→Int) (p:Array Nat) (m:Nat):Prop:= ∀ i j,i≤j→j < m→kg r p j≤kg r p i
theorem yy (h1:1≤n) (h:wL r p n) (h':kg r p (n - 1)≤kg r p n):wL r p (n+1):=fun i j hij hj=>by
 by_cases e:j=n
 ·subst e
  by_cases e2:i=j
  ·subst e2;exact Int.le_refl _
  ·exact Int.le_trans (h i (j - 1) (by lia) (by lia)) h'
 ·exact h i j hij (by lia)
theorem nJ (h1:1≤n) (h:Ei r p n) (h':kg r p n≤kg r p (n - 1)):Ei r p (n+1):=fun i j hij hj=>by
 by_cases e:j=n
 ·subst e
  by_cases e2:i=j
  ·subst e2;exact Int.le_refl _
  ·exact Int.le_trans h' (h i (j - 1) (by lia) (by lia))
 ·exact h i j hij (by lia)
theorem Bu: ∀ (f n:Nat),1≤n→n+f≤p.size→wL r p n→∃ m,runK r (kas_asc p f n)=m∧n≤m∧m≤n+f∧wL r p m∧(m < n+f→kg r p m < kg r p (m - 1))
 |0,n,h1,hz,h=>⟨n,rfl,by lia,by lia,h,fun z=>by lia⟩
 |f+1,n,h1,hz,h=>by
  unfold kas_asc
  show ∃ m,runK r (if decide (r (p.getD n 0) < r (p.getD (n - 1) 0))=true then KasT.ret n else kas_asc p f (n+1))=m∧_
  by_cases c:r (p.getD n 0) < r (p.getD (n - 1) 0)
  ·rw[Lq (by simpa using c)]
   exact⟨n,rfl,by lia,by lia,h,fun _=>c⟩
  ·rw[Lr (by simpa using c)]
   obtain⟨m,e,a1,a2,a3,a4⟩:=Bu f (n+1) (by lia) (by lia) (yy h1 h (Int.not_lt.mp c))
   exact⟨m,e,by lia,by lia,a3,fun z=>a4 (by lia)⟩
theorem Cg (hm:m≤p.size) (k:Nat):kg r (kas_rev p a m) k=if a≤k∧k < m then kg r p (a+m - 1 - k) else kg r p k:=by
 have e:=getElem?_mirror_all (xs:=p) (i:=a) (j:=m) hm k
 unfold kg kas_rev
 rw[K0,e]
 by_cases c:a≤k∧k < m
 ·rw[Lq c,Lq c,K0]
 ·rw[Lr c,Lr c,K0]
theorem mK (hm:m≤p.size) (h: ∀ i,a≤i→i < m→kg r p i=v) (k:Nat):kg r (kas_rev p a m) k=kg r p k:=by
 rw[Cg hm]
 split
 ·rename_i c
  rw[h _ (by lia) (by lia),h k c.1 c.2]
 ·rfl
theorem qX: ∀ (f:Nat) (p:Array Nat) (n q:Nat),1≤n→q < n→n+f≤p.size→Ei r p n→(∀ i,n - 1 - q≤i→i < n→kg r p i=kg r p (n - 1))→
  ∃ p' m q',runK r (kas_desc f p n q)=(p',m,q')∧n≤m∧m≤n+f∧p'.size=p.size∧p'.Perm p∧(∀ k,kg r p' k=kg r p k)∧Ei r p m∧q' < m∧∀ i,m - 1 - q'≤i→i < m→kg r p i=kg r p (m - 1)
 |0,p,n,q,h1,hq,hz,h,hc=>⟨p,n,q,rfl,by lia,by lia,rfl,.refl _,fun _=>rfl,h,hq,hc⟩
 |f+1,p,n,q,h1,hq,hz,h,hc=>by
  unfold kas_desc
  by_cases c:r (p.getD n 0) < r (p.getD (n - 1) 0)
  ·have c':kg r p n < kg r p (n - 1):=c
   have hd:=nJ h1 h (Int.le_of_lt c')
   by_cases d:q > 0
   ·have same: ∀ k,kg r (kas_rev p (n - (q+1)) n) k=kg r p k:=mK (by lia) (v:=kg r p (n - 1)) fun i g1 g2=>hc i (by lia) g2
    have hz':(kas_rev p (n - (q+1)) n).size=p.size:=mirror_size _ _ _ _
    obtain⟨p',m,q',e,a1,a2,a3,a4,a5,a6,a7,a8⟩:=qX f (kas_rev p (n - (q+1)) n) (n+1) 0 (by lia) (by lia) (by rw[hz'];lia) (fun i j g1 g2=>by rw[same,same];exact hd i j g1 g2) (fun i g1 g2=>by rw[show i=n+1 - 1 by lia])
    refine⟨p',m,q',?_,by lia,by lia,a3.trans hz',a4.trans (mirror_perm _ _ _ _),fun k=>(a5 k).trans (same k),fun i j g1 g2=>by rw[←same,←same];exact a6 i j g1 g2,a7,fun i g1 g2=>by rw[←same,←same];exact a8 i g1 g2⟩
    show runK r (if decide (r (p.getD n 0) < r (p.getD (n - 1) 0))=true then _ else _)=_
    rw[Lq (by simpa using c),Lq d]
    exact e
   ·obtain⟨p',m,q',e,a1,a2,a3,a4,a5,a6,a7,a8⟩:=qX f p (n+1) 0 (by lia) (by lia) (by lia) hd (fun i g1 g2=>by rw[show i=n+1 - 1 by lia])
    refine⟨p',m,q',?_,by lia,by lia,a3,a4,a5,a6,a7,a8⟩
    show runK r (if decide (r (p.getD n 0) < r (p.getD (n - 1) 0))=true then _ else _)=_
    rw[Lq (by simpa using c),Lr d]
    exact e
  ·by_cases d:r (p.getD (n - 1) 0) < r (p.getD n 0)
   ·refine⟨p,n,q,?_,by lia,by lia,rfl,.refl _,fun _=>rfl,h,hq,hc⟩
    show runK r (if decide (r (p.getD n 0) < r (p.getD (n - 1) 0))=true then _ else _)=_
    rw[Lr (by simpa using c)]
    show runK r (if decide (r (p.getD (n - 1) 0) < r (p.getD n 0))=true then _ else _)=_
    rw[Lq (by simpa using d)]
    rfl
   ·have eq:kg r p n=kg r p (n - 1):=Int.le_antisymm (Int.not_lt.mp d) (Int.not_lt.mp c)
    obtain⟨p',m,q',e,a1,a2,a3,a4,a5,a6,a7,a8⟩:=qX f p (n+1) (q+1) (by lia) (by lia) (by lia) (nJ h1 h (Int.le_of_eq eq)) (fun i g1 g2=>by
     rw[show n+1 - 1=n by lia,eq]
     by_cases z:i=n
     ·rw[z,eq]
     ·exact hc i (by lia) (by lia))
    refine⟨p',m,q',?_,by lia,by lia,a3,a4,a5,a6,a7,a8⟩
    show runK r (if decide (r (p.getD n 0) < r (p.getD (n - 1) 0))=true then _ else _)=_
    rw[Lr (by simpa using c)]
    show runK r (if decide (r (p.getD (n - 1) 0) < r (p.getD n 0))=true then _ else _)=_
    rw[Lr (by simpa using d)]
    exact e
theorem Ji (hm:m≤p.size) (h:Ei r p m):wL r (kas_rev p 0 m) m:=fun i j hij hj=>by
 rw[kH hm,kH hm,Lq (by lia),Lq hj]
 exact h (m - 1 - j) (m - 1 - i) (by lia) (by lia)
theorem yJ (h1:1≤n) (hn:n≤p.size) (h:Ei r p n): ∃ m p',runK r (kas_tail3 n p.size p)=(m,p')∧1≤m∧m≤p.size∧p'.size=p.size∧p'.Perm p∧wL r p' m:=by
 unfold kas_tail3
 rw[run_bind]
 have hz:(kas_rev p 0 n).size=p.size:=mirror_size _ _ _ _
 obtain⟨m',e3,d1,d2,d3,d4⟩:=Bu (p:=kas_rev p 0 n) (p.size - n) n h1 (by rw[hz];lia) (Ji hn h)
 rw[e3]
 exact⟨m',kas_rev p 0 n,rfl,by lia,by lia,hz,mirror_perm _ _ _ _,d3⟩
theorem zS (h1:1≤n) (hn:n < p.size) (h:Ei r p n) (lt:kg r p n < kg r p (n - 1)): ∃ m p',runK r (kas_descPart n p.size p)=(m,p')∧1≤m∧m≤p.size∧p'.size=p.size∧p'.Perm p∧wL r p' m:=by
 unfold kas_descPart
 rw[run_bind]
 obtain⟨p',m,q,e,a1,a2,a3,a4,a5,a6,a7,a8⟩:=qX (r:=r) (p.size - (n+1)) p (n+1) 0 (by lia) (by lia) (by lia) (nJ h1 h (Int.le_of_lt lt)) (fun i g1 g2=>by rw[show i=n+1 - 1 by lia])
 rw[e]
 dsimp only
 have d':Ei r p' m:=fun i j g1 g2=>by rw[a5,a5];exact a6 i j g1 g2
 by_cases c:q > 0
 ·rw[Lq c]
  have hz':(kas_rev p' (m - (q+1)) m).size=p.size:=(mirror_size _ _ _ _).trans a3
  have same: ∀ k,kg r (kas_rev p' (m - (q+1)) m) k=kg r p' k:=mK (by lia) (v:=kg r p (m - 1)) fun i g1 g2=>by rw[a5];exact a8 i (by lia) g2
  obtain⟨m',p2,e2,b1,b2,b3,b4,b5⟩:=yJ (r:=r) (p:=kas_rev p' (m - (q+1)) m) (n:=m) (by lia) (by lia) (fun i j g1 g2=>by rw[same,same];exact d' i j g1 g2)
  rw[hz'] at e2 b2 b3
  exact⟨m',p2,e2,b1,b2,b3,b4.trans ((mirror_perm _ _ _ _).trans a4),b5⟩
 ·rw[Lr c]
  obtain⟨m',p2,e2,b1,b2,b3,b4,b5⟩:=yJ (r:=r) (p:=p') (n:=m) (by lia) (by lia) d'
  rw[a3] at e2 b2 b3
  exact⟨m',p2,e2,b1,b2,b3,b4.trans a4,b5⟩
theorem Dm (h2:1≤p.size): ∃ m p',runK r (kas_count p.size p)=(m,p')∧1≤m∧m≤p.size∧p'.size=p.size∧p'.Perm p∧wL r p' m:=by
 unfold kas_count
 rw[run_bind]
 obtain⟨n,e,a1,a2,a3,a4⟩:=Bu (r:=r) (p:=p) (p.size - 1) 1 (by lia) (by lia) (fun i j hij hj=>by rw[show i=j by lia];exact Int.le_refl _)
 rw[e]
 by_cases c1:n=p.size
 ·rw[Lq (by simpa using c1)]
  exact⟨n,p,rfl,a1,by lia,rfl,.refl _,a3⟩
 ·rw[Lr (by simpa using c1)]
  have lt:=a4 (by lia)
  by_cases c2:n > 1
  ·rw[Lq c2]
   show ∃ m p',runK r (if decide (r (p.getD 0 0) < r (p.getD (n - 1) 0))=true then _ else _)=_∧_
   by_cases d:r (p.getD 0 0) < r (p.getD (n - 1) 0)
   ·rw[Lq (by simpa using d)]
    exact⟨n,p,rfl,a1,by lia,rfl,.refl _,a3⟩
   ·rw[Lr (by simpa using d)]
    have all: ∀ i,0≤i→i < n→kg r p i=kg r p 0:=fun i _ g=>Int.le_antisymm (Int.le_trans (a3 i (n - 1) (by lia) (by lia)) (Int.not_lt.mp d)) (a3 0 i (K6 _) g)
    have same: ∀ k,kg r (kas_rev p 0 n) k=kg r p k:=mK (by lia) all
    have hz':(kas_rev p 0 n).size=p.size:=mirror_size _ _ _ _
    obtain⟨m,p',e2,b1,b2,b3,b4,b5⟩:=zS (r:=r) (p:=kas_rev p 0 n) (n:=n) (by lia) (by lia) (fun i j g1 g2=>by rw[same,same,all i (K6 _) (by lia),all j (K6 _) g2];exact Int.le_refl _) (by rw[same,same];exact lt)
    rw[hz'] at e2 b2 b3
    exact⟨m,p',e2,b1,b2,b3,b4.trans (mirror_perm _ _ _ _),b5⟩
  ·rw[Lr c2]
   exact zS a1 (by lia) (fun i j g1 g2=>by rw[show i=j by lia];exact Int.le_refl _) lt
theorem qu (hk:k < p.size) (h:wL r p k): ∀ (f l q:Nat),q≤l+f→q≤k→l≤q→(∀ i,i < l→kg r p i≤kg r p k)→(∀ i,q≤i→i < k→kg r p k≤kg r p i)→∃ m,runK r (kas_place p k f l q)=m∧m≤k∧(∀ i,i < m→kg r p i≤kg r p k)∧∀ i,m≤i→i < k→kg r p k≤kg r p i
 |0,l,q,hf,hq,hl,lo,hi=>⟨l,rfl,by lia,lo,fun i h1 h2=>hi i (by lia) h2⟩
 |f+1,l,q,hf,hq,hl,lo,hi=>by
  unfold kas_place
  rw[lT]
  by_cases c:l ≥ q
  ·rw[Lq c]
   exact⟨l,rfl,by lia,lo,fun i h1 h2=>hi i (by lia) h2⟩
  ·rw[Lr c]
   show ∃ m,runK r (if decide (r (p.getD k 0) < r (p.getD ((l+q) / 2) 0))=true then _ else _)=m∧_
   have hmid:(l+q) / 2 < q:=by lia
   by_cases d:r (p.getD k 0) < r (p.getD ((l+q) / 2) 0)
   ·rw[Lq (by simpa using d)]
    exact qu hk h f l ((l+q) / 2) (by lia) (by lia) (by lia) lo fun i h1 h2=>Int.le_trans (Int.le_of_lt d) (h _ i h1 h2)
   ·rw[Lr (by simpa using d)]
    exact qu hk h f ((l+q) / 2+1) q (by lia) hq (by lia) (fun i h1=>Int.le_trans (h i ((l+q) / 2) (by lia) (by lia)) (Int.not_lt.mp d)) hi
theorem Ec: ∀ (f:Nat) (p:Array Nat) (k:Nat),k+f=p.size→wL r p k→∃ p',runK r (kas_bin f p k)=p'∧p'.size=p.size∧p'.Perm p∧wL r p' p.size
 |0,p,k,hz,h=>⟨p,rfl,rfl,.refl _,by rw[←hz];exact h⟩
 |f+1,p,k,hz,h=>by
  unfold kas_bin
  rw[run_bind]
  obtain⟨l,e,a1,a2,a3⟩:=qu (show k < p.size by lia) h k 0 k (by lia) (KG _) (K6 _) (fun i hi=>by lia) (fun i h1 h2=>by lia)
  rw[e]
  have hb:(bubble p k (k - l)).size=p.size:=bubble_size _ _ _
  have at_:=fun i=>Bi (r:=r) (p:=p) (k:=k) (l:=l) (i:=i) (by lia) a1
  have h':wL r (bubble p k (k - l)) (k+1):=fun i j hij hj=>by
   rw[at_ i,at_ j]
   repeat' split
   all_goals first|(exfalso;lia)|exact Int.le_refl _|exact a2 _ (by lia)|exact a3 _ (by lia) (by lia)|exact h _ _ (by lia) (by lia)
  obtain⟨p',e',b1,b2,b3⟩:=Ec f (bubble p k (k - l)) (k+1) (by rw[hb];lia) h'
  exact⟨p',e',b1.trans hb,b2.trans (bubble_perm _ _ _),by rw[hb] at b3;exact b3⟩
theorem EE (hn:1≤n): ∃ p,runK r (kas_sort n)=p∧p.size=n∧wL r p n:=by
 have hz:(List.toArray (List.range n)).size=n:=by simp
 unfold kas_sort
 rw[run_bind]
 obtain⟨m,p',e,a1,a2,a3,a4,a6⟩:=Dm (r:=r) (p:=List.toArray (List.range n)) (by rw[hz];exact hn)
 rw[hz] at e a2 a3
 rw[e]
 dsimp only
 rw[lT]
 by_cases c:m < n
 ·rw[Lq c,Nat.max_eq_left a1]
  obtain⟨p2,e2,b1,b2,b3⟩:=Ec (n - m) p' m (by lia) a6
  rw[a3] at b1 b3
  exact⟨p2,e2,b1,b3⟩
 ·rw[Lr c]
  have:m=n:=by lia
  subst this
  exact⟨p',rfl,a3,a6⟩
theorem CG (r:Nat→Int) (n:Nat):((jG r n).toList.map r).Pairwise (·≤·):=by
 have key: ∃ p:Array Nat,jG r n=p∧p.size=n∧wL r p n:=by
  unfold jG
  by_cases c:n < 2
  ·rw[Lq c]
   exact⟨_,rfl,by simp,fun i j hij hj=>by rw[show i=j by lia];exact Int.le_refl _⟩
  ·rw[Lr c]
   exact EE (by lia)
 obtain⟨p,e,hz,hu⟩:=key
 rw[e,List.pairwise_map,List.pairwise_iff_getElem]
 intro i j hi hj hij
 have hj':j < n:=by simpa[hz] using hj
 have g:=hu i j (by lia) hj'
 unfold kg at g
 have e1:p.getD i 0=p.toList[i]:=by simp at hi;simp[Array.getD,hi]
 have e2:p.getD j 0=p.toList[j]:=by simp at hj;simp[Array.getD,hj]
 rw[e1,e2] at g
 exact g
end
end
end L2
namespace K16
open L2
open L2.Ent (val un)
def top (i:Nat):Stmt:=PySem.Challenge.pw_homeslopes_k16_looks_one_behind_another.main.body.getD i (.Pass ⟨0,0,0,0⟩)
abbrev cE:Stmt:=top 1
theorem fU:aX ["book","kind","name","t","found","page"] ["book","kind","name","t"] (ah cE):=⟨rfl,rfl,rfl,by decide +kernel,rfl,by decide +kernel,by decide +kernel⟩
abbrev dF:Stmt:=top 2
theorem mI:aX ["book","post","t","page"] ["book","post","t"] (ah dF):=⟨rfl,rfl,rfl,by decide +kernel,rfl,by decide +kernel,by decide +kernel⟩
abbrev cS:Stmt:=top 3
theorem lz:aX ["book","w","t","page"] ["book","w","t"] (ah cS):=⟨rfl,rfl,rfl,by decide +kernel,rfl,by decide +kernel,by decide +kernel⟩
abbrev cC:Stmt:=top 4
theorem jW:aX ["book","w","t","page"] ["book","w","t"] (ah cC):=⟨rfl,rfl,rfl,by decide +kernel,rfl,by decide +kernel,by decide +kernel⟩
abbrev bW:Stmt:=top 6
theorem eh:aX ["book","rule","t","word","post","n","value"] ["book","rule","t"] (ah bW):=⟨rfl,rfl,rfl,by decide +kernel,rfl,by decide +kernel,by decide +kernel⟩
abbrev bX:Stmt:=top 7
theorem jv:aX ["book","way","n","t","m"] ["book","way","n","t"] (ah bX):=⟨rfl,rfl,rfl,by decide +kernel,rfl,by decide +kernel,by decide +kernel⟩
abbrev bH:Stmt:=top 8
theorem iM:aX ["book","way","rule","t","word"] ["book","way","rule","t"] (ah bH):=⟨rfl,rfl,rfl,by decide +kernel,rfl,by decide +kernel,by decide +kernel⟩
abbrev aY:Stmt:=top 9
theorem iB:aX ["book","way","t","rules"] ["book","way","t"] (ah aY):=⟨rfl,rfl,rfl,by decide +kernel,rfl,by decide +kernel,by decide +kernel⟩
abbrev bL:Stmt:=top 10
theorem eC:aX ["asked","found","before","name"] ["asked"] (ah bL):=⟨rfl,rfl,rfl,by decide +kernel,rfl,by decide +kernel,by decide +kernel⟩
abbrev cc:Stmt:=top 11
theorem eZ:aX ["hill","book","t","asked","way","others","found"] ["hill","book","t"] (ah cc):=⟨rfl,rfl,rfl,by decide +kernel,rfl,by decide +kernel,by decide +kernel⟩
abbrev bK:Stmt:=top 13
theorem oq:aX ["book","w","rule"] ["book","w","rule"] (ah bK):=⟨rfl,rfl,rfl,by decide +kernel,rfl,by decide +kernel,by decide +kernel⟩
abbrev fb:Stmt:=top 14
theorem jV:aX ["hill","book","found","page","rule"] ["hill","book"] (ah fb):=⟨rfl,rfl,rfl,by decide +kernel,rfl,by decide +kernel,by decide +kernel⟩
abbrev cb:Stmt:=top 15
theorem qk:aX ["hill","book"] ["hill","book"] (ah cb):=⟨rfl,rfl,rfl,by decide +kernel,rfl,by decide +kernel,by decide +kernel⟩
abbrev bA:Stmt:=top 16
theorem cq:aX ["parts","w","dark","found","begun","m","names"] ["parts","w","dark"] (ah bA):=⟨rfl,rfl,rfl,by decide +kernel,rfl,by decide +kernel,by decide +kernel⟩
abbrev fH:Stmt:=top 17
theorem zc:aX ["hill","book","w"] ["hill","book","w"] (ah fH):=⟨rfl,rfl,rfl,by decide +kernel,rfl,by decide +kernel,by decide +kernel⟩
abbrev df:Stmt:=top 19
theorem cM:aX ["_law_script","_law_digits","_law_cell","_law_seed","_law_k"] ["_law_script"] (ah df):=⟨rfl,rfl,rfl,by decide +kernel,rfl,by decide +kernel,by decide +kernel⟩
abbrev fz:Stmt:=top 20
theorem gA:aX ["_law_state","_law_many","_law_found","_law_far"] ["_law_state","_law_many"] (ah fz):=⟨rfl,rfl,rfl,by decide +kernel,rfl,by decide +kernel,by decide +kernel⟩
abbrev bT:Stmt:=top 21
theorem gz:aX ["_law_state","_law_taken","_law_letters","_law_size","_law_word_here"] ["_law_state","_law_taken"] (ah bT):=⟨rfl,rfl,rfl,by decide +kernel,rfl,by decide +kernel,by decide +kernel⟩
abbrev cD:Stmt:=top 22
theorem h7:aX ["_law_state","_law_many","_law_found","_law_k"] ["_law_state","_law_many"] (ah cD):=⟨rfl,rfl,rfl,by decide +kernel,rfl,by decide +kernel,by decide +kernel⟩
abbrev bY:Stmt:=top 23
theorem fG:aX ["_law_runs","_law_found","_law_a","_law_b"] ["_law_runs"] (ah bY):=⟨rfl,rfl,rfl,by decide +kernel,rfl,by decide +kernel,by decide +kernel⟩
abbrev fP:Stmt:=top 24
theorem cK:aX ["_law_script","_law_state","_law_scale","_law_names","_law_spots","_law_dark","_law_kinds","_law_hill","_law_pages","_law_begun","_law_far","_law_k","_law_looks","_law_s","_law_moment","_law_book","_law_runs","_law_due","_law_a","_law_b"] ["_law_script"] (ah fP):=⟨rfl,rfl,rfl,by decide +kernel,rfl,by decide +kernel,by decide +kernel⟩
structure Txt (K:Frag) (mg:Str→Option Value) (a_last_page a_reading a_rules_at a_looked_at a_post_holds a_look_holds a_holds_alone a_others_asked a_found_open a_open_ways a_rule_turns a_turns a_stretches a_spans_within a_spans awstart awpick awword awwords awjoined a_law cb_law tb_law:Addr) (d_last_page d_reading d_rules_at d_looked_at d_post_holds d_look_holds d_holds_alone d_others_asked d_found_open d_open_ways d_rule_turns d_turns d_stretches d_spans_within d_spans dwstart dwpick dwword dwwords dwjoined d_law:FuncData):Prop where
 bo:kr K "last_page" "last_page" cE a_last_page d_last_page
 dh:mg "last_page"=some (.ref a_last_page)
 iX:Binds K d_last_page ["book","kind","name","t"] []
 dH:kr K "reading" "reading" dF a_reading d_reading
 f6:mg "reading"=some (.ref a_reading)
 yb:Binds K d_reading ["book","post","t"] []
 cJ:kr K "rules_at" "rules_at" cS a_rules_at d_rules_at
 fC:mg "rules_at"=some (.ref a_rules_at)
 u9:Binds K d_rules_at ["book","w","t"] []
 cm:kr K "looked_at" "looked_at" cC a_looked_at d_looked_at
 eR:mg "looked_at"=some (.ref a_looked_at)
 tM:Binds K d_looked_at ["book","w","t"] []
 bO:kr K "post_holds" "post_holds" bW a_post_holds d_post_holds
 dz:mg "post_holds"=some (.ref a_post_holds)
 rf:Binds K d_post_holds ["book","rule","t"] []
 br:kr K "look_holds" "look_holds" bX a_look_holds d_look_holds
 cP:mg "look_holds"=some (.ref a_look_holds)
 rg:Binds K d_look_holds ["book","way","n","t"] []
 aG:kr K "holds_alone" "holds_alone" bH a_holds_alone d_holds_alone
 bI:mg "holds_alone"=some (.ref a_holds_alone)
 oP:Binds K d_holds_alone ["book","way","rule","t"] []
 aV:kr K "others_asked" "others_asked" aY a_others_asked d_others_asked
 cY:mg "others_asked"=some (.ref a_others_asked)
 nY:Binds K d_others_asked ["book","way","t"] []
 cB:kr K "found_open" "found_open" bL a_found_open d_found_open
 dY:mg "found_open"=some (.ref a_found_open)
 rj:Binds K d_found_open ["asked"] []
 aB:kr K "open_ways" "open_ways" cc a_open_ways d_open_ways
 cO:mg "open_ways"=some (.ref a_open_ways)
 gE:Binds K d_open_ways ["hill","book","t"] []
 bq:kr K "rule_turns" "rule_turns" bK a_rule_turns d_rule_turns
 cN:mg "rule_turns"=some (.ref a_rule_turns)
 qZ:Binds K d_rule_turns ["book","w","rule"] []
 gJ:kr K "turns" "turns" fb a_turns d_turns
 jc:mg "turns"=some (.ref a_turns)
 Dw:Binds K d_turns ["hill","book"] []
 du:kr K "stretches" "stretches" cb a_stretches d_stretches
 eQ:mg "stretches"=some (.ref a_stretches)
 tL:Binds K d_stretches ["hill","book"] []
 cj:kr K "spans_within" "spans_within" bA a_spans_within d_spans_within
 cX:mg "spans_within"=some (.ref a_spans_within)
 nX:Binds K d_spans_within ["parts","w","dark"] []
 eJ:kr K "spans" "spans" fH a_spans d_spans
 jd:mg "spans"=some (.ref a_spans)
 Dx:Binds K d_spans ["hill","book","w"] []
 lL:kr K "_law_start" "_law_start" df awstart dwstart
 sF:mg "_law_start"=some (.ref awstart)
 tN:Binds K dwstart ["_law_script"] []
 ar:kr K "_law_pick" "_law_pick" fz awpick dwpick
 bU:mg "_law_pick"=some (.ref awpick)
 bV:Binds K dwpick ["_law_state","_law_many"] []
 dU:kr K "_law_word" "_law_word" bT awword dwword
 fD:mg "_law_word"=some (.ref awword)
 va:Binds K dwword ["_law_state","_law_taken"] []
 cG:kr K "_law_words" "_law_words" cD awwords dwwords
 dQ:mg "_law_words"=some (.ref awwords)
 lJ:Binds K dwwords ["_law_state","_law_many"] []
 bE:kr K "_law_joined" "_law_joined" bY awjoined dwjoined
 dX:mg "_law_joined"=some (.ref awjoined)
 rh:Binds K dwjoined ["_law_runs"] []
 Kb:kr K "law" "law" fP a_law d_law
 lD:mg "law"=some (.ref a_law)
 J6:Binds K d_law ["_law_script"] []
 Aj:mg "len"=none
 Hw:mg "abs"=none
 D2:mg "all"=none
 je:mg "range"=none
 j4:mg "tuple"=none
 D1:mg "max"=none
 D0:mg "min"=none
 mW:mg "sorted"=none
 sG:mg "enumerate"=none
 uP:mg "reversed"=none
 Ai:mg "repr"=none
 Ef:DD K "law" "law" fP a_law d_law cb_law tb_law
abbrev cU (tb_law:Addr) (K:Frag):eF:=uS K [(tb_law,(("law":Str)++".<locals>."++"<lambda>"))]
theorem E1 {i:Int} (h0:0≤i) (h1:i < 2 ^ 80):(0:Int)≤3∧(Builtin.Int.intBits i:Int) * 3≤2 ^ 27:=by
 have h2:i.natAbs < 2 ^ 80:=by
  have e:(2:Int) ^ 80=((2 ^ 80:Nat):Int):=by decide
  rw[e] at h1
  lia
 have:=intBits_le h2
 refine⟨by decide,?_⟩
 have e:(2:Int) ^ 27=134217728:=by decide
 rw[e]
 lia
theorem Cu {i:Int} (h0:0≤i) (h1:i < 2 ^ 80):(0:Int)≤5∧(Builtin.Int.intBits i:Int) * 5≤2 ^ 27:=by
 have h2:i.natAbs < 2 ^ 80:=by
  have e:(2:Int) ^ 80=((2 ^ 80:Nat):Int):=by decide
  rw[e] at h1
  lia
 have:=intBits_le h2
 refine⟨by decide,?_⟩
 have e:(2:Int) ^ 27=134217728:=by decide
 rw[e]
 lia
theorem kT {i j:Int} (h0:0≤j) (h1:j < 2 ^ 63):ly i j:=by
 have e:(2:Int) ^ 63=9223372036854775808:=by decide
 have e2:(2:Int) ^ 64=18446744073709551616:=by decide
 rw[e] at h1
 exact .inr ⟨by rw[e2];lia,by rw[e2];lia⟩
theorem ip {i j:Int} (h0:0≤i) (h1:i < 2 ^ 63):ly i j:=by
 have e:(2:Int) ^ 63=9223372036854775808:=by decide
 have e2:(2:Int) ^ 64=18446744073709551616:=by decide
 rw[e] at h1
 exact .inl ⟨by rw[e2];lia,by rw[e2];lia⟩
theorem Hy {i:Int} (h:i < 1208925819614629174706176):i < 2 ^ 80:=by
 have e:(2:Int) ^ 80=1208925819614629174706176:=by decide
 rw[e];exact h
theorem CP {P:Program} {w:World} {K:Frag} {mg:Str→Option Value} {base:Heap} {a_last_page a_reading a_rules_at a_looked_at a_post_holds a_look_holds a_holds_alone a_others_asked a_found_open a_open_ways a_rule_turns a_turns a_stretches a_spans_within a_spans awstart awpick awword awwords awjoined a_law cb_law tb_law:Addr} {d_last_page d_reading d_rules_at d_looked_at d_post_holds d_look_holds d_holds_alone d_others_asked d_found_open d_open_ways d_rule_turns d_turns d_stretches d_spans_within d_spans dwstart dwpick dwword dwwords dwjoined d_law:FuncData} (T:Txt K mg a_last_page a_reading a_rules_at a_looked_at a_post_holds a_look_holds a_holds_alone a_others_asked a_found_open a_open_ways a_rule_turns a_turns a_stretches a_spans_within a_spans awstart awpick awword awwords awjoined a_law cb_law tb_law d_last_page d_reading d_rules_at d_looked_at d_post_holds d_look_holds d_holds_alone d_others_asked d_found_open d_open_ways d_rule_turns d_turns d_stretches d_spans_within d_spans dwstart dwpick dwword dwwords dwjoined d_law):bD P w K mg base ed 1 awpick dwpick ["_law_state","_law_many"] yX:=by
 refine T.ar.ok gA (fun vs H Q E h=>?_) (fun fL A outer s H vs Q E hr h=>?_)
 ·obtain⟨a,n,m,rfl,_⟩:=h
  rfl
 obtain⟨a,n,m,rfl,pik,hn,hm0,hm1,q⟩:=h
 obtain⟨d,sd,k,e1,d0,s0,s1,k0,k1⟩:=pik.ex
 have fin: ∀ d' k':Int,0≤d'→0≤k'→k'≤n+1→Ih (upd H a (.lst [.int d',.int sd,.int k'])) a (n+1):=fun d' k' h1 h2 h3=>⟨d',sd,k',ay,h1,s0,s1,h2,by lia⟩
 refine⟨_,(dC (zB (lU Hj (iO fW (pv 0) aT (fun _ _=>rfl)) aT (aW _)) (dC (iN (i:=2) gA.nd rfl (Or.inl rfl) (cF ie (iO fW (pv 0) aT (fun _ _=>rfl)) (pv 1)))
  (dC (uC (cF qA (iO fW (pv 0) aT (fun _ _=>rfl)) (pv 1)) (uE (pv 0) aT set_list))
  (ic (qr (pv 2))))) qq)
  (dC (uC (cF ig (iO fW (pv 0) aT (fun _ _=>rfl)) aT) (uE (pv 0) aT set_list))
  (dC (iN (i:=3) gA.nd rfl (Or.inl rfl) (cF ie (cF jZ (cF ig (iO fW (pv 0) aT (fun _ _=>rfl)) (cF kO aT (iO fW (pv 0) aT (fun _ _=>rfl)))) aT) aT))
  (dC (iN (i:=3) gA.nd rfl (Or.inl rfl) (cF ie (cF kO (cF ig (pv 3) (cF kO aT (iO fW (pv 0) aT (fun _ _=>rfl)))) (cF ig (cF ie (pv 3) aT) aT)) aT))
  (ic (qr (cF ie (cF ig (cF qA (pv 3) aT) (cF qA (pv 3) aT)) (pv 1)))))))),?_⟩
 refine⟨_,rfl,a,_,_,_,rfl,rfl,cV.of e1,rfl,_,_,rfl,rfl,_,rfl,?_⟩
 refine FC (fun c1=>?_) (fun c1=>?_)
 ·refine⟨_,rfl,a,_,_,_,rfl,rfl,cV.of e1,rfl,_,rfl,_,_,rfl,rfl,hm0,?_⟩
  refine⟨_,rfl,a,_,_,_,rfl,rfl,cV.of e1,rfl,_,rfl,_,_,rfl,rfl,⟨hm0,hm1⟩,?_⟩
  refine⟨_,rfl,a,_,_,_,rfl,rfl,e1,rfl,?_⟩
  refine⟨_,rfl,?_⟩
  exact q _ _ (Int.emod_nonneg _ (by lia)) (Int.emod_lt_of_pos _ hm0) (fin _ _ (Int.ediv_nonneg d0 (by lia)) k0 (by lia))
 ·refine⟨_,rfl,a,_,_,_,rfl,rfl,cV.of e1,rfl,_,_,rfl,rfl,_,rfl,a,_,_,_,rfl,rfl,e1,rfl,?_⟩
  refine⟨_,rfl,a,_,_,_,rfl,rfl,cV.of ay,rfl,_,rfl,a,_,_,_,rfl,rfl,cV.of ay,rfl,_,_,rfl,rfl,ip (by decide) (by decide),_,_,rfl,rfl,_,_,rfl,rfl,E1 (by lia) (Hy (by lia)),_,_,rfl,rfl,(by show (0:Int) < _;decide),?_⟩
  refine⟨_,rfl,_,rfl,a,_,_,_,rfl,rfl,cV.of ay,rfl,_,_,rfl,rfl,ip (by decide) (by decide),_,_,rfl,rfl,_,rfl,_,_,rfl,rfl,(by show (0:Int) < _;decide),_,_,rfl,rfl,_,_,rfl,rfl,kT ?_ ?_,_,_,rfl,rfl,(by show (0:Int) < _;decide),?_⟩
  ·have:=Int.emod_nonneg (((sd+982451653 * (k+1)) ^ (3:Int).toNat) % 2305843009213693921) (show (179424673:Int)≠0 by decide)
   lia
  ·have:=Int.emod_lt_of_pos (((sd+982451653 * (k+1)) ^ (3:Int).toNat) % 2305843009213693921) (show (0:Int) < 179424673 by decide)
   have e:(2:Int) ^ 63=9223372036854775808:=by decide
   rw[e]
   lia
  ·refine⟨_,rfl,_,_,rfl,rfl,⟨by decide,by decide⟩,_,rfl,_,_,rfl,rfl,⟨by decide,by decide⟩,_,_,rfl,rfl,_,rfl,_,_,rfl,rfl,hm0,?_⟩
   exact q _ _ (Int.emod_nonneg _ (by lia)) (Int.emod_lt_of_pos _ hm0) (fin d (k+1) d0 (by lia) (by lia))
theorem A8 (ns:List Int):kj (ns.map V.int) none (some 63)=(ns.take 63).map V.int:=by
 unfold kj
 rw[HT.mJ]
 have e:HT.dN (ns.map V.int).length (ns.map V.int).length (some 63)=min 63 (ns.map V.int).length:=HT.qm _ _ 63
 rw[e,List.drop_zero,Nat.sub_zero,Kx,←List.map_take]
 congr 1
 rw[List.take_eq_take_iff]
 lia
theorem JN (ns:List Int):kj (ns.map V.int) none (some 1)=(ns.take 1).map V.int:=by
 unfold kj
 rw[HT.mJ]
 have e:HT.dN (ns.map V.int).length (ns.map V.int).length (some 1)=min 1 (ns.map V.int).length:=HT.qm _ _ 1
 rw[e,List.drop_zero,Nat.sub_zero,Kx,←List.map_take]
 congr 1
 rw[List.take_eq_take_iff]
 lia
theorem Du {d:Int} {i:Nat} (h0:0≤d) (h1:d < (10 ^ (60:Int).toNat:Int) ^ i) (hi:i≤63):Builtin.Int.intBits d≤2 ^ 20:=by
 have e1:d.natAbs < (2 ^ 200) ^ i:=by
  have e2:(10 ^ (60:Int).toNat:Int)=((10 ^ 60:Nat):Int):=by decide +kernel
  rw[e2,←Int.natCast_pow] at h1
  have h2:d.natAbs < (10 ^ 60) ^ i:=by
   have:=Int.natAbs_of_nonneg h0
   rw[←this] at h1
   exact Int.ofNat_lt.mp h1
  exact K1 h2 (Nat.pow_le_pow_left (by decide +kernel) i)
 rw[←Nat.pow_mul] at e1
 have:=intBits_le e1
 have e3:(2:Nat) ^ 20=1048576:=by decide
 lia
theorem Ab {P:Program} {w:World} {K:Frag} {mg:Str→Option Value} {base:Heap} {a_last_page a_reading a_rules_at a_looked_at a_post_holds a_look_holds a_holds_alone a_others_asked a_found_open a_open_ways a_rule_turns a_turns a_stretches a_spans_within a_spans awstart awpick awword awwords awjoined a_law cb_law tb_law:Addr} {d_last_page d_reading d_rules_at d_looked_at d_post_holds d_look_holds d_holds_alone d_others_asked d_found_open d_open_ways d_rule_turns d_turns d_stretches d_spans_within d_spans dwstart dwpick dwword dwwords dwjoined d_law:FuncData} (T:Txt K mg a_last_page a_reading a_rules_at a_looked_at a_post_holds a_look_holds a_holds_alone a_others_asked a_found_open a_open_ways a_rule_turns a_turns a_stretches a_spans_within a_spans awstart awpick awword awwords awjoined a_law cb_law tb_law d_last_page d_reading d_rules_at d_looked_at d_post_holds d_look_holds d_holds_alone d_others_asked d_found_open d_open_ways d_rule_turns d_turns d_stretches d_spans_within d_spans dwstart dwpick dwword dwwords dwjoined d_law):bD P w K mg base ed 1 awstart dwstart ["_law_script"] (qe K):=by
 refine T.lL.ok cM (fun vs H Q E h=>?_) (fun fL A outer s H vs Q E hr h=>?_)
 ·obtain⟨a,ns,rfl,_⟩:=h
  rfl
 obtain⟨a,ns,rfl,hS,h63,q⟩:=h
 have d9:=Nat.lt_of_succ_lt (pG hr)
 have hl63:((ns.take 63).map V.int).length≤63:=by rw[Kx,List.length_take];lia
 have isInt: ∀ (x:V),x∈(ns.take 63).map V.int→∃ y:Int,x= .int y:=fun x e=>by
  obtain⟨y,_,z⟩:=KN.mp e
  exact⟨y,z.symm⟩
 have b60:((0:Int)≤60)∧(Builtin.Int.intBits 10:Int) * 60≤2 ^ 27:=by decide
 have p60:(0:Int) < 10 ^ (60:Int).toNat:=by decide +kernel
 have hb60:Builtin.Int.intBits (10 ^ (60:Int).toNat)≤2 ^ 20:=by decide +kernel
 have rest: ∃ t,ua (jr ed P w K mg base ["_law_script","_law_digits","_law_cell","_law_seed","_law_k"] "_law_start" (ah df) awstart fL A outer s H E).tZ ((av df).drop 2) t∧∀ (dg:Int) (v2:Option V) (H1:Hp),0≤dg→hM H H1→t {nx:=fun _ H'=>Q .aU H',rt:=Q} [some (.ref a),some (.int dg),v2,none,none] H1:=by
  refine⟨_,(dC (iN (i:=3) cM.nd rfl (Or.inl rfl) aT)
  (dC (qt PassesOwn.never rfl (zH rfl T.sG PyProof.Rows.boot_enumerate (fe (jX lR (pv 0) lW (lV aT)) gM)) (zJ rfl (mO (lX (i:=4) cM.nd rfl (Or.inl rfl)) (mO (lX (i:=2) cM.nd rfl (Or.inl rfl)) vK))) (ic (iN (i:=3) cM.nd rfl (Or.inl rfl) (cF ie (cF jZ (cF ig (cF ig (cF kO (pv 3) aT) (cF ie (pv 2) aT)) (cF kO aT (pv 4))) aT) aT))))
  (ic (qr (uF (fe (pv 1) (fe (pv 3) (fe aT gM)))))))),fun dg v2 H1 dg0 sm1=>?_⟩
  refine⟨_,rfl,63,rfl,a,_,rfl,sm1.seq hS,fun u hu=>?_⟩
  rw[A8 ns]
  have g2:hM H1 (upd H1 u (.lst ((ns.take 63).map V.int))):=gV hu _
  have hu2:upd H1 u (.lst ((ns.take 63).map V.int)) u=some (.lst ((ns.take 63).map V.int)):=ay
  generalize upd H1 u (.lst ((ns.take 63).map V.int))=H2 at g2 hu2
  refine⟨u,_,rfl,cV.of hu2,?_⟩
  refine AR (xs:=(ns.take 63).map V.int) (fun i σ H'=> ∃ (sd:Int) (v2 v4:Option V),σ=[some (.ref a),some (.int dg),v2,some (.int sd),v4]∧hM H2 H'∧0≤sd∧sd < 2305843009213693951) ⟨271828182,_,none,rfl,fun _ _ h=>h,by decide,by decide⟩ ?_ ?_ ?_
  ·rintro i σ H' _ ⟨sd,v2,v4,_,sm,_⟩
   exact cV.of (sm _ _ hu2)
  ·rintro i x σ H' T hx hT ⟨sd,v2,v4,rfl,sm,s0,s1⟩
   obtain⟨y,rfl⟩:=isInt x (List.mem_of_getElem? hx)
   have hi:i < 63:=K1 (KD.mp hx).1 hl63
   have r0:=Int.emod_nonneg y (show (2305843009213693951:Int)≠0 by decide)
   have r1:=Int.emod_lt_of_pos y (show (0:Int) < 2305843009213693951 by decide)
   refine⟨T,_,rfl,fu.of ay,rfl,_,_,rfl,_,_,rfl,rfl,?_⟩
   refine⟨_,rfl,_,_,rfl,rfl,kT (by decide) (by decide),_,rfl,_,_,rfl,rfl,(by show (0:Int) < _;decide),_,_,rfl,rfl,_,rfl,_,_,rfl,rfl,ip (by decide) (by decide),_,_,rfl,rfl,_,_,rfl,rfl,Cu (by lia) (Hy (by lia)),_,_,rfl,rfl,(by show (0:Int) < _;decide),?_⟩
   exact⟨_,_,_,rfl,sm.trans (gV hT _),Int.emod_nonneg _ (by decide),Int.emod_lt_of_pos _ (by decide)⟩
  ·rintro σ H' ⟨sd,v2,v4,rfl,sm,s0,s1⟩
   refine⟨_,rfl,_,rfl,(by show 3≤sizeLine;decide),fun b hb=>?_⟩
   exact q b _ (sm1.trans (g2.trans (sm.trans (gV hb _)))) ⟨dg,sd,0,ay,dg0,s0,s1,Int.le_refl 0,by lia⟩
 obtain⟨tt,dt,ht⟩:=rest
 refine⟨_,(dC (iN (i:=1) cM.nd rfl (Or.inl rfl) aT)
  (dC (zB (PW.pt (zu (lU (xr d9) (jX lR (pv 0) lW (lV aT)) (uF gM) (aW _)) (vI (lU DX (iO fW (pv 0) aT (fun _ _=>rfl)) (cF jZ aT aT) (aW _))))) (ic (qt PassesOwn.never rfl (E2 rfl T.uP PyProof.Rows.boot_reversed (fe (jX lR (pv 0) lW (lV aT)) gM)) (lX (i:=2) cM.nd rfl (Or.inl rfl)) (ic (iN (i:=1) cM.nd rfl (Or.inl rfl) (cF ig (cF CM (pv 1) (cF jZ aT aT)) (cF ie (r9 Bh rfl T.Hw PyProof.Rows.boot_abs (fe (pv 2) gM)) (cF jZ aT aT))))))) qq)
  dt)),?_⟩
 have b18:((0:Int)≤18)∧(Builtin.Int.intBits 10:Int) * 18≤2 ^ 27:=by decide
 refine⟨_,rfl,1,rfl,a,_,rfl,hS,fun u hu=>?_⟩
 rw[JN ns]
 have g1:hM H (upd H u (.lst ((ns.take 1).map V.int))):=gV hu _
 have gu:upd H u (.lst ((ns.take 1).map V.int)) u=some (.lst ((ns.take 1).map V.int)):=ay
 generalize upd H u (.lst ((ns.take 1).map V.int))=H1 at g1 gu
 refine⟨(by show 0≤sizeLine;exact K6 _),fun u2 hu2=>?_⟩
 have g2:hM H1 (upd H1 u2 (.lst [])):=gV hu2 _
 refine⟨u,u2,_,rfl,rfl,cV.of (g2 _ _ gu),cV.of ay,_,rfl,?_⟩
 generalize upd H1 u2 (.lst [])=H2 at g2
 have sm2:hM H H2:=g1.trans g2
 refine FC (fun c1=>?_) (fun c1=>?_)
 ·cases ns with
  |nil=>cases c1
  |cons y ns=>
  refine⟨_,rfl,a,_,_,_,rfl,rfl,sm2.seq hS,t7 y ns,_,_,rfl,rfl,b18,_,_,rfl,rfl,_,rfl,?_⟩
  refine FC (fun c2=>?_) (fun c2=>?_)
  ·refine⟨_,rfl,63,rfl,a,_,rfl,sm2.seq hS,fun u3 hu3=>?_⟩
   rw[A8 (y::ns)]
   have g3:hM H2 (upd H2 u3 (.lst (((y::ns).take 63).map V.int))):=gV hu3 _
   have gu3:upd H2 u3 (.lst (((y::ns).take 63).map V.int)) u3=some (.lst (((y::ns).take 63).map V.int)):=ay
   generalize upd H2 u3 (.lst (((y::ns).take 63).map V.int))=H3 at g3 gu3
   refine⟨u3,_,rfl,cV.of gu3,?_⟩
   obtain⟨Bs,hBs,pB,bB,kB⟩: ∃ Bs:Int,10 ^ (60:Int).toNat=Bs∧0 < Bs∧Builtin.Int.intBits Bs≤2 ^ 20∧∀ (d:Int) (i:Nat),0≤d→d < Bs ^ i→i≤63→Builtin.Int.intBits d≤2 ^ 20:=⟨_,rfl,p60,hb60,fun d i=>Du⟩
   refine Di (xs:=((y::ns).take 63).map V.int) (fun i σ H'=> ∃ (dg:Int) (v2:Option V),σ=[some (.ref a),some (.int dg),v2,none,none]∧H'=H3∧0≤dg∧dg < Bs ^ i) ⟨0,none,rfl,rfl,Int.le_refl 0,by rw[Int.pow_zero];decide⟩ ?_ ?_ ?_
   ·rintro i σ H' _ ⟨dg,v2,_,rfl,_⟩
    exact cV.of gu3
   ·rintro i x σ H' hx hi ⟨dg,v2,rfl,rfl,dg0,dg1⟩
    obtain⟨z,rfl⟩:=isInt x hx
    have hi63:i≤63:=by lia
    refine⟨_,rfl,_,_,rfl,rfl,b60,?_⟩
    simp only[hBs]
    refine⟨_,_,rfl,rfl,IntMulOk.of_bits (kB dg i dg0 dg1 hi63) bB,_,rfl,z,rfl,_,_,rfl,rfl,b60,?_⟩
    simp only[hBs]
    refine⟨_,_,rfl,rfl,pB,_,_,rfl,rfl,?_⟩
    have r0:=Int.emod_nonneg (if z < 0 then -z else z) (Int.ne_of_gt pB)
    have r1:=Int.emod_lt_of_pos (if z < 0 then -z else z) pB
    refine⟨_,_,rfl,rfl,?_,?_⟩
    ·exact Int.add_nonneg (Int.mul_nonneg dg0 (Int.le_of_lt pB)) r0
    ·have h1:dg+1≤Bs ^ i:=dg1
     have h2:(dg+1) * Bs≤Bs ^ i * Bs:=Int.mul_le_mul_of_nonneg_right h1 (Int.le_of_lt pB)
     rw[←Int.pow_succ,Int.add_mul,Int.one_mul] at h2
     exact Int.lt_of_lt_of_le (Int.add_lt_add_left r1 _) h2
   ·rintro σ H' ⟨dg,v2,rfl,rfl,dg0,_⟩
    exact ht dg v2 _ dg0 (sm2.trans g3)
  ·exact ht 0 none _ (Int.le_refl 0) sm2
 ·exact ht 0 none _ (Int.le_refl 0) sm2
def ar:List PV→M PV:=sX
noncomputable def dh:ak→M Fl:=(aE (bF 4 (fun _=>M.ret .aU))
  (aE (bx (fun ρ=>((fun ρ=>ae ρ 0) ρ).bind bc) (aP 5)
  (fS (fF (bu (ag (gs false) (ag aI (fun ρ=>ae ρ 5) (fun _=>M.ret (.int 0))) (fun ρ=>ae ρ 1))) (fF (bu (ag (gs false) (ag aI (fun ρ=>ae ρ 5) (fun _=>M.ret (.int 3))) (fun ρ=>ae ρ 2))) (bu (ag gp (ag aI (fun ρ=>ae ρ 5) (fun _=>M.ret (.int 2))) (fun ρ=>ae ρ 3)))))
  (bF 4 (fun ρ=>ae ρ 5))
  (fun ρ=>M.ret (.nx ρ))))
  (de (fun ρ=>ae ρ 4))))
def bo:List PV→M PV:=oa 4 6 dh
noncomputable def f6:ak→M Fl:=(aE (bF 3 (fun ρ=>((aa (fun ρ=>ae ρ 0) (aa (fun _=>M.ret (.str "read")) (aa (fun ρ=>ae ρ 1) (aa (fun ρ=>ae ρ 2) (fun _=>M.ret []))))) ρ).bind bo))
  (de (BH (bu (ag (sO false) (fun ρ=>ae ρ 3) (fun _=>M.ret .aU))) (fun _=>M.ret .aU) (ag aI (fun ρ=>ae ρ 3) (fun _=>M.ret (.int 4))))))
def dH:List PV→M PV:=oa 3 4 f6
noncomputable def fC:ak→M Fl:=(aE (bF 3 (fun ρ=>((aa (fun ρ=>ae ρ 0) (aa (fun _=>M.ret (.str "rule")) (aa (fun ρ=>ae ρ 1) (aa (fun ρ=>ae ρ 2) (fun _=>M.ret []))))) ρ).bind bo))
  (de (BH (bu (ag (sO false) (fun ρ=>ae ρ 3) (fun _=>M.ret .aU))) (fun ρ=>((fun _=>M.ret []) ρ).bind aO) (ag aI (fun ρ=>ae ρ 3) (fun _=>M.ret (.int 4))))))
def cJ:List PV→M PV:=oa 3 4 fC
noncomputable def eR:ak→M Fl:=(aE (bF 3 (fun ρ=>((aa (fun ρ=>ae ρ 0) (aa (fun _=>M.ret (.str "look")) (aa (fun ρ=>ae ρ 1) (aa (fun ρ=>ae ρ 2) (fun _=>M.ret []))))) ρ).bind bo))
  (de (BH (bu (ag (sO false) (fun ρ=>ae ρ 3) (fun _=>M.ret .aU))) (fun _=>M.ret .aU) (ag aI (fun ρ=>ae ρ 3) (fun _=>M.ret (.int 2))))))
def cm:List PV→M PV:=oa 3 4 eR
noncomputable def dz:ak→M Fl:=(aE (yB [3,4,5] (fun ρ=>ae ρ 1))
  (aE (bF 6 (fun ρ=>((aa (fun ρ=>ae ρ 0) (aa (fun ρ=>ae ρ 4) (aa (fun ρ=>ae ρ 2) (fun _=>M.ret [])))) ρ).bind dH))
  (aE (fS (bu (ag (sO false) (fun ρ=>ae ρ 6) (fun _=>M.ret .aU)))
  (de (fun _=>M.ret (.bl false)))
  (fun ρ=>M.ret (.nx ρ)))
  (de (BH (bu (ag (gs false) (fun ρ=>ae ρ 3) (fun _=>M.ret (.str "least")))) (ag J5 (fun ρ=>ae ρ 6) (fun ρ=>ae ρ 5)) (ag gp (fun ρ=>ae ρ 6) (fun ρ=>ae ρ 5)))))))
def bO:List PV→M PV:=oa 3 7 dz
noncomputable def cP:ak→M Fl:=(aE (bF 4 (fun ρ=>((aa (fun ρ=>ae ρ 0) (aa (ag aI (fun ρ=>ae ρ 1) (fun _=>M.ret (.int 0))) (aa (fun ρ=>ae ρ 3) (fun _=>M.ret [])))) ρ).bind cm))
  (de (rB (ag (gs false) (ag aI (fun ρ=>ae ρ 1) (fun _=>M.ret (.int 1))) (fun _=>M.ret (.str "slope"))) (rB (ag (sO true) (fun ρ=>ae ρ 4) (fun _=>M.ret .aU)) (ag xE (fun ρ=>ae ρ 3) (ag dJ (fun ρ=>ae ρ 4) (fun ρ=>ae ρ 2)))))))
def br:List PV→M PV:=oa 4 5 cP
noncomputable def bI:ak→M Fl:=(aE (bF 4 (ag aI (fun ρ=>ae ρ 2) (fun _=>M.ret (.int 0))))
  (aE (fS (bu (ag (gs false) (fun ρ=>ae ρ 4) (fun _=>M.ret (.str "hours"))))
  (de (chain gp xE (ag aI (fun ρ=>ae ρ 2) (fun _=>M.ret (.int 1))) (fun ρ=>ae ρ 3) (ag aI (fun ρ=>ae ρ 2) (fun _=>M.ret (.int 2)))))
  (fun ρ=>M.ret (.nx ρ)))
  (aE (fS (DW (bu (ag (gs false) (fun ρ=>ae ρ 4) (fun _=>M.ret (.str "least")))) (bu (ag (gs false) (fun ρ=>ae ρ 4) (fun _=>M.ret (.str "most")))))
  (de (fun ρ=>((aa (fun ρ=>ae ρ 0) (aa (fun ρ=>ae ρ 2) (aa (fun ρ=>ae ρ 3) (fun _=>M.ret [])))) ρ).bind bO))
  (fun ρ=>M.ret (.nx ρ)))
  (aE (fS (bu (ag (gs false) (fun ρ=>ae ρ 4) (fun _=>M.ret (.str "looked"))))
  (de (fun ρ=>((aa (fun ρ=>ae ρ 0) (aa (fun ρ=>ae ρ 1) (aa (ag aI (fun ρ=>ae ρ 2) (fun _=>M.ret (.int 1))) (aa (fun ρ=>ae ρ 3) (fun _=>M.ret []))))) ρ).bind br))
  (fun ρ=>M.ret (.nx ρ)))
  (de (fun _=>M.ret (.bl false)))))))
def aG:List PV→M PV:=oa 4 5 bI
noncomputable def cY:ak→M Fl:=(aE (bF 3 (fun ρ=>((aa (fun ρ=>ae ρ 0) (aa (ag aI (fun ρ=>ae ρ 1) (fun _=>M.ret (.int 0))) (aa (fun ρ=>ae ρ 2) (fun _=>M.ret [])))) ρ).bind cJ))
  (aE (fS (Ae (bu (fun ρ=>((aa (bR (eD [none,some 0,some 1,some 2] (fun ρ=>((fun ρ=>ae ρ 3) ρ).bind bc) (aP 0) (bu (ag (gs true) (ag aI (fun ρ=>ae ρ 0) (fun _=>M.ret (.int 0))) (fun _=>M.ret (.str "with")))) (fun ρ=>((aa (fun ρ=>ae ρ 1) (aa (fun ρ=>ae ρ 2) (aa (fun ρ=>ae ρ 0) (aa (fun ρ=>ae ρ 3) (fun _=>M.ret []))))) ρ).bind aG))) (fun _=>M.ret [])) ρ).bind oR)))
  (de (fun _=>M.ret .aU))
  (fun ρ=>M.ret (.nx ρ)))
  (de (bR (eD [none] (fun ρ=>((fun ρ=>ae ρ 3) ρ).bind bc) (aP 0) (bu (ag (gs false) (ag aI (fun ρ=>ae ρ 0) (fun _=>M.ret (.int 0))) (fun _=>M.ret (.str "with")))) (ag aI (fun ρ=>ae ρ 0) (fun _=>M.ret (.int 1))))))))
def aV:List PV→M PV:=oa 3 4 cY
noncomputable def dY:ak→M Fl:=(aE (zV 1)
  (aE (bF 2 (fun ρ=>((fun _=>M.ret (.int 1)) ρ).bind ij))
  (aE (yw (bu (ag xE (fun ρ=>ae ρ 2) (fun ρ=>((aa (fun ρ=>cA ρ 1) (fun _=>M.ret [])) ρ).bind mY))) (aE (bF 2 (fun ρ=>((aa (fun ρ=>cA ρ 1) (fun _=>M.ret [])) ρ).bind mY))
  (bx (fun ρ=>((fun ρ=>ae ρ 0) ρ).bind sL) (aP 3)
  (fS (bu (fun ρ=>((aa (bR (eD [none,some 1] (fun ρ=>((ag pS (fun ρ=>ae ρ 0) (fun ρ=>ae ρ 3)) ρ).bind bc) (aP 0) gG (ag (nM false) (fun ρ=>ae ρ 0) (fun ρ=>cA ρ 1)))) (fun _=>M.ret [])) ρ).bind oR))
  (lG 1 (fun ρ=>ae ρ 3) (fun _=>M.ret (.bl true)))
  (fun ρ=>M.ret (.nx ρ))))) 1000)
  (de (fun ρ=>ae ρ 1)))))
def cB:List PV→M PV:=oa 1 4 dY
noncomputable def cO:ak→M Fl:=(aE (zV 3)
  (aE (bx (fun ρ=>((ag aI (fun ρ=>ae ρ 0) (fun _=>M.ret (.int 0))) ρ).bind bc) (aP 4)
  (aE (bF 5 (fun ρ=>((aa (fun ρ=>ae ρ 1) (aa (fun ρ=>ae ρ 4) (aa (fun ρ=>ae ρ 2) (fun _=>M.ret [])))) ρ).bind aV))
  (fS (bu (ag (sO true) (fun ρ=>ae ρ 5) (fun _=>M.ret .aU)))
  (lG 3 (ag aI (fun ρ=>ae ρ 4) (fun _=>M.ret (.int 0))) (fun ρ=>ae ρ 5))
  (fun ρ=>M.ret (.nx ρ)))))
  (aE (FE (bF 6 (fun ρ=>((aa (fun ρ=>ae ρ 3) (fun _=>M.ret [])) ρ).bind cB)))
  (de (fun ρ=>((aa (bR (eD [none,some 6] (fun ρ=>((ag aI (fun ρ=>ae ρ 0) (fun _=>M.ret (.int 0))) ρ).bind bc) (aP 0) (bu (ag (nM false) (ag aI (fun ρ=>ae ρ 0) (fun _=>M.ret (.int 0))) (fun ρ=>ae ρ 1))) (ag aI (fun ρ=>ae ρ 0) (fun _=>M.ret (.int 0))))) (fun _=>M.ret [])) ρ).bind oe)))))
def aB:List PV→M PV:=oa 3 7 cO
noncomputable def cN:ak→M Fl:=(aE (fS (bu (ag (gs false) (ag aI (fun ρ=>ae ρ 2) (fun _=>M.ret (.int 0))) (fun _=>M.ret (.str "hours"))))
  (de (bR (fun ρ=>((aa (ag aI (fun ρ=>ae ρ 2) (fun _=>M.ret (.int 1))) (aa (ag aI (fun ρ=>ae ρ 2) (fun _=>M.ret (.int 2))) (fun _=>M.ret []))) ρ).bind cf)))
  (fun ρ=>M.ret (.nx ρ)))
  (aE (fS (bu (ag (gs false) (ag aI (fun ρ=>ae ρ 2) (fun _=>M.ret (.int 0))) (fun _=>M.ret (.str "looked"))))
  (de (bR (eD [none,some 2,some 1] (fun ρ=>((fun ρ=>ae ρ 0) ρ).bind bc) (aP 0) (fF (bu (ag (gs false) (ag aI (fun ρ=>ae ρ 0) (fun _=>M.ret (.int 0))) (fun _=>M.ret (.str "look")))) (bu (ag (gs false) (ag aI (fun ρ=>ae ρ 0) (fun _=>M.ret (.int 3))) (fun ρ=>ae ρ 2)))) (ag dJ (ag aI (fun ρ=>ae ρ 0) (fun _=>M.ret (.int 2))) (ag aI (fun ρ=>ae ρ 1) (fun _=>M.ret (.int 1)))))))
  (fun ρ=>M.ret (.nx ρ)))
  (de (bR (fun ρ=>((fun _=>M.ret []) ρ).bind cf)))))
def bq:List PV→M PV:=oa 3 3 cN
noncomputable def jc:ak→M Fl:=(aE (jn 2 (fun ρ=>((aa (fun _=>M.ret (.int 0)) (fun _=>M.ret [])) ρ).bind cf))
  (aE (bx (fun ρ=>((fun ρ=>ae ρ 1) ρ).bind bc) (aP 3)
  (aE (d8 2 (ag aI (fun ρ=>ae ρ 3) (fun _=>M.ret (.int 2))))
  (fS (bu (ag (gs false) (ag aI (fun ρ=>ae ρ 3) (fun _=>M.ret (.int 0))) (fun _=>M.ret (.str "rule"))))
  (bx (fun ρ=>((ag aI (fun ρ=>ae ρ 3) (fun _=>M.ret (.int 4))) ρ).bind bc) (aP 4)
  (xU 2 (fun ρ=>((aa (fun ρ=>ae ρ 1) (aa (ag aI (fun ρ=>ae ρ 3) (fun _=>M.ret (.int 3))) (aa (fun ρ=>ae ρ 4) (fun _=>M.ret [])))) ρ).bind bq)))
  (fun ρ=>M.ret (.nx ρ)))))
  (de (bR (fun ρ=>((Ag [none,some 0] (fun ρ=>((fun ρ=>ae ρ 2) ρ).bind bc) (aP 0) (bu (chain gp gp (fun _=>M.ret (.int 0)) (fun ρ=>ae ρ 0) (ag aI (fun ρ=>ae ρ 1) (fun _=>M.ret (.int 2))))) (fun ρ=>ae ρ 0)) ρ).bind sortI)))))
def gJ:List PV→M PV:=oa 2 5 jc
noncomputable def eQ:ak→M Fl:=(de (bR (eD [none,some 0,some 1] (fun ρ=>((fun ρ=>((aa (fun ρ=>ae ρ 0) (aa (fun ρ=>ae ρ 1) (fun _=>M.ret []))) ρ).bind gJ) ρ).bind bc) (aP 0) gG (fun ρ=>((aa (fun ρ=>ae ρ 0) (aa (fun ρ=>((aa (fun ρ=>ae ρ 1) (aa (fun ρ=>ae ρ 2) (aa (fun ρ=>ae ρ 0) (fun _=>M.ret [])))) ρ).bind aB) (fun _=>M.ret []))) ρ).bind aO))))
def du:List PV→M PV:=oa 2 2 eQ
noncomputable def cX:ak→M Fl:=(aE (jn 3 (fun ρ=>((fun _=>M.ret []) ρ).bind cf))
  (aE (bF 4 (fun _=>M.ret .aU))
  (aE (bx (fun ρ=>((fun ρ=>ae ρ 0) ρ).bind bc) (dS [5,6])
  (aE (fS (fF (bu (ag (nc false) (fun ρ=>ae ρ 1) (fun ρ=>ae ρ 6))) (bu (ag (sO false) (fun ρ=>ae ρ 4) (fun _=>M.ret .aU))))
  (bF 4 (fun ρ=>ae ρ 5))
  (fun ρ=>M.ret (.nx ρ)))
  (fS (fF (bu (ag (nc true) (fun ρ=>ae ρ 1) (fun ρ=>ae ρ 6))) (bu (ag (sO true) (fun ρ=>ae ρ 4) (fun _=>M.ret .aU))))
  (aE (d8 3 (fun ρ=>((aa (fun ρ=>ae ρ 4) (aa (fun ρ=>ae ρ 5) (fun _=>M.ret []))) ρ).bind aO))
  (bF 4 (fun _=>M.ret .aU)))
  (fun ρ=>M.ret (.nx ρ)))))
  (aE (fS (bu (ag (sO true) (fun ρ=>ae ρ 4) (fun _=>M.ret .aU)))
  (d8 3 (fun ρ=>((aa (fun ρ=>ae ρ 4) (aa (ag dJ (fun ρ=>ae ρ 2) (fun _=>M.ret (.int 1))) (fun _=>M.ret []))) ρ).bind aO))
  (fun ρ=>M.ret (.nx ρ)))
  (de (fun ρ=>((aa (fun ρ=>ae ρ 3) (fun _=>M.ret [])) ρ).bind oe))))))
def cj:List PV→M PV:=oa 3 7 cX
noncomputable def jd:ak→M Fl:=(de (fun ρ=>((aa (fun ρ=>((aa (fun ρ=>ae ρ 0) (aa (fun ρ=>ae ρ 1) (fun _=>M.ret []))) ρ).bind du) (aa (fun ρ=>ae ρ 2) (aa (ag aI (fun ρ=>ae ρ 0) (fun _=>M.ret (.int 2))) (fun _=>M.ret [])))) ρ).bind cj))
def eJ:List PV→M PV:=oa 3 3 jd
noncomputable def fD:ak→M Fl:=(aE (bF 2 (fun _=>M.ret (.str "etaoinshrdlcumwfgypbvkjxqz")))
  (aE (bF 3 (ag dJ (fun _=>M.ret (.int 1)) (fun ρ=>((aa (fun ρ=>ae ρ 0) (aa (fun _=>M.ret (.int 8)) (fun _=>M.ret []))) ρ).bind ar)))
  (aE (bF 4 (IG "str" pz (fun _=>M.ret (.str "")) (aa (bR (eD [none,some 2,some 0] (fun ρ=>((aa (fun ρ=>ae ρ 3) (fun _=>M.ret [])) ρ).bind fc) (aP 0) gG (ag aI (fun ρ=>ae ρ 1) (fun ρ=>((aa (fun ρ=>ae ρ 2) (aa (fun _=>M.ret (.int 26)) (fun _=>M.ret []))) ρ).bind ar)))) (fun _=>M.ret []))))
  (de (ag aI (bR (eD [none,some 1] (fun ρ=>((bR (Bb (bR (fun ρ=>((aa (fun ρ=>ae ρ 4) (fun _=>M.ret [])) ρ).bind cf)) (bR (eD [none,some 4] (fun ρ=>((fun ρ=>ae ρ 2) ρ).bind bc) (aP 0) gG (ag dJ (EI Gn (fun ρ=>ae ρ 1) (fun _=>M.ret none) (fun ρ=>((fun _=>M.ret (.int 7)) ρ).bind fun y=>(AE y).bind fun i=>M.ret (some i))) (fun ρ=>ae ρ 0)))))) ρ).bind bc) (aP 0) (bu (ag (nc true) (fun ρ=>ae ρ 0) (fun ρ=>ae ρ 1))) (fun ρ=>ae ρ 0))) (fun _=>M.ret (.int 0)))))))
def dU:List PV→M PV:=oa 2 5 fD
noncomputable def dQ:ak→M Fl:=(aE (jn 2 (fun ρ=>((fun _=>M.ret []) ρ).bind cf))
  (aE (bx (fun ρ=>((aa (fun ρ=>ae ρ 1) (fun _=>M.ret [])) ρ).bind fc) (aP 3)
  (d8 2 (fun ρ=>((aa (fun ρ=>ae ρ 0) (aa (fun ρ=>cA ρ 2) (fun _=>M.ret []))) ρ).bind fun l=>(dU l).bind wg)))
  (de (fun ρ=>ae ρ 2))))
def cG:List PV→M PV:=oa 2 4 dQ
noncomputable def dX:ak→M Fl:=(aE (jn 1 (fun ρ=>((fun _=>M.ret []) ρ).bind cf))
  (aE (bx (fun ρ=>((bR (fun ρ=>((aa (fun ρ=>ae ρ 0) (fun _=>M.ret [])) ρ).bind rR)) ρ).bind bc) (dS [2,3])
  (fS (fF (bu (ag (gs true) (fun ρ=>cA ρ 1) (bR (fun ρ=>((fun _=>M.ret []) ρ).bind cf)))) (bu (ag gp (fun ρ=>ae ρ 2) (ag aI (ag aI (fun ρ=>cA ρ 1) (fun ρ=>((fun _=>M.ret (.int 1)) ρ).bind ij)) (fun _=>M.ret (.int 1))))))
  (o5 1 (fun ρ=>((fun _=>M.ret (.int 1)) ρ).bind ij) (fun ρ=>((aa (ag aI (ag aI (fun ρ=>cA ρ 1) (fun ρ=>((fun _=>M.ret (.int 1)) ρ).bind ij)) (fun _=>M.ret (.int 0))) (aa (fun ρ=>((aa (ag aI (ag aI (fun ρ=>cA ρ 1) (fun ρ=>((fun _=>M.ret (.int 1)) ρ).bind ij)) (fun _=>M.ret (.int 1))) (aa (fun ρ=>ae ρ 3) (fun _=>M.ret []))) ρ).bind iC) (fun _=>M.ret []))) ρ).bind aO))
  (fS (bu (ag xE (fun ρ=>ae ρ 2) (fun ρ=>ae ρ 3)))
  (d8 1 (fun ρ=>((aa (fun ρ=>ae ρ 2) (aa (fun ρ=>ae ρ 3) (fun _=>M.ret []))) ρ).bind aO))
  (fun ρ=>M.ret (.nx ρ)))))
  (de (fun ρ=>((aa (fun ρ=>ae ρ 1) (fun _=>M.ret [])) ρ).bind oe))))
def bE:List PV→M PV:=oa 1 4 dX
noncomputable def lD:ak→M Fl:=(aE (bF 2 (ag aI (bR (fun ρ=>((aa (fun _=>M.ret (.int 1)) (aa (fun _=>M.ret (.int 7)) (aa (fun _=>M.ret (.int 33333)) (fun _=>M.ret [])))) ρ).bind cf)) (fun ρ=>((aa (fun ρ=>ae ρ 1) (aa (fun _=>M.ret (.int 3)) (fun _=>M.ret []))) ρ).bind ar)))
  (aE (yB [3,4] (fun ρ=>((aa (fun ρ=>((aa (fun ρ=>ae ρ 1) (aa (fun _=>M.ret (.int 3)) (fun _=>M.ret []))) ρ).bind cG) (aa (fun ρ=>((aa (fun ρ=>ae ρ 1) (aa (fun _=>M.ret (.int 2)) (fun _=>M.ret []))) ρ).bind cG) (fun _=>M.ret []))) ρ).bind aO))
  (aE (bF 5 (ag qd (ag jI (fun ρ=>ae ρ 2) (fun _=>M.ret (.int 30))) (fun ρ=>((aa (fun ρ=>ae ρ 1) (aa (fun _=>M.ret (.int 2)) (fun _=>M.ret []))) ρ).bind ar)))
  (aE (bF 6 (bR (fun ρ=>((aa (fun _=>M.ret (.str "slope")) (aa (fun _=>M.ret (.str "slope")) (aa (fun _=>M.ret (.str "lift")) (fun _=>M.ret [])))) ρ).bind cf)))
  (aE (bF 7 (fun ρ=>((aa (fun ρ=>((aa (bR (eD [none,some 3,some 6,some 4] (fun ρ=>((aa (fun _=>M.ret (.int 3)) (fun _=>M.ret [])) ρ).bind fc) (aP 0) gG (fun ρ=>((aa (ag aI (fun ρ=>ae ρ 1) (fun ρ=>ae ρ 0)) (aa (ag aI (fun ρ=>ae ρ 2) (fun ρ=>ae ρ 0)) (aa (ag aI (fun ρ=>ae ρ 3) (fun _=>M.ret (.int 0))) (aa (ag aI (fun ρ=>ae ρ 3) (fun _=>M.ret (.int 1))) (aa (fun ρ=>ae ρ 0) (aa (fun _=>M.ret (.int 1)) (fun _=>M.ret []))))))) ρ).bind aO))) (fun _=>M.ret [])) ρ).bind oe) (aa (ag aI (fun ρ=>ae ρ 4) (fun _=>M.ret (.int 0))) (aa (fun ρ=>ae ρ 5) (fun _=>M.ret [])))) ρ).bind aO))
  (aE (jn 8 (fun ρ=>((fun _=>M.ret []) ρ).bind cf))
  (aE (vL 9 10 (fun ρ=>((fun _=>M.ret []) ρ).bind cf) (fun ρ=>((fun _=>M.ret []) ρ).bind cf))
  (aE (bx (fun ρ=>((aa (fun _=>M.ret (.int 3)) (fun _=>M.ret [])) ρ).bind fc) (aP 11)
  (aE (d8 9 (ag jI (fun ρ=>ae ρ 2) (fun ρ=>((aa (fun ρ=>ae ρ 1) (aa (fun _=>M.ret (.int 12)) (fun _=>M.ret []))) ρ).bind ar)))
  (aE (d8 10 (ag aI (bR (fun ρ=>((aa (ag dJ (fun _=>M.ret (.int 1)) (fun ρ=>((aa (fun ρ=>ae ρ 1) (aa (fun _=>M.ret (.int 3)) (fun _=>M.ret []))) ρ).bind ar)) (aa (ag jI (fun ρ=>ae ρ 2) (ag dJ (fun _=>M.ret (.int 1)) (fun ρ=>((aa (fun ρ=>ae ρ 1) (aa (fun _=>M.ret (.int 12)) (fun _=>M.ret []))) ρ).bind ar))) (aa (ag dJ (fun ρ=>ae ρ 5) (fun _=>M.ret (.int 5))) (fun _=>M.ret [])))) ρ).bind cf)) (fun ρ=>((aa (fun ρ=>ae ρ 1) (aa (fun _=>M.ret (.int 3)) (fun _=>M.ret []))) ρ).bind ar)))
  (d8 8 (fun ρ=>((aa (fun _=>M.ret (.str "rule")) (aa (ag qd (fun _=>M.ret (.int 500)) (fun ρ=>ae ρ 11)) (aa (ag aI (fun ρ=>cA ρ 9) (fun ρ=>ae ρ 11)) (aa (ag aI (fun ρ=>ae ρ 3) (fun ρ=>ae ρ 11)) (aa (fun ρ=>((aa (fun ρ=>((aa (fun _=>M.ret (.str "looked")) (aa (ag aI (fun ρ=>cA ρ 10) (fun ρ=>ae ρ 11)) (fun _=>M.ret []))) ρ).bind aO) (fun _=>M.ret [])) ρ).bind aO) (fun _=>M.ret [])))))) ρ).bind aO)))))
  (aE (jn 12 (fun ρ=>((fun _=>M.ret []) ρ).bind cf))
  (aE (bx (fun ρ=>((aa (ag dJ (fun _=>M.ret (.int 1)) (fun ρ=>((aa (fun ρ=>ae ρ 1) (aa (fun _=>M.ret (.int 8)) (fun _=>M.ret []))) ρ).bind ar)) (fun _=>M.ret [])) ρ).bind fc) (aP 11)
  (aE (zT 13 14 (aa (fun ρ=>((aa (fun ρ=>ae ρ 1) (aa (fun _=>M.ret (.int 2)) (fun _=>M.ret []))) ρ).bind ar) (aa (ag jI (fun ρ=>ae ρ 2) (fun ρ=>((aa (fun ρ=>ae ρ 1) (aa (fun _=>M.ret (.int 30)) (fun _=>M.ret []))) ρ).bind ar)) (fun _=>M.ret []))))
  (aE (d8 12 (fun ρ=>((aa (fun ρ=>ae ρ 13) (aa (fun ρ=>((aa (fun ρ=>ae ρ 5) (aa (ag dJ (fun ρ=>ae ρ 14) (ag aI (bR (fun ρ=>((aa (fun _=>M.ret (.int 0)) (aa (fun _=>M.ret (.int 0)) (aa (fun _=>M.ret (.int 1)) (fun _=>M.ret [])))) ρ).bind cf)) (fun ρ=>((aa (fun ρ=>ae ρ 1) (aa (fun _=>M.ret (.int 3)) (fun _=>M.ret []))) ρ).bind ar))) (fun _=>M.ret []))) ρ).bind jx) (fun _=>M.ret []))) ρ).bind aO))
  (uR 8 (aa (fun ρ=>((aa (fun ρ=>ae ρ 1) (aa (ag dJ (fun ρ=>((aa (fun ρ=>cA ρ 8) (fun _=>M.ret [])) ρ).bind mY) (fun _=>M.ret (.int 1))) (fun _=>M.ret []))) ρ).bind ar) (aa (fun ρ=>((aa (fun _=>M.ret (.str "look")) (aa (ag xD (ag jI (fun ρ=>ae ρ 11) (fun _=>M.ret (.int 37))) (fun _=>M.ret (.int 331))) (aa (ag aI (ag aI (fun ρ=>cA ρ 12) (fun ρ=>((fun _=>M.ret (.int 1)) ρ).bind ij)) (fun _=>M.ret (.int 1))) (aa (ag aI (fun ρ=>ae ρ 3) (fun ρ=>ae ρ 13)) (fun _=>M.ret []))))) ρ).bind aO) (fun _=>M.ret [])))))))
  (aE (FE (bF 15 (fun ρ=>((aa (bR (fun ρ=>((fun ρ=>ae ρ 8) ρ).bind mE)) (fun _=>M.ret [])) ρ).bind oe)))
  (aE (bx (fun ρ=>((aa (fun _=>M.ret (.int 3)) (fun _=>M.ret [])) ρ).bind fc) (aP 11)
  (aE (jn 16 (fun ρ=>((aa (fun ρ=>((aa (fun _=>M.ret (.int 0)) (aa (ag aI (fun ρ=>ae ρ 9) (fun ρ=>ae ρ 11)) (fun _=>M.ret []))) ρ).bind aO) (fun _=>M.ret [])) ρ).bind cf))
  (aE (bx (fun ρ=>((fun ρ=>ae ρ 12) ρ).bind bc) (dS [13,14])
  (fS (bu (ag (gs false) (fun ρ=>ae ρ 13) (fun ρ=>ae ρ 11)))
  (d8 16 (fun ρ=>((aa (fun ρ=>((aa (ag aI (fun ρ=>ae ρ 9) (fun ρ=>ae ρ 11)) (aa (fun ρ=>ae ρ 14) (fun _=>M.ret []))) ρ).bind iC) (aa (fun ρ=>((aa (ag dJ (fun ρ=>ae ρ 5) (fun _=>M.ret (.int 1))) (aa (ag dJ (fun ρ=>ae ρ 14) (ag aI (fun ρ=>ae ρ 10) (fun ρ=>ae ρ 11))) (fun _=>M.ret []))) ρ).bind jx) (fun _=>M.ret []))) ρ).bind aO))
  (fun ρ=>M.ret (.nx ρ))))
  (aE (bF 17 (fun ρ=>((aa (bR (eD [none] (fun ρ=>((fun ρ=>cA ρ 16) ρ).bind bc) (aP 0) (bu (ag xE (ag aI (fun ρ=>ae ρ 0) (fun _=>M.ret (.int 0))) (ag aI (fun ρ=>ae ρ 0) (fun _=>M.ret (.int 1))))) (fun ρ=>ae ρ 0))) (fun _=>M.ret [])) ρ).bind bE))
  (aE (fS (bu (ag (gs true) (fun ρ=>((aa (fun ρ=>((aa (fun ρ=>ae ρ 7) (aa (fun ρ=>ae ρ 15) (aa (ag aI (fun ρ=>ae ρ 3) (fun ρ=>ae ρ 11)) (fun _=>M.ret [])))) ρ).bind eJ) (fun _=>M.ret [])) ρ).bind jw) (fun ρ=>((aa (fun ρ=>ae ρ 17) (fun _=>M.ret [])) ρ).bind jw)))
  (de (fun _=>M.ret (.bl false)))
  (fun ρ=>M.ret (.nx ρ)))
  (bx (fun ρ=>((fun ρ=>ae ρ 17) ρ).bind bc) (dS [18,19])
  (aE (fS (DW (bu (ag (nc true) (ag aI (fun ρ=>ae ρ 3) (fun ρ=>ae ρ 11)) (fun ρ=>((aa (fun ρ=>ae ρ 7) (aa (fun ρ=>ae ρ 15) (aa (fun ρ=>ae ρ 18) (fun _=>M.ret [])))) ρ).bind aB))) (bu (ag (nc true) (ag aI (fun ρ=>ae ρ 3) (fun ρ=>ae ρ 11)) (fun ρ=>((aa (fun ρ=>ae ρ 7) (aa (fun ρ=>ae ρ 15) (aa (ag qd (fun ρ=>ae ρ 19) (fun _=>M.ret (.int 1))) (fun _=>M.ret [])))) ρ).bind aB))))
  (de (fun _=>M.ret (.bl false)))
  (fun ρ=>M.ret (.nx ρ)))
  (fS (fF (bu (ag gp (fun ρ=>ae ρ 19) (fun ρ=>ae ρ 5))) (bu (ag (nc false) (ag aI (fun ρ=>ae ρ 3) (fun ρ=>ae ρ 11)) (fun ρ=>((aa (fun ρ=>ae ρ 7) (aa (fun ρ=>ae ρ 15) (aa (fun ρ=>ae ρ 19) (fun _=>M.ret [])))) ρ).bind aB))))
  (de (fun _=>M.ret (.bl false)))
  (fun ρ=>M.ret (.nx ρ))))))))))
  (de (fun _=>M.ret (.bl true)))))))))))))))
section
variable {P:Program} {w:World} {K:Frag} {mg:Str→Option Value} {base:Heap} {a_last_page a_reading a_rules_at a_looked_at a_post_holds a_look_holds a_holds_alone a_others_asked a_found_open a_open_ways a_rule_turns a_turns a_stretches a_spans_within a_spans awstart awpick awword awwords awjoined a_law cb_law tb_law:Addr} {d_last_page d_reading d_rules_at d_looked_at d_post_holds d_look_holds d_holds_alone d_others_asked d_found_open d_open_ways d_rule_turns d_turns d_stretches d_spans_within d_spans dwstart dwpick dwword dwwords dwjoined d_law:FuncData} (T:Txt K mg a_last_page a_reading a_rules_at a_looked_at a_post_holds a_look_holds a_holds_alone a_others_asked a_found_open a_open_ways a_rule_turns a_turns a_stretches a_spans_within a_spans awstart awpick awword awwords awjoined a_law cb_law tb_law d_last_page d_reading d_rules_at d_looked_at d_post_holds d_look_holds d_holds_alone d_others_asked d_found_open d_open_ways d_rule_turns d_turns d_stretches d_spans_within d_spans dwstart dwpick dwword dwwords dwjoined d_law)
include T
theorem qF:bD P w K mg base ed 1 a_last_page d_last_page ["book","kind","name","t"] (fT (cU tb_law K) bo):=by
 have eb:av cE=av cE:=rfl
 conv at eb=>rhs;whnf
 have es:ah cE=ah cE:=rfl
 conv at es=>rhs;whnf
 refine dI (N:=["book","kind","name","t","found","page"]) (ps:=["book","kind","name","t"]) (k:=0) (m:=dh) rfl T.bo fU (by decide) eb es fun fL A outer s H E hr=>?_
 unfold dh
 exact(ax (cp (bg (i:=4) fU.nd rfl (Or.inl rfl) eM))
  (ax (fM (fO PassesOwn.never rfl (sN (ab 0 (bv 0))) (fX (aS (i:=5) fU.nd rfl (Or.inl rfl))) (aF (eO (eV (WV.t (jA (a9 (eL hr.units) (fq false) (EV.b (aJ aD aH (EV.b (ab 5 (bv 5))) (EV.b au) (fun _ _=>rfl))) (EV.b (ab 1 (bv 1))) (aW _)) (jA (a9 (eL hr.units) (fq false) (EV.b (aJ aD aH (EV.b (ab 5 (bv 5))) (EV.b au) (fun _ _=>rfl))) (EV.b (ab 2 (bv 2))) (aW _)) (i5 (a9 jH jF (EV.b (aJ aD aH (EV.b (ab 5 (bv 5))) (EV.b au) (fun _ _=>rfl))) (EV.b (ab 3 (bv 3))) (aW _)))))) (aF (cp (bg (i:=4) fU.nd rfl (Or.inl rfl) (ab 5 (bv 5))))) dv)))))
  (aF (bJ (bN (ab 4 (bv 4)))))))
theorem uK (cR:bD P w K mg base ed 1 a_last_page d_last_page ["book","kind","name","t"] (fT (cU tb_law K) bo)):bD P w K mg base ed 2 a_reading d_reading ["book","post","t"] (fT (cU tb_law K) dH):=by
 have eb:av dF=av dF:=rfl
 conv at eb=>rhs;whnf
 have es:ah dF=ah dF:=rfl
 conv at es=>rhs;whnf
 refine dI (N:=["book","post","t","page"]) (ps:=["book","post","t"]) (k:=1) (m:=f6) rfl T.dH mI (by decide) eb es fun fL A outer s H E hr=>?_
 unfold f6
 exact(ax (cp (bg (i:=3) mI.nd rfl (Or.inl rfl) (aM (aL cR (hr.mono (by decide)) rfl T.dh T.bo.kp T.iX .nil bM (by refine af (ab 0 (bv 0)) ?_;refine af cI ?_;refine af (ab 1 (bv 1)) ?_;refine af (ab 2 (bv 2)) ?_;exact az)))))
  (aF (bJ (bN (wk (a9 mR mQ (EV.b (ab 3 (bv 3))) (EV.b eM) (aW _)) eM (aJ aD aH (EV.b (ab 3 (bv 3))) (EV.b au) (fun _ _=>rfl)))))))
theorem sj (cR:bD P w K mg base ed 1 a_last_page d_last_page ["book","kind","name","t"] (fT (cU tb_law K) bo)):bD P w K mg base ed 2 a_rules_at d_rules_at ["book","w","t"] (fT (cU tb_law K) cJ):=by
 have eb:av cS=av cS:=rfl
 conv at eb=>rhs;whnf
 have es:ah cS=ah cS:=rfl
 conv at es=>rhs;whnf
 refine dI (N:=["book","w","t","page"]) (ps:=["book","w","t"]) (k:=1) (m:=fC) rfl T.cJ lz (by decide) eb es fun fL A outer s H E hr=>?_
 unfold fC
 exact(ax (cp (bg (i:=3) lz.nd rfl (Or.inl rfl) (aM (aL cR (hr.mono (by decide)) rfl T.dh T.bo.kp T.iX .nil bM (by refine af (ab 0 (bv 0)) ?_;refine af cI ?_;refine af (ab 1 (bv 1)) ?_;refine af (ab 2 (bv 2)) ?_;exact az)))))
  (aF (bJ (bN (wk (a9 mR mQ (EV.b (ab 3 (bv 3))) (EV.b eM) (aW _)) (d7 az) (aJ aD aH (EV.b (ab 3 (bv 3))) (EV.b au) (fun _ _=>rfl)))))))
theorem qD (cR:bD P w K mg base ed 1 a_last_page d_last_page ["book","kind","name","t"] (fT (cU tb_law K) bo)):bD P w K mg base ed 2 a_looked_at d_looked_at ["book","w","t"] (fT (cU tb_law K) cm):=by
 have eb:av cC=av cC:=rfl
 conv at eb=>rhs;whnf
 have es:ah cC=ah cC:=rfl
 conv at es=>rhs;whnf
 refine dI (N:=["book","w","t","page"]) (ps:=["book","w","t"]) (k:=1) (m:=eR) rfl T.cm jW (by decide) eb es fun fL A outer s H E hr=>?_
 unfold eR
 exact(ax (cp (bg (i:=3) jW.nd rfl (Or.inl rfl) (aM (aL cR (hr.mono (by decide)) rfl T.dh T.bo.kp T.iX .nil bM (by refine af (ab 0 (bv 0)) ?_;refine af cI ?_;refine af (ab 1 (bv 1)) ?_;refine af (ab 2 (bv 2)) ?_;exact az)))))
  (aF (bJ (bN (wk (a9 mR mQ (EV.b (ab 3 (bv 3))) (EV.b eM) (aW _)) eM (aJ aD aH (EV.b (ab 3 (bv 3))) (EV.b au) (fun _ _=>rfl)))))))
theorem oA (lr:bD P w K mg base ed 2 a_reading d_reading ["book","post","t"] (fT (cU tb_law K) dH)):bD P w K mg base ed 3 a_post_holds d_post_holds ["book","rule","t"] (fT (cU tb_law K) bO):=by
 have eb:av bW=av bW:=rfl
 conv at eb=>rhs;whnf
 have es:ah bW=ah bW:=rfl
 conv at es=>rhs;whnf
 refine dI (N:=["book","rule","t","word","post","n","value"]) (ps:=["book","rule","t"]) (k:=2) (m:=dz) rfl T.bO eh (by decide) eb es fun fL A outer s H E hr=>?_
 unfold dz
 exact(ax (yP (ks:=[3,4,5]) (u6 (ab 1 (bv 1)) (lh rfl (da (aS (i:=3) eh.nd rfl (Or.inl rfl)) (da (aS (i:=4) eh.nd rfl (Or.inl rfl)) (da (aS (i:=5) eh.nd rfl (Or.inl rfl)) jh))))))
  (ax (cp (bg (i:=6) eh.nd rfl (Or.inl rfl) (aM (aL lr (hr.mono (by decide)) rfl T.f6 T.dH.kp T.yb .nil bM (by refine af (ab 0 (bv 0)) ?_;refine af (ab 4 (bv 4)) ?_;refine af (ab 2 (bv 2)) ?_;exact az)))))
  (ax (eO (eV (a9 mR mQ (EV.b (ab 6 (bv 6))) (EV.b eM) (aW _)) (aF (bJ (bN nC))) dv))
  (aF (bJ (bN (wk (a9 (eL hr.units) (fq false) (EV.b (ab 3 (bv 3))) (EV.b cI) (aW _)) (nA DX Hg (EV.b (ab 6 (bv 6))) (EV.b (ab 5 (bv 5))) (aW _)) (nA jH jF (EV.b (ab 6 (bv 6))) (EV.b (ab 5 (bv 5))) (aW _)))))))))
theorem oB (i3:bD P w K mg base ed 2 a_looked_at d_looked_at ["book","w","t"] (fT (cU tb_law K) cm)):bD P w K mg base ed 3 a_look_holds d_look_holds ["book","way","n","t"] (fT (cU tb_law K) br):=by
 have eb:av bX=av bX:=rfl
 conv at eb=>rhs;whnf
 have es:ah bX=ah bX:=rfl
 conv at es=>rhs;whnf
 refine dI (N:=["book","way","n","t","m"]) (ps:=["book","way","n","t"]) (k:=2) (m:=cP) rfl T.br jv (by decide) eb es fun fL A outer s H E hr=>?_
 unfold cP
 exact(ax (cp (bg (i:=4) jv.nd rfl (Or.inl rfl) (aM (aL i3 (hr.mono (by decide)) rfl T.eR T.cm.kp T.tM .nil bM (by refine af (ab 0 (bv 0)) ?_;refine af (aJ aD aH (EV.b (ab 1 (bv 1))) (EV.b au) (fun _ _=>rfl)) ?_;refine af (ab 3 (bv 3)) ?_;exact az)))))
  (aF (bJ (bN (AZ (nA (eL hr.units) (fq false) (EV.b (aJ aD aH (EV.b (ab 1 (bv 1))) (EV.b au) (fun _ _=>rfl))) (EV.b cI) (aW _)) (AZ (nA lZ lY (EV.b (ab 4 (bv 4))) (EV.b eM) (aW _)) (FH (nA sh se (EV.b (ab 3 (bv 3))) (EV.b (cL dW fA (EV.b (ab 4 (bv 4))) (EV.b (ab 2 (bv 2))))) (aW _)))))))))
theorem mT (ix:bD P w K mg base ed 3 a_post_holds d_post_holds ["book","rule","t"] (fT (cU tb_law K) bO)) (iy:bD P w K mg base ed 3 a_look_holds d_look_holds ["book","way","n","t"] (fT (cU tb_law K) br)):bD P w K mg base ed 4 a_holds_alone d_holds_alone ["book","way","rule","t"] (fT (cU tb_law K) aG):=by
 have eb:av bH=av bH:=rfl
 conv at eb=>rhs;whnf
 have es:ah bH=ah bH:=rfl
 conv at es=>rhs;whnf
 refine dI (N:=["book","way","rule","t","word"]) (ps:=["book","way","rule","t"]) (k:=3) (m:=bI) rfl T.aG iM (by decide) eb es fun fL A outer s H E hr=>?_
 unfold bI
 exact(ax (cp (bg (i:=4) iM.nd rfl (Or.inl rfl) (aJ aD aH (EV.b (ab 2 (bv 2))) (EV.b au) (fun _ _=>rfl))))
  (ax (eO (eV (a9 (eL hr.units) (fq false) (EV.b (ab 4 (bv 4))) (EV.b cI) (aW _)) (aF (bJ (bN (AX jH jF sh se (EV.b (aJ aD aH (EV.b (ab 2 (bv 2))) (EV.b au) (fun _ _=>rfl))) (EV.b (ab 3 (bv 3))) (EV.b (aJ aD aH (EV.b (ab 2 (bv 2))) (EV.b au) (fun _ _=>rfl))))))) dv))
  (ax (eO (eV (WV.t (DF (a9 (eL hr.units) (fq false) (EV.b (ab 4 (bv 4))) (EV.b cI) (aW _)) (yq (a9 (eL hr.units) (fq false) (EV.b (ab 4 (bv 4))) (EV.b cI) (aW _))))) (aF (bJ (bN (aM (aL ix (hr.mono (by decide)) rfl T.dz T.bO.kp T.rf .nil bM (by refine af (ab 0 (bv 0)) ?_;refine af (ab 2 (bv 2)) ?_;refine af (ab 3 (bv 3)) ?_;exact az)))))) dv))
  (ax (eO (eV (a9 (eL hr.units) (fq false) (EV.b (ab 4 (bv 4))) (EV.b cI) (aW _)) (aF (bJ (bN (aM (aL iy (hr.mono (by decide)) rfl T.cP T.br.kp T.rg .nil bM (by refine af (ab 0 (bv 0)) ?_;refine af (ab 1 (bv 1)) ?_;refine af (aJ aD aH (EV.b (ab 2 (bv 2))) (EV.b au) (fun _ _=>rfl)) ?_;refine af (ab 3 (bv 3)) ?_;exact az)))))) dv))
  (aF (bJ (bN nC)))))))
theorem lN (jM:bD P w K mg base ed 2 a_rules_at d_rules_at ["book","w","t"] (fT (cU tb_law K) cJ)) (gQ:bD P w K mg base ed 4 a_holds_alone d_holds_alone ["book","way","rule","t"] (fT (cU tb_law K) aG)):bD P w K mg base ed 5 a_others_asked d_others_asked ["book","way","t"] (fT (cU tb_law K) aV):=by
 have eb:av aY=av aY:=rfl
 conv at eb=>rhs;whnf
 have es:ah aY=ah aY:=rfl
 conv at es=>rhs;whnf
 refine dI (N:=["book","way","t","rules"]) (ps:=["book","way","t"]) (k:=4) (m:=cY) rfl T.aV iB (by decide) eb es fun fL A outer s H E hr=>?_
 unfold cY
 exact(ax (cp (bg (i:=3) iB.nd rfl (Or.inl rfl) (aM (aL jM (hr.mono (by decide)) rfl T.fC T.cJ.kp T.u9 .nil bM (by refine af (ab 0 (bv 0)) ?_;refine af (aJ aD aH (EV.b (ab 1 (bv 1))) (EV.b au) (fun _ _=>rfl)) ?_;refine af (ab 2 (bv 2)) ?_;exact az)))))
  (ax (eO (eV (Eo (yD (cz (dc (tJ rfl) rfl T.D2 PyProof.Rows.boot_all (aZ (EV.b (EF.v (iV (iW (bf.yk (N:=["rule","book","way","t"]) (js:=[none,some 0,some 1,some 2]) (ah aY) ["book","way","t","rules"] rfl rfl (by decide +kernel)) rfl (oJ (EV.b (ab 3 (bv 3)))) (fun _ _ _ _=>(eG (aS (i:=0) (by decide:(["rule","book","way","t"]:List Str).Nodup) rfl (Or.inl rfl)))) (fun _ _ _ _=>(jB (a9 (uI hr.units) (fq true) (EV.b (aJ aD aH (EV.b (ab 0 (bv 0))) (EV.b au) (fun _ _=>rfl))) (EV.b cI) (aW _)))) (fun _ _ _ _=>(aM (aL gQ (hr.mono (by decide)) rfl T.bI T.aG.kp T.oP .nil bM (by refine af (ab 1 (bv 1)) ?_;refine af (ab 2 (bv 2)) ?_;refine af (ab 0 (bv 0)) ?_;refine af (ab 3 (bv 3)) ?_;exact az)))))))) cx)) A6))) (aF (bJ (bN eM))) dv))
  (aF (bJ (bN (EF.v (iV (iW (bf.yk (N:=["rule"]) (js:=[none]) (ah aY) ["book","way","t","rules"] rfl rfl (by decide +kernel)) rfl (oJ (EV.b (ab 3 (bv 3)))) (fun _ _ _ _=>(eG (aS (i:=0) (by decide:(["rule"]:List Str).Nodup) rfl (Or.inl rfl)))) (fun _ _ _ _=>(jB (a9 (eL hr.units) (fq false) (EV.b (aJ aD aH (EV.b (ab 0 (bv 0))) (EV.b au) (fun _ _=>rfl))) (EV.b cI) (aW _)))) (fun _ _ _ _=>(aJ aD aH (EV.b (ab 0 (bv 0))) (EV.b au) (fun _ _=>rfl)))))))))))
theorem oD:bD P w K mg base ed 1 a_found_open d_found_open ["asked"] (fT (cU tb_law K) cB):=by
 have eb:av bL=av bL:=rfl
 conv at eb=>rhs;whnf
 have es:ah bL=ah bL:=rfl
 conv at es=>rhs;whnf
 refine dI (N:=["asked","found","before","name"]) (ps:=["asked"]) (k:=0) (m:=dY) rfl T.cB eC (by decide) eb es fun fL A outer s H E hr=>?_
 unfold dY
 exact(ax (vo (bg (i:=1) eC.nd rfl (Or.inr rfl) ⟨r8⟩))
  (ax (cp (bg (i:=2) eC.nd rfl (Or.inl rfl) (la (p5 kx (EV.b au)))))
  (ax (yO 1000 (Bj PassesOwn.never (a9 sh se (EV.b (ab 2 (bv 2))) (EV.b (cz (dc jL rfl T.Aj PySem.boot_len (aZ (d5 1 (bv 1)) cx)) uU)) (aW _)) (ax (cp (bg (i:=2) eC.nd rfl (Or.inl rfl) (cz (dc jL rfl T.Aj PySem.boot_len (aZ (d5 1 (bv 1)) cx)) uU)))
  (aF (B2 (Dt PassesOwn.never rfl (ab 0 (bv 0)) (fX (aS (i:=3) eC.nd rfl (Or.inl rfl))) (aF (eO (eV (yD (cz (dc (tJ rfl) rfl T.D2 PyProof.Rows.boot_all (aZ (EV.b (EF.v (iV (iW (bf.yk (N:=["other","found"]) (js:=[none,some 1]) (ah bL) ["asked","found","before","name"] rfl rfl (by decide +kernel)) rfl (oJ (EV.b (Dv (pG hr) (EV.b (ab 0 (bv 0))) (EV.b (ab 3 (bv 3))) (fun _ _=>rfl)))) (fun _ _ _ _=>(eG (aS (i:=0) (by decide:(["other","found"]:List Str).Nodup) rfl (Or.inl rfl)))) (fun _ _ _ _=>mx) (fun _ _ _ _=>(FU (pG hr) (EV.b (ab 0 (bv 0))) (d5 1 (bv 1)) rfl)))))) cx)) A6)) (aF (vn (k:=1) (wC (pG hr) (bv 1) (EV.b (ab 3 (bv 3))) nC))) dv)))))))))
  (aF (bJ (bN (ab 1 (bv 1))))))))
theorem qC (iA:bD P w K mg base ed 1 a_found_open d_found_open ["asked"] (fT (cU tb_law K) cB)) (gk:bD P w K mg base ed 5 a_others_asked d_others_asked ["book","way","t"] (fT (cU tb_law K) aV)):bD P w K mg base ed 6 a_open_ways d_open_ways ["hill","book","t"] (fT (cU tb_law K) aB):=by
 have eb:av cc=av cc:=rfl
 conv at eb=>rhs;whnf
 have es:ah cc=ah cc:=rfl
 conv at es=>rhs;whnf
 refine dI (N:=["hill","book","t","asked","way","others","found"]) (ps:=["hill","book","t"]) (k:=5) (m:=cO) rfl T.aB eZ (by decide) eb es fun fL A outer s H E hr=>?_
 unfold cO
 exact(ax (vo (bg (i:=3) eZ.nd rfl (Or.inl rfl) ⟨r8⟩))
  (ax (fM (fO PassesOwn.never rfl (sN (aJ aD aH (EV.b (ab 0 (bv 0))) (EV.b au) (fun _ _=>rfl))) (fX (aS (i:=4) eZ.nd rfl (Or.inl rfl))) (ax (cp (bg (i:=5) eZ.nd rfl (Or.inl rfl) (aM (aL gk (hr.mono (by decide)) rfl T.cY T.aV.kp T.nY .nil bM (by refine af (ab 1 (bv 1)) ?_;refine af (ab 4 (bv 4)) ?_;refine af (ab 2 (bv 2)) ?_;exact az)))))
  (aF (eO (eV (a9 lZ lY (EV.b (ab 5 (bv 5))) (EV.b eM) (aW _)) (aF (vn (k:=3) (wC (pG hr) (bv 3) (EV.b (aJ aD aH (EV.b (ab 4 (bv 4))) (EV.b au) (fun _ _=>rfl))) (ab 5 (bv 5))))) dv))))))
  (ax (yR (cp (bg (i:=6) eZ.nd rfl (Or.inr rfl) (aM (aL iA (hr.mono (by decide)) rfl T.dY T.cB.kp T.rj .nil bM (af (ab 3 (bv 3)) az))))))
  (aF (bJ (bN (cz (g8 eE rfl T.j4 PyProof.Rows.boot_tuple (aZ (EV.b (EF.v (iV (iW (bf.yk (N:=["way","found"]) (js:=[none,some 6]) (ah cc) ["hill","book","t","asked","way","others","found"] rfl rfl (by decide +kernel)) rfl (oJ (EV.b (aJ aD aH (EV.b (ab 0 (bv 0))) (EV.b au) (fun _ _=>rfl)))) (fun _ _ _ _=>(eG (aS (i:=0) (by decide:(["way","found"]:List Str).Nodup) rfl (Or.inl rfl)))) (fun _ _ _ _=>(jB (Ep (pG hr) (EV.b (aJ aD aH (EV.b (ab 0 (bv 0))) (EV.b au) (fun _ _=>rfl))) (EV.b (ab 1 (bv 1))) rfl))) (fun _ _ _ _=>(aJ aD aH (EV.b (ab 0 (bv 0))) (EV.b au) (fun _ _=>rfl))))))) cx)) nN)))))))
theorem oz:bD P w K mg base ed 1 a_rule_turns d_rule_turns ["book","w","rule"] (fT (cU tb_law K) bq):=by
 have eb:av bK=av bK:=rfl
 conv at eb=>rhs;whnf
 have es:ah bK=ah bK:=rfl
 conv at es=>rhs;whnf
 refine dI (N:=["book","w","rule"]) (ps:=["book","w","rule"]) (k:=0) (m:=cN) rfl T.bq oq (by decide) eb es fun fL A outer s H E hr=>?_
 unfold cN
 exact(ax (eO (eV (a9 (eL hr.units) (fq false) (EV.b (aJ aD aH (EV.b (ab 2 (bv 2))) (EV.b au) (fun _ _=>rfl))) (EV.b cI) (aW _)) (aF (bJ (bN (EF.v (dR (af (aJ aD aH (EV.b (ab 2 (bv 2))) (EV.b au) (fun _ _=>rfl)) (af (aJ aD aH (EV.b (ab 2 (bv 2))) (EV.b au) (fun _ _=>rfl)) az))))))) dv))
  (ax (eO (eV (a9 (eL hr.units) (fq false) (EV.b (aJ aD aH (EV.b (ab 2 (bv 2))) (EV.b au) (fun _ _=>rfl))) (EV.b cI) (aW _)) (aF (bJ (bN (EF.v (iV (iW (bf.yk (N:=["page","rule","w"]) (js:=[none,some 2,some 1]) (ah bK) ["book","w","rule"] rfl rfl (by decide +kernel)) rfl (oJ (EV.b (ab 0 (bv 0)))) (fun _ _ _ _=>(eG (aS (i:=0) (by decide:(["page","rule","w"]:List Str).Nodup) rfl (Or.inl rfl)))) (fun _ _ _ _=>(jB (WV.t (jA (a9 (eL hr.units) (fq false) (EV.b (aJ aD aH (EV.b (ab 0 (bv 0))) (EV.b au) (fun _ _=>rfl))) (EV.b cI) (aW _)) (i5 (a9 (eL hr.units) (fq false) (EV.b (aJ aD aH (EV.b (ab 0 (bv 0))) (EV.b au) (fun _ _=>rfl))) (EV.b (ab 2 (bv 2))) (aW _))))))) (fun _ _ _ _=>(cL dW fA (EV.b (aJ aD aH (EV.b (ab 0 (bv 0))) (EV.b au) (fun _ _=>rfl))) (EV.b (aJ aD aH (EV.b (ab 1 (bv 1))) (EV.b au) (fun _ _=>rfl))))))))))) dv))
  (aF (bJ (bN (EF.v (dR az)))))))
theorem Aa (iw:bD P w K mg base ed 1 a_rule_turns d_rule_turns ["book","w","rule"] (fT (cU tb_law K) bq)):bD P w K mg base ed 2 a_turns d_turns ["hill","book"] (fT (cU tb_law K) gJ):=by
 have eb:av fb=av fb:=rfl
 conv at eb=>rhs;whnf
 have es:ah fb=ah fb:=rfl
 conv at es=>rhs;whnf
 refine dI (N:=["hill","book","found","page","rule"]) (ps:=["hill","book"]) (k:=1) (m:=jc) rfl T.gJ jV (by decide) eb es fun fL A outer s H E hr=>?_
 unfold jc
 exact(ax (jC (bg (i:=2) jV.nd rfl (Or.inl rfl) (dR (af au az))))
  (ax (fM (fO PassesOwn.never rfl (sN (ab 1 (bv 1))) (fX (aS (i:=3) jV.nd rfl (Or.inl rfl))) (ax (gK (k:=2) (eI (g9 La Ld Lc cW (bv 2) (dA (aJ aD aH (EV.b (ab 3 (bv 3))) (EV.b au) (fun _ _=>rfl)) fi))))
  (aF (eO (eV (a9 (eL hr.units) (fq false) (EV.b (aJ aD aH (EV.b (ab 3 (bv 3))) (EV.b au) (fun _ _=>rfl))) (EV.b cI) (aW _)) (aF (fM (fO PassesOwn.never rfl (sN (aJ aD aH (EV.b (ab 3 (bv 3))) (EV.b au) (fun _ _=>rfl))) (fX (aS (i:=4) jV.nd rfl (Or.inl rfl))) (aF (EA (k:=2) (eI (g9 La PySem.F.slot_list_extend yC xC (bv 2) (dA (aM (aL iw (hr.mono (by decide)) rfl T.cN T.bq.kp T.qZ .nil bM (by refine af (ab 1 (bv 1)) ?_;refine af (aJ aD aH (EV.b (ab 3 (bv 3))) (EV.b au) (fun _ _=>rfl)) ?_;refine af (ab 4 (bv 4)) ?_;exact az))) fi)))))))) dv))))))
  (aF (bJ (bN (EF.v (xV (dc (uZ rfl) rfl T.mW PyProof.Rows.boot_sorted (dA (HX (bf.yk (N:=["m","hill"]) (js:=[none,some 0]) (ah fb) ["hill","book","found","page","rule"] rfl rfl (by decide +kernel)) rfl (oJ (EV.b (ab 2 (bv 2)))) (fun _ _ _ _=>(eG (aS (i:=0) (by decide:(["m","hill"]:List Str).Nodup) rfl (Or.inl rfl)))) (fun _ _ _ _=>(jB (yE jH jF jH jF (EV.b au) (EV.b (ab 0 (bv 0))) (EV.b (aJ aD aH (EV.b (ab 1 (bv 1))) (EV.b au) (fun _ _=>rfl)))))) (fun _ _ _ _=>(ab 0 (bv 0)))) fi)))))))))
theorem qB (dq:bD P w K mg base ed 6 a_open_ways d_open_ways ["hill","book","t"] (fT (cU tb_law K) aB)) (rC:bD P w K mg base ed 2 a_turns d_turns ["hill","book"] (fT (cU tb_law K) gJ)):bD P w K mg base ed 7 a_stretches d_stretches ["hill","book"] (fT (cU tb_law K) du):=by
 have eb:av cb=av cb:=rfl
 conv at eb=>rhs;whnf
 have es:ah cb=ah cb:=rfl
 conv at es=>rhs;whnf
 refine dI (N:=["hill","book"]) (ps:=["hill","book"]) (k:=6) (m:=eQ) rfl T.du qk (by decide) eb es fun fL A outer s H E hr=>?_
 unfold eQ
 exact(aF (bJ (bN (EF.v (iV (iW (bf.yk (N:=["m","hill","book"]) (js:=[none,some 0,some 1]) (ah cb) ["hill","book"] rfl rfl (by decide +kernel)) rfl (oJ (EV.b (aM (aL rC (hr.mono (by decide)) rfl T.jc T.gJ.kp T.Dw .nil bM (af (ab 0 (bv 0)) (af (ab 1 (bv 1)) az)))))) (fun _ _ _ _=>(eG (aS (i:=0) (by decide:(["m","hill","book"]:List Str).Nodup) rfl (Or.inl rfl)))) (fun _ _ _ _=>mx) (fun _ _ _ _=>(d7 (af (ab 0 (bv 0)) (af (aM (aL dq (hr.mono (by decide)) rfl T.cO T.aB.kp T.gE .nil bM (by refine af (ab 1 (bv 1)) ?_;refine af (ab 2 (bv 2)) ?_;refine af (ab 0 (bv 0)) ?_;exact az))) az))))))))))
theorem lM:bD P w K mg base ed 1 a_spans_within d_spans_within ["parts","w","dark"] (fT (cU tb_law K) cj):=by
 have eb:av bA=av bA:=rfl
 conv at eb=>rhs;whnf
 have es:ah bA=ah bA:=rfl
 conv at es=>rhs;whnf
 refine dI (N:=["parts","w","dark","found","begun","m","names"]) (ps:=["parts","w","dark"]) (k:=0) (m:=cX) rfl T.cj cq (by decide) eb es fun fL A outer s H E hr=>?_
 unfold cX
 exact(ax (jC (bg (i:=3) cq.nd rfl (Or.inl rfl) (dR az)))
  (ax (cp (bg (i:=4) cq.nd rfl (Or.inl rfl) eM))
  (ax (fM (fO PassesOwn.never rfl (sN (ab 0 (bv 0))) (qS (ks:=[5,6]) (lh rfl (da (aS (i:=5) cq.nd rfl (Or.inl rfl)) (da (aS (i:=6) cq.nd rfl (Or.inl rfl)) jh)))) (ax (eO (eV (WV.t (jA (a9 zX (pf false) (EV.b (ab 1 (bv 1))) (EV.b (ab 6 (bv 6))) rfl) (i5 (a9 mR mQ (EV.b (ab 4 (bv 4))) (EV.b eM) (aW _))))) (aF (cp (bg (i:=4) cq.nd rfl (Or.inl rfl) (ab 5 (bv 5))))) dv))
  (aF (eO (eV (WV.t (jA (a9 jb (pf true) (EV.b (ab 1 (bv 1))) (EV.b (ab 6 (bv 6))) rfl) (i5 (a9 lZ lY (EV.b (ab 4 (bv 4))) (EV.b eM) (aW _))))) (ax (gK (k:=3) (eI (g9 La Ld Lc cW (bv 3) (dA (d7 (af (ab 4 (bv 4)) (af (ab 5 (bv 5)) az))) fi))))
  (aF (cp (bg (i:=4) cq.nd rfl (Or.inl rfl) eM)))) dv))))))
  (ax (eO (eV (a9 lZ lY (EV.b (ab 4 (bv 4))) (EV.b eM) (aW _)) (aF (gK (k:=3) (eI (g9 La Ld Lc cW (bv 3) (dA (d7 (af (ab 4 (bv 4)) (af (cL dW fA (EV.b (ab 2 (bv 2))) (EV.b au)) az))) fi))))) dv))
  (aF (bJ (bN (cz (g8 eE rfl T.j4 PyProof.Rows.boot_tuple (aZ (EV.b (ab 3 (bv 3))) cx)) nN))))))))
theorem Ac (gh:bD P w K mg base ed 1 a_spans_within d_spans_within ["parts","w","dark"] (fT (cU tb_law K) cj)) (iZ:bD P w K mg base ed 7 a_stretches d_stretches ["hill","book"] (fT (cU tb_law K) du)):bD P w K mg base ed 8 a_spans d_spans ["hill","book","w"] (fT (cU tb_law K) eJ):=by
 have eb:av fH=av fH:=rfl
 conv at eb=>rhs;whnf
 have es:ah fH=ah fH:=rfl
 conv at es=>rhs;whnf
 refine dI (N:=["hill","book","w"]) (ps:=["hill","book","w"]) (k:=7) (m:=jd) rfl T.eJ zc (by decide) eb es fun fL A outer s H E hr=>?_
 unfold jd
 exact(aF (bJ (bN (aM (aL gh (hr.mono (by decide)) rfl T.cX T.cj.kp T.nX .nil bM (by refine af (aM (aL iZ (hr.mono (by decide)) rfl T.eQ T.du.kp T.tL .nil bM (af (ab 0 (bv 0)) (af (ab 1 (bv 1)) az)))) ?_;refine af (ab 2 (bv 2)) ?_;refine af (aJ aD aH (EV.b (ab 0 (bv 0))) (EV.b au) (fun _ _=>rfl)) ?_;exact az))))))
theorem sk (bh:bD P w K mg base ed 1 awpick dwpick ["_law_state","_law_many"] (fT (cU tb_law K) ar)):bD P w K mg base ed 2 awword dwword ["_law_state","_law_taken"] (fT (cU tb_law K) dU):=by
 have eb:av bT=av bT:=rfl
 conv at eb=>rhs;whnf
 have es:ah bT=ah bT:=rfl
 conv at es=>rhs;whnf
 refine dI (N:=["_law_state","_law_taken","_law_letters","_law_size","_law_word_here"]) (ps:=["_law_state","_law_taken"]) (k:=1) (m:=fD) rfl T.dU gz (by decide) eb es fun fL A outer s H E hr=>?_
 unfold fD
 exact(ax (cp (bg (i:=2) gz.nd rfl (Or.inr rfl) cI))
  (ax (cp (bg (i:=3) gz.nd rfl (Or.inl rfl) (cL dW fA (EV.b au) (EV.b (aM (aL bh (hr.mono (by decide)) rfl T.bU T.ar.kp T.bV .nil bM (af (ab 0 (bv 0)) (af au az))))))))
  (ax (cp (bg (i:=4) gz.nd rfl (Or.inr rfl) (HN (g9 PySem.F.plainAttrs_str PySem.F.slot_str_join PySem.F.type_str_join CW (EV.b cI) (aZ (EV.b (EF.v (iV (iW (bf.yk (N:=["_law_k","_law_letters","_law_state"]) (js:=[none,some 2,some 0]) (ah bT) ["_law_state","_law_taken","_law_letters","_law_size","_law_word_here"] rfl rfl (by decide +kernel)) rfl (jf (f9 rfl T.je (aZ (EV.b (ab 3 (bv 3))) cx))) (fun _ _ _ _=>(eG (aS (i:=0) (by decide:(["_law_k","_law_letters","_law_state"]:List Str).Nodup) rfl (Or.inl rfl)))) (fun _ _ _ _=>mx) (fun _ _ _ _=>(aJ aD aH (EV.b (ab 1 (bv 1))) (EV.b (aM (aL bh (hr.mono (by decide)) rfl T.bU T.ar.kp T.bV .nil bM (af (ab 2 (bv 2)) (af au az))))) (fun _ _=>rfl))))))) cx)) CV)))
  (aF (bJ (bN (aJ aD aH (EV.b (EF.v (iV (iW (bf.yk (N:=["_law_one","_law_taken"]) (js:=[none,some 1]) (ah bT) ["_law_state","_law_taken","_law_letters","_law_size","_law_word_here"] rfl rfl (by decide +kernel)) rfl (oJ (EV.b (EF.v (FI (HY zZ (EV.b (EF.v (dR (af (ab 4 (bv 4)) az)))) (EV.b (EF.v (iV (iW (bf.yk (N:=["_law_letter","_law_word_here"]) (js:=[none,some 4]) (ah bT) ["_law_state","_law_taken","_law_letters","_law_size","_law_word_here"] rfl rfl (by decide +kernel)) rfl (oJ (EV.b (ab 2 (bv 2)))) (fun _ _ _ _=>(eG (aS (i:=0) (by decide:(["_law_letter","_law_word_here"]:List Str).Nodup) rfl (Or.inl rfl)))) (fun _ _ _ _=>mx) (fun _ _ _ _=>(cL dW fA (EV.b (AW (Bq Jf (EV.b (ab 1 (bv 1))) CD (CC (EV.b au))) Je)) (EV.b (ab 0 (bv 0)))))))))))))) (fun _ _ _ _=>(eG (aS (i:=0) (by decide:(["_law_one","_law_taken"]:List Str).Nodup) rfl (Or.inl rfl)))) (fun _ _ _ _=>(jB (a9 jb (pf true) (EV.b (ab 0 (bv 0))) (EV.b (ab 1 (bv 1))) rfl))) (fun _ _ _ _=>(ab 0 (bv 0))))))) (EV.b au) (fun _ _=>rfl))))))))
theorem qE (jN:bD P w K mg base ed 2 awword dwword ["_law_state","_law_taken"] (fT (cU tb_law K) dU)):bD P w K mg base ed 3 awwords dwwords ["_law_state","_law_many"] (fT (cU tb_law K) cG):=by
 have eb:av cD=av cD:=rfl
 conv at eb=>rhs;whnf
 have es:ah cD=ah cD:=rfl
 conv at es=>rhs;whnf
 refine dI (N:=["_law_state","_law_many","_law_found","_law_k"]) (ps:=["_law_state","_law_many"]) (k:=2) (m:=dQ) rfl T.cG h7 (by decide) eb es fun fL A outer s H E hr=>?_
 unfold dQ
 exact(ax (jC (bg (i:=2) h7.nd rfl (Or.inl rfl) (dR az)))
  (ax (fM (fO PassesOwn.never rfl (jf (f9 rfl T.je (aZ (EV.b (ab 1 (bv 1))) cx))) (fX (aS (i:=3) h7.nd rfl (Or.inl rfl))) (aF (gK (k:=2) (eI (g9 La Ld Lc cW (bv 2) (dA (AY (aL jN (hr.mono (by decide)) rfl T.fD T.dU.kp T.va .nil bM (aZ (EV.b (ab 0 (bv 0))) (aZ (d5 2 (bv 2)) cx)))) fi)))))))
  (aF (bJ (bN (ab 2 (bv 2)))))))
theorem oC:bD P w K mg base ed 1 awjoined dwjoined ["_law_runs"] (fT (cU tb_law K) bE):=by
 have eb:av bY=av bY:=rfl
 conv at eb=>rhs;whnf
 have es:ah bY=ah bY:=rfl
 conv at es=>rhs;whnf
 refine dI (N:=["_law_runs","_law_found","_law_a","_law_b"]) (ps:=["_law_runs"]) (k:=0) (m:=dX) rfl T.bE fG (by decide) eb es fun fL A outer s H E hr=>?_
 unfold dX
 exact(ax (jC (bg (i:=1) fG.nd rfl (Or.inl rfl) (dR az)))
  (ax (fM (fO PassesOwn.never rfl (sN (EF.v (A3 (dc u4 rfl T.mW PyProof.Rows.boot_sorted (aZ (EV.b (ab 0 (bv 0))) cx)) Ba))) (qS (ks:=[2,3]) (lh rfl (da (aS (i:=2) fG.nd rfl (Or.inl rfl)) (da (aS (i:=3) fG.nd rfl (Or.inl rfl)) jh)))) (aF (eO (eV (WV.t (jA (a9 (uI hr.units) (fq true) (d5 1 (bv 1)) (EV.b (EF.v (dR az))) (aW _)) (i5 (a9 jH jF (EV.b (ab 2 (bv 2))) (EV.b (aJ aD aH (EV.b (aJ aD aH (d5 1 (bv 1)) (EV.b (la (p5 kx (EV.b au)))) (fun _ _=>rfl))) (EV.b au) (fun _ _=>rfl))) (aW _))))) (aF (B1 (k:=1) (u6 (d7 (af (aJ aD aH (EV.b (aJ aD aH (d5 1 (bv 1)) (EV.b (la (p5 kx (EV.b au)))) (fun _ _=>rfl))) (EV.b au) (fun _ _=>rfl)) (af (cz (dc (pU rfl) rfl T.D1 PyProof.Rows.boot_max (aZ (EV.b (aJ aD aH (EV.b (aJ aD aH (d5 1 (bv 1)) (EV.b (la (p5 kx (EV.b au)))) (fun _ _=>rfl))) (EV.b au) (fun _ _=>rfl))) (aZ (EV.b (ab 3 (bv 3))) cx))) wA) az))) (FT (bv 1) (EV.b (la (p5 kx (EV.b au)))) set_list)))) (aF (eO (eV (a9 sh se (EV.b (ab 2 (bv 2))) (EV.b (ab 3 (bv 3))) (aW _)) (aF (gK (k:=1) (eI (g9 La Ld Lc cW (bv 1) (dA (d7 (af (ab 2 (bv 2)) (af (ab 3 (bv 3)) az))) fi))))) dv))))))))
  (aF (bJ (bN (cz (g8 eE rfl T.j4 PyProof.Rows.boot_tuple (aZ (EV.b (ab 1 (bv 1))) cx)) nN))))))
theorem Fe (kb:K.In base) (hB:DE base mg) (i4:bD P w K mg base ed 1 awstart dwstart ["_law_script"] (qe K)) (bh:bD P w K mg base ed 1 awpick dwpick ["_law_state","_law_many"] (fT (cU tb_law K) ar)) (gI:bD P w K mg base ed 3 awwords dwwords ["_law_state","_law_many"] (fT (cU tb_law K) cG)) (iz:bD P w K mg base ed 1 awjoined dwjoined ["_law_runs"] (fT (cU tb_law K) bE)) (rD:bD P w K mg base ed 8 a_spans d_spans ["hill","book","w"] (fT (cU tb_law K) eJ)) (dq:bD P w K mg base ed 6 a_open_ways d_open_ways ["hill","book","t"] (fT (cU tb_law K) aB)) (hm:(lD ((List.replicate 20 un).set 1 (.val .fY))).wp 1000000 fun f _=>f= .rt (.bl true)):bD P w K mg base ed 9 a_law d_law ["_law_script"] (kF K [tb_law]):=by
 have eb:av fP=av fP:=rfl
 conv at eb=>rhs;whnf
 have es:ah fP=ah fP:=rfl
 conv at es=>rhs;whnf
 refine L2.Ap (tabs:=[(tb_law,(("law":Str)++".<locals>."++"<lambda>"))]) (N:=["_law_script","_law_state","_law_scale","_law_names","_law_spots","_law_dark","_law_kinds","_law_hill","_law_pages","_law_begun","_law_far","_law_k","_law_looks","_law_s","_law_moment","_law_book","_law_runs","_law_due","_law_a","_law_b"]) (k:=8) (b:=1) (m:=lD) T.Ef cK eb es (fun A outer s H E hr=>?_) (fun A outer s H E hr=>?_) hm (by decide) (by decide) (by decide)
 ·exact(bg (i:=1) cK.nd rfl (Or.inl rfl) (aL i4 (hr.mono (by decide)) rfl T.sF T.lL.kp T.tN .nil bM (dA (bv 0) fi)))
 ·unfold lD
  exact(ax (cp (bg (i:=2) cK.nd rfl (Or.inl rfl) (aJ aD aH (EV.b (EF.v (dR (by refine af au ?_;refine af au ?_;refine af au ?_;exact az)))) (EV.b (aM (aL bh (hr.mono (by decide)) rfl T.bU T.ar.kp T.bV .nil bM (af (ab 1 (bv 1)) (af au az))))) (fun _ _=>rfl))))
  (ax (yP (ks:=[3,4]) (u6 (d7 (af (aM (aL gI (hr.mono (by decide)) rfl T.dQ T.cG.kp T.lJ .nil bM (af (ab 1 (bv 1)) (af au az)))) (af (aM (aL gI (hr.mono (by decide)) rfl T.dQ T.cG.kp T.lJ .nil bM (af (ab 1 (bv 1)) (af au az)))) az))) (lh rfl (da (aS (i:=3) cK.nd rfl (Or.inr rfl)) (da (aS (i:=4) cK.nd rfl (Or.inr rfl)) jh)))))
  (ax (cp (bg (i:=5) cK.nd rfl (Or.inl rfl) (cL uH uG (EV.b (cL j3 jY (EV.b (ab 2 (bv 2))) (EV.b au))) (EV.b (aM (aL bh (hr.mono (by decide)) rfl T.bU T.ar.kp T.bV .nil bM (af (ab 1 (bv 1)) (af au az))))))))
  (ax (cp (bg (i:=6) cK.nd rfl (Or.inr rfl) (EF.v (dR (by refine af cI ?_;refine af cI ?_;refine af cI ?_;exact az)))))
  (ax (cp (bg (i:=7) cK.nd rfl (Or.inl rfl) (d7 (by refine af (cz (g8 eE rfl T.j4 PyProof.Rows.boot_tuple (aZ (EV.b (EF.v (iV (iW (bf.yk (N:=["_law_k","_law_names","_law_kinds","_law_spots"]) (js:=[none,some 3,some 6,some 4]) (ah fP) ["_law_script","_law_state","_law_scale","_law_names","_law_spots","_law_dark","_law_kinds","_law_hill","_law_pages","_law_begun","_law_far","_law_k","_law_looks","_law_s","_law_moment","_law_book","_law_runs","_law_due","_law_a","_law_b"] rfl rfl (by decide +kernel)) rfl (jf (f9 rfl T.je (aZ (EV.b au) cx))) (fun _ _ _ _=>(eG (aS (i:=0) (by decide:(["_law_k","_law_names","_law_kinds","_law_spots"]:List Str).Nodup) rfl (Or.inl rfl)))) (fun _ _ _ _=>mx) (fun _ _ _ _=>(d7 (by refine af (aJ aD aH (EV.b (ab 1 (bv 1))) (EV.b (ab 0 (bv 0))) (fun _ _=>rfl)) ?_;refine af (aJ aD aH (EV.b (ab 2 (bv 2))) (EV.b (ab 0 (bv 0))) (fun _ _=>rfl)) ?_;refine af (aJ aD aH (EV.b (ab 3 (bv 3))) (EV.b au) (fun _ _=>rfl)) ?_;refine af (aJ aD aH (EV.b (ab 3 (bv 3))) (EV.b au) (fun _ _=>rfl)) ?_;refine af (ab 0 (bv 0)) ?_;refine af au ?_;exact az))))))) cx)) nN) ?_;refine af (aJ aD aH (EV.b (ab 4 (bv 4))) (EV.b au) (fun _ _=>rfl)) ?_;refine af (ab 5 (bv 5)) ?_;exact az))))
  (ax (jC (bg (i:=8) cK.nd rfl (Or.inl rfl) (dR az)))
  (ax (yQ (Bk (i:=9) (j:=10) rfl cK.nd rfl rfl (by decide) rfl rfl (dA (dR az) (dA (dR az) fi)) rfl))
  (ax (fM (fO PassesOwn.never rfl (jf (f9 rfl T.je (aZ (EV.b au) cx))) (fX (aS (i:=11) cK.nd rfl (Or.inl rfl))) (ax (gK (k:=9) (eI (g9 La Ld Lc cW (bv 9) (dA (cL j3 jY (EV.b (ab 2 (bv 2))) (EV.b (aM (aL bh (hr.mono (by decide)) rfl T.bU T.ar.kp T.bV .nil bM (af (ab 1 (bv 1)) (af au az)))))) fi))))
  (ax (gK (k:=10) (eI (g9 La Ld Lc cW (bv 10) (dA (aJ aD aH (EV.b (EF.v (dR (by refine af (cL dW fA (EV.b au) (EV.b (aM (aL bh (hr.mono (by decide)) rfl T.bU T.ar.kp T.bV .nil bM (af (ab 1 (bv 1)) (af au az)))))) ?_;refine af (cL j3 jY (EV.b (ab 2 (bv 2))) (EV.b (cL dW fA (EV.b au) (EV.b (aM (aL bh (hr.mono (by decide)) rfl T.bU T.ar.kp T.bV .nil bM (af (ab 1 (bv 1)) (af au az)))))))) ?_;refine af (cL dW fA (EV.b (ab 5 (bv 5))) (EV.b au)) ?_;exact az)))) (EV.b (aM (aL bh (hr.mono (by decide)) rfl T.bU T.ar.kp T.bV .nil bM (af (ab 1 (bv 1)) (af au az))))) (fun _ _=>rfl)) fi))))
  (aF (gK (k:=8) (eI (g9 La Ld Lc cW (bv 8) (dA (d7 (by refine af cI ?_;refine af (cL uH uG (EV.b au) (EV.b (ab 11 (bv 11)))) ?_;refine af (aJ aD aH (d5 9 (bv 9)) (EV.b (ab 11 (bv 11))) (fun _ _=>rfl)) ?_;refine af (aJ aD aH (EV.b (ab 3 (bv 3))) (EV.b (ab 11 (bv 11))) (fun _ _=>rfl)) ?_;refine af (d7 (af (d7 (af cI (af (aJ aD aH (d5 10 (bv 10)) (EV.b (ab 11 (bv 11))) (fun _ _=>rfl)) az))) az)) ?_;exact az)) fi)))))))))
  (ax (jC (bg (i:=12) cK.nd rfl (Or.inl rfl) (dR az)))
  (ax (fM (fO PassesOwn.never rfl (jf (f9 rfl T.je (aZ (EV.b (cL dW fA (EV.b au) (EV.b (aM (aL bh (hr.mono (by decide)) rfl T.bU T.ar.kp T.bV .nil bM (af (ab 1 (bv 1)) (af au az))))))) cx))) (fX (aS (i:=11) cK.nd rfl (Or.inl rfl))) (ax (Ey (Bk (i:=13) (j:=14) rfl cK.nd rfl rfl (by decide) rfl rfl (af (aM (aL bh (hr.mono (by decide)) rfl T.bU T.ar.kp T.bV .nil bM (af (ab 1 (bv 1)) (af au az)))) (af (cL j3 jY (EV.b (ab 2 (bv 2))) (EV.b (aM (aL bh (hr.mono (by decide)) rfl T.bU T.ar.kp T.bV .nil bM (af (ab 1 (bv 1)) (af au az)))))) az)) rfl))
  (ax (gK (k:=12) (eI (g9 La Ld Lc cW (bv 12) (dA (d7 (af (ab 13 (bv 13)) (af (cz (dc (pT rfl) rfl T.D0 PyProof.Rows.boot_min (aZ (EV.b (ab 5 (bv 5))) (aZ (EV.b (cL dW fA (EV.b (ab 14 (bv 14))) (EV.b (aJ aD aH (EV.b (EF.v (dR (by refine af au ?_;refine af au ?_;refine af au ?_;exact az)))) (EV.b (aM (aL bh (hr.mono (by decide)) rfl T.bU T.ar.kp T.bV .nil bM (af (ab 1 (bv 1)) (af au az))))) (fun _ _=>rfl))))) cx))) wz) az))) fi))))
  (aF (Ez (k:=8) (eI (g9 La PySem.F.slot_list_insert PySem.F.type_list_insert xB (bv 8) (af (aM (aL bh (hr.mono (by decide)) rfl T.bU T.ar.kp T.bV .nil bM (af (ab 1 (bv 1)) (af (cL dW fA (EV.b (cz (dc jL rfl T.Aj PySem.boot_len (aZ (d5 8 (bv 8)) cx)) uU)) (EV.b au)) az)))) (af (d7 (by refine af cI ?_;refine af (cL ie Fc (EV.b (cL j3 jY (EV.b (ab 11 (bv 11))) (EV.b au))) (EV.b au)) ?_;refine af (aJ aD aH (EV.b (aJ aD aH (d5 12 (bv 12)) (EV.b (la (p5 kx (EV.b au)))) (fun _ _=>rfl))) (EV.b au) (fun _ _=>rfl)) ?_;refine af (aJ aD aH (EV.b (ab 3 (bv 3))) (EV.b (ab 13 (bv 13))) (fun _ _=>rfl)) ?_;exact az)) az))))))))))
  (ax (yR (cp (bg (i:=15) cK.nd rfl (Or.inl rfl) (cz (g8 eE rfl T.j4 PyProof.Rows.boot_tuple (aZ (EV.b (EF.v (A2 (tb:=(tb_law,_)) Kw (fun q hq _=>K7.mp hq) ⟨zN (k:=0) (N:=["_law_page"]) (y:="_law_page") (hr.mono (by decide)) hB rfl (PySem.W.codeHd_of_K kb T.Ef.hd) rfl rfl ⟨rfl,rfl,rfl,by decide,rfl,by decide +kernel,by decide +kernel⟩ (fun _ _ _ _ _=>.of_eq rfl) (fun _ _ _ _ _=>zM (fe (iO uQ (pv 0) aT (fun _ _=>rfl)) (fe (iO uQ (pv 0) aT (fun _ _=>rfl)) gM))) rfl T.mW (EV.b (ab 8 (bv 8))).out⟩))) cx)) nN))))
  (ax (fM (fO PassesOwn.never rfl (jf (f9 rfl T.je (aZ (EV.b au) cx))) (fX (aS (i:=11) cK.nd rfl (Or.inl rfl))) (ax (jC (bg (i:=16) cK.nd rfl (Or.inl rfl) (dR (af (d7 (af au (af (aJ aD aH (EV.b (ab 9 (bv 9))) (EV.b (ab 11 (bv 11))) (fun _ _=>rfl)) az))) az))))
  (ax (fM (fO PassesOwn.never rfl (sN (ab 12 (bv 12))) (qS (ks:=[13,14]) (lh rfl (da (aS (i:=13) cK.nd rfl (Or.inl rfl)) (da (aS (i:=14) cK.nd rfl (Or.inl rfl)) jh)))) (aF (eO (eV (a9 (eL hr.units) (fq false) (EV.b (ab 13 (bv 13))) (EV.b (ab 11 (bv 11))) (aW _)) (aF (gK (k:=16) (eI (g9 La Ld Lc cW (bv 16) (dA (d7 (af (cz (dc (pU rfl) rfl T.D1 PyProof.Rows.boot_max (aZ (EV.b (aJ aD aH (EV.b (ab 9 (bv 9))) (EV.b (ab 11 (bv 11))) (fun _ _=>rfl))) (aZ (EV.b (ab 14 (bv 14))) cx))) wA) (af (cz (dc (pT rfl) rfl T.D0 PyProof.Rows.boot_min (aZ (EV.b (cL dW fA (EV.b (ab 5 (bv 5))) (EV.b au))) (aZ (EV.b (cL dW fA (EV.b (ab 14 (bv 14))) (EV.b (aJ aD aH (EV.b (ab 10 (bv 10))) (EV.b (ab 11 (bv 11))) (fun _ _=>rfl))))) cx))) wz) az))) fi))))) dv)))))
  (ax (cp (bg (i:=17) cK.nd rfl (Or.inl rfl) (aM (aL iz (hr.mono (by decide)) rfl T.dX T.bE.kp T.rh .nil bM (af (EF.v (iV (iW (bf.yk (N:=["_law_run"]) (js:=[none]) (ah fP) ["_law_script","_law_state","_law_scale","_law_names","_law_spots","_law_dark","_law_kinds","_law_hill","_law_pages","_law_begun","_law_far","_law_k","_law_looks","_law_s","_law_moment","_law_book","_law_runs","_law_due","_law_a","_law_b"] rfl rfl (by decide +kernel)) rfl (oJ (d5 16 (bv 16))) (fun _ _ _ _=>(eG (aS (i:=0) (by decide:(["_law_run"]:List Str).Nodup) rfl (Or.inl rfl)))) (fun _ _ _ _=>(jB (a9 sh se (EV.b (aJ aD aH (EV.b (ab 0 (bv 0))) (EV.b au) (fun _ _=>rfl))) (EV.b (aJ aD aH (EV.b (ab 0 (bv 0))) (EV.b au) (fun _ _=>rfl))) (aW _)))) (fun _ _ _ _=>(ab 0 (bv 0)))))) az)))))
  (ax (eO (eV (a9 (uI hr.units) (fq true) (EV.b (cz (dc (nR hr.gd hr.units) rfl T.Ai PyProof.Rows.boot_repr (aZ (EV.b (aM (aL rD (hr.mono (by decide)) rfl T.jd T.eJ.kp T.Dx .nil bM (by refine af (ab 7 (bv 7)) ?_;refine af (ab 15 (bv 15)) ?_;refine af (aJ aD aH (EV.b (ab 3 (bv 3))) (EV.b (ab 11 (bv 11))) (fun _ _=>rfl)) ?_;exact az)))) cx)) tu)) (EV.b (cz (dc (nR hr.gd hr.units) rfl T.Ai PyProof.Rows.boot_repr (aZ (EV.b (ab 17 (bv 17))) cx)) tu)) (aW _)) (aF (bJ (bN nC))) dv))
  (aF (fM (fO PassesOwn.never rfl (sN (ab 17 (bv 17))) (qS (ks:=[18,19]) (lh rfl (da (aS (i:=18) cK.nd rfl (Or.inl rfl)) (da (aS (i:=19) cK.nd rfl (Or.inl rfl)) jh)))) (ax (eO (eV (WV.t (DF (a9 jb (pf true) (EV.b (aJ aD aH (EV.b (ab 3 (bv 3))) (EV.b (ab 11 (bv 11))) (fun _ _=>rfl))) (EV.b (aM (aL dq (hr.mono (by decide)) rfl T.cO T.aB.kp T.gE .nil bM (by refine af (ab 7 (bv 7)) ?_;refine af (ab 15 (bv 15)) ?_;refine af (ab 18 (bv 18)) ?_;exact az)))) rfl) (yq (a9 jb (pf true) (EV.b (aJ aD aH (EV.b (ab 3 (bv 3))) (EV.b (ab 11 (bv 11))) (fun _ _=>rfl))) (EV.b (aM (aL dq (hr.mono (by decide)) rfl T.cO T.aB.kp T.gE .nil bM (by refine af (ab 7 (bv 7)) ?_;refine af (ab 15 (bv 15)) ?_;refine af (cL uH uG (EV.b (ab 19 (bv 19))) (EV.b au)) ?_;exact az)))) rfl)))) (aF (bJ (bN nC))) dv))
  (aF (eO (eV (WV.t (jA (a9 jH jF (EV.b (ab 19 (bv 19))) (EV.b (ab 5 (bv 5))) (aW _)) (i5 (a9 zX (pf false) (EV.b (aJ aD aH (EV.b (ab 3 (bv 3))) (EV.b (ab 11 (bv 11))) (fun _ _=>rfl))) (EV.b (aM (aL dq (hr.mono (by decide)) rfl T.cO T.aB.kp T.gE .nil bM (by refine af (ab 7 (bv 7)) ?_;refine af (ab 15 (bv 15)) ?_;refine af (ab 19 (bv 19)) ?_;exact az)))) rfl)))) (aF (bJ (bN nC))) dv)))))))))))))
  (aF (bJ (bN nC)))))))))))))))
end
theorem Kk (i j:Int):gs false (.int i) (.int j)= .ret (.bl (i==j)):=by
 show M.ret (PV.bl (xor false (i==j)))=_
 simp
theorem Dk (i j:Str):gs false (.str i) (.str j)= .ret (.bl (i==j)):=by
 show M.ret (PV.bl (xor false (i==j)))=_
 simp
theorem aK (h:m ρ= .ret (.nx ρ')) (h':(k ρ').bind dZ=Y):(aE m k ρ).bind dZ=Y:=by
 unfold aE;rw[h];exact h'
theorem gq (h:c ρ= .ret false):fS c a b ρ=b ρ:=by unfold fS;rw[h];rfl
theorem iQ (h:c ρ= .ret true):fS c a b ρ=a ρ:=by unfold fS;rw[h];rfl
theorem cH (h:m (ρ.map Ent.freeze)= .ret y):de m ρ= .ret (.rt y):=by unfold de;rw[h];rfl
theorem dM {m:ak→M Fl} (h:m ρ= .ret (.rt y)):(m ρ).bind dZ= .ret y:=by rw[h];rfl
theorem dP (y:PV) (ρ:ak):ae (.val y::ρ) 0= .ret y:=rfl
theorem eS (e:Ent) (ρ:ak) (i:Nat):ae (e::ρ) (i+1)=ae ρ i:=rfl
theorem JE (l:List PV) (ρ:ak):cA (.own l::ρ) 0= .ret (.lst l):=rfl
theorem Kj (e:Ent) (ρ:ak) (i:Nat):cA (e::ρ) (i+1)=cA ρ i:=rfl
theorem rm {α:Type} {l:List α} {d:Int} (h0:0≤d) (h1:d < l.length): ∃ y∈l,ji l d=some y:=by
 have hd:d.toNat < l.length:=by lia
 have e:d=((d.toNat:Nat):Int):=by lia
 refine⟨l[d.toNat],Ll hd,?_⟩
 have q:=wI (Ku hd)
 rw[←e] at q
 exact q
theorem mS: ∀ (ys:List Str),(∀ z∈ys,z.length=1)→(ys.map (·.length)).sum=ys.length
 |[],_=>rfl
 |y::r,h=>by
  have:=mS r fun z hz=>h z (Kz _ hz)
  rw[KI,List.sum_cons,this,h y Kw,KO]
  lia
theorem join_ones (ys:List Str) (h: ∀ z∈ys,z.length=1):(Txt.join (Str.ofString "") ys).length=ys.length:=by
 show (Builtin.Str.glued (Str.ofString "") ys).length=_
 rw[PySem.size_glued]
 have e:(Str.ofString "").length=0:=by decide
 rw[e]
 have:=mS ys h
 lia
def Lets (x:Str):Prop:= ∀ c∈x.cps.toList,97≤c∧c≤122
def One (y:PV):Prop:= ∃ c:Nat,y= .str ⟨#[c]⟩∧97≤c∧c≤122
theorem rP: ∀ (l:List PV),(∀ y∈l,One y)→∃ ys,strsOf l=some ys∧ys.length=l.length∧∀ z∈ys,z.length=1∧Lets z
 |[],_=>⟨[],rfl,rfl,fun z hz=>by simp at hz⟩
 |y::l,h=>by
  obtain⟨ys,e1,e2,e3⟩:=rP l fun y hy=>h y (Kz _ hy)
  obtain⟨c,rfl,hc⟩:=h y Kw
  exact⟨⟨#[c]⟩::ys,by simp[strsOf,e1],by simp[e2],fun u hu=>by
   rcases KJ.mp hu with rfl|hu
   ·exact⟨rfl,fun d hd=>by simp at hd;subst hd;exact hc⟩
   ·exact e3 u hu⟩
theorem pM (sep:Str) (hs:Lets sep): ∀ (ys:List Str) (acc:Array Nat),(∀ z∈ys,Lets z)→(∀ c∈acc.toList,97≤c∧c≤122)→∀ c∈(ys.foldl (fun acc p=>acc++sep.cps++p.cps) acc).toList,97≤c∧c≤122
 |[],acc,_,ha=>ha
 |y::ys,acc,h,ha=>by
  rw[List.foldl_cons]
  refine pM sep hs ys _ (fun z hz=>h z (Kz _ hz)) fun c hc=>?_
  rw[Array.toList_append,Array.toList_append,Lp,Lp] at hc
  rcases hc with(hc|hc)|hc
  ·exact ha c hc
  ·exact hs c hc
  ·exact h y Kw c hc
theorem xK (ys:List Str) (h: ∀ z∈ys,Lets z):Lets (Txt.join (Str.ofString "") ys):=by
 have he:Lets (Str.ofString ""):=fun c hc=>by
  have:(Str.ofString "").cps.toList=[]:=by decide
  rw[this] at hc;simp at hc
 show Lets (Builtin.Str.glued (Str.ofString "") ys)
 unfold Builtin.Str.glued
 cases ys with
 |nil=>exact fun c hc=>by simp[Str.empty] at hc
 |cons y ys=>exact pM _ he ys _ (fun z hz=>h z (Kz _ hz)) (h y Kw)
theorem FO (x:Str) (j:Int) (c:Nat) (hc:(c:Int)=if j < 0 then max 0 (j+x.length) else min j x.length):Txt.slice x none (some j)=⟨(x.cps.toList.take c).toArray⟩:=by
 have hle:c≤x.length:=by split at hc<;>lia
 have e:Builtin.Str.strSliceIndices none (some j) 1 x.length=Builtin.Str.strSliceIndices (some ((0:Nat):Int)) (some (c:Int)) 1 x.length:=by
  unfold Builtin.Str.strSliceIndices
  simp
  congr 1<;>lia
 have e2:=StrLaws.sliceText_nat x (K6 c) hle
 have e3:Txt.slice x none (some j)=StrLaws.sliceText x (some ((0:Nat):Int)) (some (c:Int)):=by
  unfold Txt.slice StrLaws.sliceText
  rw[e]
 rw[e3,e2,List.drop_zero,Nat.sub_zero]
theorem A7 (h:Lets x) (c:Nat):Lets ⟨(x.cps.toList.take c).toArray⟩:=fun d hd=>h d (List.mem_of_mem_take (by simpa using hd))
theorem qY (x:Str) (c:Nat):(⟨(x.cps.toList.take c).toArray⟩:Str).length=min c x.length:=by
 show (x.cps.toList.take c).toArray.size=_
 rw[KC,List.length_take]
 simp[Str.length]
theorem Bv (hx:Lets x) (hy:Lets y):Lets (x++y):=fun c hc=>by
 have:c∈x.cps.toList++y.cps.toList:=by
  rw[←Array.toList_append];exact hc
 rcases Lp.mp this with h|h
 ·exact hx c h
 ·exact hy c h
theorem wJ (x y:Str):(x++y).length=x.length+y.length:=Array.size_append
theorem sS {m k:ak→M Fl} {I:ak→Prop} (h:Gen (m ρ) c fun f=> ∃ ρ',f= .nx ρ'∧I ρ') (h': ∀ ρ',I ρ'→Gen ((k ρ').bind dZ) d Pr):Gen ((aE m k ρ).bind dZ) (c+d) Pr:=by
 unfold aE
 rw[M.bZ]
 refine Gen.bind h fun f hf=>?_
 obtain⟨ρ',rfl,hi⟩:=hf
 exact h' ρ' hi
theorem jo {m k:ak→M Fl} {I:ak→Prop} (h:Gen (m ρ) c fun f=> ∃ ρ',f= .nx ρ'∧I ρ') (h': ∀ ρ',I ρ'→Gen (k ρ') d Pr):Gen (aE m k ρ) (c+d) Pr:=by
 unfold aE
 refine Gen.bind h fun f hf=>?_
 obtain⟨ρ',rfl,hi⟩:=hf
 exact h' ρ' hi
theorem Df {m:ak→M Fl} {I:ak→Prop} (h:m ρ= .ret (.nx ρ')) (hi:I ρ'):Gen (m ρ) 0 fun f=> ∃ ρ',f= .nx ρ'∧I ρ':=Gen.eq h ⟨ρ',rfl,hi⟩
theorem HL {mb:ak→M Fl} {Iv:Nat→ak→Prop}: ∀ (l:List PV) (i:Nat) (ρ:ak),Iv i ρ→(∀ y∈l,∀ j < i+l.length,∀ ρ,Iv j ρ→Gen (mb (ρ.set k (.val y))) c fun f=> ∃ ρ',f= .nx ρ'∧Iv (j+1) ρ')→Gen (dE (aP k) mb l ρ) (l.length * c) fun f=> ∃ ρ',f= .nx ρ'∧Iv (i+l.length) ρ'
 |[],i,ρ,h,_=>Gen.le (Gen.ret ⟨ρ,rfl,h⟩) (by simp)
 |y::l,i,ρ,h,hb=>by
  unfold dE
  simp only[aP,rZ]
  refine Gen.le (Gen.bind (hb y Kw i (by simp) ρ h) fun f hf=>?_) (d:=(y::l).length * c) (Nat.le_of_eq (?_:c+l.length * c=_))
  ·obtain⟨ρ',rfl,h'⟩:=hf
   have q:=HL l (i+1) ρ' h' fun y' hy j hj=>hb y' (Kz _ hy) j (by simp only[KO];lia)
   rw[show i+(y::l).length=i+1+l.length by simp only[KO];lia]
   exact q
  ·simp only[KO,Nat.succ_mul];lia
def gX (zs:List Str) (x:Str):Bool:=zs.any fun z=>z==x
theorem jg:gX zs x=true↔x∈zs:=by
 unfold gX
 rw[List.any_eq_true]
 constructor
 ·rintro⟨z,hz,e⟩;rw[←eq_of_beq e];exact hz
 ·intro h;exact⟨x,h,beq_self_eq_true x⟩
theorem xS (zs:List Str):(zs.map PV.str).all bt=true:=by
 rw[List.all_eq_true]
 intro y hy
 obtain⟨z,_,rfl⟩:=KN.mp hy
 rfl
theorem sQ (x:Str) (zs:List Str) (b:Bool):nc b (.str x) (.lst (zs.map PV.str))= .ret (.bl (xor b (gX zs x))):=by
 have e:sE (.str x) (zs.map PV.str)=gX zs x:=by
  unfold sE gX
  rw[List.any_map]
  rfl
 unfold nc
 dsimp only
 rw[xS,e]
 simp[bt,toV,eU]
theorem Hu (h0: -1000000000000 < a) (h1:a < 1000000000000):jI (.int a) (.int b)= .ret (.int (a * b)):=by
 have e:(2:Int) ^ 64=18446744073709551616:=by decide
 unfold jI xA
 dsimp only
 rw[Lq (show ly a b from Or.inl ⟨by lia,by lia⟩)]
theorem CZ (a b c:PV):cf [a,b,c]= .ret [a,b,c]:=by simp[cf]
theorem Jw (a:PV):aO [a]= .ret (.tup [a]):=by simp[aO]
theorem oF (a b:PV):aO [a,b]= .ret (.tup [a,b]):=by simp[aO]
theorem Jv (a b c:PV):aO [a,b,c]= .ret (.tup [a,b,c]):=by simp[aO]
theorem t7 (a:PV) (r:List PV):ji (a::r) 0=some a:=by unfold ji qM;simp
theorem HH (h:c ρ= .ret false):BH c a b ρ=b ρ:=by unfold BH;rw[h];rfl
def Sh (x:Str):Prop:=x.length≤8∧∀ c∈x.cps.toList,c < 16 ^ 8
instance (x:Str):Decidable (Sh x):=by unfold Sh;infer_instance
theorem ss (h:Sh x):t9 82 0 (.str x):=B9 h.1 h.2
theorem si (h:i.natAbs < 10 ^ 61):t9 82 0 (.int i):=(Ca h).mono (by lia) (KG _)
theorem sub_len: ∀ (l m:List Int),l.Nodup→(∀ x∈l,x∈m)→l.length≤m.length
 |[],m,_,_=>K6 _
 |x::l,m,nd,hs=>by
  rw[List.nodup_cons] at nd
  have hx:=hs x Kw
  have:=sub_len l (m.erase x) nd.2 fun y hy=>(List.mem_erase_of_ne (fun z:y=x=>nd.1 (z▸hy))).mpr (hs y (Kz _ hy))
  rw[List.length_erase_of_mem hx] at this
  have hp:0 < m.length:=List.length_pos_of_mem hx
  rw[KO]
  lia
theorem big {c:Nat} (h:t9 82 0 y):t9 2500 2 y:=h.mono (by lia) (by lia)
theorem Ju (a b c d:PV):aO [a,b,c,d]= .ret (.tup [a,b,c,d]):=by simp[aO]
theorem Jt (a b c d e:PV):aO [a,b,c,d,e]= .ret (.tup [a,b,c,d,e]):=by simp[aO]
theorem Ah:cf []= .ret []:=by simp[cf]
theorem IB (l:List PV):gs true (.lst l) (.lst [])= .ret (.bl (!l.isEmpty)):=by cases l<;>rfl
theorem Fn (a b c d e f:PV):aO [a,b,c,d,e,f]= .ret (.tup [a,b,c,d,e,f]):=by simp[aO]
theorem Hv (a:PV):cf [a]= .ret [a]:=by simp[cf]
def gH (n:Int) (y:PV):Prop:= ∃ (w z:Str) (m:Int) (r:List PV),y= .tup (.str w::.int n::.int m::.str z::r)∧((w="look"∧r=[])∨((w="read"∨w="rule")∧∃ v,r=[v]∧t9 2500 2 v∧Gr v=true))∧0≤m∧m≤1000000
def dB (l:List PV) (ns:List Int):Prop:=ns.length=l.length∧ns.Nodup∧(∀ n∈ns,0≤n∧n < 1000000)∧∀ (i:Nat) (n:Int) (z:PV),ns[i]?=some n→l[i]?=some z→gH n z
theorem gH.key (h:gH n y): ∃ m:Int,j6 y=some (m,n)∧0≤m∧m≤1000000:=by
 obtain⟨w,z,m,r,rfl,_,m0,m1⟩:=h
 exact⟨m,rfl,m0,m1⟩
theorem dB.at (h:dB l ns) (hz:z∈l): ∃ n,gH n z∧0≤n∧n < 1000000:=by
 obtain⟨i,hi,e⟩:=List.getElem_of_mem hz
 have hi':i < ns.length:=by rw[h.1];exact hi
 have hn:=h.2.2.1 _ (Ll hi')
 exact⟨_,h.2.2.2 i _ z (Ku hi') (KD.mpr ⟨hi,e⟩),hn⟩
theorem dB.Kg (h:dB l ns) (hz:z∈l):Gq z=true:=by
 obtain⟨n,hp,n0,n1⟩:=h.at hz
 obtain⟨m,e,_⟩:=hp.key
 unfold Gq
 rw[e]
 simp[n0,n1]
theorem dB.nd (h:dB l ns):(l.map jm).Nodup:=by
 unfold List.Nodup
 rw[List.pairwise_map,List.pairwise_iff_getElem]
 intro i j hi hj hij e
 have hi':i < ns.length:=by rw[h.1];exact hi
 have hj':j < ns.length:=by rw[h.1];exact hj
 obtain⟨m,e1,_⟩:=(h.2.2.2 i _ _ (Ku hi') (Ku hi)).key
 obtain⟨m',e2,_⟩:=(h.2.2.2 j _ _ (Ku hj') (Ku hj)).key
 have b1:=h.2.2.1 _ (Ll hi')
 have b2:=h.2.2.1 _ (Ll hj')
 have r1:jm l[i]=m * 1000000+ns[i]:=by unfold jm ym;rw[e1];rfl
 have r2:jm l[j]=m' * 1000000+ns[j]:=by unfold jm ym;rw[e2];rfl
 rw[r1,r2] at e
 exact List.pairwise_iff_getElem.mp h.2.1 i j hi' hj' hij (by lia)
def hit (w z:Str) (t:Int) (y:PV):Bool:=match y with
 | .tup (.str w'::_::.int m::.str z'::_)=>w'==w&&(z'==z&&decide (m≤t))
 |_=>false
theorem Bt (a b:PV) (r:List PV):ji (a::b::r) 1=some b:=iu (k:=1) rfl
theorem Br (a b c:PV) (r:List PV):ji (a::b::c::r) 2=some c:=iu (k:=2) rfl
theorem Ia (a b c d:PV) (r:List PV):ji (a::b::c::d::r) 3=some d:=iu (k:=3) rfl
theorem JP (a b c d e:PV) (r:List PV):ji (a::b::c::d::e::r) 4=some e:=iu (k:=4) rfl
noncomputable def Ar:ak→M Bool:=(fF (bu (ag (gs false) (ag aI (fun ρ=>ae ρ 5) (fun _=>M.ret (.int 0))) (fun ρ=>ae ρ 1))) (fF (bu (ag (gs false) (ag aI (fun ρ=>ae ρ 5) (fun _=>M.ret (.int 3))) (fun ρ=>ae ρ 2))) (bu (ag gp (ag aI (fun ρ=>ae ρ 5) (fun _=>M.ret (.int 2))) (fun ρ=>ae ρ 3)))))
def sJ:ak→M Fl:=(fS Ar (bF 4 (fun ρ=>ae ρ 5)) (fun ρ=>M.ret (.nx ρ)))
theorem Bw (ha:a ρ= .ret x) (hb:b ρ= .ret y):fF a b ρ= .ret (x&&y):=by
 unfold fF;rw[ha];cases x<;>simp[hb]
theorem Aq (hy:gH n y):Ar [Y,val (.str w),val (.str z),val (.int t),val f,val y]= .ret (hit w z t y):=by
 obtain⟨w',z',m,r,rfl,_⟩:=hy
 unfold Ar
 refine Bw ?_ (Bw ?_ ?_)
 ·simp only[bu,ag,dP,eS,rZ,aI,t7,M.ft,Dk]
 ·simp only[bu,ag,dP,eS,rZ,aI,Ia,M.ft,Dk]
 ·simp only[bu,ag,dP,eS,rZ,aI,Br,M.ft,gp]
theorem kW: ∀ (rest:List PV) (f:PV) (e5:Ent),(∀ y∈rest,∃ n,gH n y)→
  ∃ e5',dE (aP 5) sJ rest [Y,val (.str w),val (.str z),val (.int t),val f,e5]= .ret (.nx [Y,val (.str w),val (.str z),val (.int t),val (((rest.filter (hit w z t)).getLast?).getD f),e5'])
 |[],f,e5,_=>⟨e5,rfl⟩
 |y::rest,f,e5,h=>by
  obtain⟨n,hy⟩:=h y Kw
  have ht:=Aq (Y:=Y) (w:=w) (z:=z) (t:=t) (f:=f) hy
  unfold dE
  simp only[aP,rZ,Lj,KH]
  cases c:hit w z t y with
  |true=>
   rw[c] at ht
   have st:sJ [Y,val (.str w),val (.str z),val (.int t),val f,val y]= .ret (.nx [Y,val (.str w),val (.str z),val (.int t),val y,val y]):=by
    unfold sJ
    rw[iQ ht]
    simp only[bF,dP,eS,rZ,Lj,KH]
   obtain⟨e5',ih⟩:=kW (Y:=Y) (w:=w) (z:=z) (t:=t) rest y (val y) fun y' hy'=>h y' (Kz _ hy')
   refine⟨e5',?_⟩
   rw[st,rZ]
   show dE _ _ _ _=_
   rw[ih,List.filter_cons_of_pos c]
   congr 7
   cases hf:(rest.filter (hit w z t)).getLast? with
   |none=>
    rw[List.getLast?_eq_none_iff] at hf
    rw[hf]
    rfl
   |some v=>
    rw[List.getLast?_cons,hf]
    rfl
  |false=>
   rw[c] at ht
   have st:sJ [Y,val (.str w),val (.str z),val (.int t),val f,val y]= .ret (.nx [Y,val (.str w),val (.str z),val (.int t),val f,val y]):=by
    unfold sJ
    rw[gq ht]
   obtain⟨e5',ih⟩:=kW (Y:=Y) (w:=w) (z:=z) (t:=t) rest f (val y) fun y' hy'=>h y' (Kz _ hy')
   refine⟨e5',?_⟩
   rw[st,rZ]
   show dE _ _ _ _=_
   rw[ih,List.filter_cons_of_neg (by rw[c];decide)]
theorem C8 (h: ∀ y∈B,∃ n,gH n y):bo [.tup B,.str w,.str z,.int t]= .ret (((B.filter (hit w z t)).getLast?).getD .aU):=by
 unfold bo dh
 show (aE _ _ [val (.tup B),val (.str w),val (.str z),val (.int t),un,un]).bind dZ=_
 refine aK (ρ':=[val (.tup B),val (.str w),val (.str z),val (.int t),val .aU,un]) rfl ?_
 obtain⟨e5',ih⟩:=kW (Y:=val (.tup B)) (w:=w) (z:=z) (t:=t) B .aU un h
 refine aK (ρ':=[val (.tup B),val (.str w),val (.str z),val (.int t),val (((B.filter (hit w z t)).getLast?).getD .aU),e5']) ?_ ?_
 ·simp only[bx,dP,eS,rZ,bc]
  exact ih
 ·exact dM (cH rfl)
theorem Bn: ∀ {j b:Nat},bi kf j=some b→∀ i,i < j→rk kf i≤rk kf b
 |0,b,h,i,hi=>by lia
 |j+1,b,h,i,hi=>by
  unfold bi at h
  cases e:bi kf j with
  |none=>
   rw[e] at h
   cases h
   have:j=0:=by
    by_cases z:j=0
    ·exact z
    ·obtain⟨c,hc⟩:=wG (kf:=kf) (j:=j) (by lia)
     rw[e] at hc;cases hc
   subst this
   have:i=0:=by lia
   subst this
   exact Int.le_refl _
  |some c=>
   rw[e] at h
   dsimp only at h
   have ih:=Bn e
   by_cases z:rk kf c < rk kf j
   ·rw[Lq z] at h
    cases h
    by_cases y:i=j
    ·subst y;exact Int.le_refl _
    ·exact Int.le_of_lt (Int.lt_of_le_of_lt (ih i (by lia)) z)
   ·rw[Lr z] at h
    cases h
    by_cases y:i=j
    ·subst y;lia
    ·exact ih i (by lia)
theorem p3 (nd:(f.map jm).Nodup):nS f=(aN f).getLast?:=by
 have pm:=dG f
 have up:=j8 f nd
 by_cases h0:f=[]
 ·subst h0;rfl
 have hp:0 < f.length:=List.length_pos_iff.mpr h0
 obtain⟨b,hb⟩:=wG (kf:=fun i=>ym (f.getD i .aU)) (j:=f.length) hp
 have hbl:=Bo hb
 have hmx:=Bn hb
 have e1:nS f=some f[b]:=by
  unfold nS
  rw[hb]
  show some (f.getD b .aU)=_
  rw[KU,Ku hbl]
  rfl
 rw[e1]
 have dO:aN f≠[]:=fun z=>by rw[z] at pm;exact h0 (List.nil_perm.mp pm)
 have hlp:(aN f).length - 1 < (aN f).length:=by have:=List.length_pos_iff.mpr dO;lia
 rw[List.getLast?_eq_getElem?,Ku hlp]
 congr 1
 have m1:f[b]∈aN f:=pm.mem_iff.mpr (Ll hbl)
 obtain⟨i,hi,ei⟩:=List.getElem_of_mem m1
 by_cases c:i=(aN f).length - 1
 ·subst c;exact ei.symm
 ·have lt:jm (aN f)[i] < jm ((aN f)[(aN f).length - 1]'hlp):=List.pairwise_iff_getElem.mp up i _ hi hlp (by lia)
  rw[ei] at lt
  have m2:((aN f)[(aN f).length - 1]'hlp)∈f:=pm.mem_iff.mp (Ll _)
  obtain⟨j,hj,ej⟩:=List.getElem_of_mem m2
  have:=hmx j hj
  unfold rk at this
  dsimp only at this
  rw[KU,Ku hj,KU,Ku hbl] at this
  rw[←ej] at lt
  unfold jm at lt
  exact absurd lt (Int.not_lt.mpr this)
theorem xG (nd:(l.map jm).Nodup):nS (l.filter p)=((aN l).filter p).getLast?:=by
 have nd2:((l.filter p).map jm).Nodup:=List.Pairwise.sublist ((List.filter_sublist).map jm) nd
 rw[p3 nd2,v3 nd2 ((dG l).filter p) ((j8 l nd).filter p)]
abbrev p6:Str:="etaoinshrdlcumwfgypbvkjxqz"
theorem wK: ∀ c∈p6.cps.toList,97≤c∧c≤122:=by decide +kernel
theorem FW:p6.cps.toList.Nodup:=by decide +kernel
theorem tT:p6.cps.toList.length=26:=by decide +kernel
theorem FX (d:Int) (h0:0≤d) (h1:d < 26): ∃ y,aI (.str p6) (.int d)= .ret y∧One y:=by
 have hz:p6.length≤100000:=by decide +kernel
 obtain⟨c,hc,e⟩:=rm (l:=p6.cps.toList) h0 (by rw[tT];exact h1)
 exact⟨.str ⟨#[c]⟩,by simp[aI,e,M.ft,hz],c,rfl,wK c hc⟩
def Wd (x:Str):Prop:=1≤x.length∧x.length≤8∧Lets x
theorem jT: ∀ (l m:List Str),l.Nodup→(∀ x∈l,x∈m)→l.length≤m.length
 |[],m,_,_=>K6 _
 |x::l,m,nd,hs=>by
  rw[List.nodup_cons] at nd
  have hx:=hs x Kw
  have:=jT l (m.erase x) nd.2 fun y hy=>(List.mem_erase_of_ne (fun z:y=x=>nd.1 (z▸hy))).mpr (hs y (Kz _ hy))
  rw[List.length_erase_of_mem hx] at this
  have hp:0 < m.length:=List.length_pos_of_mem hx
  rw[KO]
  lia
def iE (w:Str):List Str:=p6.cps.toList.map fun c=>(⟨(w.cps.toList.take (min 7 w.length)).toArray⟩:Str)++⟨#[c]⟩
theorem Dq (w:Str):(iE w).Nodup:=by
 unfold iE List.Nodup
 rw[List.pairwise_map]
 refine List.Pairwise.imp ?_ FW
 intro a b ne e
 have e2:((⟨(w.cps.toList.take (min 7 w.length)).toArray⟩:Str)++(⟨#[a]⟩:Str)).cps.toList=((⟨(w.cps.toList.take (min 7 w.length)).toArray⟩:Str)++(⟨#[b]⟩:Str)).cps.toList:=by rw[e]
 have e3: ∀ x y:Str,(x++y).cps.toList=x.cps.toList++y.cps.toList:=fun x y=>by rw[←Array.toList_append];rfl
 rw[e3,e3] at e2
 have:=List.append_cancel_left e2
 simp at this
 exact ne this
theorem Dp (hw:Wd w): ∀ x∈iE w,Wd x:=fun x hx=>by
 obtain⟨c,hc,rfl⟩:=KN.mp hx
 refine⟨?_,?_,Bv (A7 hw.2.2 _) fun d hd=>?_⟩
 ·rw[wJ,qY];show 1≤_+1;lia
 ·rw[wJ,qY];show _+1≤8;lia
 ·simp at hd;subst hd;exact wK _ hc
noncomputable def yu:ak→M PV:=ag dJ (EI Gn (fun ρ=>ae ρ 1) (fun _=>M.ret none) (fun ρ=>((fun _=>M.ret (.int 7)) ρ).bind fun y=>(AE y).bind fun i=>M.ret (some i))) (fun ρ=>ae ρ 0)
def yt:ak→M Bool:=bu (ag (nc true) (fun ρ=>ae ρ 0) (fun ρ=>ae ρ 1))
theorem AM {zs:List Str} (hz:zs.length≤20):Gen (dU [.fY,.lst (zs.map PV.str)]) 9 (fun y=> ∃ x,y= .str x∧Wd x∧x∉zs):=by
 unfold dU fD
 show Gen ((aE _ _ [val .fY,val (.lst (zs.map PV.str)),un,un,un]).bind dZ) 9 _
 refine Gen.le (sS (c:=0) (d:=9) (I:=fun ρ=>ρ=[val .fY,val (.lst (zs.map PV.str)),val (.str p6),un,un]) (Df rfl rfl) ?_) (by decide)
 rintro _ rfl
 refine Gen.le (sS (c:=1) (d:=8) (I:=fun ρ=> ∃ k:Int,1≤k∧k≤8∧ρ=[val .fY,val (.lst (zs.map PV.str)),val (.str p6),val (.int k),un]) ?_ ?_) (by decide)
 ·simp only[bF,ag,aa,dP,eS,rZ,ar,M.bZ]
  refine Gen.le (Gen.bind (Gen.draw (by lia) (by lia)) (d:=0) ?_) (by decide)
  rintro _ ⟨d,rfl,d0,d1⟩
  exact Gen.eq (y:=.nx _) rfl ⟨_,rfl,1+d,by lia,by lia,rfl⟩
 rintro _ ⟨k,k0,k1,rfl⟩
 refine Gen.le (sS (c:=8) (d:=0) (I:=fun ρ=> ∃ w:Str,Wd w∧ρ=[val .fY,val (.lst (zs.map PV.str)),val (.str p6),val (.int k),val (.str w)]) ?_ ?_) (by decide)
 ·have hlen:(di 0 k.toNat).length=k.toNat:=by simp[di]
  have er:fc [.int k]= .ret (di 0 k.toNat):=by simp only[fc,Lq (by lia: -1000000≤k∧k≤100000)]
  have ec:ir [none,some 2,some 0] [val .fY,val (.lst (zs.map PV.str)),val (.str p6),val (.int k),un]=[un,val (.str p6),val .fY]:=rfl
  have et:tyP (.str "")="str":=rfl
  unfold bF IG
  simp only[rZ,et,if_true]
  unfold aa bR eD
  simp only[aa,dP,eS,rZ,er,Lq (by lia:(di 0 k.toNat).length≤100000),ec,M.bZ]
  refine Gen.le (Gen.bind (Gen.lc (ρ:=[un,val (.str p6),val .fY]) (c:=1) (Pr:=One) _ _ (fun _=>rfl) (fun y hy=>?_)) (d:=0) ?_) (by rw[hlen];lia)
  ·simp only[KH,ag,dP,eS,rZ,ar]
   refine Gen.le (Gen.bind (Gen.draw (by lia) (by lia)) (d:=0) ?_) (by decide)
   rintro _ ⟨d,rfl,d0,d1⟩
   obtain⟨y,e,o⟩:=FX d d0 d1
   exact Gen.eq e o
  ·rintro us ⟨z1,z2⟩
   obtain⟨ys,e1,e2,e3⟩:=rP us z2
   have e4:=mS ys fun z hz=>(e3 z hz).1
   have e5:(Str.ofString "").length=0:=by decide
   have e6:=join_ones ys fun z hz=>(e3 z hz).1
   have hs:(ys.map (·.length)).sum+ys.length * (Str.ofString "").length≤16777216:=by rw[e4,e5,e2,z1,hlen];lia
   refine Gen.eq (y:=.nx [val .fY,val (.lst (zs.map PV.str)),val (.str p6),val (.int k),val (.str (Txt.join (Str.ofString "") ys))]) ?_ ⟨_,rfl,_,⟨by rw[e6,e2,z1,hlen];lia,by rw[e6,e2,z1,hlen];lia,xK ys fun z hz=>(e3 z hz).2⟩,rfl⟩
   simp only[rZ,pz,e1,M.ft,Lq hs]
   rfl
 rintro _ ⟨w,hw,rfl⟩
 have hsl:Gn (.str w) none (some 7)= .ret (.str ⟨(w.cps.toList.take (min 7 w.length)).toArray⟩):=by
  have:w.length≤100000:=by have:=hw.2.1;lia
  unfold Gn
  dsimp only
  rw[Lq this,FO w 7 (min 7 w.length) (by rw[Lr (by decide)];lia)]
 have q1:=mn (k:=0) (te:=yu) (f:=fun y=>match y with| .str c=>.str ((⟨(w.cps.toList.take (min 7 w.length)).toArray⟩:Str)++c)|_=>.aU) (ρ:=[un,val (.str w)]) (gL p6) [un,val (.str w)] (fun _=>rfl) (fun y hy=>by
   obtain⟨c,hc,rfl⟩:=KN.mp hy
   have hz:(⟨(w.cps.toList.take (min 7 w.length)).toArray⟩:Str).length+(⟨#[c]⟩:Str).length≤100000:=by rw[qY];show _+1≤_;lia
   unfold yu
   simp only[KH,ag,EI,dP,eS,rZ,AE,hsl,dJ,Lq hz])
 have em:((gL p6).map fun y=>match y with|PV.str c=>PV.str ((⟨(w.cps.toList.take (min 7 w.length)).toArray⟩:Str)++c)|_=>.aU)=(iE w).map PV.str:=by
  unfold gL iE
  rw[List.map_map,List.map_map]
  rfl
 rw[em] at q1
 have q2:=gc (k:=0) (tt:=yt) (te:=fun ρ=>ae ρ 0) (p:=fun y=>match y with| .str x=>!(gX zs x)|_=>false) (f:=id) (ρ:=[un,val (.lst (zs.map PV.str))]) ((w::iE w).map PV.str) [un,val (.lst (zs.map PV.str))] (fun _=>rfl) (fun y hy=>by
   obtain⟨x,hx,rfl⟩:=KN.mp hy
   unfold yt
   simp only[bu,ag,KH,dP,eS,rZ,sQ]
   simp) (fun y hy _=>by simp only[dP,KH];rfl)
 have hlen1:(gL p6).length≤100000:=by unfold gL;rw[Kx,tT];lia
 have hlen2:((w::iE w).map PV.str).length≤100000:=by unfold iE;simp only[Kx,KO,tT];lia
 have hcat:[PV.str w].length+((iE w).map PV.str).length≤100000:=by unfold iE;simp only[Kx,KO,List.length_nil,tT];lia
 obtain⟨x,hx,hnx⟩: ∃ x∈iE w,x∉zs:=by
  apply Classical.byContradiction
  intro hno
  have:=jT (iE w) zs (Dq w) fun x hx=>Classical.byContradiction fun hc=>hno ⟨x,hx,hc⟩
  unfold iE at this
  rw[Kx,tT] at this
  lia
 generalize hF:((w::iE w).map PV.str).filter (fun y=>match y with| .str x=>!(gX zs x)|_=>false)=F at q2
 have hFx:PV.str x∈F:=by
  rw[←hF]
  refine Lo.mpr ⟨K9 (Kz _ hx),?_⟩
  show (!(gX zs x))=true
  cases c:gX zs x with
  |false=>rfl
  |true=>exact absurd (jg.mp c) hnx
 match F,hF,hFx,q2 with
 |y::F,hF,_,q2=>
 have hy:y∈(w::iE w).map PV.str:=(Lo.mp (by rw[hF];exact Kw)).1
 obtain⟨v,hv,rfl⟩:=KN.mp hy
 refine Gen.eq (y:=.str v) ?_ ⟨v,rfl,?_,?_⟩
 ·refine dM (cH ?_)
  have ec1:ir [none,some 4] [val .fY,val (.lst (zs.map PV.str)),val (.str p6),val (.int k),val (.str w)]=[un,val (.str w)]:=rfl
  have ec2:ir [none,some 1] [val .fY,val (.lst (zs.map PV.str)),val (.str p6),val (.int k),val (.str w)]=[un,val (.lst (zs.map PV.str))]:=rfl
  show (ag aI (bR (eD [none,some 1] (fun ρ=>((bR (Bb (bR (fun ρ=>((aa (fun ρ=>ae ρ 4) (fun _=>M.ret [])) ρ).bind cf)) (bR (eD [none,some 4] (fun ρ=>((fun ρ=>ae ρ 2) ρ).bind bc) (aP 0) gG yu)))) ρ).bind bc) (aP 0) yt (fun ρ=>ae ρ 0))) (fun _=>M.ret (.int 0))) [val .fY,val (.lst (zs.map PV.str)),val (.str p6),val (.int k),val (.str w)]=_
  simp only[ag,bR,eD,Bb]
  simp only[aa,dP,eS,rZ,Hv,bc,Lq hlen1,ec1,ec2]
  rw[q1]
  simp only[rZ,Lq hcat,List.cons_append,List.nil_append]
  have e9:PV.str w::(iE w).map PV.str=(w::iE w).map PV.str:=rfl
  rw[e9]
  simp only[bc,rZ]
  rw[Lq hlen2,q2]
  simp only[rZ,List.map_id,aI,t7,M.ft]
 ·rcases KJ.mp hv with rfl|hv
  ·exact hw
  ·exact Dp hw v hv
 ·have h2:=(Lo.mp (by rw[hF];exact Kw:PV.str v∈((w::iE w).map PV.str).filter (fun y=>match y with| .str x=>!(gX zs x)|_=>false))).2
  have h3:(!(gX zs v))=true:=h2
  intro hm
  rw[jg.mpr hm] at h3
  cases h3
theorem pJ {k:Int} (k0:1≤k) (k1:k≤12):Gen (cG [.fY,.int k]) (k.toNat * 9) (fun y=> ∃ zs:List Str,y= .lst (zs.map PV.str)∧zs.length=k.toNat∧(∀ z∈zs,Wd z)∧zs.Nodup):=by
 unfold cG dQ
 show Gen ((aE _ _ [val .fY,val (.int k),un,un]).bind dZ) _ _
 refine Gen.le (sS (c:=0) (d:=k.toNat * 9) (I:=fun ρ=>ρ=[val .fY,val (.int k),Ent.own [],un]) (Df (by simp[jn,cf]) rfl) ?_) (by lia)
 rintro _ rfl
 have hint:(di 0 k.toNat).length=k.toNat:=by simp[di]
 have er:fc [.int k]= .ret (di 0 k.toNat):=by simp only[fc,Lq (by lia: -1000000≤k∧k≤100000)]
 refine Gen.le (sS (c:=k.toNat * 9) (d:=0) (I:=fun ρ=> ∃ (zs:List Str) (e3:Ent),zs.length=k.toNat∧((∀ z∈zs,Wd z)∧zs.Nodup)∧ρ=[val .fY,val (.int k),Ent.own (zs.map PV.str),e3]) ?_ ?_) (by lia)
 ·simp only[bx,aa,dP,eS,rZ,er]
  refine Gen.mono (HL (k:=3) (c:=9) (Iv:=fun i ρ=> ∃ (zs:List Str) (e3:Ent),zs.length=i∧((∀ z∈zs,Wd z)∧zs.Nodup)∧ρ=[val .fY,val (.int k),Ent.own (zs.map PV.str),e3]) (di 0 k.toNat) 0 _ ⟨[],_,rfl,⟨fun z hz=>absurd hz KL,List.nodup_nil⟩,rfl⟩ ?_) (by rw[hint];exact KG _) ?_
  rotate_left
  ·rintro f ⟨ρ',rfl,zs,e3,hn,hw,rfl⟩
   rw[hint,Nat.zero_add] at hn
   exact⟨_,rfl,zs,e3,hn,hw,rfl⟩
  ·rintro y hy j hj _ ⟨zs,e3,hn,hw,rfl⟩
   rw[hint] at hj
   show Gen (d8 _ _ [val .fY,val (.int k),Ent.own (zs.map PV.str),val y]) 9 _
   simp only[d8,KQ,KR,aa,dP,eS,JE,Kj,rZ,M.bZ]
   refine Gen.le (Gen.bind (AM (zs:=zs) (by lia)) (d:=0) ?_) (by decide)
   rintro _ ⟨x,rfl,hx,hxn⟩
   have hl:(zs.map PV.str).length < 100000:=by rw[Kx];lia
   refine Gen.eq (y:=.nx [val .fY,val (.int k),Ent.own ((zs++[x]).map PV.str),val y]) ?_ ⟨_,rfl,zs++[x],_,by simp[hn],⟨fun z hz=>?_,?_⟩,rfl⟩
   ·have hf:wg (.str x)= .ret (.str x):=rfl
    simp only[hf,rZ,Lq hl,List.map_append,KI,List.map_nil]
    rfl
   ·rcases Lp.mp hz with hz|hz
    ·exact hw.1 z hz
    ·rw[K7.mp hz];exact hx
   ·refine List.nodup_append.mpr ⟨hw.2,by simp,fun a ha b hb=>?_⟩
    rw[K7.mp hb]
    exact fun z=>hxn (z▸ha)
 ·rintro _ ⟨zs,e3,hn,hw,rfl⟩
  exact Gen.eq (dM (cH rfl)) ⟨zs,rfl,hn,hw⟩
abbrev kn (x:Str):Key:=Sum.inr x
theorem GC (mt:ak→M Bool) (mb:ak→M Fl) (k:Nat) (ρ:ak):yw mt mb (k+1) ρ=(mt ρ).bind fun b=>if b=true then(mb ρ).bind fun f=>(match f with
  | .nx ρ2=>yw mt mb k ρ2
  | .ct ρ2=>yw mt mb k ρ2
  | .bk ρ2=>.ret (.nx ρ2)
  | .rt v=>.ret (.rt v)) else .ret (.nx ρ):=rfl
noncomputable def JG:ak→M Bool:=(bu (fun ρ=>((aa (bR (eD [none,some 1] (fun ρ=>((ag pS (fun ρ=>ae ρ 0) (fun ρ=>ae ρ 3)) ρ).bind bc) (aP 0) gG (ag (nM false) (fun ρ=>ae ρ 0) (fun ρ=>cA ρ 1)))) (fun _=>M.ret [])) ρ).bind oR))
def iq (f:List (Key×PV)) (x:Str):Bool:=(jk f (kn x)).isSome
theorem FF {os:List Str} {e2:Ent} (h:jk d (kn x)=some (.lst (os.map PV.str))) (hl:os.length≤1000):
  JG [val (.eW d),Ent.cu f,e2,val (.str x)]= .ret (os.all (iq f)):=by
 have q:=mn (k:=0) (te:=ag (nM false) (fun ρ=>ae ρ 0) (fun ρ=>cA ρ 1)) (f:=fun y=>match y with| .str o=>.bl (iq f o)|_=>.aU) (ρ:=[un,Ent.cu f]) (os.map PV.str) [un,Ent.cu f] (fun _=>rfl) (fun y hy=>by
  obtain⟨o,_,rfl⟩:=KN.mp hy
  simp only[ag,KH,dP,rZ,cA,KQ,KR,nM,oI,M.ft,Bool.bne_false,iq])
 have ec:ir [none,some 1] [val (.eW d),Ent.cu f,e2,val (.str x)]=[un,Ent.cu f]:=rfl
 have hlen:(os.map PV.str).length≤100000:=by rw[Kx];lia
 have eall: ∀ os:List Str,oR [.lst ((os.map PV.str).map fun y=>match y with| .str o=>PV.bl (iq f o)|_=>.aU)]= .ret (.bl (os.all (iq f))):=fun os=>by
  have:jz ((os.map PV.str).map fun y=>match y with| .str o=>PV.bl (iq f o)|_=>.aU)=some (os.map (iq f)):=by
   induction os with
   |nil=>rfl
   |cons o os ih=>simp only[KI,jz,ih];rfl
  simp only[oR,this,M.ft,rZ,List.all_map]
  rfl
 unfold JG bu
 simp only[aa,bR,eD,ag,dP,eS,rZ,pS,oI,M.ft,h,bc,Lq hlen,ec,q,eall]
def iD (A:List (Str×List Str)):List (Key×PV):=A.map fun p=>(kn p.1,PV.lst (p.2.map PV.str))
def sg (A:List (Str×List Str)) (x:Str):List Str:=((A.find? fun p=>decide (p.1=x)).map (·.2)).getD []
theorem vV (a b:Str):decide (kn a=kn b)=decide (a=b):=Aw a b
theorem BR:(∃ p∈A,p.1=x)→jk (iD A) (kn x)=some (.lst ((sg A x).map PV.str)):=by
 induction A with
 |nil=>rintro⟨_,h,_⟩;cases h
 |cons p A ih=>
  rintro⟨q,hq,hx⟩
  unfold jk iD sg
  simp only[KI,List.find?_cons,vV]
  by_cases c:p.1=x
  ·simp[c]
  ·rcases KJ.mp hq with rfl|hq
   ·exact absurd hx c
   ·have:=ih ⟨q,hq,hx⟩
    unfold jk iD sg at this
    simp only[K3 c]
    exact this
def iJ (A:List (Str×List Str)) (f:List (Key×PV)) (x:Str):List (Key×PV):=if(sg A x).all (iq f)=true then ou f (kn x) (.bl true) else f
theorem zy (f:List (Key×PV)) (k:Key) (y:PV):(ou f k y).length≤f.length+1:=by
 unfold ou;split<;>simp
theorem oY (A:List (Str×List Str)) (f:List (Key×PV)) (x:Str):(iJ A f x).length≤f.length+1:=by
 unfold iJ;split
 ·exact zy ..
 ·lia
def IE:ak→M Fl:=(fS JG (lG 1 (fun ρ=>ae ρ 3) (fun _=>M.ret (.bl true))) (fun ρ=>M.ret (.nx ρ)))
theorem FG (h: ∃ p∈A,p.1=x) (ho: ∀ p∈A,p.2.length≤1000) (hf:f.length < 100000):
  IE [val (.eW (iD A)),Ent.cu f,e2,val (.str x)]= .ret (.nx [val (.eW (iD A)),Ent.cu (iJ A f x),e2,val (.str x)]):=by
 have hl:(sg A x).length≤1000:=by
  unfold sg
  cases c:A.find? fun p=>decide (p.1=x) with
  |none=>simp
  |some p=>exact ho p (List.mem_of_find?_eq_some c)
 have t:=FF (f:=f) (e2:=e2) (BR h) hl
 unfold IE iJ
 cases c:(sg A x).all (iq f) with
 |true=>
  rw[c] at t
  rw[iQ t]
  simp only[lG,rZ,KQ,KR,dP,eS,oI,M.ft,Lq hf]
  rfl
 |false=>
  rw[c] at t
  rw[gq t]
  rfl
theorem we (ho: ∀ p∈A,p.2.length≤1000): ∀ (xs:List Str) (f:List (Key×PV)) (e3:Ent),(∀ x∈xs,∃ p∈A,p.1=x)→f.length+xs.length < 100000→
  ∃ e3',dE (aP 3) IE (xs.map PV.str) [val (.eW (iD A)),Ent.cu f,e2,e3]= .ret (.nx [val (.eW (iD A)),Ent.cu (xs.foldl (iJ A) f),e2,e3'])
 |[],f,e3,_,_=>⟨e3,rfl⟩
 |x::xs,f,e3,h,hl=>by
  have h1:=FG (e2:=e2) (h x Kw) ho (f:=f) (by simp at hl;lia)
  obtain⟨e3',ih⟩:=we (e2:=e2) ho xs (iJ A f x) (val (.str x)) (fun y hy=>h y (Kz _ hy)) (by have:=oY A f x;simp at hl;lia)
  refine⟨e3',?_⟩
  rw[KI]
  unfold dE
  simp only[aP,rZ,Lj,KH]
  rw[h1,rZ]
  exact ih
def pd (A:List (Str×List Str)) (f:List (Key×PV)):List (Key×PV):=(A.map (·.1)).foldl (iJ A) f
def BQ (A:List (Str×List Str)):Nat→Int→List (Key×PV)→Option (List (Key×PV))
 |0,_,_=>none
 |k+1,b,f=>if b < f.length then BQ A k f.length (pd A f) else some f
def JF:ak→M Bool:=(bu (ag xE (fun ρ=>ae ρ 2) (fun ρ=>((aa (fun ρ=>cA ρ 1) (fun _=>M.ret [])) ρ).bind mY)))
def JH:ak→M Fl:=(aE (bF 2 (fun ρ=>((aa (fun ρ=>cA ρ 1) (fun _=>M.ret [])) ρ).bind mY)) (bx (fun ρ=>((fun ρ=>ae ρ 0) ρ).bind sL) (aP 3) IE))
theorem xn (A:List (Str×List Str)) (f:List (Key×PV)):(pd A f).length≤f.length+A.length:=by
 unfold pd
 have: ∀ (xs:List Str) (f:List (Key×PV)),(xs.foldl (iJ A) f).length≤f.length+xs.length:=by
  intro xs
  induction xs with
  |nil=>intro f;simp
  |cons x xs ih=>intro f;have:=ih (iJ A f x);have h2:=oY A f x;simp only[List.foldl_cons,KO];lia
 simpa using this (A.map (·.1)) f
theorem Av (A:List (Str×List Str)):sL (.eW (iD A))= .ret ((A.map (·.1)).map PV.str):=by
 unfold sL iD
 simp only[List.map_map]
 rfl
theorem DG (ho: ∀ p∈A,p.2.length≤1000): ∀ (k:Nat) (b:Int) (f f':List (Key×PV)) (e3:Ent),f.length+(k+1) * A.length < 100000→BQ A k b f=some f'→
  ∃ b' e3',yw JF JH k [val (.eW (iD A)),Ent.cu f,val (.int b),e3]= .ret (.nx [val (.eW (iD A)),Ent.cu f',val (.int b'),e3'])
 |0,b,f,f',e3,_,h=>by cases h
 |k+1,b,f,f',e3,hl,h=>by
  have hA:(k+1+1) * A.length=(k+1) * A.length+A.length:=by rw[Nat.add_mul,Nat.one_mul]
  have t:JF [val (.eW (iD A)),Ent.cu f,val (.int b),e3]= .ret (decide (b < f.length)):=by
   simp only[JF,bu,ag,aa,dP,eS,rZ,cA,KQ,KR,mY]
   rfl
  unfold BQ at h
  rw[GC,t,rZ]
  by_cases c:b < f.length
  ·rw[Lq c] at h
   rw[Lq (decide_eq_true c)]
   have hp:=xn A f
   obtain⟨e3',lp⟩:=we (e2:=val (.int f.length)) ho (A.map (·.1)) f e3 (fun x hx=>by
    obtain⟨p,hp,rfl⟩:=KN.mp hx
    exact⟨p,hp,rfl⟩) (by rw[Kx];have:0≤(k+1) * A.length:=K6 _;lia)
   have st:JH [val (.eW (iD A)),Ent.cu f,val (.int b),e3]= .ret (.nx [val (.eW (iD A)),Ent.cu (pd A f),val (.int f.length),e3']):=by
    unfold JH aE
    simp only[bF,aa,dP,eS,rZ,cA,KQ,KR,mY,Lj,KH]
    simp only[bx,dP,rZ,Av]
    exact lp
   rw[st,rZ]
   exact DG ho k _ _ f' e3' (by lia) h
  ·rw[Lr c] at h
   cases h
   rw[Lr (by simp[c])]
   exact⟨b,e3,rfl⟩
theorem sT (ho: ∀ p∈A,p.2.length≤1000) (hA:A.length≤90) (h:BQ A 1000 (-1) []=some f'):cB [.eW (iD A)]= .ret (.eW f'):=by
 unfold cB dY
 show (aE _ _ [val (.eW (iD A)),un,un,un]).bind dZ=_
 refine aK (ρ':=[val (.eW (iD A)),Ent.cu [],un,un]) rfl ?_
 refine aK (ρ':=[val (.eW (iD A)),Ent.cu [],val (.int (-1)),un]) rfl ?_
 obtain⟨b',e3',w⟩:=DG ho 1000 (-1) [] f' un (by simp;lia) h
 refine aK (ρ':=[val (.eW (iD A)),Ent.cu f',val (.int b'),e3']) w ?_
 exact dM (cH rfl)
def oO (xs:List Str):List (Key×PV):=xs.map fun x=>(kn x,PV.bl true)
def vj (xs:List Str) (x:Str):List Str:=if x∈xs then xs else xs++[x]
theorem sR (xs:List Str) (o:Str):iq (oO xs) o=decide (o∈xs):=by
 unfold iq jk oO
 induction xs with
 |nil=>rfl
 |cons x xs ih=>
  simp only[KI,List.find?_cons,vV]
  by_cases c:x=o
  ·subst c;simp
  ·simp only[K3 c]
   rw[ih]
   have c': ¬ o=x:=fun z=>c z.symm
   simp[c']
theorem Cn (xs:List Str) (x:Str):ou (oO xs) (kn x) (.bl true)=oO (vj xs x):=by
 have e:((oO xs).any fun kv=>decide (kv.1=kn x))=decide (x∈xs):=by
  unfold oO
  rw[List.any_map]
  induction xs with
  |nil=>rfl
  |cons y xs ih=>
   simp only[List.any_cons,Function.comp,vV,KJ]
   rw[ih]
   by_cases c:y=x
   ·subst c;simp
   ·have c': ¬ x=y:=fun z=>c z.symm
    simp[c,c']
 unfold ou vj
 rw[e]
 by_cases c:x∈xs
 ·rw[Lq (decide_eq_true c),Lq c]
  unfold oO
  rw[List.map_map]
  apply List.map_congr_left
  intro y _
  show (if kn y=kn x then(kn y,PV.bl true) else(kn y,PV.bl true))=_
  split<;>rfl
 ·rw[Lr (by simp[c]),Lr c]
  unfold oO
  rw[List.map_append]
  rfl
def fJ (A:List (Str×List Str)) (xs:List Str) (x:Str):List Str:=if(sg A x).all (fun o=>decide (o∈xs))=true then vj xs x else xs
theorem yS (A:List (Str×List Str)) (xs:List Str) (x:Str):iJ A (oO xs) x=oO (fJ A xs x):=by
 unfold iJ fJ
 have:(sg A x).all (iq (oO xs))=(sg A x).all (fun o=>decide (o∈xs)):=by
  congr 1;funext o;exact sR xs o
 rw[this]
 split
 ·exact Cn xs x
 ·rfl
def o9 (A:List (Str×List Str)) (xs:List Str):List Str:=(A.map (·.1)).foldl (fJ A) xs
theorem zR (A:List (Str×List Str)) (xs:List Str):pd A (oO xs)=oO (o9 A xs):=by
 unfold pd o9
 generalize A.map (·.1)=ys
 induction ys generalizing xs with
 |nil=>rfl
 |cons y ys ih=>rw[List.foldl_cons,List.foldl_cons,yS,ih]
def El (A:List (Str×List Str)):Nat→Int→List Str→Option (List Str)
 |0,_,_=>none
 |k+1,b,xs=>if b < xs.length then El A k xs.length (o9 A xs) else some xs
theorem yv (A:List (Str×List Str)): ∀ (k:Nat) (b:Int) (xs:List Str),BQ A k b (oO xs)=(El A k b xs).map oO
 |0,b,xs=>rfl
 |k+1,b,xs=>by
  have hl:(oO xs).length=xs.length:=by unfold oO;simp
  unfold BQ El
  rw[hl]
  split
  ·rw[zR];exact yv A k _ _
  ·rfl
def Gz (A:List (Str×List Str)) (S:Str→Prop):Prop:= ∀ x,(∃ p∈A,p.1=x)→(∀ o∈sg A x,S o)→S x
theorem n6:y∈vj xs x↔y∈xs∨y=x:=by
 unfold vj
 by_cases c:x∈xs
 ·rw[Lq c]
  refine⟨.inl,fun h=>?_⟩
  rcases h with h|rfl
  ·exact h
  ·exact c
 ·rw[Lr c];simp
theorem DB (h:xs.Nodup):(vj xs x).Nodup:=by
 unfold vj
 by_cases c:x∈xs
 ·rw[Lq c];exact h
 ·rw[Lr c]
  exact List.nodup_append.mpr ⟨h,by simp,fun a ha b hb=>by rw[K7.mp hb];exact fun z=>c (z▸ha)⟩
theorem kC (h:y∈xs):y∈fJ A xs x:=by
 unfold fJ;split
 ·exact n6.mpr (.inl h)
 ·exact h
theorem yT (h:xs.Nodup):(fJ A xs x).Nodup:=by
 unfold fJ;split
 ·exact DB h
 ·exact h
theorem rQ (h:y∈fJ A xs x):y∈xs∨(y=x∧∀ o∈sg A x,o∈xs):=by
 unfold fJ at h
 by_cases c:(sg A x).all (fun o=>decide (o∈xs))=true
 ·rw[Lq c] at h
  rcases n6.mp h with h|h
  ·exact .inl h
  ·exact .inr ⟨h,fun o ho=>by simpa using List.all_eq_true.mp c o ho⟩
 ·rw[Lr c] at h;exact .inl h
theorem ke: ∀ (ys xs:List Str),y∈xs→y∈ys.foldl (fJ A) xs
 |[],xs,h=>h
 |z::ys,xs,h=>ke ys _ (kC h)
theorem mq: ∀ (ys xs:List Str),xs.Nodup→(ys.foldl (fJ A) xs).Nodup
 |[],xs,h=>h
 |z::ys,xs,h=>mq ys _ (yT h)
theorem wc (hS:Gz A S): ∀ (ys xs:List Str),(∀ y∈ys,∃ p∈A,p.1=y)→(∀ x∈xs,S x)→∀ x∈ys.foldl (fJ A) xs,S x
 |[],xs,_,h=>h
 |z::ys,xs,hy,h=>wc hS ys _ (fun y h'=>hy y (Kz _ h')) fun x hx=>by
  rcases rQ hx with hx|⟨rfl,ho⟩
  ·exact h x hx
  ·exact hS x (hy x Kw) fun o h'=>h o (ho o h')
theorem nu: ∀ (ys xs:List Str),∀ x∈ys.foldl (fJ A) xs,x∈xs∨x∈ys
 |[],xs,x,h=>.inl h
 |z::ys,xs,x,h=>by
  rcases nu ys _ x h with h|h
  ·rcases rQ h with h|⟨rfl,_⟩
   ·exact .inl h
   ·exact .inr Kw
  ·exact .inr (Kz _ h)
theorem sU: ∀ (ys xs:List Str),(∀ z∈ys.foldl (fJ A) xs,z∈xs)→∀ x∈ys,(∀ o∈sg A x,o∈xs)→x∈xs
 |[],xs,_,x,hx,_=>absurd hx KL
 |z::ys,xs,h,x,hx,ho=>by
  have hz: ∀ y∈fJ A xs z,y∈xs:=fun y hy=>h y (ke ys _ hy)
  rcases KJ.mp hx with rfl|hx
  ·refine hz x ?_
   unfold fJ
   rw[Lq (List.all_eq_true.mpr fun o h'=>by simpa using ho o h')]
   exact n6.mpr (.inr rfl)
  ·have:=sU ys (fJ A xs z) (fun y hy=>kC (h y hy)) x hx (fun o h'=>kC (ho o h'))
   exact hz x this
theorem Fj {xs ys:List Str} (h:xs.Nodup) (hs: ∀ x∈xs,x∈ys):xs.length≤ys.length:=jT xs ys h hs
theorem Hs {xs zs:List Str} (hx:xs.Nodup) (hz:zs.Nodup) (hs: ∀ x∈xs,x∈zs) (hl:zs.length≤xs.length): ∀ z∈zs,z∈xs:=by
 intro z hz'
 by_cases c:z∈xs
 ·exact c
 ·have h1:(z::xs).Nodup:=List.nodup_cons.mpr ⟨c,hx⟩
  have:=jT (z::xs) zs h1 (fun y hy=>by
   rcases KJ.mp hy with rfl|hy
   ·exact hz'
   ·exact hs y hy)
  simp at this
  lia
theorem uc (hS:Gz A S): ∀ (k:Nat) (b:Int) (xs xs':List Str),xs.Nodup→(∀ x∈xs,S x)→((b < xs.length)∨Gz A (·∈xs))→El A k b xs=some xs'→(∀ x∈xs',S x)∧Gz A (·∈xs')∧xs'.Nodup
 |0,b,xs,xs',_,_,_,h=>by cases h
 |k+1,b,xs,xs',nd,hx,hb,h=>by
  unfold El at h
  by_cases c:b < xs.length
  ·rw[Lq c] at h
   have nm: ∀ y∈A.map (·.1),∃ p∈A,p.1=y:=fun y hy=>by
    obtain⟨p,hp,rfl⟩:=KN.mp hy
    exact⟨p,hp,rfl⟩
   refine uc hS k _ (o9 A xs) xs' (mq _ _ nd) (wc hS _ _ nm hx) ?_ h
   by_cases c2:(xs.length:Int) < (o9 A xs).length
   ·exact .inl c2
   ·refine .inr ?_
    have back:=Hs nd (mq (A:=A) (A.map (·.1)) xs nd) (fun x hx=>ke _ _ hx) (by unfold o9 at c2;lia)
    intro x hxA ho
    obtain⟨p,hp,rfl⟩:=hxA
    exact ke _ _ (sU _ _ back p.1 (K9 hp) fun o h'=>back o (ho o h'))
  ·rw[Lr c] at h
   cases h
   rcases hb with hb|hb
   ·exact absurd hb c
   ·exact⟨hx,hb,nd⟩
theorem vk {A:List (Str×List Str)}: ∀ (k:Nat) (b:Int) (xs:List Str),xs.Nodup→(∀ x∈xs,x∈A.map (·.1))→b≤A.length→(A.length:Int) < b+k→∃ xs',El A k b xs=some xs'
 |0,b,xs,_,_,h1,h2=>by lia
 |k+1,b,xs,nd,hs,h1,h2=>by
  unfold El
  by_cases c:b < xs.length
  ·rw[Lq c]
   have hl:=Fj nd hs
   rw[Kx] at hl
   exact vk k _ _ (mq _ _ nd) (fun x hx=>by
    rcases nu _ _ x hx with h|h
    ·exact hs x h
    ·exact h) (by lia) (by lia)
  ·rw[Lr c];exact⟨_,rfl⟩
theorem xR (ho: ∀ p∈A,p.2.length≤1000) (hA:A.length≤90): ∃ xs:List Str,cB [.eW (iD A)]= .ret (.eW (oO xs))∧BQ A 1000 (-1) []=some (oO xs)∧Gz A (·∈xs)∧∀ S,Gz A S→∀ x∈xs,S x:=by
 obtain⟨xs,h⟩:=vk (A:=A) 1000 (-1) [] List.nodup_nil (fun _ h=>absurd h KL) (by lia) (by lia)
 have e:BQ A 1000 (-1) []=some (oO xs):=by
  have:=yv A 1000 (-1) []
  rw[h] at this
  exact this
 refine⟨xs,sT ho hA e,e,?_,fun S hS x hx=>?_⟩
 ·exact(uc (S:=fun _=>True) (fun _ _ _=>trivial) 1000 (-1) [] xs List.nodup_nil (fun _ h=>absurd h KL) (.inl (by simp)) h).2.1
 ·exact(uc hS 1000 (-1) [] xs List.nodup_nil (fun _ h=>absurd h KL) (.inl (by simp)) h).1 x hx
theorem jD (h:m ρ= .ret (.rt y)):(aE m k ρ).bind dZ= .ret y:=by
 unfold aE;rw[h];rfl
section
variable {B y:PV} {w z p:Str} {t:Int}
theorem tS:aG [B,y,.tup [.str "hours",.int a,.int b],.int t]= .ret (.bl (decide (a≤t)&&decide (t < b))):=by
 unfold aG bI
 show (aE _ _ [val B,val y,val (.tup [.str "hours",.int a,.int b]),val (.int t),un]).bind dZ=_
 refine aK (ρ':=[val B,val y,val (.tup [.str "hours",.int a,.int b]),val (.int t),val (.str "hours")]) rfl ?_
 refine jD (y:=.bl (decide (a≤t)&&decide (t < b))) ?_
 rw[iQ rfl]
 refine cH ?_
 show chain _ _ _ _ _ [val B,val y,val (.tup [.str "hours",.int a,.int b]),val (.int t),val (.str "hours")]=_
 simp only[chain,ag,dP,eS,rZ,aI,Bt,Br,M.ft,gp]
 by_cases c:a≤t
 ·simp[c];rfl
 ·simp[c]
theorem tR:aG [B,y,.tup [.str "never"],.int t]= .ret (.bl false):=by
 unfold aG bI
 show (aE _ _ [val B,val y,val (.tup [.str "never"]),val (.int t),un]).bind dZ=_
 refine aK (ρ':=[val B,val y,val (.tup [.str "never"]),val (.int t),val (.str "never")]) rfl ?_
 refine aK (ρ':=[val B,val y,val (.tup [.str "never"]),val (.int t),val (.str "never")]) rfl ?_
 refine aK (ρ':=[val B,val y,val (.tup [.str "never"]),val (.int t),val (.str "never")]) rfl ?_
 refine aK (ρ':=[val B,val y,val (.tup [.str "never"]),val (.int t),val (.str "never")]) rfl ?_
 exact dM (cH rfl)
theorem zD (hw:w="least"∨w="most") (h:dH [B,.str p,.int t]= .ret .aU):bO [B,.tup [.str w,.str p,x],.int t]= .ret (.bl false):=by
 unfold bO dz
 show (aE _ _ [val B,val (.tup [.str w,.str p,x]),val (.int t),un,un,un,un]).bind dZ=_
 refine aK (ρ':=[val B,val (.tup [.str w,.str p,x]),val (.int t),val (.str w),val (.str p),val x,un]) rfl ?_
 refine aK (ρ':=[val B,val (.tup [.str w,.str p,x]),val (.int t),val (.str w),val (.str p),val x,val .aU]) ?_ ?_
 ·simp only[bF,aa,dP,eS,rZ]
  rw[h]
  rfl
 ·exact jD (by rw[iQ rfl];exact cH rfl)
theorem zC (hw:w="least"∨w="most") (h:dH [B,.str p,.int t]= .ret (.int v)):bO [B,.tup [.str w,.str p,.int n],.int t]= .ret (.bl (if w="least" then decide (n≤v) else decide (v≤n))):=by
 unfold bO dz
 show (aE _ _ [val B,val (.tup [.str w,.str p,.int n]),val (.int t),un,un,un,un]).bind dZ=_
 refine aK (ρ':=[val B,val (.tup [.str w,.str p,.int n]),val (.int t),val (.str w),val (.str p),val (.int n),un]) rfl ?_
 refine aK (ρ':=[val B,val (.tup [.str w,.str p,.int n]),val (.int t),val (.str w),val (.str p),val (.int n),val (.int v)]) ?_ ?_
 ·simp only[bF,aa,dP,eS,rZ]
  rw[h]
  rfl
 ·refine aK (ρ':=[val B,val (.tup [.str w,.str p,.int n]),val (.int t),val (.str w),val (.str p),val (.int n),val (.int v)]) (by rw[gq rfl]) ?_
  refine dM (cH ?_)
  rcases hw with rfl|rfl
  ·rfl
  ·rfl
theorem C3 (h:cm [B,.str z,.int t]= .ret .aU):br [B,.tup (.str z::.str "slope"::r),.int n,.int t]= .ret (.bl false):=by
 unfold br cP
 show (aE _ _ [val B,val (.tup (.str z::.str "slope"::r)),val (.int n),val (.int t),un]).bind dZ=_
 refine aK (ρ':=[val B,val (.tup (.str z::.str "slope"::r)),val (.int n),val (.int t),val .aU]) ?_ ?_
 ·simp only[bF,aa,ag,dP,eS,rZ,aI,t7,M.ft]
  rw[h]
  rfl
 ·refine dM (cH ?_)
  have c1:bu (ag (gs false) (ag aI (fun ρ=>ae ρ 1) (fun _=>M.ret (.int 1))) (fun _=>M.ret (.str "slope"))) [val B,val (.tup (.str z::.str "slope"::r)),val (.int n),val (.int t),val .aU]= .ret true:=by
   simp only[bu,ag,dP,eS,rZ,aI,Bt,M.ft,Dk,beq_self_eq_true]
  show rB _ _ [val B,val (.tup (.str z::.str "slope"::r)),val (.int n),val (.int t),val .aU]=_
  unfold rB
  rw[c1]
  rfl
theorem C2 (h:cm [B,.str z,.int t]= .ret (.int m)):br [B,.tup (.str z::.str "slope"::r),.int n,.int t]= .ret (.bl (decide (t < m+n))):=by
 unfold br cP
 show (aE _ _ [val B,val (.tup (.str z::.str "slope"::r)),val (.int n),val (.int t),un]).bind dZ=_
 refine aK (ρ':=[val B,val (.tup (.str z::.str "slope"::r)),val (.int n),val (.int t),val (.int m)]) ?_ ?_
 ·simp only[bF,aa,ag,dP,eS,rZ,aI,t7,M.ft]
  rw[h]
  rfl
 ·refine dM (cH ?_)
  have c1:bu (ag (gs false) (ag aI (fun ρ=>ae ρ 1) (fun _=>M.ret (.int 1))) (fun _=>M.ret (.str "slope"))) [val B,val (.tup (.str z::.str "slope"::r)),val (.int n),val (.int t),val (.int m)]= .ret true:=by
   simp only[bu,ag,dP,eS,rZ,aI,Bt,M.ft,Dk,beq_self_eq_true]
  show rB _ _ [val B,val (.tup (.str z::.str "slope"::r)),val (.int n),val (.int t),val (.int m)]=_
  unfold rB
  rw[c1]
  rfl
theorem nZ (hw:w="least"∨w="most") (h:bO [B,.tup [.str w,.str p,x],.int t]= .ret (.bl b)):aG [B,y,.tup [.str w,.str p,x],.int t]= .ret (.bl b):=by
 unfold aG bI
 show (aE _ _ [val B,val y,val (.tup [.str w,.str p,x]),val (.int t),un]).bind dZ=_
 refine aK (ρ':=[val B,val y,val (.tup [.str w,.str p,x]),val (.int t),val (.str w)]) rfl ?_
 refine aK (ρ':=[val B,val y,val (.tup [.str w,.str p,x]),val (.int t),val (.str w)]) (by rcases hw with rfl|rfl<;>rfl) ?_
 refine jD ?_
 rw[iQ (by rcases hw with rfl|rfl<;>rfl)]
 refine cH ?_
 simp only[aa]
 exact h
theorem kq (h:br [B,y,.int n,.int t]= .ret (.bl b)):aG [B,y,.tup [.str "looked",.int n],.int t]= .ret (.bl b):=by
 unfold aG bI
 show (aE _ _ [val B,val y,val (.tup [.str "looked",.int n]),val (.int t),un]).bind dZ=_
 refine aK (ρ':=[val B,val y,val (.tup [.str "looked",.int n]),val (.int t),val (.str "looked")]) rfl ?_
 refine aK (ρ':=[val B,val y,val (.tup [.str "looked",.int n]),val (.int t),val (.str "looked")]) rfl ?_
 refine aK (ρ':=[val B,val y,val (.tup [.str "looked",.int n]),val (.int t),val (.str "looked")]) rfl ?_
 refine jD ?_
 rw[iQ rfl]
 refine cH ?_
 simp only[aa]
 exact h
end
abbrev jP (p:Str×List PV):PV:=.tup (.str p.1::p.2)
def tQ:Option (List Str)→PV
 |none=>.aU
 |some os=>.lst (os.map PV.str)
theorem Co {A:List (Str×List Str)} {x:Str} {os:List Str} (h: ∀ p∈A,p.1≠x):ou (iD A) (kn x) (.lst (os.map PV.str))=iD (A++[(x,os)]):=by
 have e:((iD A).any fun kv=>decide (kv.1=kn x))=false:=by
  unfold iD
  rw[List.any_map,List.any_eq_false]
  intro p hp
  show ¬ decide (kn p.1=kn x)=true
  rw[vV]
  simp[h p hp]
 unfold ou
 rw[Lr (by rw[e];decide)]
 unfold iD
 rw[List.map_append]
 rfl
noncomputable def Jl:ak→M Fl:=(aE (bF 5 (fun ρ=>((aa (fun ρ=>ae ρ 1) (aa (fun ρ=>ae ρ 4) (aa (fun ρ=>ae ρ 2) (fun _=>M.ret [])))) ρ).bind aV))
  (fS (bu (ag (sO true) (fun ρ=>ae ρ 5) (fun _=>M.ret .aU)))
  (lG 3 (ag aI (fun ρ=>ae ρ 4) (fun _=>M.ret (.int 0))) (fun ρ=>ae ρ 5))
  (fun ρ=>M.ret (.nx ρ))))
def fj (ot:Str×List PV→Option (List Str)) (ws:List (Str×List PV)):List (Str×List Str):=ws.filterMap fun p=>(ot p).map fun os=>(p.1,os)
theorem vM: ∀ (ws:List (Str×List PV)) (A:List (Str×List Str)) (e4 e5:Ent),(∀ p∈ws,aV [B,jP p,tv]= .ret (tQ (ot p)))→(ws.map (·.1)).Nodup→(∀ p∈ws,∀ q∈A,q.1≠p.1)→A.length+ws.length < 1000→
  ∃ e4' e5',dE (aP 4) Jl (ws.map jP) [val hl,val B,val tv,Ent.cu (iD A),e4,e5,e6]= .ret (.nx [val hl,val B,val tv,Ent.cu (iD (A++fj ot ws)),e4',e5',e6])
 |[],A,e4,e5,_,_,_,_=>⟨e4,e5,by simp[dE,fj]⟩
 |p::ws,A,e4,e5,h,nd,hA,hl'=>by
  have h1:=h p Kw
  rw[KI,List.nodup_cons] at nd
  have step: ∃ A',A'=A++fj ot [p]∧Jl [val hl,val B,val tv,Ent.cu (iD A),val (jP p),e5,e6]= .ret (.nx [val hl,val B,val tv,Ent.cu (iD A'),val (jP p),val (tQ (ot p)),e6]):=by
   refine⟨_,rfl,?_⟩
   unfold Jl aE
   simp only[bF,aa,dP,eS,rZ,h1,Lj,KH]
   cases c:ot p with
   |none=>
    rw[gq (by rfl)]
    simp[fj,c]
   |some os=>
    rw[iQ (by rfl)]
    have hlen:(iD A).length < 100000:=by unfold iD;rw[Kx];simp at hl';lia
    simp only[lG,dP,eS,rZ,KQ,KR,ag,aI,t7,M.ft,oI,Lq hlen,tQ,Lj,KH]
    rw[Co (fun q hq=>hA p Kw q hq)]
    simp[fj,c]
  obtain⟨A',eA,st⟩:=step
  obtain⟨e4',e5',ih⟩:=vM (hl:=hl) (B:=B) (tv:=tv) (ot:=ot) (e6:=e6) ws A' (val (jP p)) (val (tQ (ot p))) (fun q hq=>h q (Kz _ hq)) nd.2 (fun q hq a ha=>by
   rw[eA] at ha
   rcases Lp.mp ha with ha|ha
   ·exact hA q (Kz _ hq) a ha
   ·have:a.1=p.1:=by
     unfold fj at ha
     obtain⟨b,hb,e⟩:=List.mem_filterMap.mp ha
     rw[K7.mp hb] at e
     obtain⟨os,_,rfl⟩:=K2.mp e
     rfl
    rw[this]
    exact fun z=>nd.1 (z▸K9 hq)) (by
   have:(fj ot [p]).length≤1:=by unfold fj;exact List.length_filterMap_le _ _
   rw[eA,K4];simp at hl';lia)
  refine⟨e4',e5',?_⟩
  rw[KI]
  unfold dE
  simp only[aP,rZ,Lj,KH]
  rw[st,rZ]
  show dE _ _ _ _=_
  rw[ih,eA,List.append_assoc]
  have:fj ot [p]++fj ot ws=fj ot (p::ws):=by unfold fj;rw[←List.filterMap_append];rfl
  rw[this]
theorem CH {hm dk B tv:PV} {ws:List (Str×List PV)} {ot:Str×List PV→Option (List Str)} (h: ∀ p∈ws,aV [B,jP p,tv]= .ret (tQ (ot p))) (nd:(ws.map (·.1)).Nodup) (hw:ws.length≤90)
  (ho: ∀ p∈fj ot ws,p.2.length≤1000) (hf:BQ (fj ot ws) 1000 (-1) []=some f'):
  aB [.tup [.tup (ws.map jP),hm,dk],B,tv]= .ret (.tup (((ws.map (·.1)).filter (iq f')).map PV.str)):=by
 unfold aB cO
 obtain⟨hl,ehl⟩: ∃ hl,hl=PV.tup [.tup (ws.map jP),hm,dk]:=⟨_,rfl⟩
 rw[←ehl]
 have i0:aI hl (.int 0)= .ret (.tup (ws.map jP)):=by rw[ehl];simp only[aI,t7,M.ft]
 show (aE _ _ [val hl,val B,val tv,un,un,un,un]).bind dZ=_
 refine aK (ρ':=[val hl,val B,val tv,Ent.cu (iD []),un,un,un]) rfl ?_
 obtain⟨e4',e5',lp⟩:=vM (hl:=hl) (B:=B) (tv:=tv) (ot:=ot) (e6:=un) ws [] un un h nd (fun _ _ q hq=>absurd hq KL) (by simp;lia)
 refine aK (ρ':=[val hl,val B,val tv,Ent.cu (iD (fj ot ws)),e4',e5',un]) ?_ ?_
 ·simp only[bx,ag,dP,rZ,i0,bc]
  exact lp
 have hA:(fj ot ws).length≤90:=KZ (List.length_filterMap_le _ _) hw
 refine aK (ρ':=[val hl,val B,val tv,val (.eW (iD (fj ot ws))),e4'.freeze,e5'.freeze,val (.eW f')]) ?_ ?_
 ·show bF 6 _ [val hl,val B,val tv,val (.eW (iD (fj ot ws))),e4'.freeze,e5'.freeze,un]=_
  simp only[bF,aa,dP,eS,rZ,sT ho hA hf]
  rfl
 refine dM (cH ?_)
 have q:=gc (k:=0) (tt:=bu (ag (nM false) (ag aI (fun ρ=>ae ρ 0) (fun _=>M.ret (.int 0))) (fun ρ=>ae ρ 1))) (te:=ag aI (fun ρ=>ae ρ 0) (fun _=>M.ret (.int 0))) (p:=fun y=>match y with| .tup (.str x::_)=>iq f' x|_=>false) (f:=fun y=>match y with| .tup (.str x::_)=>.str x|_=>.aU) (ρ:=[un,val (.eW f')]) (ws.map jP) [un,val (.eW f')] (fun _=>rfl) (fun y hy=>by
  obtain⟨p,_,rfl⟩:=KN.mp hy
  simp only[bu,ag,KH,dP,eS,rZ,aI,t7,nM,oI,M.ft,Bool.bne_false,iq]) (fun y hy _=>by
  obtain⟨p,_,rfl⟩:=KN.mp hy
  simp only[ag,KH,dP,rZ,aI,t7,M.ft])
 have hlen:(ws.map jP).length≤100000:=by rw[Kx];lia
 have ec:ir [none,some 6] [val hl,val B,val tv,val (.eW (iD (fj ot ws))),e4'.freeze.freeze,e5'.freeze.freeze,val (.eW f')]=[un,val (.eW f')]:=rfl
 have ej:((ws.map jP).filter (fun y=>match y with| .tup (.str x::_)=>iq f' x|_=>false)).map (fun y=>match y with| .tup (.str x::_)=>PV.str x|_=>.aU)=((ws.map (·.1)).filter (iq f')).map PV.str:=by
  clear q lp hf ho h nd hw hA hlen ec i0 ehl
  induction ws with
  |nil=>rfl
  |cons p ws ih=>
   simp only[KI,List.filter_cons]
   by_cases c:iq f' p.1=true
   ·rw[Lq c,Lq c,KI,KI,ih]
   ·rw[Lr c,Lr c,ih]
 show (fun ρ=>((aa (bR _) _) ρ).bind oe) [val hl,val B,val tv,val (.eW (iD (fj ot ws))),e4'.freeze.freeze,e5'.freeze.freeze,val (.eW f')]=_
 simp only[aa,bR,eD,ag,dP,rZ,i0,bc,Lq hlen,ec]
 rw[q]
 simp only[rZ,oe,ej]
def six (l:List PV) (w z:Str) (t:Int):PV:=(nS (l.filter (hit w z t))).getD .aU
theorem pH (hp:gH n y) (hh:hit w z t y=true): ∃ z' m r,y= .tup (.str w::.int n::.int m::.str z'::r)∧((w="look"∧r=[])∨((w="read"∨w="rule")∧∃ v,r=[v]∧t9 2500 2 v∧Gr v=true))∧0≤m∧m≤1000000:=by
 obtain⟨w',z',m,r,rfl,hc,m0,m1⟩:=hp
 have e:(w'==w&&(z'==z&&decide (m≤t)))=true:=hh
 rw[Lf] at e
 have ew:w'=w:=by simpa using e.1
 subst ew
 exact⟨z',m,r,rfl,hc,m0,m1⟩
theorem seen (h:dB l ns) (w z:Str) (t:Int):bo [.tup (aN l),.str w,.str z,.int t]= .ret (six l w z t):=by
 rw[C8 fun y hy=>(h.at ((dG l).mem_iff.mp hy)).imp fun n hn=>hn.1]
 unfold six
 rw[xG h.nd]
set_option genInjectivity true in
inductive Ru where
 |jy (a b:Int)|post (least:Bool) (p:Str) (n:Int)|looked (n:Int)|yr (o:Str)|never
noncomputable def Ru.pv:Ru→PV
 | .jy a b=>.tup [.str "hours",.int a,.int b]
 | .post true p n=>.tup [.str "least",.str p,.int n]
 | .post false p n=>.tup [.str "most",.str p,.int n]
 | .looked n=>.tup [.str "looked",.int n]
 | .yr o=>.tup [.str "with",.str o]
 | .never=>.tup [.str "never"]
noncomputable def Ru.hold (rd:Str→Option Int) (lk:Option Int) (t:Int) (i:Str→Bool):Ru→Bool
 | .jy a b=>decide (a≤t)&&decide (t < b)
 | .post L p n=>match rd p with|none=>false|some v=>if L=true then decide (n≤v) else decide (v≤n)
 | .looked n=>match lk with|none=>false|some m=>decide (t < m+n)
 | .yr o=>i o
 | .never=>false
def uy (l:List PV) (t:Int) (p:Str):Option Int:=match six l "read" p t with| .tup [_,_,_,_,.int v]=>some v|_=>none
def lE (l:List PV) (t:Int) (z:Str):Option Int:=match six l "look" z t with| .tup (_::_::.int m::_)=>some m|_=>none
def Reads (l:List PV):Prop:= ∀ n m z v,PV.tup [.str "read",.int n,.int m,.str z,v]∈l→∃ i:Int,v= .int i
theorem gy (h:dB l ns) (w z:Str) (t:Int):six l w z t= .aU∨(six l w z t∈l∧∃ n,gH n (six l w z t)∧hit w z t (six l w z t)=true):=by
 unfold six
 cases e:nS (l.filter (hit w z t)) with
 |none=>exact .inl rfl
 |some y=>
  right
  have hm:y∈l.filter (hit w z t):=by
   unfold nS at e
   obtain⟨b,hb,rfl⟩:=K2.mp e
   have:=Bo hb
   rw[KU,Ku this]
   exact Ll this
  obtain⟨n,hp,_⟩:=h.at (Lo.mp hm).1
  exact⟨(Lo.mp hm).1,n,hp,(Lo.mp hm).2⟩
theorem y6 (h:dB l ns) (hr:Reads l) (z:Str) (t:Int):(six l "read" z t= .aU∧uy l t z=none)∨∃ a b c d v,six l "read" z t= .tup [a,b,c,d,.int v]∧uy l t z=some v:=by
 rcases gy h "read" z t with e|⟨hm,n,hp,hh⟩
 ·exact .inl ⟨e,by unfold uy;rw[e]⟩
 ·right
  obtain⟨z',m,r,e,hk,_⟩:=pH hp hh
  rcases hk with⟨hw,_⟩|⟨_,v,rfl,_⟩
  ·exact absurd hw (by decide +kernel)
  ·rw[e] at hm
   obtain⟨i,rfl⟩:=hr _ _ _ _ hm
   exact⟨_,_,_,_,i,e,by unfold uy;rw[e]⟩
theorem y8 (h:dB l ns) (z:Str) (t:Int):(six l "look" z t= .aU∧lE l t z=none)∨∃ a b m r,six l "look" z t= .tup (a::b::.int m::r)∧lE l t z=some m:=by
 rcases gy h "look" z t with e|⟨hm,n,hp,hh⟩
 ·exact .inl ⟨e,by unfold lE;rw[e]⟩
 ·right
  obtain⟨z',m,r,e,_⟩:=pH hp hh
  exact⟨_,_,m,_,e,by unfold lE;rw[e]⟩
section
variable {l:List PV} {ns:List Int} {t:Int}
theorem ux (h:dB l ns) (hr:Reads l):dH [.tup (aN l),.str p,.int t]= .ret (match uy l t p with|none=>.aU|some v=>.int v):=by
 have s:=seen h "read" p t
 unfold dH f6
 show (aE _ _ [val (.tup (aN l)),val (.str p),val (.int t),un]).bind dZ=_
 rcases y6 h hr p t with⟨e,e2⟩|⟨a,b,c,d,v,e,e2⟩
 ·rw[e] at s
  refine aK (ρ':=[val (.tup (aN l)),val (.str p),val (.int t),val .aU]) ?_ ?_
  ·simp only[bF,aa,dP,eS,rZ,s]
   rfl
  ·rw[e2];exact dM (cH rfl)
 ·rw[e] at s
  refine aK (ρ':=[val (.tup (aN l)),val (.str p),val (.int t),val (.tup [a,b,c,d,.int v])]) ?_ ?_
  ·simp only[bF,aa,dP,eS,rZ,s]
   rfl
  ·rw[e2];exact dM (cH rfl)
theorem xF (h:dB l ns):cm [.tup (aN l),.str z,.int t]= .ret (match lE l t z with|none=>.aU|some v=>.int v):=by
 have s:=seen h "look" z t
 unfold cm eR
 show (aE _ _ [val (.tup (aN l)),val (.str z),val (.int t),un]).bind dZ=_
 rcases y8 h z t with⟨e,e2⟩|⟨a,b,m,r,e,e2⟩
 ·rw[e] at s
  refine aK (ρ':=[val (.tup (aN l)),val (.str z),val (.int t),val .aU]) ?_ ?_
  ·simp only[bF,aa,dP,eS,rZ,s]
   rfl
  ·rw[e2];exact dM (cH rfl)
 ·rw[e] at s
  refine aK (ρ':=[val (.tup (aN l)),val (.str z),val (.int t),val (.tup (a::b::.int m::r))]) ?_ ?_
  ·simp only[bF,aa,dP,eS,rZ,s]
   rfl
  ·rw[e2]
   refine dM (cH ?_)
   show BH _ _ _ [val (.tup (aN l)),val (.str z),val (.int t),val (.tup (a::b::.int m::r))]=_
   rw[HH rfl]
   simp only[ag,dP,eS,rZ,aI,Br,M.ft]
theorem vh:aG [B,y,.tup [.str "with",.str o],.int t]= .ret (.bl false):=by
 unfold aG bI
 show (aE _ _ [val B,val y,val (.tup [.str "with",.str o]),val (.int t),un]).bind dZ=_
 refine aK (ρ':=[val B,val y,val (.tup [.str "with",.str o]),val (.int t),val (.str "with")]) rfl ?_
 refine aK (ρ':=[val B,val y,val (.tup [.str "with",.str o]),val (.int t),val (.str "with")]) rfl ?_
 refine aK (ρ':=[val B,val y,val (.tup [.str "with",.str o]),val (.int t),val (.str "with")]) rfl ?_
 refine aK (ρ':=[val B,val y,val (.tup [.str "with",.str o]),val (.int t),val (.str "with")]) rfl ?_
 exact dM (cH rfl)
theorem C1 (hk:(kd==("slope":Str))=false) (h:cm [B,.str z,.int t]= .ret y):br [B,.tup (.str z::.str kd::q),.int n,.int t]= .ret (.bl false):=by
 unfold br cP
 show (aE _ _ [val B,val (.tup (.str z::.str kd::q)),val (.int n),val (.int t),un]).bind dZ=_
 refine aK (ρ':=[val B,val (.tup (.str z::.str kd::q)),val (.int n),val (.int t),val y]) ?_ ?_
 ·simp only[bF,aa,ag,dP,eS,rZ,aI,t7,M.ft]
  rw[h]
  rfl
 ·refine dM (cH ?_)
  have c1:bu (ag (gs false) (ag aI (fun ρ=>ae ρ 1) (fun _=>M.ret (.int 1))) (fun _=>M.ret (.str "slope"))) [val B,val (.tup (.str z::.str kd::q)),val (.int n),val (.int t),val y]= .ret false:=by
   simp only[bu,ag,dP,eS,rZ,aI,Bt,M.ft,Dk,hk]
  show rB _ _ [val B,val (.tup (.str z::.str kd::q)),val (.int n),val (.int t),val y]=_
  unfold rB
  rw[c1]
  rfl
theorem By (h:dB l ns) (hr:Reads l) (hs:(kd==("slope":Str))=false→lE l t z=none) (r:Ru):
  aG [.tup (aN l),.tup (.str z::.str kd::q),r.pv,.int t]= .ret (.bl (r.hold (uy l t) (lE l t z) t (fun _=>false))):=by
 cases r with
 |jy a b=>exact tS
 |never=>exact tR
 |yr o=>exact vh
 |looked n=>
  have lo:=xF (z:=z) (t:=t) h
  cases ck:(kd==("slope":Str)) with
  |true=>
   obtain rfl:kd="slope":=by simpa using ck
   refine kq ?_
   cases e:lE l t z with
   |none=>rw[e] at lo;simp only[Ru.hold];exact C3 lo
   |some m=>rw[e] at lo;simp only[Ru.hold];exact C2 lo
  |false=>
   refine kq ?_
   simp only[Ru.hold,hs ck]
   exact C1 ck lo
 |post L p n=>
  have re:=ux (p:=p) (t:=t) h hr
  cases L
  ·refine nZ (w:="most") (.inr rfl) ?_
   cases e:uy l t p with
   |none=>rw[e] at re;simp only[Ru.hold,e];exact zD (.inr rfl) re
   |some v=>rw[e] at re;simp only[Ru.hold,e];exact zC (.inr rfl) re
  ·refine nZ (w:="least") (.inl rfl) ?_
   cases e:uy l t p with
   |none=>rw[e] at re;simp only[Ru.hold,e];exact zD (.inl rfl) re
   |some v=>rw[e] at re;simp only[Ru.hold,e];exact zC (.inl rfl) re
end
theorem j5 {m:α→PV} {tt:ak→M Bool} {te:ak→M PV} {p:α→Bool} {g:α→PV} {ρ:ak}: ∀ (rs:List α) (ρ':ak),(∀ e,ρ'.set k e=ρ.set k e)→(∀ r∈rs,tt (ρ.set k (.val (m r)))= .ret (p r))→(∀ r∈rs,p r=true→te (ρ.set k (.val (m r)))= .ret (g r))→
  t5 (aP k) tt te (rs.map m) ρ'= .ret ((rs.filter p).map g)
 |[],ρ',_,_,_=>rfl
 |r::rs,ρ',hρ,h1,h2=>by
  have ih:=j5 (m:=m) (k:=k) (tt:=tt) (te:=te) (p:=p) (g:=g) (ρ:=ρ) rs (ρ.set k (.val (m r))) (fun e=>by rw[List.set_set]) (fun r hr=>h1 r (Kz _ hr)) (fun r hr=>h2 r (Kz _ hr))
  rw[KI]
  unfold t5
  simp only[aP,rZ,hρ,h1 r Kw]
  cases c:p r with
  |true=>
   rw[Lq rfl,h2 r Kw c,rZ,ih,rZ,List.filter_cons_of_pos c]
   rfl
  |false=>
   rw[Lr (by decide),ih,List.filter_cons_of_neg (by rw[c];decide)]
def Ru.xN:Ru→Bool
 | .yr _=>true
 |_=>false
def Ru.Gp:Ru→Str
 | .yr o=>o
 |_=>""
theorem Ru.head (r:Ru): ∃ w q,r.pv= .tup (.str w::q)∧(w==("with":Str))=r.xN:=by
 cases r with
 |jy a b=>exact⟨"hours",_,rfl,by show (("hours":Str)==("with":Str))=false;decide +kernel⟩
 |post L p n=>
  cases L
  ·exact⟨"most",_,rfl,by show (("most":Str)==("with":Str))=false;decide +kernel⟩
  ·exact⟨"least",_,rfl,by show (("least":Str)==("with":Str))=false;decide +kernel⟩
 |looked n=>exact⟨"looked",_,rfl,by show (("looked":Str)==("with":Str))=false;decide +kernel⟩
 |yr o=>exact⟨"with",_,rfl,by show (("with":Str)==("with":Str))=true;decide +kernel⟩
 |never=>exact⟨"never",_,rfl,by show (("never":Str)==("with":Str))=false;decide +kernel⟩
def Jn:ak→M Bool:=(bu (ag (gs true) (ag aI (fun ρ=>ae ρ 0) (fun _=>M.ret (.int 0))) (fun _=>M.ret (.str "with"))))
def Jo:ak→M PV:=(fun ρ=>((aa (fun ρ=>ae ρ 1) (aa (fun ρ=>ae ρ 2) (aa (fun ρ=>ae ρ 0) (aa (fun ρ=>ae ρ 3) (fun _=>M.ret []))))) ρ).bind aG)
def vc (hd:Ru→Bool) (rs:List Ru):Option (List Str):=if(rs.filter fun r=>!r.xN).all hd=true then some ((rs.filter Ru.xN).map Ru.Gp) else none
def Jm:ak→M Bool:=(bu (ag (gs false) (ag aI (fun ρ=>ae ρ 0) (fun _=>M.ret (.int 0))) (fun _=>M.ret (.str "with"))))
def JY:ak→M PV:=(ag aI (fun ρ=>ae ρ 0) (fun _=>M.ret (.int 1)))
theorem vb {B:PV} {r:List PV} {rs:List Ru} {hd:Ru→Bool} (hl:rs.length≤1000) (h:cJ [B,.str z,.int t]= .ret (.tup (rs.map Ru.pv))) (ha: ∀ u∈rs,u.xN=false→aG [B,.tup (.str z::r),u.pv,.int t]= .ret (.bl (hd u))):
  aV [B,.tup (.str z::r),.int t]= .ret (tQ (vc hd rs)):=by
 have hlen:(rs.map Ru.pv).length≤100000:=by rw[Kx];lia
 unfold aV cY
 show (aE _ _ [val B,val (.tup (.str z::r)),val (.int t),un]).bind dZ=_
 refine aK (ρ':=[val B,val (.tup (.str z::r)),val (.int t),val (.tup (rs.map Ru.pv))]) ?_ ?_
 ·simp only[bF,aa,ag,dP,eS,rZ,aI,t7,M.ft]
  rw[h]
  rfl
 have ec:ir [none,some 0,some 1,some 2] [val B,val (.tup (.str z::r)),val (.int t),val (.tup (rs.map Ru.pv))]=[un,val B,val (.tup (.str z::r)),val (.int t)]:=rfl
 have q1:=j5 (m:=Ru.pv) (k:=0) (tt:=Jn) (te:=Jo) (p:=fun u=>!u.xN) (g:=fun u=>.bl (hd u)) (ρ:=[un,val B,val (.tup (.str z::r)),val (.int t)]) rs [un,val B,val (.tup (.str z::r)),val (.int t)] (fun _=>rfl) (fun u hu=>by
  obtain⟨w,q,e,hw⟩:=u.head
  have e1:gs true (.str w) (.str "with")= .ret (.bl (!u.xN)):=by
   show M.ret (PV.bl (xor true (w=="with")))=_
   rw[hw];simp
  rw[e]
  simp only[Jn,bu,ag,KH,dP,rZ,aI,t7,M.ft,e1]) (fun u hu hp=>by
  simp only[Jo,aa,KH,dP,eS,rZ]
  exact ha u hu (by simpa using hp))
 have eall: ∀ us:List Ru,oR [.lst (us.map fun u=>PV.bl (hd u))]= .ret (.bl (us.all hd)):=fun us=>by
  have:jz (us.map fun u=>PV.bl (hd u))=some (us.map hd):=by
   induction us with
   |nil=>rfl
   |cons u us ih=>simp only[KI,jz,ih];rfl
  simp only[oR,this,M.ft,rZ,List.all_map]
  rfl
 have tst:(Ae (bu (fun ρ=>((aa (bR (eD [none,some 0,some 1,some 2] (fun ρ=>((fun ρ=>ae ρ 3) ρ).bind bc) (aP 0) Jn Jo)) (fun _=>M.ret [])) ρ).bind oR))) [val B,val (.tup (.str z::r)),val (.int t),val (.tup (rs.map Ru.pv))]= .ret (!((rs.filter fun u=>!u.xN).all hd)):=by
  unfold Ae
  unfold bu
  simp only[aa,bR,eD,dP,eS,rZ,bc,ec,Lq hlen]
  rw[q1]
  simp only[rZ,eall]
 cases c:(rs.filter fun u=>!u.xN).all hd with
 |true=>
  rw[c] at tst
  refine aK (ρ':=[val B,val (.tup (.str z::r)),val (.int t),val (.tup (rs.map Ru.pv))]) (gq tst) ?_
  refine dM (cH ?_)
  have ec2:ir [none] [val B,val (.tup (.str z::r)),val (.int t),val (.tup (rs.map Ru.pv))]=[un]:=rfl
  have q2:=j5 (m:=Ru.pv) (k:=0) (tt:=Jm) (te:=JY) (p:=Ru.xN) (g:=fun u=>.str u.Gp) (ρ:=[un]) rs [un] (fun _=>rfl) (fun u hu=>by
   obtain⟨w,q,e,hw⟩:=u.head
   rw[e]
   simp only[Jm,bu,ag,KH,dP,rZ,aI,t7,M.ft,Dk,hw]) (fun u hu hp=>by
   cases u<;>first|rfl|cases hp)
  show bR (eD [none] (fun ρ=>((fun ρ=>ae ρ 3) ρ).bind bc) (aP 0) Jm JY) [val B,val (.tup (.str z::r)),val (.int t),val (.tup (rs.map Ru.pv))]=_
  simp only[bR,eD,dP,eS,rZ,bc,ec2,Lq hlen]
  rw[q2]
  unfold vc
  rw[Lq c]
  simp only[rZ,tQ,List.map_map]
  rfl
 |false=>
  rw[c] at tst
  refine jD (Eq.trans (iQ tst) ?_)
  unfold vc
  rw[Lr (by rw[c];decide)]
  exact cH rfl
def yj (l:List PV) (t:Int) (ru:Str→List Ru) (S:List Str) (z:Str):Bool:=(ru z).all fun r=>r.hold (uy l t) (lE l t z) t (gX S)
def yh (f:List Str→Str→Bool) (names S:List Str):List Str:=names.filter (f S)
noncomputable def Iq (f:List Str→Str→Bool) (names:List Str):Nat→Option (List Str)→List Str→Option (List Str)
 |0,_,_=>none
 |k+1,b,cur=>if b=some cur then some cur else Iq f names k (some cur) (yh f names cur)
section
variable {f:List Str→Str→Bool} {names:List Str}
theorem AS (h: ∀ z∈names,p z=true→q z=true):(names.filter p).Sublist (names.filter q):=by
 have:names.filter p=(names.filter q).filter p:=by
  rw[List.filter_filter]
  apply List.filter_congr
  intro z hz
  cases c:p z with
  |false=>simp
  |true=>simp[h z hz c]
 rw[this]
 exact List.filter_sublist
theorem rG (mono: ∀ S S':List Str,(∀ x∈S,x∈S')→∀ z∈names,f S z=true→f S' z=true): ∀ (k:Nat) (b:Option (List Str)) (cur:List Str),(∃ p:Str→Bool,cur=names.filter p∧∀ z∈names,p z=true→f cur z=true)→(∀ B,b=some B→cur=yh f names B)→names.length+2≤cur.length+k→
  ∃ S,Iq f names k b cur=some S∧S=yh f names S∧∀ T:Str→Prop,(∀ z∈names,∀ S':List Str,(∀ x∈S',T x)→f S' z=true→T z)→(∀ x∈cur,T x)→∀ x∈S,T x
 |0,b,cur,⟨p,hp,_⟩,_,hk=>by
  have:cur.length≤names.length:=by rw[hp];exact List.length_filter_le ..
  lia
 |k+1,b,cur,⟨p,hp,hf⟩,hb,hk=>by
  unfold Iq
  by_cases c:b=some cur
  ·rw[Lq c]
   exact⟨cur,rfl,hb cur c,fun T _ hc=>hc⟩
  ·rw[Lr c]
   have sub:cur.Sublist (yh f names cur):=by
    unfold yh
    conv=>lhs;rw[hp]
    exact AS hf
   have up: ∀ z∈names,f cur z=true→f (yh f names cur) z=true:=mono _ _ fun x hx=>sub.subset hx
   have step: ∀ T:Str→Prop,(∀ z∈names,∀ S':List Str,(∀ x∈S',T x)→f S' z=true→T z)→(∀ x∈cur,T x)→∀ x∈yh f names cur,T x:=fun T hT hc x hx=>by
    obtain⟨h1,h2⟩:=Lo.mp hx
    exact hT x h1 cur hc h2
   by_cases ce:cur.length=(yh f names cur).length
   ·have e:cur=yh f names cur:=sub.eq_of_length ce
    cases k with
    |zero=>
     have:cur.length≤names.length:=by rw[hp];exact List.length_filter_le ..
     lia
    |succ k=>
     refine⟨yh f names cur,?_,?_,step⟩
     ·unfold Iq
      rw[Lq (by rw[←e])]
     ·rw[←e];exact e
   ·have hV:cur.length < (yh f names cur).length:=by have:=sub.length_le;lia
    obtain⟨S,h1,h2,h3⟩:=rG mono k (some cur) (yh f names cur) ⟨f cur,rfl,up⟩ (fun B hB=>by cases hB;rfl) (by lia)
    exact⟨S,h1,h2,fun T hT hc=>h3 T hT (step T hT hc)⟩
end
theorem AH (h: ∀ x∈S,x∈S') (ho:gX S o=true):gX S' o=true:=jg.mpr (h o (jg.mp ho))
theorem Ru.mono (h: ∀ o,i o=true→i' o=true) (r:Ru) (hr:r.hold rd lk t i=true):r.hold rd lk t i'=true:=by
 cases r with
 |yr o=>exact h o hr
 |_=>exact hr
theorem su (h: ∀ x∈S,x∈S') (z:Str) (hz:yj l t ru S z=true):yj l t ru S' z=true:=by
 unfold yj at hz ⊢
 exact List.all_eq_true.mpr fun r hr=>r.mono (fun o ho=>AH h ho) (List.all_eq_true.mp hz r hr)
theorem qx: ∀ {ws:List (Str×List PV)} {p:Str×List PV} {os:List Str},(ws.map (·.1)).Nodup→p∈ws→ot p=some os→sg (fj ot ws) p.1=os
 |w::ws,p,os,nd,hp,ho=>by
  rw[KI,List.nodup_cons] at nd
  rcases KJ.mp hp with rfl|hp
  ·unfold sg fj
   simp[ho]
  ·have dO:w.1≠p.1:=fun z=>nd.1 (z▸K9 hp)
   have ih:=qx (ot:=ot) nd.2 hp ho
   unfold sg fj at ih ⊢
   cases c:ot w with
   |none=>simp only[List.filterMap_cons,c,Option.map_none];exact ih
   |some os'=>
    simp only[List.filterMap_cons,c,Option.map_some,List.find?_cons,K3 dO]
    exact ih
theorem Dy:(∃ a∈fj ot ws,a.1=z)→∃ p∈ws,p.1=z∧∃ os,ot p=some os:=by
 rintro⟨a,ha,rfl⟩
 unfold fj at ha
 obtain⟨p,hp,e⟩:=List.mem_filterMap.mp ha
 obtain⟨os,ho,rfl⟩:=K2.mp e
 exact⟨p,hp,rfl,os,ho⟩
theorem C0 {ot:Str×List PV→Option (List Str)} {ws:List (Str×List PV)} {p:Str×List PV} {os:List Str} (hp:p∈ws) (ho:ot p=some os): ∃ a∈fj ot ws,a.1=p.1:=
 ⟨(p.1,os),List.mem_filterMap.mpr ⟨p,hp,by rw[ho];rfl⟩,rfl⟩
theorem Fg:(rs.all fun r=>r.hold rd lk t i)=true↔∃ os,vc (fun r=>r.hold rd lk t fun _=>false) rs=some os∧∀ o∈os,i o=true:=by
 have key: ∀ r:Ru,r.xN=false→r.hold rd lk t i=r.hold rd lk t fun _=>false:=fun r hr=>by
  cases r<;>first|rfl|cases hr
 unfold vc
 constructor
 ·intro h
  have h1:((rs.filter fun r=>!r.xN).all fun r=>r.hold rd lk t fun _=>false)=true:=List.all_eq_true.mpr fun r hr=>by
   obtain⟨h2,h3⟩:=Lo.mp hr
   rw[←key r (by simpa using h3)]
   exact List.all_eq_true.mp h r h2
  refine⟨_,by rw[Lq h1],fun o ho=>?_⟩
  obtain⟨r,hr,rfl⟩:=KN.mp ho
  obtain⟨h2,h3⟩:=Lo.mp hr
  have:=List.all_eq_true.mp h r h2
  cases r<;>first|exact this|cases h3
 ·rintro⟨os,h,ho⟩
  by_cases c:((rs.filter fun r=>!r.xN).all fun r=>r.hold rd lk t fun _=>false)=true
  ·rw[Lq c] at h
   cases h
   refine List.all_eq_true.mpr fun r hr=>?_
   cases cw:r.xN with
   |true=>
    have:=ho r.Gp (K9 (Lo.mpr ⟨hr,cw⟩))
    cases r<;>first|exact this|cases cw
   |false=>
    show r.hold rd lk t i=true
    rw[key r cw]
    exact List.all_eq_true.mp c r (Lo.mpr ⟨hr,by simp[cw]⟩)
  ·rw[Lr c] at h;cases h
section
variable {l:List PV} {ns:List Int} {t:Int} {ru:Str→List Ru} {hm dk:PV} {ws:List (Str×List PV)}
theorem xp (h:dB l ns) (hr:Reads l) (hu: ∀ z,(ru z).length≤1000) (hw:ws.length≤90) (nd:(ws.map (·.1)).Nodup)
  (hk: ∀ p∈ws,∃ kd q,p.2= .str kd::q∧((kd==("slope":Str))=false→lE l t p.1=none))
  (hru: ∀ z,cJ [.tup (aN l),.str z,.int t]= .ret (.tup ((ru z).map Ru.pv))){S:List Str} (hS:S=(ws.map (·.1)).filter (yj l t ru S)) (hT: ∀ T:Str→Prop,(∀ z∈ws.map (·.1),∀ S':List Str,(∀ x∈S',T x)→yj l t ru S' z=true→T z)→∀ x∈S,T x):
  aB [.tup [.tup (ws.map jP),hm,dk],.tup (aN l),.int t]= .ret (.tup (S.map PV.str)):=by
 obtain⟨ot,hot⟩: ∃ ot:Str×List PV→Option (List Str),ot=fun p=>vc (fun r=>r.hold (uy l t) (lE l t p.1) t fun _=>false) (ru p.1):=⟨_,rfl⟩
 have asked: ∀ p∈ws,aV [.tup (aN l),jP p,.int t]= .ret (tQ (ot p)):=fun p hp=>by
  obtain⟨kd,q,e,hs⟩:=hk p hp
  rw[hot]
  show aV [.tup (aN l),.tup (.str p.1::p.2),.int t]=_
  rw[e]
  exact vb (hu p.1) (hru p.1) fun u _ _=>By h hr hs u
 have hlen: ∀ a∈fj ot ws,a.2.length≤1000:=fun a ha=>by
  unfold fj at ha
  obtain⟨p,hp,e⟩:=List.mem_filterMap.mp ha
  obtain⟨os,ho,rfl⟩:=K2.mp e
  rw[hot] at ho
  unfold vc at ho
  dsimp only at ho ⊢
  split at ho
  ·cases ho
   rw[Kx]
   exact KZ (List.length_filter_le ..) (hu p.1)
  ·cases ho
 have hA:(fj ot ws).length≤90:=KZ (List.length_filterMap_le _ _) hw
 obtain⟨xs,_,hwh,hclo,hleast⟩:=xR hlen hA
 rw[CH asked nd hw hlen hwh]
 have okI: ∀ (p:Str×List PV) (S':List Str),yj l t ru S' p.1=true↔∃ os,ot p=some os∧∀ o∈os,o∈S':=fun p S'=>by
  unfold yj
  rw[Fg,hot]
  simp only[jg]
 have s1: ∀ x∈xs,x∈S:=hleast (·∈S) fun x hx ho=>by
  obtain⟨p,hp,rfl,os,e⟩:=Dy hx
  rw[qx nd hp e] at ho
  rw[hS]
  exact Lo.mpr ⟨K9 hp,(okI p S).mpr ⟨os,e,ho⟩⟩
 have s2: ∀ x∈S,x∈xs:=hT (·∈xs) fun z hz S' hS' bS=>by
  obtain⟨p,hp,rfl⟩:=KN.mp hz
  obtain⟨os,e,ho⟩:=(okI p S').mp bS
  exact hclo p.1 (C0 hp e) (by rw[qx nd hp e];exact fun o h'=>hS' o (ho o h'))
 have e:(ws.map (·.1)).filter (iq (oO xs))=S:=by
  conv=>rhs;rw[hS]
  apply List.filter_congr
  intro z hz
  rw[sR]
  have:z∈S↔yj l t ru S z=true:=by
   conv=>lhs;rw[hS]
   rw[Lo]
   exact⟨fun h=>h.2,fun h=>⟨hz,h⟩⟩
  cases c:yj l t ru S z with
  |true=>simp[s2 z (this.mpr c)]
  |false=>
   have:z∉xs:=fun h=>by have:=this.mp (s1 z h);rw[c] at this;cases this
   simp[this]
 rw[e]
end
theorem wb {mb:ak→M Fl} {Iv:Nat→ak→Prop}: ∀ (l:List PV) (i:Nat) (ρ:ak),Iv i ρ→(∀ j y,l[j]?=some y→∀ ρ,Iv (i+j) ρ→Gen (mb (ρ.set k (.val y))) c fun f=> ∃ ρ',f= .nx ρ'∧Iv (i+j+1) ρ')→Gen (dE (aP k) mb l ρ) (l.length * c) fun f=> ∃ ρ',f= .nx ρ'∧Iv (i+l.length) ρ'
 |[],i,ρ,h,_=>Gen.le (Gen.eq rfl ⟨ρ,rfl,h⟩) (K6 _)
 |y::l,i,ρ,h,hs=>by
  unfold dE
  simp only[aP,rZ]
  refine Gen.le (Gen.bind (hs 0 y rfl ρ h) (d:=l.length * c) ?_) (by rw[KO,Nat.add_mul];lia)
  rintro _ ⟨ρ',rfl,h'⟩
  have:=wb (k:=k) (mb:=mb) (c:=c) (Iv:=Iv) l (i+1) ρ' h' fun j z hj ρ hi=>by
   have e:i+1+j=i+(j+1):=by lia
   rw[e] at hi ⊢
   exact hs (j+1) z hj ρ hi
  have e:i+1+l.length=i+(y::l).length:=by simp only[KO];lia
  rw[e] at this
  exact this
def tV (h:PV) (ws:List (Str×List PV)) (ao:Int):Prop:= ∃ hm,h= .tup [.tup (ws.map fun p=>.tup (.str p.1::p.2)),hm,.int ao]∧0 < ws.length∧ws.length≤12∧(∀ p∈ws,Wd p.1∧∃ (k:Str) (r:List PV),p.2= .str k::r)∧1≤ao∧ao≤1000000∧(ws.map (·.1)).Nodup
theorem wa (H:tV h ws ao):aI h (.int 0)= .ret (.tup (ws.map fun p=>.tup (.str p.1::p.2)))∧aI h (.int 2)= .ret (.int ao):=by
 obtain⟨hm,rfl,_⟩:=H
 exact⟨rfl,rfl⟩
def tW (ws:List (Str×List PV)) (y:PV):Prop:=(∃ (n m:Int) (z:Str) (rs:List Ru),y= .tup [.str "rule",.int n,.int m,.str z,.tup (rs.map Ru.pv)]∧rs.length≤6)∨(∃ (n m:Int) (z:Str) (i:Int),y= .tup [.str "read",.int n,.int m,.str z,.int i])∨(∃ (n m:Int) (z:Str) (q:List PV),y= .tup [.str "look",.int n,.int m,.str z]∧(z,.str "slope"::q)∈ws)
def Ee (ws:List (Str×List PV)) (l:List PV) (ns:List Int):Prop:=dB l ns∧∀ y∈l,tW ws y
theorem BJ (e:PV.tup (.str a::r)= .tup (.str b::r')) (h:a≠b):False:=by
 injection e with e
 injection e with e
 injection e with e
 exact h e
theorem pF: ∀ {ws:List (Str×List PV)} {p q:Str×List PV},(ws.map (·.1)).Nodup→p∈ws→q∈ws→p.1=q.1→p=q
 |[],_,_,_,hp,_,_=>absurd hp KL
 |w::ws,p,q,nd,hp,hq,e=>by
  rw[KI,List.nodup_cons] at nd
  rcases KJ.mp hp with rfl|hp
  ·rcases KJ.mp hq with rfl|hq
   ·rfl
   ·exact absurd (e▸K9 hq) nd.1
  ·rcases KJ.mp hq with e2|hq
   ·rw[←e2,←e] at nd
    exact absurd (K9 hp) nd.1
   ·exact pF nd.2 hp hq e
noncomputable def Ru.dec:PV→Ru
 | .tup [.str _,.int a,.int b]=>.jy a b
 | .tup [.str w,.str p,.int n]=>.post (w==("least":Str)) p n
 | .tup [.str _,.int n]=>.looked n
 | .tup [.str _,.str o]=>.yr o
 |_=>.never
theorem FN (r:Ru):Ru.dec r.pv=r:=by
 cases r with
 |post b p n=>
  cases b with
  |true=>show Ru.post (("least":Str)==("least":Str)) p n=_;rw[show (("least":Str)==("least":Str))=true by decide +kernel]
  |false=>show Ru.post (("most":Str)==("least":Str)) p n=_;rw[show (("most":Str)==("least":Str))=false by decide +kernel]
 |_=>rfl
def h9:PV→List Ru
 | .tup [_,_,_,_,.tup vs]=>vs.map Ru.dec
 |_=>[]
theorem lA (a b c d:PV) (rs:List Ru):h9 (.tup [a,b,c,d,.tup (rs.map Ru.pv)])=rs:=by
 show (rs.map Ru.pv).map Ru.dec=rs
 rw[List.map_map]
 exact(List.map_congr_left fun r _=>FN r).trans (List.map_id rs)
theorem zf (hg:Ee ws l ns) (hl:l.length≤1000) (z:Str) (t:Int):
  (h9 (six l "rule" z t)).length≤6∧cJ [.tup (aN l),.str z,.int t]= .ret (.tup ((h9 (six l "rule" z t)).map Ru.pv)):=by
 have s1:=seen hg.1 "rule" z t
 have fin: ∀ v:PV,(∀ e0 e1 e2:Ent,BH (bu (ag (sO false) (fun ρ=>ae ρ 3) (fun _=>M.ret .aU))) (fun ρ=>((fun _=>M.ret []) ρ).bind aO) (ag aI (fun ρ=>ae ρ 3) (fun _=>M.ret (.int 4))) [e0,e1,e2,val (six l "rule" z t)]= .ret v)→cJ [.tup (aN l),.str z,.int t]= .ret v:=fun v hv=>by
  unfold cJ fC
  show (aE _ _ [val (.tup (aN l)),val (.str z),val (.int t),un]).bind dZ=_
  refine aK (ρ':=[val (.tup (aN l)),val (.str z),val (.int t),val (six l "rule" z t)]) ?_ (dM (cH (hv _ _ _)))
  simp only[bF,aa,dP,eS,rZ,s1]
  rfl
 rcases gy hg.1 "rule" z t with e|⟨hm,n,hp,hh⟩
 ·rw[e] at fin ⊢
  exact⟨by simp[h9],fin _ fun e0 e1 e2=>rfl⟩
 ·obtain⟨z',m,r,e,_⟩:=pH hp hh
  rcases hg.2 _ hm with⟨n',m',z'',rs,e',hr⟩|⟨n',m',z'',i,e'⟩|⟨n',m',z'',q,e',_⟩
  ·rw[e'] at fin ⊢
   rw[lA]
   exact⟨hr,fin _ fun e0 e1 e2=>rfl⟩
  ·rw[e] at e';exact(BJ e' (by decide +kernel)).elim
  ·rw[e] at e';exact(BJ e' (by decide +kernel)).elim
def oE (l:List PV) (t:Int):List Str→Str→Bool:=yj l t fun z=>h9 (six l "rule" z t)
def ye (h:PV) (ws:List (Str×List PV)) (l:List PV) (t:Int) (S:List Str):Prop:=
 aB [h,.tup (aN l),.int t]= .ret (.tup (S.map PV.str))∧S=(ws.map (·.1)).filter (oE l t S)∧
  ∀ T:Str→Prop,(∀ z∈ws.map (·.1),∀ S':List Str,(∀ x∈S',T x)→oE l t S' z=true→T z)→∀ x∈S,T x
theorem zi (hg:Ee ws l ns):Reads l:=fun n m z v hv=>by
 rcases hg.2 _ hv with⟨n',m',z'',rs,e',hr⟩|⟨n',m',z'',i,e'⟩|⟨n',m',z'',q,e',_⟩
 ·exact(BJ e' (by decide +kernel)).elim
 ·refine⟨i,?_⟩
  simp at e'
  exact e'.2.2.2
 ·exact(BJ e' (by decide +kernel)).elim
theorem CI (H:tV h ws ao) (hg:Ee ws l ns) (hl:l.length < 64) (t:Int): ∃ S,ye h ws l t S:=by
 obtain⟨hm,rfl,w0,w1,hw,d0,d1,nd⟩:=H
 have rp:=fun z=>zf hg (by lia) z t
 have hk: ∀ p∈ws,∃ kd q,p.2= .str kd::q∧((kd==("slope":Str))=false→lE l t p.1=none):=fun p hp=>by
  obtain⟨_,kd,q,e⟩:=hw p hp
  refine⟨kd,q,e,fun hk=>?_⟩
  unfold lE
  rcases gy hg.1 "look" p.1 t with e'|⟨hm,n,hpt,hh⟩
  ·rw[e']
  ·exfalso
   obtain⟨z',m,r,e1,_⟩:=pH hpt hh
   have hz:z'=p.1:=by
    rw[e1] at hh
    simp[hit] at hh
    exact hh.1
   rcases hg.2 _ hm with⟨n',m',z'',rs,e2,hr⟩|⟨n',m',z'',i,e2⟩|⟨n',m',z'',q',e2,hs⟩
   ·rw[e1] at e2;exact(BJ e2 (by decide +kernel)).elim
   ·rw[e1] at e2;exact(BJ e2 (by decide +kernel)).elim
   ·rw[e1] at e2
    simp at e2
    have hz2:z''=p.1:=by rw[←e2.2.2.1];exact hz
    rw[hz2] at hs
    have this:=congrArg Prod.snd (pF nd hs hp rfl)
    rw[e] at this
    simp at this
    rw[←this.1] at hk
    exact absurd hk (by decide +kernel)
 obtain⟨S,_,hS,h3⟩:=rG (f:=oE l t) (names:=ws.map (·.1)) (fun S S' hs z _ hz=>su hs z hz) 1000 none [] ⟨fun _=>false,by simp,fun z _ hz=>by cases hz⟩ (fun B hB=>by cases hB) (by simp;lia)
 have hT: ∀ T:Str→Prop,(∀ z∈ws.map (·.1),∀ S':List Str,(∀ x∈S',T x)→oE l t S' z=true→T z)→∀ x∈S,T x:=fun T hT=>h3 T hT fun x hx=>absurd hx KL
 exact⟨S,xp (hm:=hm) (dk:=.int ao) hg.1 (zi hg) (fun z=>KZ (rp z).1 (by decide)) (by lia) nd hk (fun z=>(rp z).2) hS hT,hS,hT⟩
theorem xq (e:oE l t=oE l m) (h1:ye h ws l t S) (h2:ye h ws l m S'):S=S':=by
 obtain⟨_,a1,a2⟩:=h1
 obtain⟨_,b1,b2⟩:=h2
 rw[e] at a1 a2
 have mono: ∀ (A B:List Str),(∀ x∈A,x∈B)→∀ z,oE l m A z=true→oE l m B z=true:=fun A B hs z hz=>su hs z hz
 have half: ∀ {A B:List Str},(∀ T:Str→Prop,(∀ z∈ws.map (·.1),∀ S':List Str,(∀ x∈S',T x)→oE l m S' z=true→T z)→∀ x∈A,T x)→B=(ws.map (·.1)).filter (oE l m B)→∀ x∈A,x∈B:=fun {A B} hA hB x hx=>by
  refine hA (·∈B) (fun z hz S'' hs bS=>?_) x hx
  rw[hB]
  exact Lo.mpr ⟨hz,mono _ _ hs z bS⟩
 have i1:=half a2 b1
 have i2:=half b2 a1
 rw[a1,b1]
 refine List.filter_congr fun z hz=>?_
 have c1:z∈S↔oE l m S z=true:=by
  conv=>lhs;rw[a1]
  rw[Lo]
  exact⟨fun h=>h.2,fun h=>⟨hz,h⟩⟩
 have c2:z∈S'↔oE l m S' z=true:=by
  conv=>lhs;rw[b1]
  rw[Lo]
  exact⟨fun h=>h.2,fun h=>⟨hz,h⟩⟩
 have c3:z∈S↔z∈S':=⟨i1 z,i2 z⟩
 rw[←Bool.coe_iff_coe]
 exact c1.symm.trans (c3.trans c2)
structure Calm (l:List PV) (m t:Int):Prop where
 le:m≤t
 pg: ∀ (w:Str) (n p:Int) (z:Str) (r:List PV),PV.tup (.str w::.int n::.int p::.str z::r)∈l→p≤t→p≤m
 hr: ∀ (n p:Int) (z:Str) (rs:List Ru) (a b:Int),PV.tup [.str "rule",.int n,.int p,.str z,.tup (rs.map Ru.pv)]∈l→Ru.jy a b∈rs→(a≤t→a≤m)∧(b≤t→b≤m)
 lk: ∀ (n p:Int) (z:Str) (rs:List Ru) (k n' p':Int),PV.tup [.str "rule",.int n,.int p,.str z,.tup (rs.map Ru.pv)]∈l→Ru.looked k∈rs→PV.tup [.str "look",.int n',.int p',.str z]∈l→p'+k≤t→p'+k≤m
theorem y9 (h:dB l ns) (c:Calm l m t) (w z:Str):six l w z t=six l w z m:=by
 have e:l.filter (hit w z t)=l.filter (hit w z m):=List.filter_congr fun y hy=>by
  obtain⟨n,⟨w',z',p,r,rfl,_⟩,_⟩:=h.at hy
  show (w'==w&&(z'==z&&decide (p≤t)))=(w'==w&&(z'==z&&decide (p≤m)))
  have:(p≤t)↔(p≤m):=⟨fun q=>c.pg w' n p z' r hy q,fun q=>Int.le_trans q c.le⟩
  rw[decide_eq_decide.mpr this]
 unfold six
 rw[e]
theorem Ad (hg:Ee ws l ns) (c:Calm l m t):oE l t=oE l m:=by
 have e6:=y9 hg.1 c
 have e1:uy l t=uy l m:=funext fun p=>by unfold uy;rw[e6]
 have e2: ∀ z,lE l t z=lE l m z:=fun z=>by unfold lE;rw[e6]
 funext S z
 unfold oE yj
 dsimp only
 rw[e6,e1,e2]
 rw[Bool.eq_iff_iff,List.all_eq_true,List.all_eq_true]
 have one: ∀ r∈h9 (six l "rule" z m),r.hold (uy l m) (lE l m z) t (gX S)=r.hold (uy l m) (lE l m z) m (gX S):=fun r hr=>by
  rcases gy hg.1 "rule" z m with e|⟨hm,n,hp,hh⟩
  ·rw[e] at hr;exact absurd hr KL
  ·obtain⟨z',p,q,e,_⟩:=pH hp hh
   have ez:z'=z:=by
    rw[e] at hh
    simp[hit] at hh
    exact hh.1
   rcases hg.2 _ hm with⟨n',m',z'',rs,e',_⟩|⟨n',m',z'',i,e'⟩|⟨n',m',z'',q,e',_⟩
   rotate_left
   ·rw[e] at e';exact(BJ e' (by decide +kernel)).elim
   ·rw[e] at e';exact(BJ e' (by decide +kernel)).elim
   have ez2:z''=z:=by
    rw[e] at e'
    simp at e'
    rw[←e'.2.2.1];exact ez
   rw[e'] at hr hm
   rw[lA] at hr
   rw[ez2] at hm
   cases r with
   |jy a b=>
    obtain⟨h1,h2⟩:=c.hr _ _ _ _ a b hm hr
    have:=c.le
    show (decide (a≤t)&&decide (t < b))=(decide (a≤m)&&decide (m < b))
    rw[decide_eq_decide.mpr (⟨h1,fun q=>Int.le_trans q this⟩:a≤t↔a≤m),decide_eq_decide.mpr (⟨fun q=>by lia,fun q=>by lia⟩:t < b↔m < b)]
   |post L p k=>rfl
   |looked k=>
    rcases gy hg.1 "look" z m with e4|⟨hm4,n4,hp4,hh4⟩
    ·have:lE l m z=none:=by unfold lE;rw[e4]
     rw[this];rfl
    ·obtain⟨z4,p4,q4,e5,hk⟩:=pH hp4 hh4
     have ez4:z4=z:=by
      rw[e5] at hh4
      simp[hit] at hh4
      exact hh4.1
     have:lE l m z=some p4:=by unfold lE;rw[e5]
     rw[this]
     rcases hg.2 _ hm4 with⟨n',m',z'',rs,e',_⟩|⟨n',m',z'',i,e'⟩|⟨n',m',z'',q,e',_⟩
     ·rw[e5] at e';exact(BJ e' (by decide +kernel)).elim
     ·rw[e5] at e';exact(BJ e' (by decide +kernel)).elim
     ·rw[e5] at e'
      simp at e'
      rw[e5,e'.2.2.2,ez4] at hm4
      have q1:=c.lk _ _ _ _ k _ p4 hm hr hm4
      have:=c.le
      show decide (t < p4+k)=decide (m < p4+k)
      exact decide_eq_decide.mpr ⟨fun q=>by lia,fun q=>by lia⟩
   |yr o=>rfl
   |never=>rfl
 exact⟨fun h r hr=>by rw[←one r hr];exact h r hr,fun h r hr=>by rw[one r hr];exact h r hr⟩
def ph:PV→Int
 | .tup (_::_::.int p::_)=>p
 |_=>0
def nameOf:PV→Str
 | .tup (_::_::_::.str z::_)=>z
 |_=>""
def gN (z:Str):PV→Bool
 | .tup (.str w::_::_::.str z'::_)=>w==("look":Str)&&z'==z
 |_=>false
def jJ:PV→Bool
 | .tup (.str w::_)=>w==("rule":Str)
 |_=>false
def fQ (B:List PV) (z:Str):Ru→List Int
 | .jy a b=>[a,b]
 | .looked n=>(B.filter (gN z)).map fun y=>ph y+n
 |_=>[]
def bC (B:List PV) (y:PV):List Int:=ph y::(if jJ y=true then(h9 y).flatMap (fQ B (nameOf y)) else[])
theorem ur (hB: ∀ y∈B,∃ n,gH n y) (hl:B.length≤1000) (r:Ru):bq [.tup B,.str z,r.pv]= .ret (.lst ((fQ B z r).map PV.int)):=by
 have look: ∀ {v:PV} {w:Str},aI v (.int 0)= .ret (.str w)→∀ (x:Str) (ρ:ak),ae ρ 2= .ret v→bu (ag (gs false) (ag aI (fun ρ=>ae ρ 2) (fun _=>M.ret (.int 0))) (fun _=>M.ret (.str x))) ρ= .ret (w==x):=fun {v w} hv x ρ hρ=>by
  simp only[bu,ag,hρ,rZ,hv,Dk]
 have no: ∀ {v:PV} {w:Str},aI v (.int 0)= .ret (.str w)→(w==("hours":Str))=false→(w==("looked":Str))=false→bq [.tup B,.str z,v]= .ret (.lst []):=fun {v w} hv h1 h2=>by
  unfold bq cN
  show (aE _ _ [val (.tup B),val (.str z),val v]).bind dZ=_
  refine aK (ρ':=[val (.tup B),val (.str z),val v]) (gq (by rw[look hv _ _ rfl,h1])) ?_
  refine aK (ρ':=[val (.tup B),val (.str z),val v]) (gq (by rw[look hv _ _ rfl,h2])) ?_
  exact dM (cH rfl)
 cases r with
 |jy a b=>
  unfold bq cN
  show (aE _ _ [val (.tup B),val (.str z),val (.tup [.str "hours",.int a,.int b])]).bind dZ=_
  refine jD ?_
  rw[iQ rfl]
  exact cH rfl
 |looked n=>
  unfold bq cN
  show (aE _ _ [val (.tup B),val (.str z),val (.tup [.str "looked",.int n])]).bind dZ=_
  refine aK (ρ':=[val (.tup B),val (.str z),val (.tup [.str "looked",.int n])]) rfl ?_
  refine jD ?_
  rw[iQ rfl]
  refine cH ?_
  have ec:ir [none,some 2,some 1] (List.map Ent.freeze [val (.tup B),val (.str z),val (.tup [.str "looked",.int n])])=[un,val (.tup [.str "looked",.int n]),val (.str z)]:=rfl
  unfold bR eD
  rw[ec]
  have q:=gc (k:=0) (tt:=fF (bu (ag (gs false) (ag aI (fun ρ=>ae ρ 0) (fun _=>M.ret (.int 0))) (fun _=>M.ret (.str "look")))) (bu (ag (gs false) (ag aI (fun ρ=>ae ρ 0) (fun _=>M.ret (.int 3))) (fun ρ=>ae ρ 2)))) (te:=ag dJ (ag aI (fun ρ=>ae ρ 0) (fun _=>M.ret (.int 2))) (ag aI (fun ρ=>ae ρ 1) (fun _=>M.ret (.int 1)))) (p:=gN z) (f:=fun y=>.int (ph y+n)) (ρ:=[un,val (.tup [.str "looked",.int n]),val (.str z)]) B [un,val (.tup [.str "looked",.int n]),val (.str z)] (fun _=>rfl) (fun y hy=>by
   obtain⟨i,w,z',m,r,rfl,_⟩:=hB y hy
   show _=M.ret (w==("look":Str)&&z'==z)
   simp only[fF,bu,ag,KH,dP,eS,rZ,aI,t7,Ia,M.ft,Dk]
   cases w==("look":Str)<;>rfl) (fun y hy _=>by
   obtain⟨i,w,z',m,r,rfl,_⟩:=hB y hy
   simp only[ag,KH,dP,eS,rZ,aI,Br,Bt,M.ft]
   rfl)
  simp only[KI,List.map_nil,Ent.freeze,dP,rZ,bc]
  rw[Lq (by lia),q,rZ]
  show M.ret (PV.lst _)=M.ret (PV.lst (((B.filter (gN z)).map fun y=>ph y+n).map PV.int))
  rw[List.map_map]
  rfl
 |post L p n=>
  cases L with
  |true=>exact no (v:=Ru.pv (.post true p n)) rfl (by decide +kernel) (by decide +kernel)
  |false=>exact no (v:=Ru.pv (.post false p n)) rfl (by decide +kernel) (by decide +kernel)
 |yr o=>exact no (v:=Ru.pv (.yr o)) rfl (by decide +kernel) (by decide +kernel)
 |never=>exact no (v:=Ru.pv .never) rfl (by decide +kernel) (by decide +kernel)
theorem kG (r:Ru):(fQ B z r).length≤B.length+2:=by
 cases r with
 |jy a b=>simp[fQ]
 |looked n=>
  show ((B.filter (gN z)).map _).length≤_
  rw[Kx]
  have:=List.length_filter_le (gN z) B
  lia
 |_=>simp[fQ]
noncomputable def Ir:ak→M Fl:=(xU 2 (fun ρ=>((aa (fun ρ=>ae ρ 1) (aa (ag aI (fun ρ=>ae ρ 3) (fun _=>M.ret (.int 3))) (aa (fun ρ=>ae ρ 4) (fun _=>M.ret [])))) ρ).bind bq))
noncomputable def Gh:ak→M Fl:=(aE (d8 2 (ag aI (fun ρ=>ae ρ 3) (fun _=>M.ret (.int 2))))
  (fS (bu (ag (gs false) (ag aI (fun ρ=>ae ρ 3) (fun _=>M.ret (.int 0))) (fun _=>M.ret (.str "rule"))))
  (bx (fun ρ=>((ag aI (fun ρ=>ae ρ 3) (fun _=>M.ret (.int 4))) ρ).bind bc) (aP 4)
  (xU 2 (fun ρ=>((aa (fun ρ=>ae ρ 1) (aa (ag aI (fun ρ=>ae ρ 3) (fun _=>M.ret (.int 3))) (aa (fun ρ=>ae ρ 4) (fun _=>M.ret [])))) ρ).bind bq)))
  (fun ρ=>M.ret (.nx ρ))))
section
variable {h:PV} {B:List PV}
theorem rJ (hB: ∀ y∈B,∃ n,gH n y) (hl:B.length≤100) (hy:aI y (.int 3)= .ret (.str z)): ∀ (rs:List Ru) (xs:List Int) (e4:Ent),xs.length+rs.length * (B.length+2)≤90000→
  ∃ e4',dE (aP 4) Ir (rs.map Ru.pv) [val h,val (.tup B),Ent.own (xs.map PV.int),val y,e4]= .ret (.nx [val h,val (.tup B),Ent.own ((xs++rs.flatMap (fQ B z)).map PV.int),val y,e4'])
 |[],xs,e4,_=>⟨e4,by simp[dE]⟩
 |r::rs,xs,e4,hz=>by
  have rl:=kG (B:=B) (z:=z) r
  simp only[KO,Nat.add_mul,Nat.one_mul] at hz
  obtain⟨e4',ih⟩:=rJ hB hl hy rs (xs++fQ B z r) (val r.pv) (by rw[K4];lia)
  refine⟨e4',?_⟩
  rw[KI]
  unfold dE
  have st:Ir [val h,val (.tup B),Ent.own (xs.map PV.int),val y,val r.pv]= .ret (.nx [val h,val (.tup B),Ent.own ((xs++fQ B z r).map PV.int),val y,val r.pv]):=by
   unfold Ir xU
   have hc:(xs.map PV.int).length+((fQ B z r).map PV.int).length≤100000:=by rw[Kx,Kx];lia
   simp only[KQ,KR,aa,ag,dP,eS,rZ,hy,ur hB (by lia:B.length≤1000),Hz,Lq hc,List.map_append]
   rfl
  simp only[aP,rZ,Lj,KH,st]
  rw[ih,List.flatMap_cons,List.append_assoc]
theorem Er (hB: ∀ y∈B,∃ n,gH n y) (hl:B.length≤100) (hy:tW ws y) (e4:Ent) (hz:xs.length+1+6 * (B.length+2)≤80000):
  ∃ e4',Gh [val h,val (.tup B),Ent.own (xs.map PV.int),val y,e4]= .ret (.nx [val h,val (.tup B),Ent.own ((xs++bC B y).map PV.int),val y,e4']):=by
 have app: ∀ {w:Str} {n m:Int} {z:Str} {r:List PV},d8 2 (ag aI (fun ρ=>ae ρ 3) (fun _=>M.ret (.int 2))) [val h,val (.tup B),Ent.own (xs.map PV.int),val (.tup (.str w::.int n::.int m::.str z::r)),e4]= .ret (.nx [val h,val (.tup B),Ent.own ((xs++[m]).map PV.int),val (.tup (.str w::.int n::.int m::.str z::r)),e4]):=fun {w n m z r}=>by
  have hc:(xs.map PV.int).length < 100000:=by rw[Kx];lia
  unfold d8
  simp only[KQ,KR,ag,dP,eS,rZ,aI,Br,M.ft,Lq hc,List.map_append]
  rfl
 have tst: ∀ {w:Str} {r:List PV} {e0 e1 e2 e3:Ent},bu (ag (gs false) (ag aI (fun ρ=>ae ρ 3) (fun _=>M.ret (.int 0))) (fun _=>M.ret (.str "rule"))) [e0,e1,e2,val (.tup (.str w::r)),e3]= .ret (w==("rule":Str)):=fun {w r e0 e1 e2 e3}=>by
  simp only[bu,ag,dP,eS,rZ,aI,t7,M.ft,Dk]
 have other: ∀ {w:Str} {n m:Int} {z:Str} {r:List PV},(w==("rule":Str))=false→Gh [val h,val (.tup B),Ent.own (xs.map PV.int),val (.tup (.str w::.int n::.int m::.str z::r)),e4]= .ret (.nx [val h,val (.tup B),Ent.own ((xs++bC B (.tup (.str w::.int n::.int m::.str z::r))).map PV.int),val (.tup (.str w::.int n::.int m::.str z::r)),e4]):=fun {w n m z r} hw=>by
  have ep:bC B (.tup (.str w::.int n::.int m::.str z::r))=[m]:=by
   show m::(if(w==("rule":Str))=true then _ else[])=_
   rw[hw];rfl
  rw[ep]
  unfold Gh aE
  rw[app,rZ]
  show fS _ _ _ _=_
  rw[gq (by rw[tst,hw])]
 rcases hy with⟨n,m,z,rs,rfl,hr⟩|⟨n,m,z,i,rfl⟩|⟨n,m,z,q,rfl,_⟩
 ·obtain⟨e4',lp⟩:=rJ (h:=h) hB hl (y:=.tup [.str "rule",.int n,.int m,.str z,.tup (rs.map Ru.pv)]) (z:=z) rfl rs (xs++[m]) e4 (by
   rw[K4,List.length_singleton]
   have:rs.length * (B.length+2)≤6 * (B.length+2):=Nat.mul_le_mul_right _ hr
   lia)
  refine⟨e4',?_⟩
  have ep:bC B (.tup [.str "rule",.int n,.int m,.str z,.tup (rs.map Ru.pv)])=[m]++rs.flatMap (fQ B z):=by
   show m::(if(("rule":Str)==("rule":Str))=true then(h9 _).flatMap (fQ B z) else[])=_
   rw[lA,Lq (by decide +kernel)]
   rfl
  rw[ep,←List.append_assoc]
  unfold Gh aE
  rw[app,rZ]
  show fS _ _ _ _=_
  rw[iQ (by rw[tst];exact congrArg M.ret (by decide +kernel))]
  show bx _ (aP 4) Ir _=_
  unfold bx
  simp only[ag,dP,eS,rZ,aI,JP,M.ft,bc]
  exact lp
 ·exact⟨e4,other (by decide +kernel)⟩
 ·exact⟨e4,other (by decide +kernel)⟩
theorem vm (hB: ∀ y∈B,∃ n,gH n y) (hl:B.length≤100): ∀ (C:List PV) (xs:List Int) (e3 e4:Ent),(∀ y∈C,tW ws y)→xs.length+C.length * (1+6 * (B.length+2))≤80000→
  ∃ e3' e4',dE (aP 3) Gh C [val h,val (.tup B),Ent.own (xs.map PV.int),e3,e4]= .ret (.nx [val h,val (.tup B),Ent.own ((xs++C.flatMap (bC B)).map PV.int),e3',e4'])
 |[],xs,e3,e4,_,_=>⟨e3,e4,by simp[dE]⟩
 |y::C,xs,e3,e4,hC,hz=>by
  have pl:(bC B y).length≤1+6 * (B.length+2):=by
   have fm: ∀ rs:List Ru,(rs.flatMap (fQ B (nameOf y))).length≤rs.length * (B.length+2):=fun rs=>by
    induction rs with
    |nil=>simp
    |cons r rs ih=>
     rw[List.flatMap_cons,K4,KO,Nat.add_mul]
     have:=kG (B:=B) (z:=nameOf y) r
     lia
   unfold bC
   rw[KO]
   by_cases c:jJ y=true
   ·rw[Lq c]
    have f1:=fm (h9 y)
    have:(h9 y).length≤6:=by
     rcases hC y Kw with⟨n,m,z,rs,rfl,hr⟩|⟨n,m,z,i,rfl⟩|⟨n,m,z,q,rfl,_⟩
     ·rw[lA];exact hr
     ·simp[h9]
     ·simp[h9]
    have:(h9 y).length * (B.length+2)≤6 * (B.length+2):=Nat.mul_le_mul_right _ this
    lia
   ·rw[Lr c];simp
  simp only[KO,Nat.add_mul,Nat.one_mul] at hz
  obtain⟨x4,st⟩:=Er (h:=h) (xs:=xs) hB hl (hC y Kw) e4 (by lia)
  obtain⟨e3',e4',ih⟩:=vm hB hl C (xs++bC B y) (val y) x4 (fun z hz=>hC z (Kz _ hz)) (by rw[K4];lia)
  refine⟨e3',e4',?_⟩
  unfold dE
  simp only[aP,rZ,Lj,KH,st]
  rw[ih,List.flatMap_cons,List.append_assoc]
end
theorem pj: ∀ is:List Int,mZ (is.map Sum.inl)=some is
 |[]=>rfl
 |i::is=>by
  show (mZ (is.map Sum.inl)).map (i:: ·)=_
  rw[pj is]
  rfl
theorem qW: ∀ (xs js:List Int),∃ is:List Int,(xs.map PV.int).foldl (fun ks z=>if qO ks (keyOf z)=true then ks else ks++[keyOf z]) (js.map Sum.inl)=is.map Sum.inl∧∀ i,i∈is↔i∈js∨i∈xs
 |[],js=>⟨js,rfl,fun i=>by simp⟩
 |x::xs,js=>by
  rw[KI,List.foldl_cons]
  have mem:qO (js.map Sum.inl) (keyOf (.int x))=true↔x∈js:=by
   show (List.any (js.map Sum.inl) fun k'=>decide (k'=Sum.inl x))=true↔_
   rw[List.any_eq_true]
   constructor
   ·rintro⟨k,hk,e⟩
    obtain⟨j,hj,rfl⟩:=KN.mp hk
    have:=of_decide_eq_true e
    cases this
    exact hj
   ·exact fun hx=>⟨Sum.inl x,K9 hx,by simp⟩
  by_cases c:x∈js
  ·rw[Lq (mem.mpr c)]
   obtain⟨is,e,hi⟩:=qW xs js
   refine⟨is,e,fun i=>?_⟩
   rw[hi,KJ]
   constructor
   ·rintro(h|h)
    ·exact .inl h
    ·exact .inr (.inr h)
   ·rintro(h|rfl|h)
    ·exact .inl h
    ·exact .inl c
    ·exact .inr h
  ·rw[Lr (fun h=>c (mem.mp h))]
   have ej:js.map Sum.inl++[keyOf (.int x)]=(js++[x]).map (Sum.inl:Int→Key):=by rw[List.map_append];rfl
   rw[ej]
   obtain⟨is,e,hi⟩:=qW xs (js++[x])
   refine⟨is,e,fun i=>?_⟩
   rw[hi,Lp,K7,KJ]
   constructor
   ·rintro((h|h)|h)
    ·exact .inl h
    ·exact .inr (.inl h)
    ·exact .inr (.inr h)
   ·rintro(h|h|h)
    ·exact .inl (.inl h)
    ·exact .inl (.inr h)
    ·exact .inr h
theorem yF (H:tV h ws ao) (hg:Ee ws l ns) (hl:l.length≤14) (hd:(0::(aN l).flatMap (bC (aN l))).length < 64):
  ∃ τ:List Int,gJ [h,.tup (aN l)]= .ret (.lst (τ.map PV.int))∧τ.Pairwise (· < ·)∧∀ i,i∈τ↔(0≤i∧i≤ao)∧i∈0::(aN l).flatMap (bC (aN l)):=by
 obtain⟨h0,h2⟩:=wa H
 have pm:=dG l
 have hB: ∀ y∈aN l,∃ n,gH n y:=fun y hy=>(hg.1.at (pm.mem_iff.mp hy)).imp fun n hn=>hn.1
 have hG: ∀ y∈aN l,tW ws y:=fun y hy=>hg.2 y (pm.mem_iff.mp hy)
 have hlB:(aN l).length≤14:=by rw[pm.length_eq];exact hl
 obtain⟨B,eB⟩: ∃ B,B=aN l:=⟨_,rfl⟩
 rw[←eB] at hB hG hlB hd ⊢
 have lenb:B.length * (1+6 * (B.length+2))≤14 * (1+6 * (14+2)):=Nat.mul_le_mul hlB (by lia)
 obtain⟨e3,e4,lp⟩:=vm (h:=h) (ws:=ws) hB (by lia) B [0] un un hG (by simp only[List.length_singleton];lia)
 have flen: ∀ C:List PV,(∀ y∈C,tW ws y)→(C.flatMap (bC B)).length≤C.length * (1+6 * (B.length+2)):=fun C=>by
  induction C with
  |nil=>simp
  |cons y C ih=>
   intro hC
   have i1:=ih fun z hz=>hC z (Kz _ hz)
   have fm: ∀ rs:List Ru,(rs.flatMap (fQ B (nameOf y))).length≤rs.length * (B.length+2):=fun rs=>by
    induction rs with
    |nil=>simp
    |cons r rs ih=>
     rw[List.flatMap_cons,K4,KO,Nat.add_mul]
     have:=kG (B:=B) (z:=nameOf y) r
     lia
   rw[List.flatMap_cons,K4,KO,Nat.add_mul,Nat.one_mul]
   have:(bC B y).length≤1+6 * (B.length+2):=by
    unfold bC
    rw[KO]
    by_cases c:jJ y=true
    ·rw[Lq c]
     have f1:=fm (h9 y)
     have:(h9 y).length≤6:=by
      rcases hC y Kw with⟨n,m,z,rs,rfl,hr⟩|⟨n,m,z,i,rfl⟩|⟨n,m,z,q,rfl,_⟩
      ·rw[lA];exact hr
      ·simp[h9]
      ·simp[h9]
     have:(h9 y).length * (B.length+2)≤6 * (B.length+2):=Nat.mul_le_mul_right _ this
     lia
    ·rw[Lr c];simp
   lia
 have fl:=flen B hG
 obtain⟨xs,exs⟩: ∃ xs,xs=0::B.flatMap (bC B):=⟨_,rfl⟩
 have exs':[0]++B.flatMap (bC B)=xs:=by rw[exs];rfl
 have xl:xs.length≤4000:=by rw[exs,KO];lia
 rw[exs'] at lp
 rw[←exs] at hd ⊢
 obtain⟨is,ei,mi⟩:=qW (xs.filter fun i=>decide (0≤i)&&decide (i≤ao)) []
 have ei':dk ((xs.filter fun i=>decide (0≤i)&&decide (i≤ao)).map PV.int)=is.map Sum.inl:=ei
 have nd:is.Nodup:=by
  have:=tf ((xs.filter fun i=>decide (0≤i)&&decide (i≤ao)).map PV.int)
  rw[ei'] at this
  exact List.Pairwise.of_map Sum.inl (fun a b h z=>h (by rw[z])) this
 have mem: ∀ i,i∈is↔(0≤i∧i≤ao)∧i∈xs:=fun i=>by
  rw[mi i]
  simp only[KL,false_or,Lo,Lf,decide_eq_true_eq]
  exact⟨fun q=>⟨q.2,q.1⟩,fun q=>⟨q.2,q.1⟩⟩
 have few:is.length < 64:=Nat.lt_of_le_of_lt (sub_len is xs nd fun i hi=>((mem i).mp hi).2) hd
 have srt:sortI ((xs.filter fun i=>decide (0≤i)&&decide (i≤ao)).map PV.int)= .ret ((iK is).map PV.int):=by
  unfold sortI
  rw[ei',pj]
  show (if is.length < 64 then M.ret _ else M.fail)=_
  rw[Lq (by lia)]
 refine⟨iK is,?_,?_,fun i=>?_⟩
 ·unfold gJ jc
  show (aE _ _ [val h,val (.tup B),un,un,un]).bind dZ=_
  refine aK (ρ':=[val h,val (.tup B),Ent.own ([0].map PV.int),un,un]) rfl ?_
  refine aK (ρ':=[val h,val (.tup B),Ent.own (xs.map PV.int),e3,e4]) ?_ ?_
  ·show bx _ (aP 3) Gh _=_
   unfold bx
   simp only[dP,eS,rZ,bc]
   exact lp
  ·refine dM (cH ?_)
   have ec:ir [none,some 0] (List.map Ent.freeze [val h,val (.tup B),Ent.own (xs.map PV.int),e3,e4])=[un,val h]:=rfl
   unfold bR Ag
   dsimp only
   rw[ec]
   have q:=gc (k:=0) (tt:=bu (chain gp gp (fun _=>M.ret (.int 0)) (fun ρ=>ae ρ 0) (ag aI (fun ρ=>ae ρ 1) (fun _=>M.ret (.int 2))))) (te:=fun ρ=>(ae ρ 0).bind Dd) (p:=fun y=>match y with| .int i=>decide (0≤i)&&decide (i≤ao)|_=>false) (f:=fun y=>y) (ρ:=[un,val h]) (xs.map PV.int) [un,val h] (fun _=>rfl) (fun y hy=>by
    obtain⟨i,_,rfl⟩:=KN.mp hy
    show _=M.ret (decide (0≤i)&&decide (i≤ao))
    simp only[bu,chain,ag,KH,dP,eS,rZ,h2,gp]
    by_cases c:(0:Int)≤i
    ·simp[c]
    ·simp[c]) (fun y hy _=>by
    obtain⟨i,_,rfl⟩:=KN.mp hy
    rfl)
   have eg:ae (List.map Ent.freeze [val h,val (.tup B),Ent.own (xs.map PV.int),e3,e4]) 2= .ret (.lst (xs.map PV.int)):=rfl
   rw[eg]
   simp only[rZ,bc]
   rw[Lq (by rw[Kx];exact xl),q,rZ,List.map_id',List.filter_map]
   have ef:((fun y=>match y with|PV.int i=>decide (0≤i)&&decide (i≤ao)|_=>false)∘PV.int)=fun i:Int=>decide (0≤i)&&decide (i≤ao):=rfl
   rw[ef,srt]
   rfl
 ·have nds:(iK is).Nodup:=(hZ is).nodup_iff.mpr nd
  have le:=mD is
  exact(le.and nds).imp fun cy=>by obtain⟨a,b⟩:=cy;lia
 ·rw[(hZ is).mem_iff,mem]
theorem Dr {ao:Int} (hg:Ee ws l ns) {τ:List Int} (hτ: ∀ i,i∈τ↔(0≤i∧i≤ao)∧i∈0::(aN l).flatMap (bC (aN l))) {m t:Int} (m0:0≤m) (hmt:m≤t) (ht:t≤ao) (hlast: ∀ i∈τ,i≤t→i≤m):Calm l m t:=by
 have pm:=dG l
 have key: ∀ (y:PV) (i:Int),y∈l→i∈bC (aN l) y→i≤t→i≤m:=fun y i hy hi hit=>by
  by_cases c:0≤i
  ·exact hlast i ((hτ i).mpr ⟨⟨c,by lia⟩,Kz _ (List.mem_flatMap.mpr ⟨y,pm.mem_iff.mpr hy,hi⟩)⟩) hit
  ·lia
 have rl: ∀ (n p:Int) (z:Str) (rs:List Ru) (r:Ru) (i:Int),PV.tup [.str "rule",.int n,.int p,.str z,.tup (rs.map Ru.pv)]∈l→r∈rs→i∈fQ (aN l) z r→i≤t→i≤m:=fun n p z rs r i hy hr hi=>by
  refine key _ i hy ?_
  show i∈p::(if(("rule":Str)==("rule":Str))=true then(h9 _).flatMap (fQ (aN l) z) else[])
  rw[lA,Lq (by decide +kernel)]
  exact Kz _ (List.mem_flatMap.mpr ⟨r,hr,hi⟩)
 refine⟨hmt,fun w n p z r hy=>key _ p hy Kw,fun n p z rs a b hy hr=>⟨rl _ _ _ _ _ a hy hr Kw,rl _ _ _ _ _ b hy hr (Kz _ Kw)⟩,fun n p z rs k n' p' hy hr hy'=>rl _ _ _ _ _ _ hy hr ?_⟩
 refine KN.mpr ⟨.tup [.str "look",.int n',.int p',.str z],Lo.mpr ⟨pm.mem_iff.mpr hy',?_⟩,rfl⟩
 show (("look":Str)==("look":Str)&&z==z)=true
 rw[show (("look":Str)==("look":Str))=true by decide +kernel]
 simp
abbrev fk:=List (Int×Int)
def aw (p:Int×Int):PV:=.tup [.int p.1,.int p.2]
noncomputable def BF (g:Int→Bool) (acc:fk) (t:Int):fk:=
 if g t=true then(match acc.getLast? with|some p=>if p.2=t then acc.dropLast++[(p.1,t+1)] else acc++[(t,t+1)]|none=>acc++[(t,t+1)]) else acc
def runN (g:Int→Bool):Nat→fk
 |0=>[]
 |n+1=>BF g (runN g n) n
theorem B4 (h:g t=false):BF g acc t=acc:=by unfold BF;rw[h];rfl
theorem B6 (h:g t=true):BF g (acc++[(x,t)]) t=acc++[(x,t+1)]:=by
 unfold BF
 rw[Lq h]
 simp
theorem B5 (h:g t=true) (hl: ∀ p,acc.getLast?=some p→p.2≠t):BF g acc t=acc++[(t,t+1)]:=by
 unfold BF
 rw[Lq h]
 cases e:acc.getLast? with
 |none=>rfl
 |some p=>dsimp only;rw[Lr (hl p e)]
theorem lS {g:Int→Bool} {a:Nat}: ∀ k:Nat,(∀ t:Int,a≤t→t < a+k→g t=false)→runN g (a+k)=runN g a
 |0,_=>rfl
 |k+1,h=>by
  show BF g (runN g (a+k)) ((a+k:Nat):Int)=_
  rw[B4 (h _ (by lia) (by lia)),lS k fun t h1 h2=>h t h1 (by lia)]
theorem qo (e:runN g a=acc++[(x,(a:Int))]): ∀ k:Nat,(∀ t:Int,a≤t→t < a+k→g t=true)→runN g (a+k)=acc++[(x,((a+k:Nat):Int))]
 |0,_=>e
 |k+1,h=>by
  show BF g (runN g (a+k)) ((a+k:Nat):Int)=_
  rw[qo e k fun t h1 h2=>h t h1 (by lia),B6 (h _ (by lia) (by lia))]
  rfl
theorem vB (e:runN g a=acc) (hl: ∀ p,acc.getLast?=some p→p.2≠(a:Int)) (k:Nat) (h: ∀ t:Int,a≤t→t < a+(k+1:Nat)→g t=true):runN g (a+(k+1))=acc++[((a:Int),((a+(k+1):Nat):Int))]:=by
 have e1:runN g (a+1)=acc++[((a:Int),((a+1:Nat):Int))]:=by
  show BF g (runN g a) a=_
  rw[e,B5 (h _ (Int.le_refl _) (by lia)) hl]
  rfl
 have:=qo e1 k fun t h1 h2=>h t (by lia) (by lia)
 rw[show a+1+k=a+(k+1) by lia] at this
 exact this
def yU (g:Int→Bool) (m:Int) (s:fk×Option Int):fk×Option Int:=if g m=true then(s.1,some (s.2.getD m)) else(s.1++s.2.toList.map fun x=>(x,m),none)
def DL (g:Int→Bool):List Int→fk×Option Int→fk×Option Int
 |[],s=>s
 |m::r,s=>DL g r (yU g m s)
def JW (ao:Int) (s:fk×Option Int):fk:=s.1++s.2.toList.map fun x=>(x,ao+1)
def IT (g:Int→Bool) (m:Int) (s:fk×Option Int):Prop:=runN g m.toNat=s.1++(s.2.toList.map fun x=>(x,m))∧(s.2=none→∀ p,s.1.getLast?=some p→p.2 < m)
theorem wH (m0:0≤m) (hmn:m < n) (hc: ∀ t,m≤t→t < n→g t=g m) (h:IT g m s):IT g n (yU g m s):=by
 obtain⟨acc,b⟩:=s
 obtain⟨h1,h2⟩:=h
 obtain⟨a,rfl⟩: ∃ a:Nat,m=a:=⟨m.toNat,by lia⟩
 obtain⟨k,rfl⟩: ∃ k:Nat,n=((a+(k+1):Nat):Int):=⟨(n - a - 1).toNat,by lia⟩
 have ea:((a:Nat):Int).toNat=a:=by lia
 have en:(((a+(k+1):Nat):Int)).toNat=a+(k+1):=by lia
 rw[ea] at h1
 dsimp only at h1 h2
 unfold IT yU
 rw[en]
 cases c:g a with
 |true=>
  have hc': ∀ t:Int,a≤t→t < a+(k+1:Nat)→g t=true:=fun t q1 q2=>by rw[hc t q1 (by lia),c]
  rw[Lq rfl]
  refine⟨?_,fun z=>by cases z⟩
  cases b with
  |none=>
   have:=vB (acc:=acc) (h1.trans (by simp)) (fun p hp=>by have:=h2 rfl p hp;lia) k hc'
   rw[this]
   rfl
  |some x=>exact qo h1 (k+1) hc'
 |false=>
  have hc': ∀ t:Int,a≤t→t < a+(k+1:Nat)→g t=false:=fun t q1 q2=>by rw[hc t q1 (by lia),c]
  rw[Lr (by simp),lS (k+1) hc',h1]
  refine⟨by simp,fun _ p hp=>?_⟩
  cases b with
  |none=>
   have:=h2 rfl p (by simpa using hp)
   lia
  |some x=>
   have:p=(x,(a:Int)):=by
    simp at hp
    exact hp.symm
   rw[this]
   show (a:Int) < _
   lia
theorem vv: ∀ (r:List Int) (m:Int) (s:fk×Option Int),(m::r).Pairwise (· < ·)→(∀ i∈m::r,0≤i∧i≤ao)→(∀ i∈m::r,∀ t,i≤t→t≤ao→(∀ j∈m::r,j≤t→j≤i)→g t=g i)→IT g m s→JW ao (DL g (m::r) s)=runN g (ao+1).toNat
 |[],m,s,_,hb,hc,h=>by
  have b:=hb m Kw
  have:=wH (n:=ao+1) b.1 (by lia) (fun t q1 q2=>hc m Kw t q1 (by lia) fun j hj _=>by
   rw[K7] at hj
   lia) h
  exact this.1.symm
 |n::r,m,s,pw,hb,hc,h=>by
  obtain⟨p1,p2⟩:=Lu.mp pw
  have hmn:=p1 n Kw
  have b:=hb m Kw
  have bn:=hb n (Kz _ Kw)
  have step:=wH (n:=n) b.1 hmn (fun t q1 q2=>hc m Kw t q1 (by lia) fun j hj hjt=>by
   rcases KJ.mp hj with rfl|hj
   ·lia
   ·rcases KJ.mp hj with rfl|hj
    ·lia
    ·have:=(Lu.mp p2).1 j hj
     lia) h
  refine vv r n (yU g m s) p2 (fun i hi=>hb i (Kz _ hi)) (fun i hi t q1 q2 q3=>hc i (Kz _ hi) t q1 q2 fun j hj hjt=>?_) step
  rcases KJ.mp hj with rfl|hj
  ·have:=p1 i hi
   lia
  ·exact q3 j hj hjt
theorem qN (x:Str) (zs:List Str) (b:Bool):nc b (.str x) (.tup (zs.map PV.str))= .ret (.bl (xor b (gX zs x))):=sQ x zs b
def HZ:Option Int→PV
 |none=>.aU
 |some x=>.int x
noncomputable def IA:ak→M Fl:=(aE (fS (fF (bu (ag (nc false) (fun ρ=>ae ρ 1) (fun ρ=>ae ρ 6))) (bu (ag (sO false) (fun ρ=>ae ρ 4) (fun _=>M.ret .aU))))
  (bF 4 (fun ρ=>ae ρ 5))
  (fun ρ=>M.ret (.nx ρ)))
  (fS (fF (bu (ag (nc true) (fun ρ=>ae ρ 1) (fun ρ=>ae ρ 6))) (bu (ag (sO true) (fun ρ=>ae ρ 4) (fun _=>M.ret .aU))))
  (aE (d8 3 (fun ρ=>((aa (fun ρ=>ae ρ 4) (aa (fun ρ=>ae ρ 5) (fun _=>M.ret []))) ρ).bind aO))
  (bF 4 (fun _=>M.ret .aU)))
  (fun ρ=>M.ret (.nx ρ))))
abbrev E7 (P:PV) (w:Str) (ao:Int) (s:fk×Option Int) (e5 e6:Ent):ak:=[val P,val (.str w),val (.int ao),Ent.own (s.1.map aw),val (HZ s.2),e5,e6]
theorem ED (hg:g m=gX S w) (s:fk×Option Int) (hz:s.1.length < 90000):IA (E7 P w ao s (val (.int m)) (val (.tup (S.map PV.str))))= .ret (.nx (E7 P w ao (yU g m s) (val (.int m)) (val (.tup (S.map PV.str))))):=by
 obtain⟨acc,b⟩:=s
 have hc:(acc.map aw).length < 100000:=by rw[Kx];dsimp only at hz;lia
 unfold IA aE yU
 rw[hg]
 have t1: ∀ (q:Bool) (y:PV) (e0 e2 e3 e5:Ent),fF (bu (ag (nc q) (fun ρ=>ae ρ 1) (fun ρ=>ae ρ 6))) (bu (ag (sO q) (fun ρ=>ae ρ 4) (fun _=>M.ret .aU))) [e0,val (.str w),e2,e3,val y,e5,val (.tup (S.map PV.str))]=if xor q (gX S w)=true then bu (ag (sO q) (fun ρ=>ae ρ 4) (fun _=>M.ret .aU)) [e0,val (.str w),e2,e3,val y,e5,val (.tup (S.map PV.str))] else .ret false:=fun q y e0 e2 e3 e5=>by
  unfold fF
  have:bu (ag (nc q) (fun ρ=>ae ρ 1) (fun ρ=>ae ρ 6)) [e0,val (.str w),e2,e3,val y,e5,val (.tup (S.map PV.str))]= .ret (xor q (gX S w)):=by
   simp only[bu,ag,dP,eS,rZ,qN]
  rw[this,rZ]
 cases c:gX S w with
 |true=>
  cases b with
  |none=>
   rw[iQ (by rw[t1,c];rfl)]
   show (M.ret (Fl.nx (E7 P w ao (acc,some m) (val (.int m)) (val (.tup (S.map PV.str)))))).bind _=_
   rw[rZ]
   show fS _ _ _ _=_
   rw[gq (by rw[t1,c];rfl)]
   rfl
  |some x=>
   rw[gq (by rw[t1,c];rfl)]
   rw[rZ]
   show fS _ _ _ _=_
   rw[gq (by rw[t1,c];rfl)]
   rfl
 |false=>
  cases b with
  |none=>
   rw[gq (by rw[t1,c];rfl)]
   rw[rZ]
   show fS _ _ _ _=_
   rw[gq (by rw[t1,c];rfl)]
   simp
  |some x=>
   rw[gq (by rw[t1,c];rfl)]
   rw[rZ]
   show fS _ _ _ _=_
   rw[iQ (by rw[t1,c];rfl)]
   unfold d8
   simp only[KQ,KR,aa,dP,eS,rZ,HZ,oF,Lq hc,Lk,if_false]
   simp[bF,E7,HZ,aw]
theorem vt (g:Int→Bool) (m:Int) (s:fk×Option Int):(yU g m s).1.length≤s.1.length+1:=by
 unfold yU
 split
 ·simp
 ·cases s.2<;>simp
theorem vw {g:Int→Bool} {f:Int→List Str} (hg: ∀ m,g m=gX (f m) w): ∀ (τ:List Int) (s:fk×Option Int) (e5 e6:Ent),s.1.length+τ.length < 90000→
  ∃ e5' e6',dE (dS [5,6]) IA (τ.map fun m=>.tup [.int m,.tup ((f m).map PV.str)]) (E7 P w ao s e5 e6)= .ret (.nx (E7 P w ao (DL g τ s) e5' e6'))
 |[],s,e5,e6,_=>⟨e5,e6,rfl⟩
 |m::τ,s,e5,e6,hz=>by
  have sl:=vt g m s
  simp only[KO] at hz
  obtain⟨e5',e6',ih⟩:=vw hg τ (yU g m s) (val (.int m)) (val (.tup ((f m).map PV.str))) (by lia)
  refine⟨e5',e6',?_⟩
  rw[KI]
  unfold dE
  have eb:dS [5,6] (.tup [.int m,.tup ((f m).map PV.str)]) (E7 P w ao s e5 e6)= .ret (E7 P w ao s (val (.int m)) (val (.tup ((f m).map PV.str)))):=rfl
  rw[eb,rZ,ED (hg m) s (by lia),rZ]
  exact ih
theorem wN {g:Int→Bool} {f:Int→List Str} (hg: ∀ m,g m=gX (f m) w) {τ:List Int} (hz:τ.length < 80000):cj [.lst (τ.map fun m=>.tup [.int m,.tup ((f m).map PV.str)]),.str w,.int ao]= .ret (.tup ((JW ao (DL g τ ([],none))).map aw)):=by
 obtain⟨P,eP⟩: ∃ P,P=PV.lst (τ.map fun m=>.tup [.int m,.tup ((f m).map PV.str)]):=⟨_,rfl⟩
 obtain⟨e5,e6,lp⟩:=vw (P:=P) (w:=w) (ao:=ao) hg τ ([],none) un un (by simp;lia)
 have wl: ∀ (τ:List Int) (s:fk×Option Int),(DL g τ s).1.length≤s.1.length+τ.length:=fun τ=>by
  induction τ with
  |nil=>exact fun s=>KG _
  |cons m τ ih=>
   intro s
   have h1:=ih (yU g m s)
   have h2:=vt g m s
   show (DL g τ (yU g m s)).1.length≤_
   simp only[KO]
   lia
 have wl':=wl τ ([],none)
 rw[←eP]
 unfold cj cX
 show (aE _ _ [val P,val (.str w),val (.int ao),un,un,un,un]).bind dZ=_
 refine aK (ρ':=[val P,val (.str w),val (.int ao),Ent.own [],un,un,un]) rfl ?_
 refine aK (ρ':=E7 P w ao ([],none) un un) rfl ?_
 refine aK (ρ':=E7 P w ao (DL g τ ([],none)) e5 e6) ?_ ?_
 ·show bx _ (dS [5,6]) IA _=_
  unfold bx
  simp only[dP,rZ]
  rw[eP] at lp ⊢
  simp only[bc,rZ]
  exact lp
 generalize DL g τ ([],none)=s at wl' ⊢
 obtain⟨acc,b⟩:=s
 have hc:(acc.map aw).length < 100000:=by
  rw[Kx]
  simp at wl'
  lia
 cases b with
 |none=>
  refine aK (ρ':=E7 P w ao (acc,none) e5 e6) (gq rfl) ?_
  refine dM (cH ?_)
  show _=M.ret (PV.tup ((acc++[]).map aw))
  rw[List.append_nil]
  rfl
 |some x=>
  refine aK (ρ':=E7 P w ao (acc++[(x,ao+1)],some x) e5 e6) ?_ ?_
  ·rw[iQ rfl]
   have ea:dJ (.int ao) (.int 1)= .ret (.int (ao+1)):=rfl
   unfold d8
   simp only[KQ,KR,aa,ag,dP,eS,rZ,HZ,ea,oF,Lq hc]
   simp[E7,HZ,aw]
  ·exact dM (cH rfl)
def IQ:Int→fk→Prop
 |_,[]=>True
 |lo,p::ps=>lo≤p.1∧p.1 < p.2∧IQ (p.2+1) ps
def ub (ps:fk) (t:Int):Prop:= ∃ p∈ps,p.1≤t∧t < p.2
theorem Be: ∀ {ps:fk} {lo:Int},IQ lo ps→∀ p∈ps,lo≤p.1
 |[],_,_,p,h=>absurd h KL
 |q::ps,lo,hc,p,h=>by
  rcases KJ.mp h with rfl|h
  ·exact hc.1
  ·have:=Be hc.2.2 p h
   have:=hc.1
   have:=hc.2.1
   lia
theorem vC {N:Nat}: ∀ (ps:fk) (a:Nat) (lo:Int) (acc:fk),IQ lo ps→(a:Int)≤lo→runN g a=acc→(∀ p,acc.getLast?=some p→p.2 < lo∧p.2≤a)→(∀ p∈ps,p.2≤N)→a≤N→(∀ t:Int,a≤t→t < N→(g t=true↔ub ps t))→runN g N=acc++ps
 |[],a,lo,acc,hc,hal,e,hl,hp,ha,hg=>by
  obtain⟨k,rfl⟩:=Nat.exists_eq_add_of_le ha
  rw[lS k fun t h1 h2=>?_,e,List.append_nil]
  cases c:g t with
  |false=>rfl
  |true=>
   obtain⟨p,hp,_⟩:=(hg t h1 (by lia)).mp c
   exact absurd hp KL
 |p::ps,a,lo,acc,hc,hal,e,hl,hp,ha,hg=>by
  obtain⟨c1,c2,c3⟩:=hc
  have pN:=hp p Kw
  have x0:0≤p.1:=by lia
  obtain⟨x,ex⟩: ∃ x:Nat,(x:Int)=p.1:=⟨p.1.toNat,Int.toNat_of_nonneg x0⟩
  obtain⟨k,ek⟩: ∃ k:Nat,x=a+k:=⟨x - a,by lia⟩
  obtain⟨j,ej⟩: ∃ j:Nat,p.2=((x+(j+1):Nat):Int):=⟨(p.2 - p.1 - 1).toNat,by lia⟩
  have ge:=Be c3
  have e1:runN g x=acc:=by
   rw[ek,lS k fun t h1 h2=>?_,e]
   cases c:g t with
   |false=>rfl
   |true=>
    obtain⟨q,hq,q1,q2⟩:=(hg t h1 (by lia)).mp c
    rcases KJ.mp hq with rfl|hq
    ·lia
    ·have:=ge q hq;lia
  have e2:=vB (g:=g) (a:=x) e1 (fun q hq=>by have:=(hl q hq).1;lia) j fun t h1 h2=>(hg t (by lia) (by lia)).mpr ⟨p,Kw,by lia,by lia⟩
  have e3:runN g (x+(j+1))=acc++[p]:=by
   rw[e2,←ej,ex]
  have:=vC ps (x+(j+1)) (p.2+1) (acc++[p]) c3 (by lia) e3 (fun q hq=>by
   rw[List.getLast?_append] at hq
   have:p=q:=by simpa using hq
   rw[←this]
   lia) (fun q hq=>hp q (Kz _ hq)) (by lia) fun t h1 h2=>by
    rw[hg t (by lia) h2]
    constructor
    ·rintro⟨q,hq,q1,q2⟩
     rcases KJ.mp hq with rfl|hq
     ·lia
     ·exact⟨q,hq,q1,q2⟩
    ·rintro⟨q,hq,q1,q2⟩
     exact⟨q,Kz _ hq,q1,q2⟩
  rw[this,List.append_assoc]
  rfl
noncomputable def n9 (acc:fk) (p:Int×Int):fk:=match acc.getLast? with
 |some q=>if p.1≤q.2 then acc.dropLast++[(q.1,max q.2 p.2)] else if p.1 < p.2 then acc++[p] else acc
 |none=>if p.1 < p.2 then acc++[p] else acc
def tX (acc:fk):Prop:=acc.Pairwise (fun p q=>p.2 < q.1)∧∀ p∈acc,p.1 < p.2
theorem Fx (h:tX acc) (hr:r.1 < r.2) (hs: ∀ p∈acc,p.1≤r.1):tX (n9 acc r)∧(∀ t,ub (n9 acc r) t↔ub acc t∨(r.1≤t∧t < r.2))∧(∀ p∈n9 acc r,p.1≤r.1∧(p.1=r.1∨∃ q∈acc,q.1=p.1)∧(p.2=r.2∨∃ q∈acc,q.2=p.2)):=by
 have single: ∀ t,ub [r] t↔(r.1≤t∧t < r.2):=fun t=>⟨fun cy=>by obtain⟨p,hp,h1⟩:=cy;rw[K7.mp hp] at h1;exact h1,fun h1=>⟨r,K7.mpr rfl,h1⟩⟩
 have app: ∀ (a b:fk) (t:Int),ub (a++b) t↔ub a t∨ub b t:=fun a b t=>by
  constructor
  ·rintro⟨p,hp,h1⟩
   rcases Lp.mp hp with hp|hp
   ·exact .inl ⟨p,hp,h1⟩
   ·exact .inr ⟨p,hp,h1⟩
  ·rintro(⟨p,hp,h1⟩|⟨p,hp,h1⟩)
   ·exact⟨p,List.mem_append_left _ hp,h1⟩
   ·exact⟨p,KW _ hp,h1⟩
 have snoc:(∀ p∈acc,p.2 < r.1)→tX (acc++[r]):=fun hb=>⟨List.pairwise_append.mpr ⟨h.1,List.pairwise_singleton _ _,fun p hp q hq=>by rw[K7.mp hq];exact hb p hp⟩,fun p hp=>by
  rcases Lp.mp hp with hp|hp
  ·exact h.2 p hp
  ·rw[K7.mp hp];exact hr⟩
 have new:(∀ p∈acc++[r],p.1≤r.1∧(p.1=r.1∨∃ q∈acc,q.1=p.1)∧(p.2=r.2∨∃ q∈acc,q.2=p.2)):=fun p hp=>by
  rcases Lp.mp hp with hp|hp
  ·exact⟨hs p hp,.inr ⟨p,hp,rfl⟩,.inr ⟨p,hp,rfl⟩⟩
  ·rw[K7.mp hp];exact⟨Int.le_refl _,.inl rfl,.inl rfl⟩
 unfold n9
 cases e:acc.getLast? with
 |none=>
  have ea:acc=[]:=List.getLast?_eq_none_iff.mp e
  dsimp only
  rw[Lq hr]
  exact⟨snoc (by rw[ea];exact fun p hp=>absurd hp KL),fun t=>(app _ _ t).trans (or_congr Iff.rfl (single t)),new⟩
 |some q=>
  dsimp only
  have dO:acc≠[]:=fun z=>by rw[z] at e;cases e
  have eq:acc=acc.dropLast++[q]:=by
   have:=List.dropLast_concat_getLast dO
   rw[List.getLast?_eq_some_getLast dO] at e
   rw[←Lv e]
   exact this.symm
  have hq:q∈acc:=by rw[eq];exact KW _ (K7.mpr rfl)
  have pw:acc.dropLast.Pairwise (fun p q=>p.2 < q.1)∧∀ p∈acc.dropLast,p.2 < q.1:=by
   have:=h.1
   rw[eq] at this
   have:=List.pairwise_append.mp this
   exact⟨this.1,fun p hp=>this.2.2 p hp q (K7.mpr rfl)⟩
  have qs:=hs q hq
  have ql:=h.2 q hq
  by_cases c:r.1≤q.2
  ·rw[Lq c]
   have dl: ∀ p∈acc.dropLast,p∈acc:=fun p hp=>by rw[eq];exact List.mem_append_left _ hp
   have mm:max q.2 r.2=q.2∨max q.2 r.2=r.2:=by lia
   refine⟨⟨List.pairwise_append.mpr ⟨pw.1,List.pairwise_singleton _ _,fun p hp x hx=>by rw[K7.mp hx];exact pw.2 p hp⟩,fun p hp=>?_⟩,fun t=>?_,fun p hp=>?_⟩
   ·rcases Lp.mp hp with hp|hp
    ·exact h.2 p (dl p hp)
    ·rw[K7.mp hp]
     show q.1 < max q.2 r.2
     lia
   ·have s1:ub [(q.1,max q.2 r.2)] t↔ub [q] t∨(r.1≤t∧t < r.2):=by
     constructor
     ·rintro⟨p,hp,h1,h2⟩
      rw[K7.mp hp] at h1 h2
      have h1':q.1≤t:=h1
      have h2':t < max q.2 r.2:=h2
      by_cases d:t < q.2
      ·exact .inl ⟨q,K7.mpr rfl,h1',d⟩
      ·exact .inr ⟨by lia,by lia⟩
     ·rintro(⟨p,hp,h1,h2⟩|⟨h1,h2⟩)
      ·rw[K7.mp hp] at h1 h2
       refine⟨_,K7.mpr rfl,h1,?_⟩
       show t < max q.2 r.2
       lia
      ·refine⟨_,K7.mpr rfl,?_,?_⟩
       ·show q.1≤t
        lia
       ·show t < max q.2 r.2
        lia
    rw[app,s1]
    conv=>rhs;rw[eq]
    rw[app]
    exact or_assoc.symm
   ·rcases Lp.mp hp with hp|hp
    ·exact⟨hs p (dl p hp),.inr ⟨p,dl p hp,rfl⟩,.inr ⟨p,dl p hp,rfl⟩⟩
    ·rw[K7.mp hp]
     refine⟨qs,.inr ⟨q,hq,rfl⟩,?_⟩
     rcases mm with mm|mm
     ·exact .inr ⟨q,hq,mm.symm⟩
     ·exact .inl mm
  ·rw[Lr c,Lq hr]
   refine⟨snoc fun p hp=>?_,fun t=>(app _ _ t).trans (or_congr Iff.rfl (single t)),new⟩
   rw[eq] at hp
   rcases Lp.mp hp with hp|hp
   ·have:=pw.2 p hp;lia
   ·rw[K7.mp hp];lia
theorem AA: ∀ (rs acc:fk),tX acc→(∀ r∈rs,r.1 < r.2)→rs.Pairwise (fun p q=>p.1≤q.1)→(∀ r∈rs,∀ p∈acc,p.1≤r.1)→
  tX (rs.foldl n9 acc)∧(∀ t,ub (rs.foldl n9 acc) t↔ub acc t∨ub rs t)∧(∀ p∈rs.foldl n9 acc,(∃ q∈acc++rs,q.1=p.1)∧∃ q∈acc++rs,q.2=p.2)
 |[],acc,h,_,_,_=>⟨h,fun t=>⟨.inl,fun z=>z.elim id fun ⟨p,hp,_⟩=>absurd hp KL⟩,fun p hp=>⟨⟨p,by rw[List.append_nil];exact hp,rfl⟩,p,by rw[List.append_nil];exact hp,rfl⟩⟩
 |r::rs,acc,h,hr,pw,hs=>by
  rw[Lu] at pw
  obtain⟨a1,a2,a3⟩:=Fx h (hr r Kw) (hs r Kw)
  obtain⟨b1,b2,b3⟩:=AA rs (n9 acc r) a1 (fun x hx=>hr x (Kz _ hx)) pw.2 (fun x hx p hp=>Int.le_trans (a3 p hp).1 (pw.1 x hx))
  have up1: ∀ q∈n9 acc r++rs,∃ x∈acc++r::rs,x.1=q.1:=fun q hq=>by
   rcases Lp.mp hq with hq|hq
   ·rcases(a3 q hq).2.1 with e|⟨x,hx,e⟩
    ·exact⟨r,KW _ Kw,e.symm⟩
    ·exact⟨x,List.mem_append_left _ hx,e⟩
   ·exact⟨q,KW _ (Kz _ hq),rfl⟩
  have up2: ∀ q∈n9 acc r++rs,∃ x∈acc++r::rs,x.2=q.2:=fun q hq=>by
   rcases Lp.mp hq with hq|hq
   ·rcases(a3 q hq).2.2 with e|⟨x,hx,e⟩
    ·exact⟨r,KW _ Kw,e.symm⟩
    ·exact⟨x,List.mem_append_left _ hx,e⟩
   ·exact⟨q,KW _ (Kz _ hq),rfl⟩
  refine⟨b1,fun t=>?_,fun p hp=>?_⟩
  ·rw[List.foldl_cons,b2 t,a2 t]
   constructor
   ·rintro((z|z)|⟨p,hp,z⟩)
    ·exact .inl z
    ·exact .inr ⟨r,Kw,z⟩
    ·exact .inr ⟨p,Kz _ hp,z⟩
   ·rintro(z|⟨p,hp,z⟩)
    ·exact .inl (.inl z)
    ·rcases KJ.mp hp with rfl|hp
     ·exact .inl (.inr z)
     ·exact .inr ⟨p,hp,z⟩
  ·obtain⟨⟨q,hq,e1⟩,q',hq',e2⟩:=b3 p hp
   obtain⟨x,hx,f1⟩:=up1 q hq
   obtain⟨y,hy,f2⟩:=up2 q' hq'
   exact⟨⟨x,hx,f1.trans e1⟩,y,hy,f2.trans e2⟩
theorem Bc: ∀ {ps:fk} {lo:Int},tX ps→(∀ p∈ps,lo≤p.1)→IQ lo ps
 |[],_,_,_=>trivial
 |p::ps,lo,h,hl=>by
  have pw:=Lu.mp h.1
  exact⟨hl p Kw,h.2 p Kw,Bc ⟨pw.2,fun q hq=>h.2 q (Kz _ hq)⟩ fun q hq=>by have:=pw.1 q hq;lia⟩
noncomputable def IC:ak→M Fl:=(fS (fF (bu (ag (gs true) (fun ρ=>cA ρ 1) (bR (fun ρ=>((fun _=>M.ret []) ρ).bind cf)))) (bu (ag gp (fun ρ=>ae ρ 2) (ag aI (ag aI (fun ρ=>cA ρ 1) (fun ρ=>((fun _=>M.ret (.int 1)) ρ).bind ij)) (fun _=>M.ret (.int 1))))))
  (o5 1 (fun ρ=>((fun _=>M.ret (.int 1)) ρ).bind ij) (fun ρ=>((aa (ag aI (ag aI (fun ρ=>cA ρ 1) (fun ρ=>((fun _=>M.ret (.int 1)) ρ).bind ij)) (fun _=>M.ret (.int 0))) (aa (fun ρ=>((aa (ag aI (ag aI (fun ρ=>cA ρ 1) (fun ρ=>((fun _=>M.ret (.int 1)) ρ).bind ij)) (fun _=>M.ret (.int 1))) (aa (fun ρ=>ae ρ 3) (fun _=>M.ret []))) ρ).bind iC) (fun _=>M.ret []))) ρ).bind aO))
  (fS (bu (ag xE (fun ρ=>ae ρ 2) (fun ρ=>ae ρ 3)))
  (d8 1 (fun ρ=>((aa (fun ρ=>ae ρ 2) (aa (fun ρ=>ae ρ 3) (fun _=>M.ret []))) ρ).bind aO))
  (fun ρ=>M.ret (.nx ρ))))
abbrev J4 (L:PV) (acc:fk) (e2 e3:Ent):ak:=[val L,Ent.own (acc.map aw),e2,e3]
theorem vU {acc:fk} (e:acc.getLast?=some q):aI (.lst (acc.map aw)) (.int (-1))= .ret (aw q):=by
 have h0:0 < acc.length:=List.length_pos_iff.mpr fun z=>by rw[z] at e;cases e
 have e1:qM (acc.map aw).length (-1)=some (acc.length - 1):=by
  unfold qM
  rw[Lr (by decide),Kx,Lq (by lia)]
  congr 1
  lia
 have e2:(acc.map aw)[acc.length - 1]?=some (aw q):=by
  rw[KY]
  rw[List.getLast?_eq_getElem?] at e
  rw[e]
  rfl
 show M.ft (ji (acc.map aw) (-1))=_
 unfold ji
 rw[e1]
 show M.ft ((acc.map aw)[acc.length - 1]?)=_
 rw[e2]
 rfl
theorem zU (q:Int×Int):aI (aw q) (.int 0)= .ret (.int q.1):=rfl
theorem qv (q:Int×Int):aI (aw q) (.int 1)= .ret (.int q.2):=rfl
theorem aQ (ha:a ρ= .ret y) (hb:b ρ= .ret z) (h:f y z= .ret v):ag f a b ρ= .ret v:=by
 unfold ag
 rw[ha,rZ,hb,rZ,h]
theorem aA (h:a ρ= .ret y) (h':b ρ= .ret l):aa a b ρ= .ret (y::l):=by
 unfold aa
 rw[h,rZ,h']
 rfl
theorem vf (h:ρ[k]?=some (.own l)) (hm:m ρ= .ret y) (hl:l.length < 100000):d8 k m ρ= .ret (.nx (ρ.set k (.own (l++[y])))):=by
 unfold d8
 rw[h]
 dsimp only
 rw[hm,rZ,Lq hl]
theorem Cc (h:ρ[k]?=some (.own l)) (hv:mv ρ= .ret y) (hi:mi ρ= .ret (.int i)) (hj:qM l.length i=some j):o5 k mi mv ρ= .ret (.nx (ρ.set k (.own (l.set j y)))):=by
 unfold o5
 rw[hv,rZ,h]
 dsimp only
 rw[hi,rZ]
 show (M.ft (qM l.length i)).bind _=_
 rw[hj]
 rfl
theorem J1 (a b:Int):gp (.int a) (.int b)= .ret (.bl (decide (a≤b))):=rfl
theorem ltI (a b:Int):xE (.int a) (.int b)= .ret (.bl (decide (a < b))):=rfl
theorem Jx (a b:Int):iC [.int a,.int b]= .ret (.int (if a < b then b else a)):=rfl
theorem Fw {acc:fk} (p:Int×Int) (hz:acc.length < 90000):IC (J4 L acc (val (.int p.1)) (val (.int p.2)))= .ret (.nx (J4 L (n9 acc p) (val (.int p.1)) (val (.int p.2)))):=by
 have hz':(acc.map aw).length < 100000:=by rw[Kx];lia
 have els:(fS (bu (ag xE (fun ρ=>ae ρ 2) (fun ρ=>ae ρ 3))) (d8 1 (fun ρ=>((aa (fun ρ=>ae ρ 2) (aa (fun ρ=>ae ρ 3) (fun _=>M.ret []))) ρ).bind aO)) (fun ρ=>M.ret (.nx ρ))) (J4 L acc (val (.int p.1)) (val (.int p.2)))= .ret (.nx (J4 L (if p.1 < p.2 then acc++[p] else acc) (val (.int p.1)) (val (.int p.2)))):=by
  by_cases c:p.1 < p.2
  ·rw[iQ (by unfold bu;rw[aQ rfl rfl (ltI _ _),decide_eq_true c];rfl),Lq c]
   rw[vf (l:=acc.map aw) (y:=aw p) rfl (by show (aa _ _ _).bind aO=_;rw[aA (y:=.int p.1) rfl (aA (y:=.int p.2) rfl rfl),rZ,oF];rfl) hz']
   rw[show J4 L (acc++[p]) (val (.int p.1)) (val (.int p.2))=[val L,Ent.own ((acc++[p]).map aw),val (.int p.1),val (.int p.2)] from rfl,List.map_append]
   rfl
  ·rw[gq (by unfold bu;rw[aQ rfl rfl (ltI _ _),K3 c];rfl),Lr c]
 have ne1:(bu (ag (gs true) (fun ρ=>cA ρ 1) (bR (fun ρ=>((fun _=>M.ret []) ρ).bind cf)))) (J4 L acc (val (.int p.1)) (val (.int p.2)))= .ret (!(acc.map aw).isEmpty):=by
  unfold bu
  rw[aQ (y:=.lst (acc.map aw)) (z:=.lst []) rfl (by simp only[bR,rZ,Ah]) (IB _),rZ]
 unfold IC
 cases e:acc.getLast? with
 |none=>
  have ea:acc=[]:=List.getLast?_eq_none_iff.mp e
  have t0:(fF (bu (ag (gs true) (fun ρ=>cA ρ 1) (bR (fun ρ=>((fun _=>M.ret []) ρ).bind cf)))) (bu (ag gp (fun ρ=>ae ρ 2) (ag aI (ag aI (fun ρ=>cA ρ 1) (fun ρ=>((fun _=>M.ret (.int 1)) ρ).bind ij)) (fun _=>M.ret (.int 1)))))) (J4 L acc (val (.int p.1)) (val (.int p.2)))= .ret false:=by
   unfold fF
   rw[ne1,ea]
   rfl
  rw[gq t0,els]
  unfold n9
  rw[e]
 |some q=>
  have li:=vU e
  have dO:acc≠[]:=fun z=>by rw[z] at e;cases e
  have lx:(ag aI (fun ρ=>cA ρ 1) (fun ρ=>((fun _=>M.ret (.int 1)) ρ).bind ij)) (J4 L acc (val (.int p.1)) (val (.int p.2)))= .ret (aw q):=aQ (y:=.lst (acc.map aw)) (z:=.int (-1)) rfl rfl li
  have t1:(fF (bu (ag (gs true) (fun ρ=>cA ρ 1) (bR (fun ρ=>((fun _=>M.ret []) ρ).bind cf)))) (bu (ag gp (fun ρ=>ae ρ 2) (ag aI (ag aI (fun ρ=>cA ρ 1) (fun ρ=>((fun _=>M.ret (.int 1)) ρ).bind ij)) (fun _=>M.ret (.int 1)))))) (J4 L acc (val (.int p.1)) (val (.int p.2)))= .ret (decide (p.1≤q.2)):=by
   unfold fF
   rw[ne1,show (acc.map aw).isEmpty=false by cases acc with|nil=>exact absurd rfl dO|cons a b=>rfl]
   show (bu (ag gp (fun ρ=>ae ρ 2) _)) _=_
   unfold bu
   rw[aQ (y:=.int p.1) (z:=.int q.2) rfl (aQ lx rfl (qv q)) (J1 _ _),rZ]
  by_cases c:p.1≤q.2
  ·rw[iQ (by rw[t1,decide_eq_true c])]
   have eq:acc=acc.dropLast++[q]:=by
    have:=List.dropLast_concat_getLast dO
    rw[List.getLast?_eq_some_getLast dO] at e
    rw[←Lv e]
    exact this.symm
   have val:(fun ρ=>((aa (ag aI (ag aI (fun ρ=>cA ρ 1) (fun ρ=>((fun _=>M.ret (.int 1)) ρ).bind ij)) (fun _=>M.ret (.int 0))) (aa (fun ρ=>((aa (ag aI (ag aI (fun ρ=>cA ρ 1) (fun ρ=>((fun _=>M.ret (.int 1)) ρ).bind ij)) (fun _=>M.ret (.int 1))) (aa (fun ρ=>ae ρ 3) (fun _=>M.ret []))) ρ).bind iC) (fun _=>M.ret []))) ρ).bind aO) (J4 L acc (val (.int p.1)) (val (.int p.2)))= .ret (aw (q.1,max q.2 p.2)):=by
    dsimp only
    have em:(if q.2 < p.2 then p.2 else q.2)=max q.2 p.2:=by
     split<;>lia
    have inner:(fun ρ=>((aa (ag aI (ag aI (fun ρ=>cA ρ 1) (fun ρ=>((fun _=>M.ret (.int 1)) ρ).bind ij)) (fun _=>M.ret (.int 1))) (aa (fun ρ=>ae ρ 3) (fun _=>M.ret []))) ρ).bind iC) (J4 L acc (val (.int p.1)) (val (.int p.2)))= .ret (.int (max q.2 p.2)):=by
     dsimp only
     rw[aA (aQ lx rfl (qv q)) (aA (y:=.int p.2) rfl rfl),rZ,Jx,em]
    rw[aA (aQ lx rfl (zU q)) (aA inner rfl),rZ,oF]
    rfl
   have h0:0 < acc.length:=List.length_pos_iff.mpr dO
   have ei:qM (acc.map aw).length (-1)=some (acc.length - 1):=by
    unfold qM
    rw[Lr (by decide),Kx,Lq (by lia)]
    congr 1
    lia
   have es:(acc.map aw).set (acc.length - 1) (aw (q.1,max q.2 p.2))=(acc.dropLast++[(q.1,max q.2 p.2)]).map aw:=by
    have el:acc.length - 1=(acc.dropLast.map aw).length:=by rw[Kx,List.length_dropLast]
    conv=>lhs;rw[el,eq]
    rw[List.map_append,List.set_append,Lr (by rw[←eq];lia),←eq,Nat.sub_self,List.map_append]
    rfl
   rw[Cc (l:=acc.map aw) (i:= -1) (j:=acc.length - 1) rfl val rfl ei,es]
   unfold n9
   rw[e]
   dsimp only
   rw[Lq c]
   rfl
  ·rw[gq (by rw[t1,K3 c]),els]
   unfold n9
   rw[e]
   dsimp only
   rw[Lr c]
theorem vY (acc:fk) (p:Int×Int):(n9 acc p).length≤acc.length+1:=by
 unfold n9
 split
 ·split
  ·rw[K4,List.length_dropLast,List.length_singleton];lia
  ·split
   ·rw[K4];exact KG _
   ·lia
 ·split
  ·rw[K4];exact KG _
  ·lia
theorem vX: ∀ (rs acc:fk) (e2 e3:Ent),acc.length+rs.length < 90000→∃ e2' e3',dE (dS [2,3]) IC (rs.map aw) (J4 L acc e2 e3)= .ret (.nx (J4 L (rs.foldl n9 acc) e2' e3'))
 |[],acc,e2,e3,_=>⟨e2,e3,rfl⟩
 |p::rs,acc,e2,e3,hz=>by
  rw[KO] at hz
  obtain⟨a,b,ih⟩:=vX (L:=L) rs (n9 acc p) (val (.int p.1)) (val (.int p.2)) (by have:=vY acc p;lia)
  refine⟨a,b,?_⟩
  rw[KI]
  unfold dE
  rw[show dS [2,3] (aw p) (J4 L acc e2 e3)= .ret (J4 L acc (val (.int p.1)) (val (.int p.2))) from rfl,rZ,Fw p (by lia),rZ]
  exact ih
theorem w8 (hl:rs.length < 64) (hb: ∀ p∈rs,0≤p.2∧p.2 < 1000000): ∃ rs':fk,rs'.Perm rs∧rs'.Pairwise (fun p q=>p.1≤q.1)∧rR [.lst (rs.map aw)]= .ret (rs'.map aw):=by
 obtain⟨r,er⟩: ∃ r,r=rk fun i=>kQ ((rs.map aw).getD i .aU):=⟨_,rfl⟩
 have at_: ∀ i,i < rs.length→(rs.map aw).getD i .aU=aw (rs.getD i (0,0)):=fun i hi=>by
  simp[KU,hi]
 have pm:=Array.perm_iff_toList_perm.mp (ja r rs.length)
 have up:=CG r rs.length
 obtain⟨o,eo⟩: ∃ o,o=(jG r rs.length).toList:=⟨_,rfl⟩
 rw[←eo] at pm up
 have lt: ∀ i∈o,i < rs.length:=fun i hi=>by simpa using pm.mem_iff.mp hi
 have hr: ∀ i,i < rs.length→r i=(rs.getD i (0,0)).1 * 1000000+(rs.getD i (0,0)).2:=fun i hi=>by
  rw[er]
  unfold rk
  dsimp only
  rw[at_ i hi]
  rfl
 have bd: ∀ i,i < rs.length→0≤(rs.getD i (0,0)).2∧(rs.getD i (0,0)).2 < 1000000:=fun i hi=>by
  have:rs.getD i (0,0)∈rs:=by simp[KU,hi]
  exact hb _ this
 refine⟨o.map fun i=>rs.getD i (0,0),?_,?_,?_⟩
 ·have:=pm.map fun i=>rs.getD i (0,0)
  refine this.trans (List.Perm.of_eq ?_)
  refine List.ext_getElem (by simp) fun i h1 h2=>?_
  simp at h1
  simp[h1]
 ·rw[List.pairwise_map]
  rw[List.pairwise_map] at up
  refine up.imp_of_mem fun {i j} hi hj h=>?_
  rw[hr i (lt i hi),hr j (lt j hj)] at h
  have b1:=bd i (lt i hi)
  have b2:=bd j (lt j hj)
  lia
 ·simp only[rR]
  rw[Lq ⟨by rw[Kx];exact hl,fun z hz=>by
   obtain⟨p,hp,rfl⟩:=KN.mp hz
   exact decide_eq_true (hb p hp)⟩]
  unfold CF
  rw[Kx,←er,←eo,List.map_map]
  congr 1
  exact List.map_congr_left fun i hi=>at_ i (lt i hi)
theorem Az: ∀ (rs acc:fk),(rs.foldl n9 acc).length≤acc.length+rs.length
 |[],acc=>KG _
 |r::rs,acc=>by
  have:=Az rs (n9 acc r)
  have:=vY acc r
  rw[List.foldl_cons,KO]
  lia
theorem xJ (hl:rs.length < 64) (hb: ∀ p∈rs,p.1 < p.2∧0≤p.1∧p.2 < 1000000): ∃ ps:fk,bE [.lst (rs.map aw)]= .ret (.tup (ps.map aw))∧tX ps∧(∀ t,ub ps t↔ub rs t)∧(∀ p∈ps,(∃ q∈rs,q.1=p.1)∧∃ q∈rs,q.2=p.2)∧ps.length≤rs.length:=by
 obtain⟨rs',pm,pw,es⟩:=w8 hl fun p hp=>by have:=hb p hp;lia
 obtain⟨b1,b2,b3⟩:=AA rs' [] ⟨List.Pairwise.nil,fun p hp=>absurd hp KL⟩ (fun r hr=>(hb r (pm.mem_iff.mp hr)).1) pw (fun _ _ p hp=>absurd hp KL)
 refine⟨rs'.foldl n9 [],?_,b1,fun t=>?_,fun p hp=>?_,by have:=Az rs' [];rw[pm.length_eq] at this;simpa using this⟩
 ·unfold bE dX
  show (aE _ _ [val (.lst (rs.map aw)),un,un,un]).bind dZ=_
  refine aK (ρ':=J4 (.lst (rs.map aw)) [] un un) (by simp only[jn,rZ,Ah];rfl) ?_
  obtain⟨a,b,lp⟩:=vX (L:=.lst (rs.map aw)) rs' [] un un (by rw[pm.length_eq];simp;lia)
  refine aK (ρ':=J4 (.lst (rs.map aw)) (rs'.foldl n9 []) a b) ?_ ?_
  ·show bx _ (dS [2,3]) IC _=_
   unfold bx
   simp only[bR,aa,dP,rZ,es,bc]
   exact lp
  ·exact dM (cH rfl)
 ·rw[b2 t]
  constructor
  ·rintro(⟨p,hp,_⟩|⟨p,hp,z⟩)
   ·exact absurd hp KL
   ·exact⟨p,pm.mem_iff.mp hp,z⟩
  ·rintro⟨p,hp,z⟩
   exact .inr ⟨p,pm.mem_iff.mpr hp,z⟩
 ·obtain⟨⟨q,hq,e1⟩,q',hq',e2⟩:=b3 p hp
  rw[List.nil_append] at hq hq'
  exact⟨⟨q,pm.mem_iff.mp hq,e1⟩,q',pm.mem_iff.mp hq',e2⟩
def gn (z:Nat→Str) (b f:Nat→Int) (k:Nat):PV:=.tup [.str "rule",.int (500 - (k:Int)),.int (b k),.str (z k),.tup ([Ru.looked (f k)].map Ru.pv)]
def qK (z:Nat→Str) (j:Nat) (q:Int×Int):PV:=.tup [.str "look",.int ((j:Int) * 37 % 331),.int q.2,.str (z q.1.toNat)]
def oH (z:Nat→Str):Nat→fk→List PV
 |_,[]=>[]
 |j,q::r=>qK z j q::oH z (j+1) r
structure Dat (ao:Int) (z:Nat→Str) (b f:Nat→Int) (lk:fk) (l:List PV):Prop where
 inj: ∀ i j,i < 3→j < 3→z i=z j→i=j
 bb: ∀ k,k < 3→0≤b k∧b k≤400000
 ff: ∀ k,k < 3→1≤f k∧f k≤1000000
 ll: ∀ q∈lk,(q.1=0∨q.1=1)∧0≤q.2∧q.2≤ao
 len:lk.length≤8
 d0:1≤ao
 dk:ao≤999990
 pm:l.Perm ([0,1,2].map (gn z b f)++oH z 0 lk)
theorem vS: ∀ (lk : fk) (i : Nat), y ∈ oH z i lk ↔ ∃ j q, lk[j]? = some q ∧ y = qK z (i + j) q
  | [], i => ⟨fun h => absurd h KL, fun cy => by obtain ⟨j, q, h, _⟩ := cy; simp at h⟩
  | q :: r, i => by
    unfold oH
    rw [KJ, vS r (i + 1)]
    constructor
    · rintro (rfl | ⟨j, q', h, rfl⟩)
      · exact ⟨0, q, rfl, rfl⟩
      · exact ⟨j + 1, q', by simpa using h, by rw [show i + 1 + j = i + (j + 1) by lia]⟩
    · rintro ⟨j, q', h, rfl⟩
      cases j with
      | zero => exact .inl (by have : q = q' := by simpa using h
                               rw [this]; rfl)
      | succ j => exact .inr ⟨j, q', by simpa using h, by rw [show i + 1 + j = i + (j + 1) by lia]⟩
theorem mj: ∀ (lk:fk) (i:Nat),(oH z i lk).length=lk.length
 |[],i=>rfl
 |q::r,i=>by unfold oH;rw[KO,KO,mj r (i+1)]
def numOf:PV→Int
 | .tup (_::.int n::_)=>n
 |_=>0
theorem vR: ∀ (lk:fk) (i:Nat),i+lk.length≤8→((oH z i lk).map numOf).Pairwise (· < ·)∧∀ n∈(oH z i lk).map numOf,(i:Int) * 37≤n∧n < 331
 |[],i,_=>⟨List.Pairwise.nil,fun n h=>absurd h KL⟩
 |q::r,i,hl=>by
  rw[KO] at hl
  obtain⟨a,b⟩:=vR (z:=z) r (i+1) (by lia)
  unfold oH
  rw[KI]
  have e:numOf (qK z i q)=(i:Int) * 37:=Int.emod_eq_of_lt (by lia) (by lia)
  refine⟨Lu.mpr ⟨fun n hn=>by have:=(b n hn).1;rw[e];lia,a⟩,fun n hn=>?_⟩
  rcases KJ.mp hn with rfl|hn
  ·rw[e];lia
  ·have:=b n hn;lia
section
variable {ao:Int} {z:Nat→Str} {b f:Nat→Int} {lk:fk} {l:List PV}
theorem Dat.mem (D:Dat ao z b f lk l):y∈l↔(∃ k,k < 3∧y=gn z b f k)∨∃ j q,lk[j]?=some q∧y=qK z j q:=by
 rw[D.pm.mem_iff,Lp,vS]
 constructor
 ·rintro(h|⟨j,q,h1,h2⟩)
  ·obtain⟨k,hk,rfl⟩:=KN.mp h
   refine .inl ⟨k,?_,rfl⟩
   simp only[KJ,KL,or_false] at hk
   lia
  ·exact .inr ⟨j,q,h1,by rw[h2,Nat.zero_add]⟩
 ·rintro(⟨k,hk,rfl⟩|⟨j,q,h1,h2⟩)
  ·refine .inl (K9 ?_)
   simp only[KJ,KL,or_false]
   lia
  ·exact .inr ⟨j,q,h1,by rw[h2,Nat.zero_add]⟩
theorem Dat.D3 (D:Dat ao z b f lk l):l.length≤11:=by
 rw[D.pm.length_eq,K4,mj,Kx]
 have:=D.len
 show 3+_≤_
 lia
theorem Dat.mP (D:Dat ao z b f lk l):dB l (l.map numOf):=by
 refine⟨by simp,?_,fun n hn=>?_,fun i n y h1 h2=>?_⟩
 ·have:=D.pm.map numOf
  rw[this.nodup_iff,List.map_append,List.map_map]
  obtain⟨a,c⟩:=vR (z:=z) lk 0 (by have:=D.len;lia)
  refine List.nodup_append.mpr ⟨by show [(500:Int) - ((0:Nat):Int),500 - ((1:Nat):Int),500 - ((2:Nat):Int)].Nodup;decide,a.imp fun {x y} h e=>by lia,fun x hx y hy e=>?_⟩
  have hx':x=500 - ((0:Nat):Int)∨x=500 - ((1:Nat):Int)∨x=500 - ((2:Nat):Int):=by
   have:x∈[(500:Int) - ((0:Nat):Int),500 - ((1:Nat):Int),500 - ((2:Nat):Int)]:=hx
   simpa using this
  have:=(c y hy).2
  lia
 ·obtain⟨y,hy,rfl⟩:=KN.mp hn
  rcases D.mem.mp hy with⟨k,hk,rfl⟩|⟨j,q,h1,rfl⟩
  ·show 0≤(500:Int) - k∧(500:Int) - k < 1000000
   lia
  ·have h8:j < lk.length:=(KD.mp h1).1
   show 0≤(j:Int) * 37 % 331∧(j:Int) * 37 % 331 < 1000000
   lia
 ·rw[KY] at h1
  rw[h2] at h1
  have e:numOf y=n:=Lv h1
  rw[←e]
  rcases D.mem.mp (List.mem_of_getElem? h2) with⟨k,hk,rfl⟩|⟨j,q,h3,rfl⟩
  ·have bb:=D.bb k hk
   have ff:=D.ff k hk
   refine⟨_,_,_,_,rfl,.inr ⟨.inr rfl,_,rfl,?_,rfl⟩,bb.1,by lia⟩
   refine(lQ (c:=171) (dp:=1) (n:=1) (fun y hy=>?_) (by simp)).mono (by lia) (by lia)
   rw[K7.mp hy]
   refine(lQ (c:=82) (dp:=0) (n:=2) (l:=[.str "looked",.int (f k)]) (fun z hz=>?_) (by simp)).mono (by lia) (by lia)
   simp only[KJ,KL,or_false] at hz
   rcases hz with rfl|rfl
   ·exact ss (by decide +kernel)
   ·exact si (by lia)
  ·have:=(D.ll q (List.mem_of_getElem? h3)).2
   have:=D.dk
   exact⟨_,_,_,_,rfl,.inl ⟨rfl,rfl⟩,by lia,by lia⟩
theorem qh (h:dB l ns) (hy:y∈l) (hh:hit w x t y=true):six l w x t∈l∧hit w x t (six l w x t)=true∧ph y≤ph (six l w x t):=by
 have nd:((l.filter (hit w x t)).map jm).Nodup:=(List.Sublist.map jm List.filter_sublist).nodup h.nd
 have e:=p3 nd
 have up:=j8 _ nd
 have pm:=dG (l.filter (hit w x t))
 have yi:y∈aN (l.filter (hit w x t)):=pm.mem_iff.mpr (Lo.mpr ⟨hy,hh⟩)
 have dO:aN (l.filter (hit w x t))≠[]:=fun z=>by rw[z] at yi;exact absurd yi KL
 obtain⟨u,eu⟩: ∃ u,u=(aN (l.filter (hit w x t))).getLast dO:=⟨_,rfl⟩
 have es:six l w x t=u:=by
  unfold six
  rw[e,List.getLast?_eq_some_getLast dO,←eu]
  rfl
 have ui:u∈aN (l.filter (hit w x t)):=by rw[eu];exact List.getLast_mem dO
 have uf:=Lo.mp (pm.mem_iff.mp ui)
 rw[es]
 refine⟨uf.1,uf.2,?_⟩
 have dl:=List.dropLast_concat_getLast dO
 rw[←eu] at dl
 rw[←dl] at yi up
 rcases Lp.mp yi with yi|yi
 ·have lt:=(List.pairwise_append.mp up).2.2 y yi u (K7.mpr rfl)
  obtain⟨n,⟨_,_,m,_,rfl,_⟩,n0,n1⟩:=h.at hy
  obtain⟨n',⟨_,_,m',_,e',_⟩,n0',n1'⟩:=h.at uf.1
  rw[e'] at lt ⊢
  have lt':m * 1000000+n < m' * 1000000+n':=lt
  show m≤m'
  lia
 ·rw[K7.mp yi];exact Int.le_refl _
theorem AL (e:hit "rule" (z j) t (gn z b f k)=true):z k=z j∧b k≤t:=by
 unfold hit gn at e
 simp at e
 exact e
theorem y3 (D:Dat ao z b f lk l) (hk:k < 3) (t:Int):six l "rule" (z k) t=if b k≤t then gn z b f k else .aU:=by
 by_cases c:b k≤t
 ·rw[Lq c]
  have hh:hit "rule" (z k) t (gn z b f k)=true:=by
   unfold hit gn
   simp[c]
  obtain⟨a1,a2,_⟩:=qh D.mP (D.mem.mpr (.inl ⟨k,hk,rfl⟩)) hh
  rcases D.mem.mp a1 with⟨k',hk',e⟩|⟨j,q,h1,e⟩
  ·rw[e] at a2
   rw[e,D.inj k' k hk' hk (AL a2).1]
  ·rw[e] at a2
   unfold hit qK at a2
   simp at a2
   exact absurd a2.1 (by decide +kernel)
 ·rw[Lr c]
  rcases gy D.mP "rule" (z k) t with e|⟨a1,n,_,a2⟩
  ·exact e
  ·rcases D.mem.mp a1 with⟨k',hk',e⟩|⟨j,q,h1,e⟩
   ·rw[e] at a2
    have:=AL a2
    rw[D.inj k' k hk' hk this.1] at this
    exact absurd this.2 c
   ·rw[e] at a2
    unfold hit qK at a2
    simp at a2
    exact absurd a2.1 (by decide +kernel)
theorem Fs (D:Dat ao z b f lk l) (hk:k < 3) (t:Int):(lE l t (z k)=none∧∀ q∈lk,q.1.toNat=k→t < q.2)∨∃ q∈lk,q.1.toNat=k∧q.2≤t∧lE l t (z k)=some q.2∧∀ q'∈lk,q'.1.toNat=k→q'.2≤t→q'.2≤q.2:=by
 have hitL: ∀ {j:Nat} {q:Int×Int},hit "look" (z k) t (qK z j q)=true→z q.1.toNat=z k∧q.2≤t:=fun {j q} e=>by
  unfold hit qK at e
  simp at e
  exact e
 have mk: ∀ {j:Nat} {q:Int×Int},q.1.toNat=k→q.2≤t→hit "look" (z k) t (qK z j q)=true:=fun {j q} e1 e2=>by
  unfold hit qK
  simp[e1,e2]
 have lt3: ∀ q∈lk,q.1.toNat < 3:=fun q hq=>by have:=(D.ll q hq).1;lia
 rcases gy D.mP "look" (z k) t with e|⟨a1,n,hp,a2⟩
 ·left
  refine⟨by unfold lE;rw[e],fun q hq hk'=>?_⟩
  rcases Int.lt_or_le t q.2 with c|c
  ·exact c
  ·exfalso
   obtain⟨j,hj,ej⟩:=List.getElem_of_mem hq
   obtain⟨b1,_,_⟩:=qh D.mP (D.mem.mpr (.inr ⟨j,q,KD.mpr ⟨hj,ej⟩,rfl⟩)) (mk hk' c)
   rw[e] at b1
   rcases D.mem.mp b1 with⟨_,_,z1⟩|⟨_,_,_,z1⟩<;>cases z1
 ·right
  rcases D.mem.mp a1 with⟨k',hk',e⟩|⟨j,q,h1,e⟩
  ·exfalso
   rw[e] at a2
   unfold hit gn at a2
   simp at a2
   exact absurd a2.1 (by decide +kernel)
  ·have hq:=List.mem_of_getElem? h1
   rw[e] at a2
   obtain⟨c1,c2⟩:=hitL a2
   refine⟨q,hq,D.inj _ _ (lt3 q hq) hk c1,c2,by unfold lE;rw[e];rfl,fun q' hq' hk' hle=>?_⟩
   obtain⟨j',hj',ej'⟩:=List.getElem_of_mem hq'
   obtain⟨_,_,b3⟩:=qh D.mP (D.mem.mpr (.inr ⟨j',q',KD.mpr ⟨hj',ej'⟩,rfl⟩)) (mk hk' hle)
   rw[e] at b3
   exact b3
theorem Hm (D:Dat ao z b f lk l) (hk:k < 3) (t:Int) (S:List Str):oE l t S (z k)=true↔t < b k∨∃ q∈lk,q.1.toNat=k∧q.2≤t∧t < q.2+f k:=by
 unfold oE yj
 dsimp only
 rw[y3 D hk t]
 by_cases c:b k≤t
 ·rw[Lq c]
  unfold gn
  rw[lA]
  simp only[List.all_cons,List.all_nil,Bool.and_true,Ru.hold]
  rcases Fs D hk t with⟨e,h⟩|⟨q,hq,h1,h2,e,h3⟩
  ·rw[e]
   dsimp only
   constructor
   ·intro z;cases z
   ·rintro(z|⟨q,hq,h1,h2,_⟩)
    ·lia
    ·have:=h q hq h1;lia
  ·rw[e]
   dsimp only
   rw[decide_eq_true_iff]
   constructor
   ·intro z;exact .inr ⟨q,hq,h1,h2,z⟩
   ·rintro(z|⟨q',hq',h1',h2',h3'⟩)
    ·lia
    ·have:=h3 q' hq' h1' h2';lia
 ·rw[Lr c]
  exact⟨fun _=>.inl (by lia),fun _=>rfl⟩
theorem xT (D:Dat ao z b f lk l):(0::(aN l).flatMap (bC (aN l))).length < 64:=by
 have pm:=(dG l).trans D.pm
 have lks: ∀ x:Str,((aN l).filter (gN x)).length≤8:=fun x=>by
  rw[(pm.filter (gN x)).length_eq,List.filter_append,K4]
  have e1:([0,1,2].map (gn z b f)).filter (gN x)=[]:=by
   rw[List.filter_eq_nil_iff]
   intro y hy
   obtain⟨k,_,rfl⟩:=KN.mp hy
   unfold gN gn
   simp
   exact fun e=>absurd e (by decide +kernel)
  rw[e1]
  have:=List.length_filter_le (gN x) (oH z 0 lk)
  rw[mj] at this
  have:=D.len
  show 0+_≤_
  lia
 have fl:=(pm.flatMap_right (bC (aN l))).length_eq
 rw[KO,fl,List.flatMap_append,K4]
 have one: ∀ k,(bC (aN l) (gn z b f k)).length≤9:=fun k=>by
  unfold bC
  have er:jJ (gn z b f k)=true:=by
   unfold jJ gn
   simp
  rw[Lq er]
  unfold gn
  rw[lA,List.flatMap_singleton]
  unfold fQ
  rw[KO,Kx]
  have:=lks (nameOf (.tup [.str "rule",.int (500 - (k:Int)),.int (b k),.str (z k),.tup ([Ru.looked (f k)].map Ru.pv)]))
  lia
 have two: ∀ (lk':fk) (i:Nat),((oH z i lk').flatMap (bC (aN l))).length≤lk'.length:=fun lk'=>by
  induction lk' with
  |nil=>intro i;exact KG _
  |cons q r ih=>
   intro i
   unfold oH
   rw[List.flatMap_cons,K4,KO]
   have:(bC (aN l) (qK z i q)).length≤1:=by
    unfold bC
    have er:jJ (qK z i q)=false:=by
     unfold jJ qK
     simp
     decide +kernel
    rw[er]
    exact KG _
   have:=ih (i+1)
   lia
 have t0:=two lk 0
 have:=D.len
 have o0:=one 0
 have o1:=one 1
 have o2:=one 2
 have e3:(([0,1,2].map (gn z b f)).flatMap (bC (aN l))).length=(bC (aN l) (gn z b f 0)).length+((bC (aN l) (gn z b f 1)).length+(bC (aN l) (gn z b f 2)).length):=by
  show ((bC (aN l) (gn z b f 0))++((bC (aN l) (gn z b f 1))++((bC (aN l) (gn z b f 2))++[]))).length=_
  rw[List.append_nil,K4,K4]
 rw[e3]
 lia
end
theorem yW (H:tV h ws ao) (hg:Ee ws l ns) (hl:l.length≤14) (hd:(0::(aN l).flatMap (bC (aN l))).length < 64) {f:Int→List Str} (hf: ∀ t,ye h ws l t (f t)) (w:Str):
  eJ [h,.tup (aN l),.str w]= .ret (.tup ((runN (fun t=>gX (f t) w) (ao+1).toNat).map aw)):=by
 obtain⟨h0,h2⟩:=wa H
 obtain⟨τ,et,pw,hτ⟩:=yF H hg hl hd
 obtain⟨hm,_,_,_,_,d0,_⟩:=id H
 have z0:(0:Int)∈τ:=(hτ 0).mpr ⟨⟨Int.le_refl _,by lia⟩,Kw⟩
 have tl:τ.length < 64:=Nat.lt_of_le_of_lt (sub_len τ _ (pw.imp fun {a b} q z=>by lia) fun i hi=>((hτ i).mp hi).2) hd
 have cst: ∀ i∈τ,∀ t,i≤t→t≤ao→(∀ j∈τ,j≤t→j≤i)→gX (f t) w=gX (f i) w:=fun i hi t q1 q2 q3=>by
  have c:=Dr hg hτ ((hτ i).mp hi).1.1 q1 q2 q3
  rw[xq (Ad hg c) (hf t) (hf i)]
 obtain⟨r,rfl⟩: ∃ r,τ=0::r:=by
  match τ,z0 with
  |m::r,z0=>
   refine⟨r,?_⟩
   have m0:=((hτ m).mp Kw).1.1
   rcases KJ.mp z0 with e|z0
   ·rw[←e]
   ·have:=(Lu.mp pw).1 0 z0
    lia
 have sr:=vv (g:=fun t=>gX (f t) w) (ao:=ao) r 0 ([],none) pw (fun i hi=>((hτ i).mp hi).1) cst ⟨rfl,fun _ p hp=>by cases hp⟩
 have st:du [h,.tup (aN l)]= .ret (.lst ((0::r).map fun m=>.tup [.int m,.tup ((f m).map PV.str)])):=by
  unfold du eQ
  show (de _ [val h,val (.tup (aN l))]).bind dZ=_
  refine dM (cH ?_)
  have ec:ir [none,some 0,some 1] (List.map Ent.freeze [val h,val (.tup (aN l))])=[un,val h,val (.tup (aN l))]:=rfl
  have q:=mn (k:=0) (te:=fun ρ=>((aa (fun ρ=>ae ρ 0) (aa (fun ρ=>((aa (fun ρ=>ae ρ 1) (aa (fun ρ=>ae ρ 2) (aa (fun ρ=>ae ρ 0) (fun _=>M.ret [])))) ρ).bind aB) (fun _=>M.ret []))) ρ).bind aO) (f:=fun y=>match y with| .int m=>.tup [.int m,.tup ((f m).map PV.str)]|_=>.aU) (ρ:=[un,val h,val (.tup (aN l))]) ((0::r).map PV.int) [un,val h,val (.tup (aN l))] (fun _=>rfl) (fun y hy=>by
   obtain⟨m,_,rfl⟩:=KN.mp hy
   have ho:=(hf m).1
   simp only[KH,aa,dP,eS,rZ,ho,oF])
  unfold bR eD
  dsimp only
  rw[ec]
  simp only[KI,List.map_nil,Ent.freeze,aa,dP,eS,rZ] at et q ⊢
  rw[et]
  simp only[rZ,bc]
  rw[Lq (by simp at tl ⊢;lia),q,rZ,List.map_map]
  rfl
 have wi:=wN (w:=w) (ao:=ao) (g:=fun t=>gX (f t) w) (f:=f) (fun _=>rfl) (τ:=0::r) (by lia)
 rw[sr] at wi
 unfold eJ jd
 show (de _ [val h,val (.tup (aN l)),val (.str w)]).bind dZ=_
 refine dM (cH ?_)
 simp only[KI,List.map_nil,Ent.freeze,aa,ag,dP,eS,rZ] at st wi ⊢
 rw[st]
 simp only[rZ,h2,wi]
def t4 (a b:Int):Int:=if b > a then b else a
def mV (a b:Int):Int:=if b < a then b else a
def dw (ao:Int) (b f:Nat→Int) (lk:fk) (k:Nat):fk:=(0,b k)::(lk.filter fun q=>decide (q.1=(k:Int))).map fun q=>(t4 (b k) q.2,mV (ao+1) (q.2+f k))
def Cf (ao:Int) (b f:Nat→Int) (lk:fk) (k:Nat):fk:=(dw ao b f lk k).filter fun p=>decide (p.1 < p.2)
theorem ET (h:tX ps) (hp:p∈ps) (hq:q∈ps):p=q∨p.2 < q.1∨q.2 < p.1:=by
 obtain⟨i,hi,ei⟩:=List.getElem_of_mem hp
 obtain⟨j,hj,ej⟩:=List.getElem_of_mem hq
 have pw:=List.pairwise_iff_getElem.mp h.1
 rcases Nat.lt_trichotomy i j with c|c|c
 ·have:=pw i j hi hj c
  rw[ei,ej] at this
  exact .inr (.inl this)
 ·subst c
  exact .inl (ei.symm.trans ej)
 ·have:=pw j i hj hi c
  rw[ei,ej] at this
  exact .inr (.inr this)
abbrev Ek (z:Nat→Str) (s0 s1:PV):List (Str×List PV):=[(z 0,[.str "slope",s0,s1,.int 0,.int 1]),(z 1,[.str "slope",s0,s1,.int 1,.int 1]),(z 2,[.str "lift",s0,s1,.int 2,.int 1])]
abbrev oK (z:Nat→Str) (s0 s1 hm:PV) (ao:Int):PV:=.tup [.tup ((Ek z s0 s1).map fun p=>.tup (.str p.1::p.2)),hm,.int ao]
section
variable {ao:Int} {z:Nat→Str} {b f:Nat→Int} {lk:fk} {l:List PV} {s0 s1 hm:PV}
theorem HI (D:Dat ao z b f lk l) (hw: ∀ k,k < 3→Wd (z k)):tV (oK z s0 s1 hm ao) (Ek z s0 s1) ao:=by
 refine⟨hm,rfl,Nat.succ_pos _,by show 3≤12;lia,fun p hp=>?_,D.d0,by have:=D.dk;lia,?_⟩
 ·simp only[KJ,KL,or_false] at hp
  rcases hp with rfl|rfl|rfl
  ·exact⟨hw 0 (by decide),_,_,rfl⟩
  ·exact⟨hw 1 (by decide),_,_,rfl⟩
  ·exact⟨hw 2 (by decide),_,_,rfl⟩
 ·show [z 0,z 1,z 2].Nodup
  have a: ¬ z 0=z 1:=fun e=>absurd (D.inj 0 1 (by decide) (by decide) e) (by decide)
  have c: ¬ z 0=z 2:=fun e=>absurd (D.inj 0 2 (by decide) (by decide) e) (by decide)
  have d: ¬ z 1=z 2:=fun e=>absurd (D.inj 1 2 (by decide) (by decide) e) (by decide)
  simp only[List.nodup_cons,KJ,KL,or_false,not_or,not_false_eq_true,List.nodup_nil,and_true]
  exact⟨⟨a,c⟩,d⟩
theorem HK (D:Dat ao z b f lk l):Ee (Ek z s0 s1) l (l.map numOf):=by
 refine⟨D.mP,fun y hy=>?_⟩
 rcases D.mem.mp hy with⟨k,hk,rfl⟩|⟨j,q,h1,rfl⟩
 ·exact .inl ⟨_,_,_,[Ru.looked (f k)],rfl,by simp⟩
 ·refine .inr (.inr ⟨(j:Int) * 37 % 331,q.2,z q.1.toNat,?_⟩)
  rcases(D.ll q (List.mem_of_getElem? h1)).1 with e|e
  ·exact⟨[s0,s1,.int 0,.int 1],rfl,by rw[e];exact Kw⟩
  ·exact⟨[s0,s1,.int 1,.int 1],rfl,by rw[e];exact Kz _ Kw⟩
theorem CU (k:Nat) (hk:k < 3):z k∈(Ek z s0 s1).map (·.1):=by
 show z k∈[z 0,z 1,z 2]
 have:k=0∨k=1∨k=2:=by lia
 rcases this with rfl|rfl|rfl<;>simp
theorem AG (D:Dat ao z b f lk l) (hk:k < 3) (t0:0≤t) (t1:t≤ao):ub (Cf ao b f lk k) t↔t < b k∨∃ q∈lk,q.1.toNat=k∧q.2≤t∧t < q.2+f k:=by
 have bb:=D.bb k hk
 unfold Cf dw
 constructor
 ·rintro⟨p,hp,p1,p2⟩
  obtain⟨hp,_⟩:=Lo.mp hp
  rcases KJ.mp hp with rfl|hp
  ·exact .inl p2
  ·obtain⟨q,hq,rfl⟩:=KN.mp hp
   obtain⟨hq,e⟩:=Lo.mp hq
   have e:=of_decide_eq_true e
   have p1':t4 (b k) q.2≤t:=p1
   have p2':t < mV (ao+1) (q.2+f k):=p2
   unfold t4 at p1'
   unfold mV at p2'
   refine .inr ⟨q,hq,by lia,?_,?_⟩
   ·split at p1'<;>lia
   ·split at p2'<;>lia
 ·intro h
  by_cases c:t < b k
  ·exact⟨(0,b k),Lo.mpr ⟨Kw,decide_eq_true (show (0:Int) < b k by lia)⟩,t0,c⟩
  ·rcases h with h|⟨q,hq,e,h1,h2⟩
   ·exact absurd h c
   ·have q0:=(D.ll q hq).1
    have m1:t4 (b k) q.2≤t:=by unfold t4;split<;>lia
    have m2:t < mV (ao+1) (q.2+f k):=by unfold mV;split<;>lia
    refine⟨(t4 (b k) q.2,mV (ao+1) (q.2+f k)),Lo.mpr ⟨Kz _ (KN.mpr ⟨q,Lo.mpr ⟨hq,decide_eq_true (by lia)⟩,rfl⟩),decide_eq_true (show t4 (b k) q.2 < mV (ao+1) (q.2+f k) by lia)⟩,m1,m2⟩
theorem DM (D:Dat ao z b f lk l) (hk:k < 3): ∀ p∈Cf ao b f lk k,p.1 < p.2∧0≤p.1∧p.2 < 1000000:=fun p hp=>by
 have bb:=D.bb k hk
 have dk:=D.dk
 obtain⟨hp,c⟩:=Lo.mp hp
 have c:=of_decide_eq_true c
 unfold dw at hp
 rcases KJ.mp hp with rfl|hp
 ·exact⟨c,Int.le_refl _,by show b k < 1000000;lia⟩
 ·obtain⟨q,hq,rfl⟩:=KN.mp hp
  refine⟨c,?_,?_⟩
  ·show 0≤t4 (b k) q.2
   unfold t4
   split<;>lia
  ·show mV (ao+1) (q.2+f k) < 1000000
   unfold mV
   split<;>lia
theorem GW (D:Dat ao z b f lk l) (hk:k < 3) (hd:400000≤ao∨b k≤ao+1): ∀ p∈Cf ao b f lk k,p.2≤ao+1:=fun p hp=>by
 have bb:=D.bb k hk
 obtain⟨hp,c⟩:=Lo.mp hp
 unfold dw at hp
 rcases KJ.mp hp with rfl|hp
 ·show b k≤ao+1
  lia
 ·obtain⟨q,hq,rfl⟩:=KN.mp hp
  show mV (ao+1) (q.2+f k)≤ao+1
  unfold mV
  split<;>lia
theorem zg (D:Dat ao z b f lk l):(Cf ao b f lk k).length≤9:=by
 refine KZ (List.length_filter_le ..) ?_
 unfold dw
 rw[KO,Kx]
 have:=List.length_filter_le (fun q:Int×Int=>decide (q.1=(k:Int))) lk
 have:=D.len
 lia
theorem FJ (D:Dat ao z b f lk l) (hw: ∀ k,k < 3→Wd (z k)) (hbd: ∀ k,k < 3→b k≤ao+1): ∃ F:Int→List Str,(∀ t,aB [oK z s0 s1 hm ao,.tup (aN l),.int t]= .ret (.tup ((F t).map PV.str)))∧∀ k,k < 3→∃ ps:fk,ps.length≤9∧bE [.lst ((Cf ao b f lk k).map aw)]= .ret (.tup (ps.map aw))∧eJ [oK z s0 s1 hm ao,.tup (aN l),.str (z k)]= .ret (.tup (ps.map aw))∧
  ∀ p∈ps,0≤p.1∧p.2 < 1000000∧p.1 < p.2∧gX (F p.1) (z k)=true∧gX (F (p.2 - 1)) (z k)=true∧(p.2≤ao→gX (F p.2) (z k)=false):=by
 have H:=HI (s0:=s0) (s1:=s1) (hm:=hm) D hw
 have hg:=HK (s0:=s0) (s1:=s1) D
 have ll:=D.D3
 have d0:=D.d0
 have ex: ∀ t,∃ S,ye (oK z s0 s1 hm ao) (Ek z s0 s1) l t S:=fun t=>CI H hg (by lia) t
 obtain⟨F,hF⟩: ∃ F:Int→List Str,∀ t,ye (oK z s0 s1 hm ao) (Ek z s0 s1) l t (F t):=⟨fun t=>Classical.choose (ex t),fun t=>Classical.choose_spec (ex t)⟩
 refine⟨F,fun t=>(hF t).1,fun k hk=>?_⟩
 have at_: ∀ t,gX (F t) (z k)=true↔t < b k∨∃ q∈lk,q.1.toNat=k∧q.2≤t∧t < q.2+f k:=fun t=>by
  rw[jg]
  conv=>lhs;rw[(hF t).2.1]
  rw[Lo,Hm D hk t]
  exact⟨fun h=>h.2,fun h=>⟨CU k hk,h⟩⟩
 obtain⟨ps,e1,can,mem,ends,pl'⟩:=xJ (rs:=Cf ao b f lk k) (by have:=zg D (k:=k);lia) (DM D hk)
 have pl:ps.length≤9:=KZ pl' (zg D)
 have lo: ∀ p∈ps,0≤p.1∧p.2≤ao+1:=fun p hp=>by
  obtain⟨⟨q,hq,a⟩,q',hq',c⟩:=ends p hp
  have:=(DM D hk q hq).2.1
  have:=GW D hk (.inr (hbd k hk)) q' hq'
  lia
 have iff: ∀ t:Int,0≤t→t≤ao→(gX (F t) (z k)=true↔ub ps t):=fun t h0 h1=>by
  rw[at_ t,mem t,AG D hk h0 h1]
 have rc:=vC (g:=fun t=>gX (F t) (z k)) (N:=(ao+1).toNat) ps 0 0 [] (Bc can fun p hp=>(lo p hp).1) (Int.le_refl _) rfl (fun p hp=>by cases hp) (fun p hp=>by have:=(lo p hp).2;lia) (K6 _) fun t h0 h1=>iff t h0 (by lia)
 rw[List.nil_append] at rc
 have sp:=yW H hg (by lia) (xT D) hF (z k)
 rw[rc] at sp
 refine⟨ps,pl,e1,sp,fun p hp=>?_⟩
 have lp:=lo p hp
 have dk:=D.dk
 have lt:=can.2 p hp
 refine⟨lp.1,by lia,lt,(iff _ lp.1 (by lia)).mpr ⟨p,hp,Int.le_refl _,lt⟩,(iff _ (by lia) (by lia)).mpr ⟨p,hp,by lia,by lia⟩,fun hd=>?_⟩
 cases c:gX (F p.2) (z k) with
 |false=>rfl
 |true=>
  obtain⟨q,hq,q1,q2⟩:=(iff _ (by lia) hd).mp c
  have:=can.2 q hq
  rcases ET can hp hq with e|e|e
  ·rw[e] at q2;lia
  ·lia
  ·lia
end
abbrev Hq (z:Nat→Str):PV:=.lst [.str (z 0),.str (z 1),.str (z 2)]
abbrev HG (b:Nat→Int):PV:=.lst [.int (b 0),.int (b 1),.int (b 2)]
theorem DZ (z:Nat→Str) {k:Nat} (hk:k < 3):aI (Hq z) (.int k)= .ret (.str (z k)):=by
 have:k=0∨k=1∨k=2:=by lia
 rcases this with rfl|rfl|rfl<;>rfl
theorem AD (b:Nat→Int) {k:Nat} (hk:k < 3):aI (HG b) (.int k)= .ret (.int (b k)):=by
 have:k=0∨k=1∨k=2:=by lia
 rcases this with rfl|rfl|rfl<;>rfl
theorem Kh (x:Str):gs true (.str x) (.str x)= .ret (.bl false):=by
 show M.ret (PV.bl (xor true (x==x)))=_
 simp
abbrev jj (sc ao:Int) (z:Nat→Str) (b f:Nat→Int) (lk:fk) (h B:PV) (e4 e6 e8:Ent) (k:Nat) (e13 e14 e16 e17 e18 e19:Ent):ak:=
 [un,val .fY,val (.int sc),val (Hq z),e4,val (.int ao),e6,val h,e8,val (HG b),val (HG f),val (.int k),val (.lst (lk.map aw)),e13,e14,val B,e16,e17,e18,e19]
noncomputable def HB:ak→M Fl:=(fS (bu (ag (gs false) (fun ρ=>ae ρ 13) (fun ρ=>ae ρ 11)))
  (d8 16 (fun ρ=>((aa (fun ρ=>((aa (ag aI (fun ρ=>ae ρ 9) (fun ρ=>ae ρ 11)) (aa (fun ρ=>ae ρ 14) (fun _=>M.ret []))) ρ).bind iC) (aa (fun ρ=>((aa (ag dJ (fun ρ=>ae ρ 5) (fun _=>M.ret (.int 1))) (aa (ag dJ (fun ρ=>ae ρ 14) (ag aI (fun ρ=>ae ρ 10) (fun ρ=>ae ρ 11))) (fun _=>M.ret []))) ρ).bind jx) (fun _=>M.ret []))) ρ).bind aO))
  (fun ρ=>M.ret (.nx ρ)))
noncomputable def IF:ak→M Fl:=(aE (fS (DW (bu (ag (nc true) (ag aI (fun ρ=>ae ρ 3) (fun ρ=>ae ρ 11)) (fun ρ=>((aa (fun ρ=>ae ρ 7) (aa (fun ρ=>ae ρ 15) (aa (fun ρ=>ae ρ 18) (fun _=>M.ret [])))) ρ).bind aB))) (bu (ag (nc true) (ag aI (fun ρ=>ae ρ 3) (fun ρ=>ae ρ 11)) (fun ρ=>((aa (fun ρ=>ae ρ 7) (aa (fun ρ=>ae ρ 15) (aa (ag qd (fun ρ=>ae ρ 19) (fun _=>M.ret (.int 1))) (fun _=>M.ret [])))) ρ).bind aB))))
  (de (fun _=>M.ret (.bl false)))
  (fun ρ=>M.ret (.nx ρ)))
  (fS (fF (bu (ag gp (fun ρ=>ae ρ 19) (fun ρ=>ae ρ 5))) (bu (ag (nc false) (ag aI (fun ρ=>ae ρ 3) (fun ρ=>ae ρ 11)) (fun ρ=>((aa (fun ρ=>ae ρ 7) (aa (fun ρ=>ae ρ 15) (aa (fun ρ=>ae ρ 19) (fun _=>M.ret [])))) ρ).bind aB))))
  (de (fun _=>M.ret (.bl false)))
  (fun ρ=>M.ret (.nx ρ))))
noncomputable def IX:ak→M Fl:=(aE (jn 16 (fun ρ=>((aa (fun ρ=>((aa (fun _=>M.ret (.int 0)) (aa (ag aI (fun ρ=>ae ρ 9) (fun ρ=>ae ρ 11)) (fun _=>M.ret []))) ρ).bind aO) (fun _=>M.ret [])) ρ).bind cf))
  (aE (bx (fun ρ=>((fun ρ=>ae ρ 12) ρ).bind bc) (dS [13,14])
  (fS (bu (ag (gs false) (fun ρ=>ae ρ 13) (fun ρ=>ae ρ 11)))
  (d8 16 (fun ρ=>((aa (fun ρ=>((aa (ag aI (fun ρ=>ae ρ 9) (fun ρ=>ae ρ 11)) (aa (fun ρ=>ae ρ 14) (fun _=>M.ret []))) ρ).bind iC) (aa (fun ρ=>((aa (ag dJ (fun ρ=>ae ρ 5) (fun _=>M.ret (.int 1))) (aa (ag dJ (fun ρ=>ae ρ 14) (ag aI (fun ρ=>ae ρ 10) (fun ρ=>ae ρ 11))) (fun _=>M.ret []))) ρ).bind jx) (fun _=>M.ret []))) ρ).bind aO))
  (fun ρ=>M.ret (.nx ρ))))
  (aE (bF 17 (fun ρ=>((aa (bR (eD [none] (fun ρ=>((fun ρ=>cA ρ 16) ρ).bind bc) (aP 0) (bu (ag xE (ag aI (fun ρ=>ae ρ 0) (fun _=>M.ret (.int 0))) (ag aI (fun ρ=>ae ρ 0) (fun _=>M.ret (.int 1))))) (fun ρ=>ae ρ 0))) (fun _=>M.ret [])) ρ).bind bE))
  (aE (fS (bu (ag (gs true) (fun ρ=>((aa (fun ρ=>((aa (fun ρ=>ae ρ 7) (aa (fun ρ=>ae ρ 15) (aa (ag aI (fun ρ=>ae ρ 3) (fun ρ=>ae ρ 11)) (fun _=>M.ret [])))) ρ).bind eJ) (fun _=>M.ret [])) ρ).bind jw) (fun ρ=>((aa (fun ρ=>ae ρ 17) (fun _=>M.ret [])) ρ).bind jw)))
  (de (fun _=>M.ret (.bl false)))
  (fun ρ=>M.ret (.nx ρ)))
  (bx (fun ρ=>((fun ρ=>ae ρ 17) ρ).bind bc) (dS [18,19])
  (aE (fS (DW (bu (ag (nc true) (ag aI (fun ρ=>ae ρ 3) (fun ρ=>ae ρ 11)) (fun ρ=>((aa (fun ρ=>ae ρ 7) (aa (fun ρ=>ae ρ 15) (aa (fun ρ=>ae ρ 18) (fun _=>M.ret [])))) ρ).bind aB))) (bu (ag (nc true) (ag aI (fun ρ=>ae ρ 3) (fun ρ=>ae ρ 11)) (fun ρ=>((aa (fun ρ=>ae ρ 7) (aa (fun ρ=>ae ρ 15) (aa (ag qd (fun ρ=>ae ρ 19) (fun _=>M.ret (.int 1))) (fun _=>M.ret [])))) ρ).bind aB))))
  (de (fun _=>M.ret (.bl false)))
  (fun ρ=>M.ret (.nx ρ)))
  (fS (fF (bu (ag gp (fun ρ=>ae ρ 19) (fun ρ=>ae ρ 5))) (bu (ag (nc false) (ag aI (fun ρ=>ae ρ 3) (fun ρ=>ae ρ 11)) (fun ρ=>((aa (fun ρ=>ae ρ 7) (aa (fun ρ=>ae ρ 15) (aa (fun ρ=>ae ρ 19) (fun _=>M.ret [])))) ρ).bind aB))))
  (de (fun _=>M.ret (.bl false)))
  (fun ρ=>M.ret (.nx ρ)))))))))
section
variable {sc ao:Int} {z:Nat→Str} {b f:Nat→Int} {lk:fk} {h B:PV} {e4 e6 e8:Ent} {k:Nat}
theorem yc (a c:Int):dJ (.int a) (.int c)= .ret (.int (a+c)):=rfl
theorem Fq {acc:fk} (hk:k < 3) (hz:acc.length < 900) (q:Int×Int):HB (jj sc ao z b f lk h B e4 e6 e8 k (val (.int q.1)) (val (.int q.2)) (Ent.own (acc.map aw)) e17 e18 e19)= .ret (.nx (jj sc ao z b f lk h B e4 e6 e8 k (val (.int q.1)) (val (.int q.2)) (Ent.own ((acc++([q].filter fun q=>decide (q.1=(k:Int))).map fun q=>(t4 (b k) q.2,mV (ao+1) (q.2+f k))).map aw)) e17 e18 e19)):=by
 have hz':(acc.map aw).length < 100000:=by rw[Kx];lia
 have tst:(bu (ag (gs false) (fun ρ=>ae ρ 13) (fun ρ=>ae ρ 11))) (jj sc ao z b f lk h B e4 e6 e8 k (val (.int q.1)) (val (.int q.2)) (Ent.own (acc.map aw)) e17 e18 e19)= .ret (decide (q.1=(k:Int))):=by
  unfold bu
  rw[aQ (y:=.int q.1) (z:=.int (k:Int)) rfl rfl (Kk _ _),rZ]
  rfl
 unfold HB
 by_cases c:q.1=(k:Int)
 ·have ef:([q].filter fun q=>decide (q.1=(k:Int)))=[q]:=by simp[c]
  rw[iQ (tst.trans (by rw[decide_eq_true c])),ef]
  have v:(fun ρ=>((aa (fun ρ=>((aa (ag aI (fun ρ=>ae ρ 9) (fun ρ=>ae ρ 11)) (aa (fun ρ=>ae ρ 14) (fun _=>M.ret []))) ρ).bind iC) (aa (fun ρ=>((aa (ag dJ (fun ρ=>ae ρ 5) (fun _=>M.ret (.int 1))) (aa (ag dJ (fun ρ=>ae ρ 14) (ag aI (fun ρ=>ae ρ 10) (fun ρ=>ae ρ 11))) (fun _=>M.ret []))) ρ).bind jx) (fun _=>M.ret []))) ρ).bind aO) (jj sc ao z b f lk h B e4 e6 e8 k (val (.int q.1)) (val (.int q.2)) (Ent.own (acc.map aw)) e17 e18 e19)= .ret (aw (t4 (b k) q.2,mV (ao+1) (q.2+f k))):=by
   have v1:(fun ρ=>((aa (ag aI (fun ρ=>ae ρ 9) (fun ρ=>ae ρ 11)) (aa (fun ρ=>ae ρ 14) (fun _=>M.ret []))) ρ).bind iC) (jj sc ao z b f lk h B e4 e6 e8 k (val (.int q.1)) (val (.int q.2)) (Ent.own (acc.map aw)) e17 e18 e19)= .ret (.int (t4 (b k) q.2)):=by
    show (aa _ _ _).bind iC=_
    rw[aA (aQ rfl rfl (AD b hk)) (aA (y:=.int q.2) rfl rfl),rZ]
    rfl
   have v2:(fun ρ=>((aa (ag dJ (fun ρ=>ae ρ 5) (fun _=>M.ret (.int 1))) (aa (ag dJ (fun ρ=>ae ρ 14) (ag aI (fun ρ=>ae ρ 10) (fun ρ=>ae ρ 11))) (fun _=>M.ret []))) ρ).bind jx) (jj sc ao z b f lk h B e4 e6 e8 k (val (.int q.1)) (val (.int q.2)) (Ent.own (acc.map aw)) e17 e18 e19)= .ret (.int (mV (ao+1) (q.2+f k))):=by
    show (aa _ _ _).bind jx=_
    rw[aA (aQ (y:=.int ao) (z:=.int 1) rfl rfl (yc _ _)) (aA (aQ (y:=.int q.2) rfl (aQ rfl rfl (AD f hk)) (yc _ _)) rfl),rZ]
    rfl
   show (aa _ _ _).bind aO=_
   rw[aA v1 (aA v2 rfl),rZ,oF]
   rfl
  rw[vf (l:=acc.map aw) rfl v hz',List.map_append]
  rfl
 ·have ef:([q].filter fun q=>decide (q.1=(k:Int)))=[]:=by simp[c]
  rw[gq (tst.trans (by rw[K3 c])),ef,List.map_nil,List.append_nil]
theorem vT (hk:k < 3): ∀ (rest acc:fk) (e13 e14:Ent),acc.length+rest.length < 900→∃ e13' e14',dE (dS [13,14]) HB (rest.map aw) (jj sc ao z b f lk h B e4 e6 e8 k e13 e14 (Ent.own (acc.map aw)) e17 e18 e19)= .ret (.nx (jj sc ao z b f lk h B e4 e6 e8 k e13' e14' (Ent.own ((acc++(rest.filter fun q=>decide (q.1=(k:Int))).map fun q=>(t4 (b k) q.2,mV (ao+1) (q.2+f k))).map aw)) e17 e18 e19))
 |[],acc,e13,e14,_=>⟨e13,e14,by rw[show (([]:fk).filter fun q=>decide (q.1=(k:Int))).map (fun q:Int×Int=>(t4 (b k) q.2,mV (ao+1) (q.2+f k)))=[] from rfl,List.append_nil];rfl⟩
 |q::rest,acc,e13,e14,hz=>by
  rw[KO] at hz
  obtain⟨acc',ea⟩: ∃ acc',acc'=acc++([q].filter fun q=>decide (q.1=(k:Int))).map fun q=>(t4 (b k) q.2,mV (ao+1) (q.2+f k)):=⟨_,rfl⟩
  have al:acc'.length≤acc.length+1:=by
   rw[ea,K4,Kx]
   have:=List.length_filter_le (fun q:Int×Int=>decide (q.1=(k:Int))) [q]
   rw[List.length_singleton] at this
   lia
  obtain⟨x,y,ih⟩:=vT (e17:=e17) (e18:=e18) (e19:=e19) hk rest acc' (val (.int q.1)) (val (.int q.2)) (by lia)
  refine⟨x,y,?_⟩
  rw[KI]
  unfold dE
  rw[show dS [13,14] (aw q) (jj sc ao z b f lk h B e4 e6 e8 k e13 e14 (Ent.own (acc.map aw)) e17 e18 e19)= .ret (jj sc ao z b f lk h B e4 e6 e8 k (val (.int q.1)) (val (.int q.2)) (Ent.own (acc.map aw)) e17 e18 e19) from rfl,rZ,Fq hk (by lia) q,rZ,←ea]
  refine Eq.trans ih ?_
  rw[ea,List.append_assoc,←List.map_append,←List.filter_append]
  rfl
theorem EC (a c:Int):qd (.int a) (.int c)= .ret (.int (a - c)):=rfl
theorem wo {F:Int→List Str} (hk:k < 3) (hF: ∀ t,aB [h,B,.int t]= .ret (.tup ((F t).map PV.str))): ∀ (ps:fk) (e18 e19:Ent),(∀ p∈ps,gX (F p.1) (z k)=true∧gX (F (p.2 - 1)) (z k)=true∧(p.2≤ao→gX (F p.2) (z k)=false))→
  ∃ e18' e19',dE (dS [18,19]) IF (ps.map aw) (jj sc ao z b f lk h B e4 e6 e8 k e13 e14 e16 e17 e18 e19)= .ret (.nx (jj sc ao z b f lk h B e4 e6 e8 k e13 e14 e16 e17 e18' e19'))
 |[],e18,e19,_=>⟨e18,e19,rfl⟩
 |p::ps,e18,e19,hp=>by
  obtain⟨h1,h2,h3⟩:=hp p Kw
  obtain⟨x,y,ih⟩:=wo (e13:=e13) (e14:=e14) (e16:=e16) (e17:=e17) hk hF ps (val (.int p.1)) (val (.int p.2)) fun q hq=>hp q (Kz _ hq)
  refine⟨x,y,?_⟩
  rw[KI]
  unfold dE
  rw[show dS [18,19] (aw p) (jj sc ao z b f lk h B e4 e6 e8 k e13 e14 e16 e17 e18 e19)= .ret (jj sc ao z b f lk h B e4 e6 e8 k e13 e14 e16 e17 (val (.int p.1)) (val (.int p.2))) from rfl,rZ]
  obtain⟨ρ,eρ⟩: ∃ ρ,ρ=jj sc ao z b f lk h B e4 e6 e8 k e13 e14 e16 e17 (val (.int p.1)) (val (.int p.2)):=⟨_,rfl⟩
  have nm:(ag aI (fun ρ=>ae ρ 3) (fun ρ=>ae ρ 11)) ρ= .ret (.str (z k)):=by rw[eρ];exact aQ rfl rfl (DZ z hk)
  have op: ∀ {t:Int} {m:ak→M PV},m ρ= .ret (.int t)→(fun ρ=>((aa (fun ρ=>ae ρ 7) (aa (fun ρ=>ae ρ 15) (aa m (fun _=>M.ret [])))) ρ).bind aB) ρ= .ret (.tup ((F t).map PV.str)):=fun {t m} e=>by
   show (aa _ _ _).bind aB=_
   rw[aA (y:=h) (by rw[eρ];rfl) (aA (y:=B) (by rw[eρ];rfl) (aA e rfl)),rZ,hF]
  have m18:(fun ρ=>ae ρ 18) ρ= .ret (.int p.1):=by rw[eρ];rfl
  have m19:(fun ρ=>ae ρ 19) ρ= .ret (.int p.2):=by rw[eρ];rfl
  have st:IF ρ= .ret (.nx ρ):=by
   unfold IF aE
   have t1:(DW (bu (ag (nc true) (ag aI (fun ρ=>ae ρ 3) (fun ρ=>ae ρ 11)) (fun ρ=>((aa (fun ρ=>ae ρ 7) (aa (fun ρ=>ae ρ 15) (aa (fun ρ=>ae ρ 18) (fun _=>M.ret [])))) ρ).bind aB))) (bu (ag (nc true) (ag aI (fun ρ=>ae ρ 3) (fun ρ=>ae ρ 11)) (fun ρ=>((aa (fun ρ=>ae ρ 7) (aa (fun ρ=>ae ρ 15) (aa (ag qd (fun ρ=>ae ρ 19) (fun _=>M.ret (.int 1))) (fun _=>M.ret [])))) ρ).bind aB)))) ρ= .ret false:=by
    unfold DW bu
    rw[aQ nm (op m18) (qN (z k) (F p.1) true),rZ,h1]
    show (bu _) ρ=_
    unfold bu
    rw[aQ nm (op (aQ m19 rfl (EC _ _))) (qN (z k) (F (p.2 - 1)) true),rZ,h2]
    rfl
   rw[gq t1,rZ]
   show (fS _ _ _) ρ=_
   refine gq ?_
   unfold fF
   have t2:(bu (ag gp (fun ρ=>ae ρ 19) (fun ρ=>ae ρ 5))) ρ= .ret (decide (p.2≤ao)):=by
    unfold bu
    rw[aQ m19 (z:=.int ao) (by rw[eρ];rfl) (J1 _ _),rZ]
   rw[t2,rZ]
   by_cases c:p.2≤ao
   ·rw[decide_eq_true c,Lq rfl]
    unfold bu
    rw[aQ nm (op m19) (qN (z k) (F p.2) false),rZ,h3 c]
    rfl
   ·rw[K3 c]
    rfl
  rw[←eρ,st,rZ,eρ]
  exact ih
theorem GG {F:Int→List Str} {ps:fk} (hk:k < 3) (hlk:lk.length≤8) (hF: ∀ t,aB [h,B,.int t]= .ret (.tup ((F t).map PV.str))) (pl:ps.length≤9) (hj:bE [.lst ((Cf ao b f lk k).map aw)]= .ret (.tup (ps.map aw))) (hsp:eJ [h,B,.str (z k)]= .ret (.tup (ps.map aw)))
  (hp: ∀ p∈ps,0≤p.1∧p.2 < 1000000∧p.1 < p.2∧gX (F p.1) (z k)=true∧gX (F (p.2 - 1)) (z k)=true∧(p.2≤ao→gX (F p.2) (z k)=false)):
  ∃ e13' e14' e16' e17' e18' e19',IX (jj sc ao z b f lk h B e4 e6 e8 k e13 e14 e16 e17 e18 e19)= .ret (.nx (jj sc ao z b f lk h B e4 e6 e8 k e13' e14' e16' e17' e18' e19')):=by
 obtain⟨x13,x14,lp⟩:=vT (sc:=sc) (ao:=ao) (z:=z) (b:=b) (f:=f) (lk:=lk) (h:=h) (B:=B) (e4:=e4) (e6:=e6) (e8:=e8) (e17:=e17) (e18:=e18) (e19:=e19) hk lk [(0,b k)] e13 e14 (by rw[List.length_singleton];lia)
 rw[show [(0,b k)]++(lk.filter fun q=>decide (q.1=(k:Int))).map (fun q=>(t4 (b k) q.2,mV (ao+1) (q.2+f k)))=dw ao b f lk k from rfl] at lp
 obtain⟨x18,x19,dp⟩:=wo (sc:=sc) (ao:=ao) (z:=z) (b:=b) (f:=f) (lk:=lk) (h:=h) (B:=B) (e4:=e4) (e6:=e6) (e8:=e8) (e13:=x13) (e14:=x14) (e16:=Ent.own ((dw ao b f lk k).map aw)) (e17:=val (.tup (ps.map aw))) hk hF ps e18 e19 fun p h=>⟨(hp p h).2.2.2.1,(hp p h).2.2.2.2.1,(hp p h).2.2.2.2.2⟩
 refine⟨x13,x14,Ent.own ((dw ao b f lk k).map aw),val (.tup (ps.map aw)),x18,x19,?_⟩
 have sml:t9 8000 2 (.tup (ps.map aw)):=by
  refine(lQ (c:=171) (dp:=1) (n:=9) (fun y hy=>?_) (by rw[Kx];exact pl)).mono (by lia) (by lia)
  obtain⟨p,hp',rfl⟩:=KN.mp hy
  have b:=hp p hp'
  refine(lQ (c:=82) (dp:=0) (n:=2) (l:=[.int p.1,.int p.2]) (fun z hz=>?_) (by simp)).mono (by lia) (by lia)
  simp only[KJ,KL,or_false] at hz
  rcases hz with rfl|rfl<;>exact si (by lia)
 have nol:Gr (.tup (ps.map aw))=true:=rfl
 obtain⟨tx,rx⟩:=zh sml nol (by lia) (by lia)
 have rl:(dw ao b f lk k).length≤9:=by
  unfold dw
  rw[KO,Kx]
  have:=List.length_filter_le (fun q:Int×Int=>decide (q.1=(k:Int))) lk
  lia
 unfold IX aE
 have e1:jn 16 (fun ρ=>((aa (fun ρ=>((aa (fun _=>M.ret (.int 0)) (aa (ag aI (fun ρ=>ae ρ 9) (fun ρ=>ae ρ 11)) (fun _=>M.ret []))) ρ).bind aO) (fun _=>M.ret [])) ρ).bind cf) (jj sc ao z b f lk h B e4 e6 e8 k e13 e14 e16 e17 e18 e19)= .ret (.nx (jj sc ao z b f lk h B e4 e6 e8 k e13 e14 (Ent.own ([(0,b k)].map aw)) e17 e18 e19)):=by
  unfold jn
  dsimp only
  rw[aA (y:=aw (0,b k)) (by
   show (aa _ _ _).bind aO=_
   rw[aA (y:=.int 0) rfl (aA (aQ rfl rfl (AD b hk)) rfl),rZ,oF]
   rfl) rfl,rZ,Hv]
  rfl
 rw[e1,rZ]
 have e2:bx (fun ρ=>((fun ρ=>ae ρ 12) ρ).bind bc) (dS [13,14]) HB (jj sc ao z b f lk h B e4 e6 e8 k e13 e14 (Ent.own ([(0,b k)].map aw)) e17 e18 e19)= .ret (.nx (jj sc ao z b f lk h B e4 e6 e8 k x13 x14 (Ent.own ((dw ao b f lk k).map aw)) e17 e18 e19)):=by
  unfold bx
  exact lp
 show (aE (bx (fun ρ=>((fun ρ=>ae ρ 12) ρ).bind bc) (dS [13,14]) HB) _ (jj sc ao z b f lk h B e4 e6 e8 k e13 e14 (Ent.own ([(0,b k)].map aw)) e17 e18 e19))=_
 unfold aE
 rw[e2,rZ]
 have q:=j5 (m:=aw) (k:=0) (tt:=bu (ag xE (ag aI (fun ρ=>ae ρ 0) (fun _=>M.ret (.int 0))) (ag aI (fun ρ=>ae ρ 0) (fun _=>M.ret (.int 1))))) (te:=fun ρ=>ae ρ 0) (p:=fun p=>decide (p.1 < p.2)) (g:=aw) (ρ:=[un]) (dw ao b f lk k) [un] (fun _=>rfl) (fun p _=>by
  unfold bu
  rw[aQ (aQ (y:=aw p) rfl rfl (zU p)) (aQ (y:=aw p) rfl rfl (qv p)) (ltI _ _),rZ]) (fun p _ _=>rfl)
 have e3:bF 17 (fun ρ=>((aa (bR (eD [none] (fun ρ=>((fun ρ=>cA ρ 16) ρ).bind bc) (aP 0) (bu (ag xE (ag aI (fun ρ=>ae ρ 0) (fun _=>M.ret (.int 0))) (ag aI (fun ρ=>ae ρ 0) (fun _=>M.ret (.int 1))))) (fun ρ=>ae ρ 0))) (fun _=>M.ret [])) ρ).bind bE) (jj sc ao z b f lk h B e4 e6 e8 k x13 x14 (Ent.own ((dw ao b f lk k).map aw)) e17 e18 e19)= .ret (.nx (jj sc ao z b f lk h B e4 e6 e8 k x13 x14 (Ent.own ((dw ao b f lk k).map aw)) (val (.tup (ps.map aw))) e18 e19)):=by
  unfold bF
  dsimp only
  rw[aA (y:=.lst ((Cf ao b f lk k).map aw)) (by
   unfold bR eD
   rw[show ((fun ρ=>((fun ρ=>cA ρ 16) ρ).bind bc) (jj sc ao z b f lk h B e4 e6 e8 k x13 x14 (Ent.own ((dw ao b f lk k).map aw)) e17 e18 e19))= .ret ((dw ao b f lk k).map aw) from rfl,rZ,Lq (by rw[Kx];lia)]
   rw[show ir [none] (jj sc ao z b f lk h B e4 e6 e8 k x13 x14 (Ent.own ((dw ao b f lk k).map aw)) e17 e18 e19)=[un] from rfl,q]
   rfl) rfl,rZ,hj]
  rfl
 show (aE (bF 17 _) _ (jj sc ao z b f lk h B e4 e6 e8 k x13 x14 (Ent.own ((dw ao b f lk k).map aw)) e17 e18 e19))=_
 unfold aE
 rw[e3,rZ]
 show (aE (fS _ _ _) _ (jj sc ao z b f lk h B e4 e6 e8 k x13 x14 (Ent.own ((dw ao b f lk k).map aw)) (val (.tup (ps.map aw))) e18 e19))=_
 unfold aE
 rw[gq (by
  unfold bu
  rw[aQ (y:=.str tx) (z:=.str tx) (by
   show (aa _ _ _).bind jw=_
   rw[aA (y:=.tup (ps.map aw)) (by
    show (aa _ _ _).bind eJ=_
    rw[aA (y:=h) rfl (aA (y:=B) rfl (aA (aQ rfl rfl (DZ z hk)) rfl)),rZ,hsp]) rfl,rZ,rx]) (by
   show (aa _ _ _).bind jw=_
   rw[aA (y:=.tup (ps.map aw)) rfl rfl,rZ,rx]) (Kh tx),rZ]),rZ]
 show bx _ (dS [18,19]) IF _=_
 unfold bx
 exact dp
end
abbrev nL (l:List Str):Ent:=val (.lst (l.map PV.str))
abbrev iG (e2 e3 e4 e5 e6 e7 e8 e9 e10 e11 e12 e13 e14 e15 e16 e17 e18 e19:Ent):ak:=[un,val .fY,e2,e3,e4,e5,e6,e7,e8,e9,e10,e11,e12,e13,e14,e15,e16,e17,e18,e19]
theorem sH: ∀ (lk:fk) (i:Nat) (q:Int×Int),oH z i (lk++[q])=oH z i lk++[qK z (i+lk.length) q]
 |[],i,q=>rfl
 |r::lk,i,q=>by
  show qK z i r::oH z (i+1) (lk++[q])=qK z i r::(oH z (i+1) lk++_)
  rw[sH lk (i+1) q,KO,show i+1+lk.length=i+(lk.length+1) by lia]
theorem zK (l:List α) (i:Nat) (y:α):(l.take i++y::l.drop i).Perm (l++[y]):=by
 refine List.perm_middle.trans ?_
 rw[List.take_append_drop]
 exact(List.perm_append_comm (l₁:=[y]) (l₂:=l))
theorem y0 (h:dB l ns) (hl:l.length < 64):mE (.lst l)= .ret (aN l):=by
 have c:Ho l=true:=by
  unfold Ho
  simp only[Lf,decide_eq_true_eq,List.all_eq_true]
  exact⟨⟨hl,fun z hz=>h.Kg hz⟩,h.nd⟩
 unfold mE
 simp only[rV]
 rw[Lq c]
theorem De (h:ρ[k]?=some (.own l)) (hi:mi ρ=sX [.fY,.int ((l.length:Int)+1)]) (hy:my ρ= .ret y) (hl:l.length < 1000):Gen (uR k (aa mi (aa my (fun _=>M.ret []))) ρ) 1 (fun fl=> ∃ i:Nat,fl= .nx (ρ.set k (.own (l.take i++y::l.drop i)))):=by
 unfold uR
 rw[h]
 dsimp only
 unfold aa
 rw[hi,M.bZ]
 refine Gen.le (Gen.bind (Gen.draw (by lia) (by lia)) (d:=0) ?_) (by decide)
 rintro _ ⟨d,rfl,d0,d1⟩
 have e:(((my ρ).bind fun y=>((fun _=>M.ret []) ρ).bind fun l=>M.ret (y::l)).bind fun l=>M.ret (PV.int d::l))= .ret [.int d,y]:=by
  rw[hy]
  rfl
 show Gen (M.bind _ _) 0 _
 rw[e,rZ]
 dsimp only
 rw[Lq ⟨d0,by lia,by lia⟩]
 exact Gen.ret ⟨d.toNat,rfl⟩
noncomputable def JD:ak→M PV:=(fun ρ=>((aa (ag aI (fun ρ=>ae ρ 1) (fun ρ=>ae ρ 0)) (aa (ag aI (fun ρ=>ae ρ 2) (fun ρ=>ae ρ 0)) (aa (ag aI (fun ρ=>ae ρ 3) (fun _=>M.ret (.int 0))) (aa (ag aI (fun ρ=>ae ρ 3) (fun _=>M.ret (.int 1))) (aa (fun ρ=>ae ρ 0) (aa (fun _=>M.ret (.int 1)) (fun _=>M.ret []))))))) ρ).bind aO)
noncomputable def J0:ak→M PV:=(fun ρ=>((aa (fun ρ=>ae ρ 1) (aa (ag dJ (fun ρ=>((aa (fun ρ=>cA ρ 8) (fun _=>M.ret [])) ρ).bind mY) (fun _=>M.ret (.int 1))) (fun _=>M.ret []))) ρ).bind ar)
noncomputable def JZ:ak→M PV:=(fun ρ=>((aa (fun _=>M.ret (.str "look")) (aa (ag xD (ag jI (fun ρ=>ae ρ 11) (fun _=>M.ret (.int 37))) (fun _=>M.ret (.int 331))) (aa (ag aI (ag aI (fun ρ=>cA ρ 12) (fun ρ=>((fun _=>M.ret (.int 1)) ρ).bind ij)) (fun _=>M.ret (.int 1))) (aa (ag aI (fun ρ=>ae ρ 3) (fun ρ=>ae ρ 13)) (fun _=>M.ret []))))) ρ).bind aO)
noncomputable def JO:ak→M Fl:=(aE (d8 9 (ag jI (fun ρ=>ae ρ 2) (fun ρ=>((aa (fun ρ=>ae ρ 1) (aa (fun _=>M.ret (.int 12)) (fun _=>M.ret []))) ρ).bind ar)))
  (aE (d8 10 (ag aI (bR (fun ρ=>((aa (ag dJ (fun _=>M.ret (.int 1)) (fun ρ=>((aa (fun ρ=>ae ρ 1) (aa (fun _=>M.ret (.int 3)) (fun _=>M.ret []))) ρ).bind ar)) (aa (ag jI (fun ρ=>ae ρ 2) (ag dJ (fun _=>M.ret (.int 1)) (fun ρ=>((aa (fun ρ=>ae ρ 1) (aa (fun _=>M.ret (.int 12)) (fun _=>M.ret []))) ρ).bind ar))) (aa (ag dJ (fun ρ=>ae ρ 5) (fun _=>M.ret (.int 5))) (fun _=>M.ret [])))) ρ).bind cf)) (fun ρ=>((aa (fun ρ=>ae ρ 1) (aa (fun _=>M.ret (.int 3)) (fun _=>M.ret []))) ρ).bind ar)))
  (d8 8 (fun ρ=>((aa (fun _=>M.ret (.str "rule")) (aa (ag qd (fun _=>M.ret (.int 500)) (fun ρ=>ae ρ 11)) (aa (ag aI (fun ρ=>cA ρ 9) (fun ρ=>ae ρ 11)) (aa (ag aI (fun ρ=>ae ρ 3) (fun ρ=>ae ρ 11)) (aa (fun ρ=>((aa (fun ρ=>((aa (fun _=>M.ret (.str "looked")) (aa (ag aI (fun ρ=>cA ρ 10) (fun ρ=>ae ρ 11)) (fun _=>M.ret []))) ρ).bind aO) (fun _=>M.ret [])) ρ).bind aO) (fun _=>M.ret [])))))) ρ).bind aO))))
noncomputable def Jy:ak→M Fl:=(aE (zT 13 14 (aa (fun ρ=>((aa (fun ρ=>ae ρ 1) (aa (fun _=>M.ret (.int 2)) (fun _=>M.ret []))) ρ).bind ar) (aa (ag jI (fun ρ=>ae ρ 2) (fun ρ=>((aa (fun ρ=>ae ρ 1) (aa (fun _=>M.ret (.int 30)) (fun _=>M.ret []))) ρ).bind ar)) (fun _=>M.ret []))))
  (aE (d8 12 (fun ρ=>((aa (fun ρ=>ae ρ 13) (aa (fun ρ=>((aa (fun ρ=>ae ρ 5) (aa (ag dJ (fun ρ=>ae ρ 14) (ag aI (bR (fun ρ=>((aa (fun _=>M.ret (.int 0)) (aa (fun _=>M.ret (.int 0)) (aa (fun _=>M.ret (.int 1)) (fun _=>M.ret [])))) ρ).bind cf)) (fun ρ=>((aa (fun ρ=>ae ρ 1) (aa (fun _=>M.ret (.int 3)) (fun _=>M.ret []))) ρ).bind ar))) (fun _=>M.ret []))) ρ).bind jx) (fun _=>M.ret []))) ρ).bind aO))
  (uR 8 (aa (fun ρ=>((aa (fun ρ=>ae ρ 1) (aa (ag dJ (fun ρ=>((aa (fun ρ=>cA ρ 8) (fun _=>M.ret [])) ρ).bind mY) (fun _=>M.ret (.int 1))) (fun _=>M.ret []))) ρ).bind ar) (aa (fun ρ=>((aa (fun _=>M.ret (.str "look")) (aa (ag xD (ag jI (fun ρ=>ae ρ 11) (fun _=>M.ret (.int 37))) (fun _=>M.ret (.int 331))) (aa (ag aI (ag aI (fun ρ=>cA ρ 12) (fun ρ=>((fun _=>M.ret (.int 1)) ρ).bind ij)) (fun _=>M.ret (.int 1))) (aa (ag aI (fun ρ=>ae ρ 3) (fun ρ=>ae ρ 13)) (fun _=>M.ret []))))) ρ).bind aO) (fun _=>M.ret []))))))
abbrev gF (l:List Int):Nat→Int:=fun k=>l.getD k 0
abbrev zF (l:List Str):Nat→Str:=fun k=>l.getD k ""
theorem Js (h:0 < b):xD (.int a) (.int b)= .ret (.int (a % b)):=by
 unfold xD CS
 dsimp only
 rw[Lq h]
theorem qJ (b:Int) (h0:1≤a) (h1:a≤33333):jI (.int a) (.int b)= .ret (.int (a * b)):=Hu (by lia) (by lia)
section
variable {sc ao:Int} {zs:List Str} {e4 e6 e7:Ent}
theorem HW (s0:1≤sc) (s1:sc≤33333) (hd:sc * 29≤ao) (hd2:ao≤999990) (hz:zs.length=3) (hk:k < 3) (hb:bs.length=k) (hf:fs.length=k):
  Gen (JO (iG (val (.int sc)) (nL zs) e4 (val (.int ao)) e6 e7 (Ent.own ((List.range k).map (gn (zF zs) (gF bs) (gF fs)))) (Ent.own (bs.map PV.int)) (Ent.own (fs.map PV.int)) (val (.int k)) e12 e13 e14 e15 e16 e17 e18 e19)) 10
   (fun fl=> ∃ ρ',fl= .nx ρ'∧∃ x y:Int,(0≤x∧x≤400000∧x≤ao+1)∧(1≤y∧y≤1000000)∧ρ'=iG (val (.int sc)) (nL zs) e4 (val (.int ao)) e6 e7 (Ent.own ((List.range (k+1)).map (gn (zF zs) (gF (bs++[x])) (gF (fs++[y]))))) (Ent.own ((bs++[x]).map PV.int)) (Ent.own ((fs++[y]).map PV.int)) (val (.int k)) e12 e13 e14 e15 e16 e17 e18 e19):=by
 have lb:(bs.map PV.int).length < 100000:=by rw[Kx];lia
 have lf:(fs.map PV.int).length < 100000:=by rw[Kx];lia
 have lp:((List.range k).map (gn (zF zs) (gF bs) (gF fs))).length < 100000:=by rw[Kx,List.length_range];lia
 unfold JO
 refine Gen.le (jo (c:=1) (d:=9) (I:=fun ρ=> ∃ x:Int,(0≤x∧x≤400000∧x≤ao+1)∧ρ=iG (val (.int sc)) (nL zs) e4 (val (.int ao)) e6 e7 (Ent.own ((List.range k).map (gn (zF zs) (gF bs) (gF fs)))) (Ent.own ((bs++[x]).map PV.int)) (Ent.own (fs.map PV.int)) (val (.int k)) e12 e13 e14 e15 e16 e17 e18 e19) ?_ ?_) (by decide)
 ·unfold d8
  simp only[KQ,KR,aa,ag,dP,eS,rZ,ar,M.bZ]
  refine Gen.le (Gen.bind (Gen.draw (by lia) (by lia)) (d:=0) ?_) (by decide)
  rintro _ ⟨d,rfl,d0,d1⟩
  have m0:0≤sc * d:=Int.mul_nonneg (by lia) d0
  have m1:sc * d≤sc * 11:=Int.mul_le_mul_of_nonneg_left (by lia) (by lia)
  refine Gen.eq (y:=.nx (iG (val (.int sc)) (nL zs) e4 (val (.int ao)) e6 e7 (Ent.own ((List.range k).map (gn (zF zs) (gF bs) (gF fs)))) (Ent.own ((bs++[sc * d]).map PV.int)) (Ent.own (fs.map PV.int)) (val (.int k)) e12 e13 e14 e15 e16 e17 e18 e19)) ?_ ⟨_,rfl,sc * d,⟨m0,by lia,by lia⟩,rfl⟩
  rw[qJ d s0 s1,rZ,Lq lb,List.map_append]
  rfl
 rintro _ ⟨x,hx,rfl⟩
 refine Gen.le (jo (c:=3) (d:=0) (I:=fun ρ=> ∃ y:Int,(1≤y∧y≤1000000)∧ρ=iG (val (.int sc)) (nL zs) e4 (val (.int ao)) e6 e7 (Ent.own ((List.range k).map (gn (zF zs) (gF bs) (gF fs)))) (Ent.own ((bs++[x]).map PV.int)) (Ent.own ((fs++[y]).map PV.int)) (val (.int k)) e12 e13 e14 e15 e16 e17 e18 e19) ?_ ?_) (by decide)
 ·unfold d8
  simp only[KQ,KR,bR,aa,ag,dP,eS,rZ,ar,M.bZ]
  refine Gen.le (Gen.bind (Gen.draw (by lia) (by lia)) (d:=2) ?_) (by decide)
  rintro _ ⟨d,rfl,d0,d1⟩
  simp only[yc,rZ]
  refine Gen.le (Gen.bind (Gen.draw (by lia) (by lia)) (d:=1) ?_) (by decide)
  rintro _ ⟨c,rfl,c0,c1⟩
  have m0:sc * 1≤sc * (1+c):=Int.mul_le_mul_of_nonneg_left (by lia) (by lia)
  have m1:sc * (1+c)≤sc * 12:=Int.mul_le_mul_of_nonneg_left (by lia) (by lia)
  simp only[yc,rZ,qJ (1+c) s0 s1,CZ]
  refine Gen.le (Gen.bind (Gen.draw (by lia) (by lia)) (d:=0) ?_) (by decide)
  rintro _ ⟨j,rfl,j0,j1⟩
  obtain⟨y,hy,e⟩:=rm (l:=[PV.int (1+d),PV.int (sc * (1+c)),PV.int (ao+5)]) j0 j1
  obtain⟨w,rfl,hw⟩: ∃ w:Int,y= .int w∧(1≤w∧w≤1000000):=by
   simp only[KJ,KL,or_false] at hy
   rcases hy with rfl|rfl|rfl
   ·exact⟨_,rfl,by lia,by lia⟩
   ·exact⟨_,rfl,by lia,by lia⟩
   ·exact⟨_,rfl,by lia,by lia⟩
  refine Gen.eq (y:=.nx (iG (val (.int sc)) (nL zs) e4 (val (.int ao)) e6 e7 (Ent.own ((List.range k).map (gn (zF zs) (gF bs) (gF fs)))) (Ent.own ((bs++[x]).map PV.int)) (Ent.own ((fs++[w]).map PV.int)) (val (.int k)) e12 e13 e14 e15 e16 e17 e18 e19)) ?_ ⟨_,rfl,w,hw,rfl⟩
  simp only[aI,e,M.ft,rZ]
  rw[Lq lf,show List.map PV.int (fs++[w])=List.map PV.int fs++[PV.int w] by rw[List.map_append];rfl]
  rfl
 rintro _ ⟨y,hy,rfl⟩
 have at_: ∀ (l:List Int) (x:Int),l.length=k→aI (.lst ((l++[x]).map PV.int)) (.int k)= .ret (.int x):=fun l x hl=>by
  have:(((l++[x]).map PV.int))[k]?=some (.int x):=by
   rw[KY,List.getElem?_append_right (by lia),hl,Nat.sub_self]
   rfl
  show M.ft (ji _ (k:Int))=_
  rw[iu this]
  rfl
 have zk:aI (.lst (zs.map PV.str)) (.int k)= .ret (.str (zF zs k)):=by
  have:(zs.map PV.str)[k]?=some (.str (zF zs k)):=by
   rw[KY,Ku (by lia)]
   show some (PV.str _)=some (PV.str (zs.getD k ""))
   rw[KU,Ku (by lia)]
   rfl
  show M.ft (ji _ (k:Int))=_
  rw[iu this]
  rfl
 refine Df (I:=fun ρ=> ∃ x y:Int,_∧_∧ρ=_) (ρ':=iG (val (.int sc)) (nL zs) e4 (val (.int ao)) e6 e7 (Ent.own ((List.range (k+1)).map (gn (zF zs) (gF (bs++[x])) (gF (fs++[y]))))) (Ent.own ((bs++[x]).map PV.int)) (Ent.own ((fs++[y]).map PV.int)) (val (.int k)) e12 e13 e14 e15 e16 e17 e18 e19) ?_ ⟨x,y,hx,hy,rfl⟩
 have same:(List.range k).map (gn (zF zs) (gF bs) (gF fs))=(List.range k).map (gn (zF zs) (gF (bs++[x])) (gF (fs++[y]))):=List.map_congr_left fun i hi=>by
  have hi:i < k:=List.mem_range.mp hi
  unfold gn gF
  rw[KU,KU,KU,KU,Li (by lia),Li (by lia)]
 have gx: ∀ (l:List Int) (x:Int),l.length=k→gF (l++[x]) k=x:=fun l x hl=>by
  unfold gF
  rw[KU,List.getElem?_append_right (by lia),hl,Nat.sub_self]
  rfl
 rw[vf (l:=(List.range k).map (gn (zF zs) (gF bs) (gF fs))) (y:=gn (zF zs) (gF (bs++[x])) (gF (fs++[y])) k) rfl ?_ lp]
 ·rw[same,show (List.range (k+1)).map (gn (zF zs) (gF (bs++[x])) (gF (fs++[y])))=(List.range k).map (gn (zF zs) (gF (bs++[x])) (gF (fs++[y])))++[gn (zF zs) (gF (bs++[x])) (gF (fs++[y])) k] by rw[List.range_succ,List.map_append];rfl]
  rfl
 ·show (aa _ _ _).bind aO=_
  have inner:(fun ρ=>((aa (fun ρ=>((aa (fun _=>M.ret (.str "looked")) (aa (ag aI (fun ρ=>cA ρ 10) (fun ρ=>ae ρ 11)) (fun _=>M.ret []))) ρ).bind aO) (fun _=>M.ret [])) ρ).bind aO) (iG (val (.int sc)) (nL zs) e4 (val (.int ao)) e6 e7 (Ent.own ((List.range k).map (gn (zF zs) (gF bs) (gF fs)))) (Ent.own ((bs++[x]).map PV.int)) (Ent.own ((fs++[y]).map PV.int)) (val (.int k)) e12 e13 e14 e15 e16 e17 e18 e19)= .ret (.tup ([Ru.looked y].map Ru.pv)):=by
   show (aa _ _ _).bind aO=_
   rw[aA (y:=(Ru.looked y).pv) (by
    show (aa _ _ _).bind aO=_
    rw[aA (y:=.str "looked") rfl (aA (aQ (y:=.lst ((fs++[y]).map PV.int)) (z:=.int k) rfl rfl (at_ fs y hf)) rfl),rZ,oF]
    rfl) rfl,rZ,Jw]
   rfl
  rw[aA (y:=.str "rule") rfl (aA (aQ (y:=.int 500) (z:=.int k) rfl rfl (EC _ _)) (aA (aQ (y:=.lst ((bs++[x]).map PV.int)) (z:=.int k) rfl rfl (at_ bs x hb)) (aA (aQ rfl rfl zk) (aA inner rfl)))),rZ,Jt]
  unfold gn
  rw[gx bs x hb,gx fs y hf]
end
section
variable {sc ao:Int} {zs:List Str} {e4 e6 e7 e9 e10:Ent}
theorem HA (s0:1≤sc) (s1:sc≤33333) (hd:sc * 29≤ao) (hd2:ao≤999990) (hz:zs.length=3) (hr:rps.length≤3) (hk:lk.length < 8) (hl: ∀ q∈lk,(q.1=0∨q.1=1)∧0≤q.2∧q.2≤ao) (pm:l.Perm (rps++oH (zF zs) 0 lk)):
  Gen (Jy (iG (val (.int sc)) (nL zs) e4 (val (.int ao)) e6 e7 (Ent.own l) e9 e10 (val (.int (lk.length:Nat))) (Ent.own (lk.map aw)) e13 e14 e15 e16 e17 e18 e19)) 4
   (fun fl=> ∃ ρ',fl= .nx ρ'∧∃ (q:Int×Int) (l':List PV) (x13 x14:Ent),(∀ p∈lk++[q],(p.1=0∨p.1=1)∧0≤p.2∧p.2≤ao)∧l'.Perm (rps++oH (zF zs) 0 (lk++[q]))∧ρ'=iG (val (.int sc)) (nL zs) e4 (val (.int ao)) e6 e7 (Ent.own l') e9 e10 (val (.int (lk.length:Nat))) (Ent.own ((lk++[q]).map aw)) x13 x14 e15 e16 e17 e18 e19):=by
 have lll:l.length≤11:=by rw[pm.length_eq,K4,mj];lia
 have lkl:(lk.map aw).length < 100000:=by rw[Kx];lia
 unfold Jy
 refine Gen.le (jo (c:=2) (d:=2) (I:=fun ρ=> ∃ s m:Int,(s=0∨s=1)∧0≤m∧ρ=iG (val (.int sc)) (nL zs) e4 (val (.int ao)) e6 e7 (Ent.own l) e9 e10 (val (.int (lk.length:Nat))) (Ent.own (lk.map aw)) (val (.int s)) (val (.int m)) e15 e16 e17 e18 e19) ?_ ?_) (by decide)
 ·unfold zT
  simp only[aa,ag,dP,eS,rZ,ar,M.bZ]
  refine Gen.le (Gen.bind (Gen.draw (by lia) (by lia)) (d:=1) ?_) (by decide)
  rintro _ ⟨d,rfl,d0,d1⟩
  refine Gen.le (Gen.bind (Gen.draw (by lia) (by lia)) (d:=0) ?_) (by decide)
  rintro _ ⟨c,rfl,c0,c1⟩
  have m0:0≤sc * c:=Int.mul_nonneg (by lia) c0
  refine Gen.eq (y:=.nx (iG (val (.int sc)) (nL zs) e4 (val (.int ao)) e6 e7 (Ent.own l) e9 e10 (val (.int (lk.length:Nat))) (Ent.own (lk.map aw)) (val (.int d)) (val (.int (sc * c))) e15 e16 e17 e18 e19)) ?_ ⟨_,rfl,d,sc * c,by lia,m0,rfl⟩
  rw[qJ c s0 s1]
  rfl
 rintro _ ⟨s,m,hs,hm,rfl⟩
 refine Gen.le (jo (c:=1) (d:=1) (I:=fun ρ=> ∃ v:Int,0≤v∧v≤ao∧ρ=iG (val (.int sc)) (nL zs) e4 (val (.int ao)) e6 e7 (Ent.own l) e9 e10 (val (.int (lk.length:Nat))) (Ent.own ((lk++[(s,v)]).map aw)) (val (.int s)) (val (.int m)) e15 e16 e17 e18 e19) ?_ ?_) (by decide)
 ·unfold d8
  simp only[KQ,KR,bR,aa,ag,dP,eS,rZ,CZ,ar,M.bZ]
  refine Gen.le (Gen.bind (Gen.draw (by lia) (by lia)) (d:=0) ?_) (by decide)
  rintro _ ⟨d,rfl,d0,d1⟩
  obtain⟨y,hy,e⟩:=rm (l:=[PV.int 0,PV.int 0,PV.int 1]) d0 d1
  obtain⟨w,rfl,hw⟩: ∃ w:Int,y= .int w∧0≤w:=by
   simp only[KJ,KL,or_false] at hy
   rcases hy with rfl|rfl|rfl<;>exact⟨_,rfl,by decide⟩
  have em:jx [.int ao,.int (m+w)]= .ret (.int (mV ao (m+w))):=rfl
  have bd:0≤mV ao (m+w)∧mV ao (m+w)≤ao:=by unfold mV;split<;>lia
  refine Gen.eq (y:=.nx (iG (val (.int sc)) (nL zs) e4 (val (.int ao)) e6 e7 (Ent.own l) e9 e10 (val (.int (lk.length:Nat))) (Ent.own ((lk++[(s,mV ao (m+w))]).map aw)) (val (.int s)) (val (.int m)) e15 e16 e17 e18 e19)) ?_ ⟨_,rfl,_,bd.1,bd.2,rfl⟩
  simp only[aI,e,M.ft,rZ,yc,em,oF]
  rw[Lq lkl,List.map_append]
  rfl
 rintro _ ⟨v,v0,v1,rfl⟩
 have zk:aI (.lst (zs.map PV.str)) (.int s)= .ret (.str (zF zs s.toNat)):=by
  have:(zs.map PV.str)[s.toNat]?=some (.str (zF zs s.toNat)):=by
   rw[KY,Ku (by lia)]
   show some (PV.str _)=some (PV.str (zs.getD s.toNat ""))
   rw[KU,Ku (by lia)]
   rfl
  show M.ft (ji _ s)=_
  rw[←Int.toNat_of_nonneg (show 0≤s by lia),iu this]
  rfl
 have lx:aI (.lst ((lk++[(s,v)]).map aw)) (.int (-1))= .ret (aw (s,v)):=vU (by rw[List.getLast?_append];rfl)
 have page:JZ (iG (val (.int sc)) (nL zs) e4 (val (.int ao)) e6 e7 (Ent.own l) e9 e10 (val (.int (lk.length:Nat))) (Ent.own ((lk++[(s,v)]).map aw)) (val (.int s)) (val (.int m)) e15 e16 e17 e18 e19)= .ret (qK (zF zs) lk.length (s,v)):=by
  show (aa _ _ _).bind aO=_
  rw[aA (y:=.str "look") rfl (aA (aQ (aQ (y:=.int (lk.length:Nat)) (z:=.int 37) rfl rfl (Hu (by lia) (by lia))) (z:=.int 331) rfl (Js (by decide))) (aA (aQ (aQ (y:=.lst ((lk++[(s,v)]).map aw)) (z:=.int (-1)) rfl rfl lx) rfl (qv (s,v))) (aA (aQ rfl rfl zk) rfl))),rZ,Ju]
  rfl
 have ea:dJ (.int (l.length:Int)) (.int 1)= .ret (.int ((l.length:Int)+1)):=rfl
 have dr:J0 (iG (val (.int sc)) (nL zs) e4 (val (.int ao)) e6 e7 (Ent.own l) e9 e10 (val (.int (lk.length:Nat))) (Ent.own ((lk++[(s,v)]).map aw)) (val (.int s)) (val (.int m)) e15 e16 e17 e18 e19)=sX [.fY,.int ((l.length:Int)+1)]:=by
  show (aa _ _ _).bind ar=_
  rw[aA (y:=.fY) rfl (aA (aQ (y:=.int (l.length:Int)) (z:=.int 1) rfl rfl ea) rfl),rZ]
  rfl
 have h8:(iG (val (.int sc)) (nL zs) e4 (val (.int ao)) e6 e7 (Ent.own l) e9 e10 (val (.int (lk.length:Nat))) (Ent.own ((lk++[(s,v)]).map aw)) (val (.int s)) (val (.int m)) e15 e16 e17 e18 e19)[8]?=some (Ent.own l):=rfl
 show Gen (uR 8 (aa J0 (aa JZ (fun _=>M.ret []))) (iG (val (.int sc)) (nL zs) e4 (val (.int ao)) e6 e7 (Ent.own l) e9 e10 (val (.int (lk.length:Nat))) (Ent.own ((lk++[(s,v)]).map aw)) (val (.int s)) (val (.int m)) e15 e16 e17 e18 e19)) 1 _
 refine Gen.mono (De (k:=8) (ρ:=(iG (val (.int sc)) (nL zs) e4 (val (.int ao)) e6 e7 (Ent.own l) e9 e10 (val (.int (lk.length:Nat))) (Ent.own ((lk++[(s,v)]).map aw)) (val (.int s)) (val (.int m)) e15 e16 e17 e18 e19)) (l:=l) (y:=qK (zF zs) lk.length (s,v)) h8 dr page (by lia)) (KG _) ?_
 rintro _ ⟨i,rfl⟩
 refine⟨_,rfl,(s,v),l.take i++qK (zF zs) lk.length (s,v)::l.drop i,_,_,fun p hp=>?_,?_,rfl⟩
 ·rcases Lp.mp hp with hp|hp
  ·exact hl p hp
  ·rw[K7.mp hp];exact⟨hs,v0,v1⟩
 ·refine(zK l i _).trans ?_
  rw[sH,Nat.zero_add,←List.append_assoc]
  exact pm.append_right _
end
theorem Ao:(lD ((List.replicate 20 un).set 1 (.val .fY))).wp 1000000 fun f _=>f= .rt (.bl true):=by
 have g:Gen (lD ((List.replicate 20 un).set 1 (.val .fY))) 2000 (fun f=>f= .rt (.bl true)):=by
  show Gen (lD (iG un un un un un un un un un un un un un un un un un un)) 2000 _
  unfold lD
  refine Gen.le (jo (c:=1) (d:=1900) (I:=fun ρ=> ∃ sc:Int,1≤sc∧sc≤33333∧ρ=iG (val (.int sc)) un un un un un un un un un un un un un un un un un) ?_ ?_) (by decide)
  ·simp only[bF,ag,bR,aa,dP,eS,rZ,CZ,ar,M.bZ]
   refine Gen.le (Gen.bind (Gen.draw (by lia) (by lia)) (d:=0) ?_) (by decide)
   rintro _ ⟨d,rfl,d0,d1⟩
   obtain⟨y,hy,e⟩:=rm (l:=[PV.int 1,PV.int 7,PV.int 33333]) d0 d1
   obtain⟨sc,rfl,s0,s1⟩: ∃ sc:Int,y= .int sc∧1≤sc∧sc≤33333:=by
    simp only[KJ,KL,or_false] at hy
    rcases hy with rfl|rfl|rfl<;>exact⟨_,rfl,by decide,by decide⟩
   exact Gen.eq (y:=.nx _) (by simp only[aI,e,M.ft,rZ];rfl) ⟨_,rfl,sc,s0,s1,rfl⟩
  rintro _ ⟨sc,s0,s1,rfl⟩
  refine Gen.le (jo (c:=45) (d:=1800) (I:=fun ρ=> ∃ zs sp:List Str,zs.length=3∧sp.length=2∧(∀ x∈zs,Wd x)∧zs.Nodup∧ρ=iG (val (.int sc)) (nL zs) (nL sp) un un un un un un un un un un un un un un un) ?_ ?_) (by decide)
  ·simp only[yB,aa,dP,eS,rZ,M.bZ]
   refine Gen.le (Gen.bind (pJ (k:=3) (by decide) (by decide)) (d:=18) ?_) (by decide)
   rintro _ ⟨zs,rfl,zl,zw,znd⟩
   refine Gen.le (Gen.bind (pJ (k:=2) (by decide) (by decide)) (d:=0) ?_) (by decide)
   rintro _ ⟨sp,rfl,spl,_⟩
   exact Gen.eq (y:=.nx _) (by simp only[rZ,oF];rfl) ⟨_,rfl,zs,sp,zl,spl,zw,znd,rfl⟩
  rintro _ ⟨zs,sp,zl,spl,zw,znd,rfl⟩
  refine Gen.le (jo (c:=1) (d:=1700) (I:=fun ρ=> ∃ ao:Int,sc * 29≤ao∧ao≤999990∧ρ=iG (val (.int sc)) (nL zs) (nL sp) (val (.int ao)) un un un un un un un un un un un un un un) ?_ ?_) (by decide)
  ·simp only[bF,ag,aa,dP,eS,rZ,ar,M.bZ,qJ 30 s0 s1]
   refine Gen.le (Gen.bind (Gen.draw (by lia) (by lia)) (d:=0) ?_) (by decide)
   rintro _ ⟨d,rfl,d0,d1⟩
   exact Gen.eq (y:=.nx _) (by rw[EC];rfl) ⟨_,rfl,sc * 30 - d,by lia,by lia,rfl⟩
  rintro _ ⟨ao,hd,hd2,rfl⟩
  match zs,zl,sp,spl,zw,znd with
  |[a0,a1,a2],zl,[p0,p1],spl,zw,znd=>
  obtain⟨zs,ezs⟩: ∃ zs,zs=[a0,a1,a2]:=⟨_,rfl⟩
  have zl':zs.length=3:=by rw[ezs];rfl
  have ezf:Hq (zF zs)= .lst ([a0,a1,a2].map PV.str):=by rw[ezs];rfl
  refine Gen.le (jo (c:=0) (d:=1600) (I:=fun ρ=>ρ=iG (val (.int sc)) (nL [a0,a1,a2]) (nL [p0,p1]) (val (.int ao)) (val (.lst [.str "slope",.str "slope",.str "lift"])) un un un un un un un un un un un un un) (Df (by simp only[bF,bR,aa,rZ,CZ];rfl) rfl) ?_) (by decide)
  rintro _ rfl
  refine Gen.le (jo (c:=0) (d:=1500) (I:=fun ρ=>ρ=iG (val (.int sc)) (nL [a0,a1,a2]) (nL [p0,p1]) (val (.int ao)) (val (.lst [.str "slope",.str "slope",.str "lift"])) (val (oK (zF zs) (.str p0) (.str p1) (.str p0) ao)) un un un un un un un un un un un un) (Df ?_ rfl) ?_) (by decide)
  ·have er:fc [.int 3]= .ret ([0,1,2].map fun k:Nat=>PV.int (k:Int)):=rfl
   have q:=j5 (m:=fun k:Nat=>PV.int (k:Int)) (k:=0) (tt:=gG) (te:=JD) (p:=fun _=>true) (g:=fun k=>PV.tup [.str (zF zs k),.str (if k=2 then "lift" else "slope"),.str p0,.str p1,.int (k:Int),.int 1]) (ρ:=[un,nL [a0,a1,a2],val (.lst [.str "slope",.str "slope",.str "lift"]),nL [p0,p1]]) [0,1,2] [un,nL [a0,a1,a2],val (.lst [.str "slope",.str "slope",.str "lift"]),nL [p0,p1]] (fun _=>rfl) (fun _ _=>rfl) (fun k hk _=>by
    rw[ezs]
    simp only[KJ,KL,or_false] at hk
    unfold JD
    show (aa _ _ _).bind aO=_
    rcases hk with rfl|rfl|rfl
    ·rw[aA (y:=.str a0) rfl (aA (y:=.str "slope") rfl (aA (y:=.str p0) rfl (aA (y:=.str p1) rfl (aA (y:=.int 0) rfl (aA (y:=.int 1) rfl rfl))))),rZ,Fn]
     rfl
    ·rw[aA (y:=.str a1) rfl (aA (y:=.str "slope") rfl (aA (y:=.str p0) rfl (aA (y:=.str p1) rfl (aA (y:=.int 1) rfl (aA (y:=.int 1) rfl rfl))))),rZ,Fn]
     rfl
    ·rw[aA (y:=.str a2) rfl (aA (y:=.str "lift") rfl (aA (y:=.str p0) rfl (aA (y:=.str p1) rfl (aA (y:=.int 2) rfl (aA (y:=.int 1) rfl rfl))))),rZ,Fn]
     rfl)
   unfold bF
   show ((aa (fun ρ=>((aa (bR (eD [none,some 3,some 6,some 4] (fun ρ=>((aa (fun _=>M.ret (.int 3)) (fun _=>M.ret [])) ρ).bind fc) (aP 0) gG JD)) (fun _=>M.ret [])) ρ).bind oe) _ _).bind aO).bind _=_
   rw[aA (y:=.tup ((Ek (zF zs) (.str p0) (.str p1)).map fun p=>.tup (.str p.1::p.2))) (by
    show (aa _ _ _).bind oe=_
    rw[aA (y:=.lst (([0,1,2].filter fun _=>true).map fun k:Nat=>PV.tup [.str (zF zs k),.str (if k=2 then "lift" else "slope"),.str p0,.str p1,.int (k:Int),.int 1])) (by
     unfold bR eD
     rw[show ((fun ρ=>((aa (fun _=>M.ret (.int 3)) (fun _=>M.ret [])) ρ).bind fc) (iG (val (.int sc)) (nL [a0,a1,a2]) (nL [p0,p1]) (val (.int ao)) (val (.lst [.str "slope",.str "slope",.str "lift"])) un un un un un un un un un un un un un))= .ret ([0,1,2].map fun k:Nat=>PV.int (k:Int)) from er,rZ,Lq (by decide)]
     rw[show ir [none,some 3,some 6,some 4] (iG (val (.int sc)) (nL [a0,a1,a2]) (nL [p0,p1]) (val (.int ao)) (val (.lst [.str "slope",.str "slope",.str "lift"])) un un un un un un un un un un un un un)=[un,nL [a0,a1,a2],val (.lst [.str "slope",.str "slope",.str "lift"]),nL [p0,p1]] from rfl,q]
     rfl) rfl,rZ]
    rfl) (aA (y:=.str p0) rfl (aA (y:=.int ao) rfl rfl)),rZ,Jv]
   rfl
  rintro _ rfl
  refine Gen.le (jo (c:=0) (d:=1400) (I:=fun ρ=>ρ=iG (val (.int sc)) (nL [a0,a1,a2]) (nL [p0,p1]) (val (.int ao)) (val (.lst [.str "slope",.str "slope",.str "lift"])) (val (oK (zF zs) (.str p0) (.str p1) (.str p0) ao)) (Ent.own []) un un un un un un un un un un un) (Df (by simp only[jn,rZ,Ah];rfl) rfl) ?_) (by decide)
  rintro _ rfl
  refine Gen.le (jo (c:=0) (d:=1300) (I:=fun ρ=>ρ=iG (val (.int sc)) (nL [a0,a1,a2]) (nL [p0,p1]) (val (.int ao)) (val (.lst [.str "slope",.str "slope",.str "lift"])) (val (oK (zF zs) (.str p0) (.str p1) (.str p0) ao)) (Ent.own []) (Ent.own []) (Ent.own []) un un un un un un un un un) (Df (by simp only[vL,rZ,Ah];rfl) rfl) ?_) (by decide)
  rintro _ rfl
  rw[←ezs]
  refine Gen.le (jo (c:=30) (d:=1200) (I:=fun ρ=> ∃ (bs fs:List Int) (e11:Ent),bs.length=3∧fs.length=3∧(∀ x∈bs,0≤x∧x≤400000∧x≤ao+1)∧(∀ y∈fs,1≤y∧y≤1000000)∧ρ=iG (val (.int sc)) (nL zs) (nL [p0,p1]) (val (.int ao)) (val (.lst [.str "slope",.str "slope",.str "lift"])) (val (oK (zF zs) (.str p0) (.str p1) (.str p0) ao)) (Ent.own ((List.range 3).map (gn (zF zs) (gF bs) (gF fs)))) (Ent.own (bs.map PV.int)) (Ent.own (fs.map PV.int)) e11 un un un un un un un un) ?_ ?_) (by decide)
  ·show Gen (bx _ (aP 11) JO _) _ _
   have er:fc [.int 3]= .ret (di 0 3):=rfl
   unfold bx
   simp only[aa,rZ,er]
   refine Gen.mono (wb (k:=11) (c:=10) (Iv:=fun i ρ=> ∃ (bs fs:List Int) (e11:Ent),bs.length=i∧fs.length=i∧(∀ x∈bs,0≤x∧x≤400000∧x≤ao+1)∧(∀ y∈fs,1≤y∧y≤1000000)∧ρ=iG (val (.int sc)) (nL zs) (nL [p0,p1]) (val (.int ao)) (val (.lst [.str "slope",.str "slope",.str "lift"])) (val (oK (zF zs) (.str p0) (.str p1) (.str p0) ao)) (Ent.own ((List.range i).map (gn (zF zs) (gF bs) (gF fs)))) (Ent.own (bs.map PV.int)) (Ent.own (fs.map PV.int)) e11 un un un un un un un un) (di 0 3) 0 _ ⟨[],[],_,rfl,rfl,fun x hx=>absurd hx KL,fun x hx=>absurd hx KL,rfl⟩ ?_) (by decide) ?_
   ·rintro j y hy _ ⟨bs,fs,e11,hb,hf,hbs,hfs,rfl⟩
    rw[Nat.zero_add] at hb hf ⊢
    have hj:j < 3:=by have:=(KD.mp hy).1;simpa[di] using this
    have ey:y= .int (j:Int):=by
     unfold di at hy
     rw[KY,List.getElem?_range hj] at hy
     have:=(Lv hy).symm
     rw[this];show PV.int (0+(j:Int))=_;rw[Int.zero_add]
    rw[ey]
    refine Gen.mono (HW s0 s1 hd hd2 zl' hj hb hf) (KG _) ?_
    rintro _ ⟨ρ',rfl,x,y,hx,hy',rfl⟩
    refine⟨_,rfl,bs++[x],fs++[y],_,by rw[K4,hb];rfl,by rw[K4,hf];rfl,fun v hv=>?_,fun v hv=>?_,rfl⟩
    ·rcases Lp.mp hv with hv|hv
     ·exact hbs v hv
     ·rw[K7.mp hv];exact hx
    ·rcases Lp.mp hv with hv|hv
     ·exact hfs v hv
     ·rw[K7.mp hv];exact hy'
   ·rintro f ⟨ρ',rfl,bs,fs,e11,hb,hf,hbs,hfs,rfl⟩
    exact⟨_,rfl,bs,fs,e11,hb,hf,hbs,hfs,rfl⟩
  rintro _ ⟨bs,fs,e11,hb,hf,hbs,hfs,rfl⟩
  refine Gen.le (jo (c:=0) (d:=1100) (I:=fun ρ=>ρ=iG (val (.int sc)) (nL zs) (nL [p0,p1]) (val (.int ao)) (val (.lst [.str "slope",.str "slope",.str "lift"])) (val (oK (zF zs) (.str p0) (.str p1) (.str p0) ao)) (Ent.own ((List.range 3).map (gn (zF zs) (gF bs) (gF fs)))) (Ent.own (bs.map PV.int)) (Ent.own (fs.map PV.int)) e11 (Ent.own (([]:fk).map aw)) un un un un un un un) (Df (by simp only[jn,rZ,Ah];rfl) rfl) ?_) (by decide)
  rintro _ rfl
  refine Gen.le (jo (c:=41) (d:=1000) (I:=fun ρ=> ∃ (lk:fk) (l:List PV) (e11 e13 e14:Ent),lk.length≤8∧(∀ q∈lk,(q.1=0∨q.1=1)∧0≤q.2∧q.2≤ao)∧l.Perm ((List.range 3).map (gn (zF zs) (gF bs) (gF fs))++oH (zF zs) 0 lk)∧ρ=iG (val (.int sc)) (nL zs) (nL [p0,p1]) (val (.int ao)) (val (.lst [.str "slope",.str "slope",.str "lift"])) (val (oK (zF zs) (.str p0) (.str p1) (.str p0) ao)) (Ent.own l) (Ent.own (bs.map PV.int)) (Ent.own (fs.map PV.int)) e11 (Ent.own (lk.map aw)) e13 e14 un un un un un) ?_ ?_) (by decide)
  ·show Gen (bx _ (aP 11) Jy _) _ _
   unfold bx
   simp only[aa,ag,dP,eS,rZ,ar,M.bZ]
   refine Gen.le (Gen.bind (Gen.draw (by lia) (by lia)) (d:=32) ?_) (by decide)
   rintro _ ⟨d,rfl,d0,d1⟩
   have er:fc [.int (1+d)]= .ret (di 0 (1+d).toNat):=by
    unfold fc
    dsimp only
    rw[Lq ⟨by lia,by lia⟩]
   have il:(di 0 (1+d).toNat).length=(1+d).toNat:=by simp[di]
   simp only[yc,rZ,er]
   refine Gen.mono (wb (k:=11) (c:=4) (Iv:=fun i ρ=> ∃ (lk:fk) (l:List PV) (e11 e13 e14:Ent),lk.length=i∧(∀ q∈lk,(q.1=0∨q.1=1)∧0≤q.2∧q.2≤ao)∧l.Perm ((List.range 3).map (gn (zF zs) (gF bs) (gF fs))++oH (zF zs) 0 lk)∧ρ=iG (val (.int sc)) (nL zs) (nL [p0,p1]) (val (.int ao)) (val (.lst [.str "slope",.str "slope",.str "lift"])) (val (oK (zF zs) (.str p0) (.str p1) (.str p0) ao)) (Ent.own l) (Ent.own (bs.map PV.int)) (Ent.own (fs.map PV.int)) e11 (Ent.own (lk.map aw)) e13 e14 un un un un un) (di 0 (1+d).toNat) 0 _ ⟨[],_,_,_,_,rfl,fun q hq=>absurd hq KL,by rw[show oH (zF zs) 0 []=[] from rfl,List.append_nil],rfl⟩ ?_) (by lia) ?_
   ·rintro j y hy _ ⟨lk,l,x11,x13,x14,hl,hq,pm,rfl⟩
    rw[Nat.zero_add] at hl ⊢
    have hj:j < (1+d).toNat:=by have:=(KD.mp hy).1;rw[il] at this;exact this
    have ey:y= .int (j:Int):=by
     unfold di at hy
     rw[KY,List.getElem?_range hj] at hy
     have:=(Lv hy).symm
     rw[this];show PV.int (0+(j:Int))=_;rw[Int.zero_add]
    rw[ey,←hl]
    refine Gen.mono (HA s0 s1 hd hd2 zl' (by simp) (by lia) hq pm) (KG _) ?_
    rintro _ ⟨ρ',rfl,q,l',y13,y14,hq',pm',rfl⟩
    exact⟨_,rfl,lk++[q],l',_,y13,y14,by rw[K4];rfl,hq',pm',rfl⟩
   ·rintro f ⟨ρ',rfl,lk,l,x11,x13,x14,hl,hq,pm,rfl⟩
    rw[Nat.zero_add,il] at hl
    exact⟨_,rfl,lk,l,x11,x13,x14,by lia,hq,pm,rfl⟩
  rintro _ ⟨lk,l,x11,x13,x14,hll,hq,pm,rfl⟩
  have D:Dat ao (zF zs) (gF bs) (gF fs) lk l:=by
   refine⟨fun i j hi hj e=>?_,fun k hk=>?_,fun k hk=>?_,hq,hll,by lia,hd2,pm⟩
   ·rw[ezs] at e
    have n01:a0≠a1:=fun z=>by rw[z] at znd;simp at znd
    have n02:a0≠a2:=fun z=>by rw[z] at znd;simp at znd
    have n12:a1≠a2:=fun z=>by rw[z] at znd;simp at znd
    have hi':i=0∨i=1∨i=2:=by lia
    have hj':j=0∨j=1∨j=2:=by lia
    rcases hi' with rfl|rfl|rfl<;>rcases hj' with rfl|rfl|rfl<;>first|rfl|exact absurd e n01|exact absurd e n02|exact absurd e n12|exact absurd e.symm n01|exact absurd e.symm n02|exact absurd e.symm n12
   ·have:gF bs k∈bs:=by unfold gF;rw[KU,Ku (by lia)];exact Ll _
    have:=hbs _ this
    exact⟨this.1,this.2.1⟩
   ·have:gF fs k∈fs:=by unfold gF;rw[KU,Ku (by lia)];exact Ll _
    exact hfs _ this
  have zwd: ∀ k,k < 3→Wd (zF zs k):=fun k hk=>by
   have:zF zs k∈zs:=by unfold zF;rw[KU,Ku (by lia)];exact Ll _
   rw[ezs] at this
   rw[ezs]
   exact zw _ this
  have bdk: ∀ k,k < 3→gF bs k≤ao+1:=fun k hk=>by
   have:gF bs k∈bs:=by unfold gF;rw[KU,Ku (by lia)];exact Ll _
   exact(hbs _ this).2.2
  obtain⟨F,hF,due⟩:=FJ (s0:=.str p0) (s1:=.str p1) (hm:=.str p0) D zwd bdk
  have ebs:HG (gF bs)= .lst (bs.map PV.int):=by
   match bs,hb with
   |[x,y,w],_=>rfl
  have efs:HG (gF fs)= .lst (fs.map PV.int):=by
   match fs,hf with
   |[x,y,w],_=>rfl
  have enm:Hq (zF zs)= .lst (zs.map PV.str):=by rw[ezs];rfl
  have hsr:=y0 D.mP (by have:=D.D3;lia)
  refine Gen.le (jo (c:=0) (d:=900) (I:=fun ρ=> ∃ k x13 x14 x16 x17 x18 x19,ρ=(jj sc ao (zF zs) (gF bs) (gF fs) lk (oK (zF zs) (.str p0) (.str p1) (.str p0) ao) (.tup (aN l)) (nL [p0,p1]) (val (.lst [.str "slope",.str "slope",.str "lift"])) (val (.lst l)) 0 x13 x14 x16 x17 x18 x19).set 11 k) (Df (ρ':=(jj sc ao (zF zs) (gF bs) (gF fs) lk (oK (zF zs) (.str p0) (.str p1) (.str p0) ao) (.tup (aN l)) (nL [p0,p1]) (val (.lst [.str "slope",.str "slope",.str "lift"])) (val (.lst l)) 0 x13.freeze x14.freeze un un un un).set 11 x11.freeze) ?_ ⟨_,_,_,_,_,_,_,rfl⟩) ?_) (by decide)
  ·show bF 15 _ (iG (val (.int sc)) (nL zs) (nL [p0,p1]) (val (.int ao)) (val (.lst [.str "slope",.str "slope",.str "lift"])) (val (oK (zF zs) (.str p0) (.str p1) (.str p0) ao)) (val (.lst l)) (val (.lst (bs.map PV.int))) (val (.lst (fs.map PV.int))) x11.freeze (val (.lst (lk.map aw))) x13.freeze x14.freeze un un un un un)=_
   unfold bF
   dsimp only
   rw[aA (y:=.lst (aN l)) (l:=[]) (by
    show M.bind _ _=_
    rw[show ((fun ρ=>((fun ρ=>ae ρ 8) ρ).bind mE) (iG (val (.int sc)) (nL zs) (nL [p0,p1]) (val (.int ao)) (val (.lst [.str "slope",.str "slope",.str "lift"])) (val (oK (zF zs) (.str p0) (.str p1) (.str p0) ao)) (val (.lst l)) (val (.lst (bs.map PV.int))) (val (.lst (fs.map PV.int))) x11.freeze (val (.lst (lk.map aw))) x13.freeze x14.freeze un un un un un))= .ret (aN l) from hsr]
    rfl) rfl,rZ]
   rw[←ebs,←efs,show nL zs=val (Hq (zF zs)) by rw[enm]]
   rfl
  rintro _ ⟨k0,y13,y14,y16,y17,y18,y19,rfl⟩
  refine Gen.le (jo (c:=0) (d:=0) (I:=fun ρ=> ∃ k x13 x14 x16 x17 x18 x19,ρ=(jj sc ao (zF zs) (gF bs) (gF fs) lk (oK (zF zs) (.str p0) (.str p1) (.str p0) ao) (.tup (aN l)) (nL [p0,p1]) (val (.lst [.str "slope",.str "slope",.str "lift"])) (val (.lst l)) 0 x13 x14 x16 x17 x18 x19).set 11 k) ?_ ?_) (by decide)
  ·show Gen (bx _ (aP 11) IX _) _ _
   have er:fc [.int 3]= .ret (di 0 3):=rfl
   unfold bx
   simp only[aa,rZ,er]
   refine Gen.mono (wb (k:=11) (c:=0) (Iv:=fun i ρ=> ∃ k x13 x14 x16 x17 x18 x19,ρ=(jj sc ao (zF zs) (gF bs) (gF fs) lk (oK (zF zs) (.str p0) (.str p1) (.str p0) ao) (.tup (aN l)) (nL [p0,p1]) (val (.lst [.str "slope",.str "slope",.str "lift"])) (val (.lst l)) 0 x13 x14 x16 x17 x18 x19).set 11 k) (di 0 3) 0 _ ⟨_,_,_,_,_,_,_,rfl⟩ ?_) (by decide) fun f hf=>hf
   rintro j y hy _ ⟨k1,w13,w14,w16,w17,w18,w19,rfl⟩
   have hj:j < 3:=by have:=(KD.mp hy).1;simpa[di] using this
   have ey:y= .int (j:Int):=by
    unfold di at hy
    rw[KY,List.getElem?_range hj] at hy
    have:=(Lv hy).symm
    rw[this];show PV.int (0+(j:Int))=_;rw[Int.zero_add]
   rw[ey]
   obtain⟨ps,pl,q1,q2,q3⟩:=due j hj
   obtain⟨v13,v14,v16,v17,v18,v19,th⟩:=GG (sc:=sc) (e4:=nL [p0,p1]) (e6:=val (.lst [.str "slope",.str "slope",.str "lift"])) (e8:=val (.lst l)) (e13:=w13) (e14:=w14) (e16:=w16) (e17:=w17) (e18:=w18) (e19:=w19) hj hll hF pl q1 q2 q3
   have es:((jj sc ao (zF zs) (gF bs) (gF fs) lk (oK (zF zs) (.str p0) (.str p1) (.str p0) ao) (.tup (aN l)) (nL [p0,p1]) (val (.lst [.str "slope",.str "slope",.str "lift"])) (val (.lst l)) 0 w13 w14 w16 w17 w18 w19).set 11 k1).set 11 (val (.int (j:Int)))=jj sc ao (zF zs) (gF bs) (gF fs) lk (oK (zF zs) (.str p0) (.str p1) (.str p0) ao) (.tup (aN l)) (nL [p0,p1]) (val (.lst [.str "slope",.str "slope",.str "lift"])) (val (.lst l)) j w13 w14 w16 w17 w18 w19:=rfl
   rw[es,th]
   exact Gen.ret ⟨_,rfl,val (.int j),v13,v14,v16,v17,v18,v19,rfl⟩
  ·rintro _ ⟨k1,w13,w14,w16,w17,w18,w19,rfl⟩
   exact Gen.eq rfl rfl
 exact M.wp_mono (g.h 1000000 (by decide)) fun f n h=>h.2
theorem all_mk {l : PySem.W.OpenLaw} {w : World} {K : Frag} {h : Heap} {mg : Str → Option Value} {q : Program} {fa a_last_page a_reading a_rules_at a_looked_at a_post_holds a_look_holds a_holds_alone a_others_asked a_found_open a_open_ways a_rule_turns a_turns a_stretches a_spans_within a_spans awstart awpick awword awwords awjoined a_law cb_law tb_law : Addr} (X : K.In h) (G : h.Ns mainGlobals mg) (hfa : mg "law" = some (.ref fa))
    {od0 an0 od1 an1 od2 an2 od3 an3 od4 an4 od5 an5 od6 an6 od7 an7 od8 an8 od9 an9 od10 an10 od11 an11 od12 an12 od13 an13 od14 an14 od15 an15 od16 an16 od17 an17 od18 an18 od19 an19 od20 an20 : Option Addr} {sl0 sl1 sl2 EI sl4 sl5 sl6 sl7 sl8 sl9 sl10 sl11 sl12 sl13 sl14 sl15 sl16 sl17 sl18 sl19 sl20 : Array (Option Value)} {oc0 kV0 dc0 pm0 cd0 ct0 oc1 kV1 dc1 pm1 cd1 ct1 oc2 kV2 dc2 pm2 cd2 ct2 oc3 kV3 dc3 pm3 cd3 ct3 oc4 kV4 dc4 pm4 cd4 ct4 oc5 kV5 dc5 pm5 cd5 ct5 oc6 kV6 dc6 pm6 cd6 ct6 oc7 kV7 dc7 pm7 cd7 ct7 oc8 kV8 dc8 pm8 cd8 ct8 oc9 kV9 dc9 pm9 cd9 ct9 oc10 kV10 dc10 pm10 cd10 ct10 oc11 kV11 dc11 pm11 cd11 ct11 oc12 kV12 dc12 pm12 cd12 ct12 oc13 kV13 dc13 pm13 cd13 ct13 oc14 kV14 dc14 pm14 cd14 ct14 oc15 kV15 dc15 pm15 cd15 ct15 oc16 kV16 dc16 pm16 cd16 ct16 oc17 kV17 dc17 pm17 cd17 ct17 oc18 kV18 dc18 pm18 cd18 ct18 oc19 kV19 dc19 pm19 cd19 ct19 oc20 kV20 dc20 pm20 cd20 ct20 : Value}
    (x0 : nsIn K mainGlobals "last_page" = some (some (.ref a_last_page))) (l0 : K.lookup a_last_page = some ⟨oc0, od0, .func (fnOf "last_page" "last_page" (bp cE) (av cE) (ah cE) .none kV0 dc0 pm0 an0 cd0 ct0), sl0⟩) (c0 : codeIn K cd0 "last_page" = true) (k0 : keepIn K (.ref a_last_page) = true)
    (x1 : nsIn K mainGlobals "reading" = some (some (.ref a_reading))) (l1 : K.lookup a_reading = some ⟨oc1, od1, .func (fnOf "reading" "reading" (bp dF) (av dF) (ah dF) .none kV1 dc1 pm1 an1 cd1 ct1), sl1⟩) (c1 : codeIn K cd1 "reading" = true) (k1 : keepIn K (.ref a_reading) = true)
    (x2 : nsIn K mainGlobals "rules_at" = some (some (.ref a_rules_at))) (l2 : K.lookup a_rules_at = some ⟨oc2, od2, .func (fnOf "rules_at" "rules_at" (bp cS) (av cS) (ah cS) .none kV2 dc2 pm2 an2 cd2 ct2), sl2⟩) (c2 : codeIn K cd2 "rules_at" = true) (k2 : keepIn K (.ref a_rules_at) = true)
    (x3 : nsIn K mainGlobals "looked_at" = some (some (.ref a_looked_at))) (l3 : K.lookup a_looked_at = some ⟨oc3, od3, .func (fnOf "looked_at" "looked_at" (bp cC) (av cC) (ah cC) .none kV3 dc3 pm3 an3 cd3 ct3), EI⟩) (c3 : codeIn K cd3 "looked_at" = true) (k3 : keepIn K (.ref a_looked_at) = true)
    (x4 : nsIn K mainGlobals "post_holds" = some (some (.ref a_post_holds))) (l4 : K.lookup a_post_holds = some ⟨oc4, od4, .func (fnOf "post_holds" "post_holds" (bp bW) (av bW) (ah bW) .none kV4 dc4 pm4 an4 cd4 ct4), sl4⟩) (c4 : codeIn K cd4 "post_holds" = true) (k4 : keepIn K (.ref a_post_holds) = true)
    (x5 : nsIn K mainGlobals "look_holds" = some (some (.ref a_look_holds))) (l5 : K.lookup a_look_holds = some ⟨oc5, od5, .func (fnOf "look_holds" "look_holds" (bp bX) (av bX) (ah bX) .none kV5 dc5 pm5 an5 cd5 ct5), sl5⟩) (c5 : codeIn K cd5 "look_holds" = true) (k5 : keepIn K (.ref a_look_holds) = true)
    (x6 : nsIn K mainGlobals "holds_alone" = some (some (.ref a_holds_alone))) (l6 : K.lookup a_holds_alone = some ⟨oc6, od6, .func (fnOf "holds_alone" "holds_alone" (bp bH) (av bH) (ah bH) .none kV6 dc6 pm6 an6 cd6 ct6), sl6⟩) (c6 : codeIn K cd6 "holds_alone" = true) (k6 : keepIn K (.ref a_holds_alone) = true)
    (x7 : nsIn K mainGlobals "others_asked" = some (some (.ref a_others_asked))) (l7 : K.lookup a_others_asked = some ⟨oc7, od7, .func (fnOf "others_asked" "others_asked" (bp aY) (av aY) (ah aY) .none kV7 dc7 pm7 an7 cd7 ct7), sl7⟩) (c7 : codeIn K cd7 "others_asked" = true) (k7 : keepIn K (.ref a_others_asked) = true)
    (x8 : nsIn K mainGlobals "found_open" = some (some (.ref a_found_open))) (l8 : K.lookup a_found_open = some ⟨oc8, od8, .func (fnOf "found_open" "found_open" (bp bL) (av bL) (ah bL) .none kV8 dc8 pm8 an8 cd8 ct8), sl8⟩) (c8 : codeIn K cd8 "found_open" = true) (k8 : keepIn K (.ref a_found_open) = true)
    (x9 : nsIn K mainGlobals "open_ways" = some (some (.ref a_open_ways))) (l9 : K.lookup a_open_ways = some ⟨oc9, od9, .func (fnOf "open_ways" "open_ways" (bp cc) (av cc) (ah cc) .none kV9 dc9 pm9 an9 cd9 ct9), sl9⟩) (c9 : codeIn K cd9 "open_ways" = true) (k9 : keepIn K (.ref a_open_ways) = true)
    (x10 : nsIn K mainGlobals "rule_turns" = some (some (.ref a_rule_turns))) (l10 : K.lookup a_rule_turns = some ⟨oc10, od10, .func (fnOf "rule_turns" "rule_turns" (bp bK) (av bK) (ah bK) .none kV10 dc10 pm10 an10 cd10 ct10), sl10⟩) (c10 : codeIn K cd10 "rule_turns" = true) (k10 : keepIn K (.ref a_rule_turns) = true)
    (x11 : nsIn K mainGlobals "turns" = some (some (.ref a_turns))) (l11 : K.lookup a_turns = some ⟨oc11, od11, .func (fnOf "turns" "turns" (bp fb) (av fb) (ah fb) .none kV11 dc11 pm11 an11 cd11 ct11), sl11⟩) (c11 : codeIn K cd11 "turns" = true) (k11 : keepIn K (.ref a_turns) = true)
    (x12 : nsIn K mainGlobals "stretches" = some (some (.ref a_stretches))) (l12 : K.lookup a_stretches = some ⟨oc12, od12, .func (fnOf "stretches" "stretches" (bp cb) (av cb) (ah cb) .none kV12 dc12 pm12 an12 cd12 ct12), sl12⟩) (c12 : codeIn K cd12 "stretches" = true) (k12 : keepIn K (.ref a_stretches) = true)
    (x13 : nsIn K mainGlobals "spans_within" = some (some (.ref a_spans_within))) (l13 : K.lookup a_spans_within = some ⟨oc13, od13, .func (fnOf "spans_within" "spans_within" (bp bA) (av bA) (ah bA) .none kV13 dc13 pm13 an13 cd13 ct13), sl13⟩) (c13 : codeIn K cd13 "spans_within" = true) (k13 : keepIn K (.ref a_spans_within) = true)
    (x14 : nsIn K mainGlobals "spans" = some (some (.ref a_spans))) (l14 : K.lookup a_spans = some ⟨oc14, od14, .func (fnOf "spans" "spans" (bp fH) (av fH) (ah fH) .none kV14 dc14 pm14 an14 cd14 ct14), sl14⟩) (c14 : codeIn K cd14 "spans" = true) (k14 : keepIn K (.ref a_spans) = true)
    (x15 : nsIn K mainGlobals "_law_start" = some (some (.ref awstart))) (l15 : K.lookup awstart = some ⟨oc15, od15, .func (fnOf "_law_start" "_law_start" (bp df) (av df) (ah df) .none kV15 dc15 pm15 an15 cd15 ct15), sl15⟩) (c15 : codeIn K cd15 "_law_start" = true) (k15 : keepIn K (.ref awstart) = true)
    (x16 : nsIn K mainGlobals "_law_pick" = some (some (.ref awpick))) (l16 : K.lookup awpick = some ⟨oc16, od16, .func (fnOf "_law_pick" "_law_pick" (bp fz) (av fz) (ah fz) .none kV16 dc16 pm16 an16 cd16 ct16), sl16⟩) (c16 : codeIn K cd16 "_law_pick" = true) (k16 : keepIn K (.ref awpick) = true)
    (x17 : nsIn K mainGlobals "_law_word" = some (some (.ref awword))) (l17 : K.lookup awword = some ⟨oc17, od17, .func (fnOf "_law_word" "_law_word" (bp bT) (av bT) (ah bT) .none kV17 dc17 pm17 an17 cd17 ct17), sl17⟩) (c17 : codeIn K cd17 "_law_word" = true) (k17 : keepIn K (.ref awword) = true)
    (x18 : nsIn K mainGlobals "_law_words" = some (some (.ref awwords))) (l18 : K.lookup awwords = some ⟨oc18, od18, .func (fnOf "_law_words" "_law_words" (bp cD) (av cD) (ah cD) .none kV18 dc18 pm18 an18 cd18 ct18), sl18⟩) (c18 : codeIn K cd18 "_law_words" = true) (k18 : keepIn K (.ref awwords) = true)
    (x19 : nsIn K mainGlobals "_law_joined" = some (some (.ref awjoined))) (l19 : K.lookup awjoined = some ⟨oc19, od19, .func (fnOf "_law_joined" "_law_joined" (bp bY) (av bY) (ah bY) .none kV19 dc19 pm19 an19 cd19 ct19), sl19⟩) (c19 : codeIn K cd19 "_law_joined" = true) (k19 : keepIn K (.ref awjoined) = true)
    (x20 : nsIn K mainGlobals "law" = some (some (.ref a_law))) (l20 : K.lookup a_law = some ⟨oc20, od20, .func (fnOf "law" "law" (bp fP) (av fP) (ah fP) .none kV20 dc20 pm20 an20 cd20 ct20), sl20⟩) (c20 : codeIn K cd20 "law" = true) (k20 : keepIn K (.ref a_law) = true)
    (z0 : nsIn K mainGlobals "len" = some none)
    (z1 : nsIn K mainGlobals "abs" = some none)
    (z2 : nsIn K mainGlobals "all" = some none)
    (z3 : nsIn K mainGlobals "range" = some none)
    (z4 : nsIn K mainGlobals "tuple" = some none)
    (z5 : nsIn K mainGlobals "max" = some none)
    (z6 : nsIn K mainGlobals "min" = some none)
    (z7 : nsIn K mainGlobals "sorted" = some none)
    (z8 : nsIn K mainGlobals "enumerate" = some none)
    (z9 : nsIn K mainGlobals "reversed" = some none)
    (z10 : nsIn K mainGlobals "repr" = some none)
    {ov20 : Value} {oo20 : Option Addr} {fv20 : Array Value} {os20 : Array (Option Value)} (tc20 : cd20 = .ref cb_law) (tv20 : K.lookup cb_law = some ⟨ov20, oo20, .fields fv20, os20⟩) (tw20 : fv20[11]? = some (Value.ref tb_law)) (tt20 : PySem.W.tabIn K "law" = some (cb_law, tb_law)) (th20 : PySem.W.codeHdIn K cb_law tb_law = true) (tn20 : K.lookup tb_law = none) (tr20 : ((recsOf q).find? fun r => r.name == ("law" : Str)).isSome = true) :
    ∃ (fd : FuncData) (ts : List (Str × Addr × Addr)), (∀ e ∈ ts, PySem.W.tabIn K e.1 = some e.2 ∧ K.lookup e.2.2 = none ∧ ((recsOf q).find? fun r => r.name == e.1).isSome = true) ∧ (∀ (s : Shared) (v : Value), BindsTo s fd ⟨[v], []⟩ [("_law_script", v)]) ∧ ∀ base : Heap, K.In base → base.Ns mainGlobals mg → DE base mg → bD l.prog w K mg base ed 9 fa fd ["_law_script"] (kF K (ts.map (·.2.2))) := by
  subst tc20
  have e := hfa.symm.trans (Ln X G x20)
  cases e
  have F0 := cT (st := cE) l0 c0 k0
  have b0 := F0.binds (ps := ["book", "kind", "name", "t"]) fun _ _ _ _ _ _ us hl => match us, hl with | [_, _, _, _], _ => rfl
  have F1 := cT (st := dF) l1 c1 k1
  have b1 := F1.binds (ps := ["book", "post", "t"]) fun _ _ _ _ _ _ us hl => match us, hl with | [_, _, _], _ => rfl
  have F2 := cT (st := cS) l2 c2 k2
  have b2 := F2.binds (ps := ["book", "w", "t"]) fun _ _ _ _ _ _ us hl => match us, hl with | [_, _, _], _ => rfl
  have F3 := cT (st := cC) l3 c3 k3
  have b3 := F3.binds (ps := ["book", "w", "t"]) fun _ _ _ _ _ _ us hl => match us, hl with | [_, _, _], _ => rfl
  have F4 := cT (st := bW) l4 c4 k4
  have b4 := F4.binds (ps := ["book", "rule", "t"]) fun _ _ _ _ _ _ us hl => match us, hl with | [_, _, _], _ => rfl
  have F5 := cT (st := bX) l5 c5 k5
  have b5 := F5.binds (ps := ["book", "way", "n", "t"]) fun _ _ _ _ _ _ us hl => match us, hl with | [_, _, _, _], _ => rfl
  have F6 := cT (st := bH) l6 c6 k6
  have b6 := F6.binds (ps := ["book", "way", "rule", "t"]) fun _ _ _ _ _ _ us hl => match us, hl with | [_, _, _, _], _ => rfl
  have F7 := cT (st := aY) l7 c7 k7
  have b7 := F7.binds (ps := ["book", "way", "t"]) fun _ _ _ _ _ _ us hl => match us, hl with | [_, _, _], _ => rfl
  have F8 := cT (st := bL) l8 c8 k8
  have b8 := F8.binds (ps := ["asked"]) fun _ _ _ _ _ _ us hl => match us, hl with | [_], _ => rfl
  have F9 := cT (st := cc) l9 c9 k9
  have b9 := F9.binds (ps := ["hill", "book", "t"]) fun _ _ _ _ _ _ us hl => match us, hl with | [_, _, _], _ => rfl
  have F10 := cT (st := bK) l10 c10 k10
  have b10 := F10.binds (ps := ["book", "w", "rule"]) fun _ _ _ _ _ _ us hl => match us, hl with | [_, _, _], _ => rfl
  have F11 := cT (st := fb) l11 c11 k11
  have b11 := F11.binds (ps := ["hill", "book"]) fun _ _ _ _ _ _ us hl => match us, hl with | [_, _], _ => rfl
  have F12 := cT (st := cb) l12 c12 k12
  have b12 := F12.binds (ps := ["hill", "book"]) fun _ _ _ _ _ _ us hl => match us, hl with | [_, _], _ => rfl
  have F13 := cT (st := bA) l13 c13 k13
  have b13 := F13.binds (ps := ["parts", "w", "dark"]) fun _ _ _ _ _ _ us hl => match us, hl with | [_, _, _], _ => rfl
  have F14 := cT (st := fH) l14 c14 k14
  have b14 := F14.binds (ps := ["hill", "book", "w"]) fun _ _ _ _ _ _ us hl => match us, hl with | [_, _, _], _ => rfl
  have F15 := cT (st := df) l15 c15 k15
  have b15 := F15.binds (ps := ["_law_script"]) fun _ _ _ _ _ _ us hl => match us, hl with | [_], _ => rfl
  have F16 := cT (st := fz) l16 c16 k16
  have b16 := F16.binds (ps := ["_law_state", "_law_many"]) fun _ _ _ _ _ _ us hl => match us, hl with | [_, _], _ => rfl
  have F17 := cT (st := bT) l17 c17 k17
  have b17 := F17.binds (ps := ["_law_state", "_law_taken"]) fun _ _ _ _ _ _ us hl => match us, hl with | [_, _], _ => rfl
  have F18 := cT (st := cD) l18 c18 k18
  have b18 := F18.binds (ps := ["_law_state", "_law_many"]) fun _ _ _ _ _ _ us hl => match us, hl with | [_, _], _ => rfl
  have F19 := cT (st := bY) l19 c19 k19
  have b19 := F19.binds (ps := ["_law_runs"]) fun _ _ _ _ _ _ us hl => match us, hl with | [_], _ => rfl
  have F20 := cT (st := fP) l20 c20 k20
  have b20 := F20.binds (ps := ["_law_script"]) fun _ _ _ _ _ _ us hl => match us, hl with | [_], _ => rfl
  have T : Txt K mg _ _ _ _ _ _ _ _ _ _ _ _ _ _ _ _ _ _ _ _ _ cb_law tb_law _ _ _ _ _ _ _ _ _ _ _ _ _ _ _ _ _ _ _ _ _ := ⟨F0, Ln X G x0, b0, F1, Ln X G x1, b1, F2, Ln X G x2, b2, F3, Ln X G x3, b3, F4, Ln X G x4, b4, F5, Ln X G x5, b5, F6, Ln X G x6, b6, F7, Ln X G x7, b7, F8, Ln X G x8, b8, F9, Ln X G x9, b9, F10, Ln X G x10, b10, F11, Ln X G x11, b11, F12, Ln X G x12, b12, F13, Ln X G x13, b13, F14, Ln X G x14, b14, F15, Ln X G x15, b15, F16, Ln X G x16, b16, F17, Ln X G x17, b17, F18, Ln X G x18, b18, F19, Ln X G x19, b19, F20, Ln X G x20, b20, Lm X G z0, Lm X G z1, Lm X G z2, Lm X G z3, Lm X G z4, Lm X G z5, Lm X G z6, Lm X G z7, Lm X G z8, Lm X G z9, Lm X G z10, ⟨⟨_, _, _, _, _, _, _, _, rfl, l20, c20⟩, th20⟩⟩
  refine ⟨fnOf "law" "law" (bp fP) (av fP) (ah fP) .none kV20 dc20 pm20 an20 (.ref cb_law) ct20, [("law", cb_law, tb_law)], ?_, fun s v => .of_eq rfl, fun base kb _ hB => ?_⟩
  · intro e he
    simp only [KJ, KL, or_false] at he
    rcases he with rfl
    · exact ⟨tt20, tn20, tr20⟩
  show bD _ _ _ _ _ _ _ _ _ _ (kF K [tb_law])
  have bh := xW (φ := cU tb_law K) (CP (P := l.prog) (w := w) (base := base) T)
  have i4 := Ab (P := l.prog) (w := w) (base := base) T
  have cR := qF (P := l.prog) (w := w) (base := base) T 
  have lr := uK (P := l.prog) (w := w) (base := base) T cR
  have jM := sj (P := l.prog) (w := w) (base := base) T cR
  have i3 := qD (P := l.prog) (w := w) (base := base) T cR
  have ix := oA (P := l.prog) (w := w) (base := base) T lr
  have iy := oB (P := l.prog) (w := w) (base := base) T i3
  have gQ := mT (P := l.prog) (w := w) (base := base) T ix iy
  have gk := lN (P := l.prog) (w := w) (base := base) T jM gQ
  have iA := oD (P := l.prog) (w := w) (base := base) T 
  have dq := qC (P := l.prog) (w := w) (base := base) T iA gk
  have iw := oz (P := l.prog) (w := w) (base := base) T 
  have rC := Aa (P := l.prog) (w := w) (base := base) T iw
  have iZ := qB (P := l.prog) (w := w) (base := base) T dq rC
  have gh := lM (P := l.prog) (w := w) (base := base) T 
  have rD := Ac (P := l.prog) (w := w) (base := base) T gh iZ
  have jN := sk (P := l.prog) (w := w) (base := base) T bh
  have gI := qE (P := l.prog) (w := w) (base := base) T jN
  have iz := oC (P := l.prog) (w := w) (base := base) T 
  exact Fe T kb hB i4 bh gI iz rD dq Ao
theorem walk {l : PySem.W.OpenLaw} {q : Program} {loose : List Str} {XP : (Str → Option Value) → Heap → Prop} {YP : World → Heap → Prop} {d : DefRec} {K : Params → Frag} (hn : l.most = some 63) (hdf : d.params.defaults = [])
    (hY : ∀ (w : World) (h : Heap), YP w h → (K w.params).In h)
    (F : ∀ (w : World) (mg : Str → Option Value) (fa : Addr) (h : Heap), (K w.params).In h → h.Ns mainGlobals mg → mg d.name = some (.ref fa) →
      ∃ (fd : FuncData) (ts : List (Str × Addr × Addr)), (∀ e ∈ ts, PySem.W.tabIn (K w.params) e.1 = some e.2 ∧ (K w.params).lookup e.2.2 = none ∧ ((recsOf q).find? fun r => r.name == e.1).isSome = true) ∧ (∀ (s : Shared) (u : Value), BindsTo s fd ⟨[u], []⟩ [("_law_script", u)]) ∧
        ∀ base : Heap, (K w.params).In base → base.Ns mainGlobals mg → DE base mg → bD l.prog w (K w.params) mg base ed 9 fa fd ["_law_script"] (kF (K w.params) (ts.map (·.2.2)))) :
    PySem.W.WalkO q loose XP YP l.row.toRowW d [] (fun f vs => PySem.call f vs) :=
  L2.wO (n := 63) (k := 9) (x := "_law_script") (CX := fun _ => ed) (sp := fun w tbs => kF (K w.params) tbs) hn (by decide) hdf ⟨rfl, by decide, by decide, rfl⟩ hY F (fun _ _ a ns tbs hl ht hS => ⟨a, ns, rfl, hS, hl, ht, fun _ => rfl⟩) fun _ _ _ _ _ z => z
end K16
end
open PySem PySem.W PyProof.Rows
set_option maxRecDepth 100000 in
set_option maxHeartbeats 0 in
theorem PySem.Challenge.cw_homeslopes_k16_looks_one_behind_another_holds : PySem.Challenge.rw_homeslopes_k16_looks_one_behind_another.Holds := by
  w_on; o_law; k_head; (case hw => w_witness2)
  k_fill
  refine K16.walk (l := PySem.Challenge.rw_homeslopes_k16_looks_one_behind_another) rfl rfl (fun w h Y => PySem.W.km_in_of Y) ?F
  case F =>
    intro w mg fa h KX G hmg
    refine' K16.all_mk KX G hmg ?x0 ?l0 ?c0 ?k0 ?x1 ?l1 ?c1 ?k1 ?x2 ?l2 ?c2 ?k2 ?x3 ?l3 ?c3 ?k3 ?x4 ?l4 ?c4 ?k4 ?x5 ?l5 ?c5 ?k5 ?x6 ?l6 ?c6 ?k6 ?x7 ?l7 ?c7 ?k7 ?x8 ?l8 ?c8 ?k8 ?x9 ?l9 ?c9 ?k9 ?x10 ?l10 ?c10 ?k10 ?x11 ?l11 ?c11 ?k11 ?x12 ?l12 ?c12 ?k12 ?x13 ?l13 ?c13 ?k13 ?x14 ?l14 ?c14 ?k14 ?x15 ?l15 ?c15 ?k15 ?x16 ?l16 ?c16 ?k16 ?x17 ?l17 ?c17 ?k17 ?x18 ?l18 ?c18 ?k18 ?x19 ?l19 ?c19 ?k19 ?x20 ?l20 ?c20 ?k20 ?z0 ?z1 ?z2 ?z3 ?z4 ?z5 ?z6 ?z7 ?z8 ?z9 ?z10   ?tc20 ?tv20 ?tw20 ?tt20 ?th20 ?tn20 ?tr20
    (case x0 => k_is); (case l0 => k_is); (case c0 => k_is); (case k0 => k_is)
    (case x1 => k_is); (case l1 => k_is); (case c1 => k_is); (case k1 => k_is)
    (case x2 => k_is); (case l2 => k_is); (case c2 => k_is); (case k2 => k_is)
    (case x3 => k_is); (case l3 => k_is); (case c3 => k_is); (case k3 => k_is)
    (case x4 => k_is); (case l4 => k_is); (case c4 => k_is); (case k4 => k_is)
    (case x5 => k_is); (case l5 => k_is); (case c5 => k_is); (case k5 => k_is)
    (case x6 => k_is); (case l6 => k_is); (case c6 => k_is); (case k6 => k_is)
    (case x7 => k_is); (case l7 => k_is); (case c7 => k_is); (case k7 => k_is)
    (case x8 => k_is); (case l8 => k_is); (case c8 => k_is); (case k8 => k_is)
    (case x9 => k_is); (case l9 => k_is); (case c9 => k_is); (case k9 => k_is)
    (case x10 => k_is); (case l10 => k_is); (case c10 => k_is); (case k10 => k_is)
    (case x11 => k_is); (case l11 => k_is); (case c11 => k_is); (case k11 => k_is)
    (case x12 => k_is); (case l12 => k_is); (case c12 => k_is); (case k12 => k_is)
    (case x13 => k_is); (case l13 => k_is); (case c13 => k_is); (case k13 => k_is)
    (case x14 => k_is); (case l14 => k_is); (case c14 => k_is); (case k14 => k_is)
    (case x15 => k_is); (case l15 => k_is); (case c15 => k_is); (case k15 => k_is)
    (case x16 => k_is); (case l16 => k_is); (case c16 => k_is); (case k16 => k_is)
    (case x17 => k_is); (case l17 => k_is); (case c17 => k_is); (case k17 => k_is)
    (case x18 => k_is); (case l18 => k_is); (case c18 => k_is); (case k18 => k_is)
    (case x19 => k_is); (case l19 => k_is); (case c19 => k_is); (case k19 => k_is)
    (case x20 => k_is); (case l20 => k_is); (case c20 => k_is); (case k20 => k_is)
    (case z0 => k_is)
    (case z1 => k_is)
    (case z2 => k_is)
    (case z3 => k_is)
    (case z4 => k_is)
    (case z5 => k_is)
    (case z6 => k_is)
    (case z7 => k_is)
    (case z8 => k_is)
    (case z9 => k_is)
    (case z10 => k_is)
    (case tc20 => rfl); (case tv20 => k_is); (case tw20 => rfl); (case tt20 => kernel_rfl); (case th20 => kernel_rfl); (case tn20 => kernel_rfl); (case tr20 => rfl)
