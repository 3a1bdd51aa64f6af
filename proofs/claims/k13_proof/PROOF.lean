import PyProof.Rows.All
import PyProof.StrLawsIdx
import Wide.All
import OpenK.AllK
import Wide.FinOn
import Lean
import PyProof.EqAt
import PyProof.EqKinds
import PyProof.TupleCall
import PyProof.NeKinds
import PySem.Challenge.RW_homeslopes_k13_spans_moment_by_moment
set_option Elab.async false
set_option linter.all false
set_option maxRecDepth 100000
set_option maxHeartbeats 4000000
set_option genSizeOf false
set_option backward.eqns.nonrecursive false
section
open PySem PySem.Spec PyProof.Rows
open PySem.W (Frag nsIn keepIn codeIn fnOf)
abbrev LH:=@List.getElem?_eq_getElem
abbrev LI:=@wpAny_bind
abbrev LJ:=@List.mem_cons_self
abbrev LK:=@List.length_map
abbrev LL:=@Heap.get?_push_of_some
abbrev LM:=@List.mem_cons_of_mem
abbrev LN:=@wpAny_pure
abbrev LO:=@List.size_toArray
abbrev LP:=@List.getElem?_eq_some_iff
abbrev LQ:=@Nat.le_refl
abbrev LR:=@List.set_cons_zero
abbrev LS:=@List.map_cons
abbrev LU:=@List.mem_cons
abbrev LV:=@List.not_mem_nil
abbrev LW:=@List.mem_map
abbrev LX:=@List.length_cons
abbrev LY:=@Heap.get?_push_size
abbrev LZ:=@List.getElem?_cons_succ
abbrev L0:=@List.getElem?_cons_zero
abbrev L1:=@Heap.lt_size
abbrev L3:=@List.getD_eq_getElem?_getD
abbrev L4:=@List.mem_append_right
abbrev L5:=@List.getElem?_map
abbrev L6:=@Nat.le_trans
abbrev L8:=@Array.getD_eq_getD_getElem?
abbrev L9:=@Nat.lt_of_lt_of_le
abbrev Ma:=@Option.map_eq_some_iff
abbrev Mb:=@decide_eq_false
abbrev Mc:=@List.length_append
abbrev Md:=@Array.getElem?_eq_getElem
abbrev Me:=@Nat.zero_le
abbrev Mf:=@List.mem_singleton
abbrev Mg:=@Nat.ne_of_lt
abbrev Mh:=@List.mem_map_of_mem
abbrev Mi:=@PySem.F.plainAttrs_list
abbrev Mj:=@List.getElem?_set_ne
abbrev Ml:=@PySem.F.type_list_append
abbrev Mm:=@PySem.F.slot_list_append
abbrev Mn:=@Array.length_toList
abbrev Mo:=@Bool.and_eq_true
abbrev Mp:=@List.eq_nil_of_length_eq_zero
abbrev Mq:=@sizeLine_eq
abbrev Mr:=@List.getElem?_append_left
abbrev Ms:=@List.set_cons_succ
abbrev Mt:=@Bool.false_eq_true
abbrev Mu:=@List.getElem_mem
abbrev Mv:=@PySem.W.mg_none_of
abbrev Mw:=@PySem.W.mg_of
abbrev Mx:=@List.mem_filter
abbrev My:=@List.mem_append
abbrev Mz:=@if_pos
abbrev MA:=@if_neg
abbrev MB:=@List.getElem?_set_self
abbrev MC:=@List.pairwise_cons
abbrev MD:=@Option.some.inj
section
namespace L2
open PySem PySem.Spec PyProof.Rows
noncomputable abbrev Key:=Sum Int Str
noncomputable def mI:Key→Value→Bool
 | .inl k,v=>Value.isInt k v
 | .inr x,v=>Value.isStrOf x v
noncomputable def KZ (w:World):Key→Int
 | .inl k=>hashInt k
 | .inr x=>hashStr w x
theorem bP: ∀ {k:Key} {v:Value},mI k v=true→(∃ i t,k=Sum.inl i∧v=Value.int i t)∨(∃ x t,k=Sum.inr x∧v=Value.str x t)
 | .inl i,v,h=>by
  obtain⟨t,e⟩:=Value.isInt_shape (k:=i) (v:=v) h
  exact .inl ⟨i,t,rfl,e⟩
 | .inr x,v,h=>by
  obtain⟨t,e⟩:=Value.isStrOf_shape (x:=x) (v:=v) h
  exact .inr ⟨x,t,rfl,e⟩
theorem rX (i:Int) (t:Tok):mI (.inl i) (.int i t)=true:=by simp[mI,Value.isInt]
theorem rW (x:Str) (t:Tok):mI (.inr x) (.str x t)=true:=by simp[mI,Value.isStrOf]
theorem Hf (a b:Int):decide ((Sum.inl a:Key)=Sum.inl b)=(a==b):=by
 by_cases e:a=b
 ·subst e;simp
 ·have h: ¬ (Sum.inl a:Key)=Sum.inl b:=fun q=>e (Sum.inl.inj q)
  rw[Mb h]
  exact(beq_eq_false_iff_ne.mpr e).symm
theorem Cr (a b:Str):decide ((Sum.inr a:Key)=Sum.inr b)=decide (a=b):=by
 by_cases e:a=b
 ·subst e;simp
 ·have h: ¬ (Sum.inr a:Key)=Sum.inr b:=fun q=>e (Sum.inr.inj q)
  rw[Mb h,Mb e]
theorem He (a:Int) (b:Str):decide ((Sum.inl a:Key)=Sum.inr b)=false:=Mb (fun q=>nomatch q)
theorem Hc (a:Str) (b:Int):decide ((Sum.inr a:Key)=Sum.inl b)=false:=Mb (fun q=>nomatch q)
noncomputable def bC (prog:Program) (w:World):PySem.KeyKind prog w Key where
 is:=mI
 hash:=KZ w
 inj:=fun v a b ha hb=>by
  rcases bP ha with⟨i,t,rfl,rfl⟩|⟨x,t,rfl,rfl⟩
  ·rcases bP hb with⟨j,u,rfl,e⟩|⟨y,u,rfl,e⟩
   ·injection e with e1 _;rw[e1]
   ·exact nomatch e
  ·rcases bP hb with⟨j,u,rfl,e⟩|⟨y,u,rfl,e⟩
   ·exact nomatch e
   ·injection e with e1 _;rw[e1]
 byValue:=fun k v h=>by
  rcases bP h with⟨i,t,rfl,rfl⟩|⟨x,t,rfl,rfl⟩<;>rfl
 pyHash:=fun hv h=>by
  rcases bP hv with⟨i,t,rfl,rfl⟩|⟨x,t,rfl,rfl⟩
  ·exact wpAny_pyHash_int h
  ·exact wpAny_pyHash_str h
 eqBool:=fun hu hv h=>by
  rcases bP hu with⟨i,t,rfl,rfl⟩|⟨x,t,rfl,rfl⟩
  ·rcases bP hv with⟨j,u,rfl,rfl⟩|⟨y,u,rfl,rfl⟩
   ·rw[Hf] at h;exact wpAny_eqBool_int h
   ·rw[He] at h;exact SeqAt.EqAt.int_str i t y u _ _ _ _ h
  ·rcases bP hv with⟨j,u,rfl,rfl⟩|⟨y,u,rfl,rfl⟩
   ·rw[Hc] at h;exact SeqAt.EqAt.str_int x t j u _ _ _ _ h
   ·rw[Cr] at h;exact wpAny_eqBool_str h
 «strs»:=fun k x t v h=>by
  rcases bP h with⟨i,u,rfl,e⟩|⟨y,u,rfl,e⟩
  ·exact nomatch e
  ·injection e with e1 _
   subst e1
   cases v<;>rfl
theorem xo (prog:Program) (w:World) (k:Key) (v:Value):(bC prog w).is k v=mI k v:=rfl
theorem vm (prog:Program) (w:World) (i:Int) (t:Tok):(bC prog w).is (.inl i) (.int i t)=true:=rX i t
theorem vk (prog:Program) (w:World) (x:Str) (t:Tok):(bC prog w).is (.inr x) (.str x t)=true:=rW x t
end L2
namespace L2
open PySem PySem.Spec PyProof.Rows
inductive V where
 |aW|bl (b:Bool)|int (i:Int)|str (x:Str)|JF (b:Array UInt8)|K7 (b:UInt64)|ref (a:Addr)|ty (n:String)
 deriving DecidableEq
def RelV:V→Value→Prop
 | .aW,u=>u=Value.none
 | .bl b,u=>u=Value.bool b
 | .int i,u=> ∃ t,u=Value.int i t
 | .str x,u=> ∃ t,u=Value.str x t
 | .JF b,u=> ∃ t,u=Value.bytes b t
 | .K7 b,u=> ∃ t,u=Value.float b t
 | .ref a,u=>u=Value.ref a
 | .ty n,u=>u=Value.type n
abbrev Vals:List V→List Value→Prop:=Paired RelV
theorem Vals.length {xs:List V} {us:List Value} (r:Vals xs us):xs.length=us.length:=Paired.length r
theorem Vals.get: ∀ {xs:List V} {us:List Value} {i:Nat} {x:V},Vals xs us→xs[i]?=some x→∃ u,us[i]?=some u∧RelV x u
 |_,_,_,_,.nil,e=>by simp at e
 |_,_,0,_,.cons r _,e=>by simp at e;subst e;exact⟨_,rfl,r⟩
 |_,_,i+1,x,.cons _ t,e=>by
  obtain⟨u,h1,h2⟩:=Vals.get (i:=i) (x:=x) t (by simpa using e)
  exact⟨u,by simpa using h1,h2⟩
theorem Vals.set {x:V} {u:Value} (r:RelV x u): ∀ {xs:List V} {us:List Value} (i:Nat),Vals xs us→Vals (xs.set i x) (us.set i u)
 |_,_,_,.nil=>.nil
 |_,_,0,.cons _ t=>.cons r t
 |_,_,i+1,.cons q t=>.cons q (Vals.set r i t)
theorem Vals.append: ∀ {xs ys:List V} {us ws:List Value},Vals xs us→Vals ys ws→Vals (xs++ys) (us++ws)
 |_,_,_,_,.nil,s=>s
 |_,_,_,_,.cons r t,s=>.cons r (Vals.append t s)
theorem Vals.take: ∀ {xs:List V} {us:List Value} (n:Nat),Vals xs us→Vals (xs.take n) (us.take n)
 |_,_,0,_=>.nil
 |_,_,_+1,.nil=>.nil
 |_,_,n+1,.cons r t=>.cons r (Vals.take n t)
theorem Vals.drop: ∀ {xs:List V} {us:List Value} (n:Nat),Vals xs us→Vals (xs.drop n) (us.drop n)
 |_,_,0,r=>r
 |_,_,_+1,.nil=>.nil
 |_,_,n+1,.cons _ t=>Vals.drop n t
def rq:Option V→Option Value→Prop
 |some v,some u=>RelV v u
 |none,none=>True
 |_,_=>False
def KV {κ:Type}:List (κ×V)→List (κ×Value)→Prop:=Paired fun (p:κ×V) (q:κ×Value)=>p.1=q.1∧RelV p.2 q.2
noncomputable def kV:Key→V
 | .inl i=>.int i
 | .inr x=>.str x
set_option genInjectivity false in
inductive HO where
  |lst (xs:List V)
  |tup (xs:List V)
  |dK (kvs:List (Key×V))|dT (kvs:List (List Key×V))
  |set (S:Int→Bool) (n:Nat)
  |ins (C dx:Addr) (fs:List (Str×V))
  |own (x:Addr)
  |xd (fs:List (Str×V))
  |met (f x:Addr)
  |wO (lo hi:Int)
  |h8 (o:Obj) (u:HO)
  |oV (ps:Array Value)
  |ext (φ:Heap→Prop)
noncomputable abbrev Hp:=Addr→Option HO
noncomputable def upd (H:Hp) (a:Addr) (o:HO):Hp:=fun b=>if b=a then some o else H b
theorem az {H:Hp} {a:Addr} {o:HO}:upd H a o a=some o:=by unfold upd;rw[Mz rfl]
theorem ao {H:Hp} {a b:Addr} {o:HO} (h:b≠a):upd H a o b=H b:=by unfold upd;rw[MA h]
theorem Du {H:Hp} {a:Addr} {o u:HO}:upd (upd H a o) a u=upd H a u:=by
 funext b;unfold upd;split<;>rfl
theorem B9 {H:Hp} {a b:Addr} {o u:HO} (h:H a=some o) (h':H b=some u) (d:o≠u):a≠b:=by
 intro e;subst e;rw[h] at h';exact d (MD h')
theorem aQ {H:Hp} {a b:Addr} {o:HO} (h:H a=some o) (h':H b=none):a≠b:=by
 intro e;subst e;rw[h] at h';cases h'
section
variable (P:Program) (w:World)
def dz (H:Hp) (h:Heap) (a:Addr):HO→Prop
 | .lst xs=>xs.length≤sizeLine∧∃ (its:List Value) (n:Nat),Vals xs its∧h.get? a=some {cls:=.type "list",data:=.seq its.toArray n}
 | .tup xs=>xs.length≤sizeLine∧∃ its:List Value,Vals xs its∧IsTup h a its.toArray
 | .dK kvs=>kvs.length≤sizeLine∧(a==sysModules)=false∧∃ vs,KV kvs vs∧h.DictOf (bC P w) a vs
 | .dT kvs=>kvs.length≤sizeLine∧(a==sysModules)=false∧∃ xs:List (List Key×Addr×Value),
   Paired (fun (p:List Key×V) (q:List Key×Addr×Value)=>p.1=q.1∧H q.2.1=some (.tup (p.1.map kV))∧RelV p.2 q.2.2) kvs xs∧
   ∃ o es ep,h.get? a=some o∧o.ExactDict∧o.data= .dict es ep∧es.toList=xs.map (entryOfKey (tupleKind (bC P w)))∧(xs.map (·.1)).Nodup
 | .set S n=>h.SetOf (intKind P w) a S n
 | .ins C dx fs=>H dx=some (.own a)∧fs.length≤1000∧dx≠a∧h.get? a=some (PySem.W.instObj C dx)∧
   ∃ mA,h.Ns1 dx mA∧(∀ f,rq (fs.lookup f) (mA f))∧PySem.Within mA (fs.map (·.1))
 | .own _=> ∃ o,h.get? a=some o
 | .xd fs=> ∃ mA,h.Ns1 a mA∧∀ f,rq (fs.lookup f) (mA f)
 | .wO lo hi=> ∃ t u v,h.get? a=some {cls:=.type "range",data:=.fields #[.int lo t,.int hi u,.int 1 v]}
 | .h8 o u=>h.get? a=some o∧dz H h a u
 | .oV ps=>h.get? a=some {cls:=.none,data:=.fields ps}
 | .met f x=>h.get? a=some (PySem.W.methodObj (.ref f) (.ref x))
 | .ext φ=>φ h∧(∃ o,h.get? a=some o)∧∀ h1 h2:Heap,φ h1→(∀ o,h1.get? a=some o→h2.get? a=some o)→φ h2
def kP (H:Hp) (h:Heap):Prop:= ∀ a o,H a=some o→dz P w H h a o
end
section
variable {P:Program} {w:World} {H H':Hp} {h h':Heap} {a:Addr} {o:HO}
theorem dz.lt (x:dz P w H h a o):a < h.objs.size:=by
 cases o with
 |lst xs=>obtain⟨_,_,_,_,e⟩:=x;exact L1 e
 |tup xs=>obtain⟨_,_,_,p⟩:=x;exact p.lt
 |dK kvs=>obtain⟨_,_,_,_,o,_,_,e,_⟩:=x;exact L1 e
 |dT kvs=>obtain⟨_,_,_,_,o,_,_,e,_⟩:=x;exact L1 e
 |set S n=>obtain⟨o,_,_,_,e,_⟩:=x;exact L1 e
 |ins C dx fs=>obtain⟨_,_,_,e,_⟩:=x;exact L1 e
 |own y=>obtain⟨_,e⟩:=x;exact L1 e
 |xd fs=>obtain⟨_,⟨_,_,_,e,_⟩,_⟩:=x;exact L1 e
 |wO lo hi=>obtain⟨_,_,_,e⟩:=x;exact L1 e
 |h8 ob u=>obtain⟨e,_⟩:=x;exact L1 e
 |oV ps=>exact L1 (show h.get? a=some _ from x)
 |met f y=>exact L1 (show h.get? a=some _ from x)
 |ext φ=>obtain⟨_,⟨_,e⟩,_⟩:=x;exact L1 e
theorem Paired.G7 {α β:Type} {F G:α→β→Prop}: ∀ {l₁:List α} {l₂:List β},Paired F l₁ l₂→(∀ a b,F a b→G a b)→Paired G l₁ l₂
 |_,_,.nil,_=>.nil
 |_,_,.cons r t,f=>.cons (f _ _ r) (Paired.G7 t f)
theorem dz.pM (x:dz P w H h a o) (k: ∀ b u,(b=a∨H b=some (.own a))→h.get? b=some u→h'.get? b=some u)
  (ho: ∀ b,H b=some (.own a)→H' b=some (.own a)) (ht: ∀ b xs,H b=some (.tup xs)→H' b=some (.tup xs)):dz P w H' h' a o:=by
 induction o with
 |lst xs=>obtain⟨z,its,n,r,e⟩:=x;exact⟨z,its,n,r,k _ _ (.inl rfl) e⟩
 |tup xs=>obtain⟨z,its,r,ob,e,c⟩:=x;exact⟨z,its,r,ob,k _ _ (.inl rfl) e,c⟩
 |dK kvs=>obtain⟨z,y,vs,r,ob,es,ep,e,c⟩:=x;exact⟨z,y,vs,r,ob,es,ep,k _ _ (.inl rfl) e,c⟩
 |dT kvs=>
  obtain⟨z,y,xs,r,ob,es,ep,e,c⟩:=x
  exact⟨z,y,xs,Paired.G7 r fun p q z=>⟨z.1,ht _ _ z.2.1,z.2.2⟩,ob,es,ep,k _ _ (.inl rfl) e,c⟩
 |set S n=>obtain⟨ob,es,ep,t,e,c⟩:=x;exact⟨ob,es,ep,t,k _ _ (.inl rfl) e,c⟩
 |ins C dx fs=>
  obtain⟨d,z,ne,e,mA,⟨od,es,ep,e2,c⟩,r⟩:=x
  exact⟨ho _ d,z,ne,k _ _ (.inl rfl) e,mA,⟨od,es,ep,k _ _ (.inr d) e2,c⟩,r⟩
 |own y=>obtain⟨ob,e⟩:=x;exact⟨ob,k _ _ (.inl rfl) e⟩
 |xd fs=>obtain⟨mA,⟨od,es,ep,e,c⟩,r⟩:=x;exact⟨mA,⟨od,es,ep,k _ _ (.inl rfl) e,c⟩,r⟩
 |wO lo hi=>obtain⟨t,u,v,e⟩:=x;exact⟨t,u,v,k _ _ (.inl rfl) e⟩
 |h8 ob u ih=>obtain⟨e,q⟩:=x;exact⟨k _ _ (.inl rfl) e,ih q⟩
 |oV ps=>
  have e:h.get? a=some {cls:=.none,data:=.fields ps}:=x
  show h'.get? a=some {cls:=.none,data:=.fields ps}
  exact k a _ (.inl rfl) e
 |met f y=>
  have e:h.get? a=some (PySem.W.methodObj (.ref f) (.ref y)):=x
  show h'.get? a=some (PySem.W.methodObj (.ref f) (.ref y))
  exact k a _ (.inl rfl) e
 |ext φ=>obtain⟨p,⟨o,e⟩,st⟩:=x;exact⟨st _ _ p fun o q=>k _ _ (.inl rfl) q,⟨o,k _ _ (.inl rfl) e⟩,st⟩
theorem kP.lt (x:kP P w H h) (e:H a=some o):a < h.objs.size:=(x a o e).lt
theorem kP.fresh (x:kP P w H h) (e:h.objs.size≤a):H a=none:=by
 cases q:H a with
 |none=>rfl
 |some u=>exact absurd (L9 (x.lt q) e) (Nat.lt_irrefl _)
theorem kP.kept (x:kP P w H h) (k: ∀ b u,h.get? b=some u→h'.get? b=some u):kP P w H h':=fun a o e=>
 (x a o e).pM (fun b u _ q=>k b u q) (fun _ q=>q) fun _ _ q=>q
theorem kP.laid (x:kP P w H h) (k: ∀ b u,h.get? b=some u→h'.get? b=some u) (hp:h.objs.size≤a) (new:dz P w (upd H a o) h' a o):kP P w (upd H a o) h':=fun b u e=>by
 have hn:=x.fresh hp
 by_cases hb:b=a
 ·subst hb;rw[az] at e;cases e;exact new
 ·rw[ao hb] at e
  exact(x b u e).pM (fun c v _ q=>k c v q) (fun c q=>by rw[ao (aQ q hn)];exact q) fun c xs q=>by rw[ao (aQ q hn)];exact q
end
def Rd (H:Hp) (a:Addr) (u:HO):Prop:=H a=some u∨∃ o,H a=some (.h8 o u)
theorem Rd.ok {P:Program} {w:World} {H:Hp} {h:Heap} {a:Addr} {u:HO} (r:Rd H a u) (x:kP P w H h):dz P w H h a u:=by
 rcases r with r|⟨o,r⟩
 ·exact x a u r
 ·obtain⟨_,q⟩:=x a _ r
  exact q
def JP:Option HO→Prop
 |some (.lst _)=>True
 |some (.dK _)=>True
 |some (.dT _)=>True
 |some (.set _ _)=>True
 |some (.ins _ _ _)=>True
 |some (.ext _)=>True
 |_=>False
section
variable {P:Program} {w:World} {H:Hp} {h h':Heap} {x e:Addr} {o':HO}
theorem kP.write (ok:kP P w H h) (mu:JP (H x)) (he:e=x∨H e=some (.own x)) (k: ∀ b u,b≠e→h.get? b=some u→h'.get? b=some u) (heo: ∃ u,h'.get? e=some u)
  (new:dz P w (upd H x o') h' x o'):kP P w (upd H x o') h':=fun b u q=>by
 have nown: ∀ c y,H c=some (.own y)→c≠x:=fun c y r z=>by subst z;rw[r] at mu;exact mu
 have ntup: ∀ c xs,H c=some (.tup xs)→c≠x:=fun c xs r z=>by subst z;rw[r] at mu;exact mu
 by_cases hb:b=x
 ·subst hb;rw[az] at q;cases q;exact new
 ·rw[ao hb] at q
  by_cases hbe:b=e
  ·have q':H b=some (.own x):=by
    rcases he with z|z
    ·exact absurd (hbe.trans z) hb
    ·rw[hbe];exact z
   rw[q] at q';cases q'
   obtain⟨v,hv⟩:=heo
   exact⟨v,by rw[hbe];exact hv⟩
  ·refine(ok b u q).pM (fun c v hc r=>k c v ?_ r) (fun c r=>by rw[ao (nown c b r)];exact r) fun c xs r=>by rw[ao (ntup c xs r)];exact r
   rcases hc with rfl|hc
   ·exact hbe
   ·rintro rfl
    rcases he with z|z
    ·exact nown c b hc z
    ·rw[hc] at z;cases z;exact hb rfl
end
set_option genInjectivity false in
structure Un (fs ex:List Addr) (H H':Hp) (h h':Heap):Prop where
 keep: ∀ b o,h.get? b=some o→H b=none→b∉fs→b∉ex→h'.get? b=some o
 slot: ∀ b o,h.get? b=some o→H b=none→b∈fs→b∉ex→∃ sl,h'.get? b=some {o with slots:=sl}
 free: ∀ b o,h.get? b=some o→H b=none→b∉ex→H' b=none
 there: ∀ b o,h.get? b=some o→b∉ex→∃ o',h'.get? b=some o'
 sO: ∀ b xs,H b=some (.tup xs)→H' b=some (.tup xs)
 mP: ∀ b o u,H b=some (.h8 o u)→H' b=some (.h8 o u)
 qO: ∀ b ps,H b=some (.oV ps)→∃ more,H' b=some (.oV (ps++more))
section
variable {fs fs' ex ex':List Addr} {H H1 H2:Hp} {h h1 h2 h':Heap} {a x e:Addr} {o:HO}
theorem Un.any (u:Un fs ex H H1 h h1) {b:Addr} {ob:Obj} (q:h.get? b=some ob) (n:H b=none) (hx:b∉ex): ∃ sl,h1.get? b=some {ob with slots:=sl}:=by
 by_cases hb:b∈fs
 ·exact u.slot b ob q n hb hx
 ·exact⟨ob.slots,u.keep b ob q n hb hx⟩
theorem Un.kept (k: ∀ b u,h.get? b=some u→h'.get? b=some u):Un fs ex H H h h':=
 ⟨fun b ob q _ _ _=>k b ob q,fun b ob q _ _ _=>⟨ob.slots,k b ob q⟩,fun _ _ _ n _=>n,fun b ob q _=>⟨ob,k b ob q⟩,fun _ _ q=>q,fun _ _ _ q=>q,fun _ ps q=>⟨#[],by rw[q];simp⟩⟩
theorem Un.refl:Un fs ex H H h h:=Un.kept fun _ _ q=>q
theorem Un.laid (k: ∀ b u,h.get? b=some u→h'.get? b=some u) (hp:h.objs.size≤a) (hn:H a=none):Un fs ex H (upd H a o) h h' where
 keep:=fun b u q _ _ _=>k b u q
 slot:=fun b u q _ _ _=>⟨u.slots,k b u q⟩
 free:=fun b u q n _=>by rw[ao (Mg (L9 (L1 q) hp))];exact n
 there:=fun b u q _=>⟨u,k b u q⟩
 sO:=fun b xs q=>by rw[ao (aQ q hn)];exact q
 mP:=fun b u xs q=>by rw[ao (aQ q hn)];exact q
 qO:=fun b ps q=>⟨#[],by rw[ao (aQ q hn),q];simp⟩
theorem Un.write (mu:JP (H x)) (he:e=x∨H e=some (.own x)) (k: ∀ b u,b≠e→h.get? b=some u→h'.get? b=some u) (heo: ∃ u,h'.get? e=some u):Un fs ex H (upd H x o) h h':=by
 have hx: ∀ b,H b=none→b≠x:=fun b n z=>by subst z;rw[n] at mu;exact mu
 have hb: ∀ b,H b=none→b≠e:=fun b n z=>by
  subst z
  rcases he with r|r
  ·exact hx b n r
  ·rw[n] at r;cases r
 have hm: ∀ b u,H b=some u→¬ JP (some u)→b≠x:=fun b u q nm z=>by subst z;rw[q] at mu;exact nm mu
 refine⟨fun b u q n _ _=>k b u (hb b n) q,fun b u q n _ _=>⟨u.slots,k b u (hb b n) q⟩,fun b u q n _=>by rw[ao (hx b n)];exact n,fun b u q _=>?_,
  fun b xs q=>by rw[ao (hm b _ q fun z=>z)];exact q,fun b u xs q=>by rw[ao (hm b _ q fun z=>z)];exact q,fun b ps q=>⟨#[],by rw[ao (hm b _ q fun z=>z),q];simp⟩⟩
 by_cases hbe:b=e
 ·subst hbe;exact heo
 ·exact⟨u,k b u hbe q⟩
end
noncomputable def JZ (h:Heap) (H:Hp):List Addr:=(List.range h.objs.size).filter fun a=>(H a).isSome
noncomputable def t6 (h:Heap) (H:Hp):Heap:=PySem.W.hideAll h (JZ h H)
theorem Al (h:Heap) (H:Hp):(t6 h H).objs.size=h.objs.size:=PySem.W.hideAll_size _ _
theorem qi {h:Heap} {H:Hp} {b:Addr} {o:Obj} (e:h.get? b=some o) (n:H b=none):(t6 h H).get? b=some o:=
 PySem.W.hideAll_get _ e fun hm=>by
  have q:(H b).isSome=true:=(Mx.mp hm).2
  rw[n] at q;simp at q
theorem Ek {h:Heap} {H:Hp} {b:Addr} {o:Obj} (e:(t6 h H).get? b=some o):h.get? b=some o∧H b=none:=by
 have e':h.get? b=some o:=PySem.W.of_hideAll (JZ h H) e
 refine⟨e',?_⟩
 cases q:H b with
 |none=>rfl
 |some x=>
  have hm:b∈JZ h H:=Mx.mpr ⟨List.mem_range.mpr (L1 e'),by simp[q]⟩
  have z:(t6 h H).get? b=none:=PySem.W.hideAll_none (JZ h H) hm
  rw[z] at e;cases e
noncomputable def Fc (g h:Heap) (L:Addr):List (Addr×Obj):=(List.range h.objs.size).filterMap fun a=>if a=L∨(g.get? a).isSome=true then none else(h.get? a).map fun o=>(a,o)
noncomputable def rest (g h:Heap) (L d:Addr):List (Addr×Obj):=(Fc g h L).filter fun p=>decide (p.1≠d)
end L2
namespace L2
open PySem PySem.Spec PyProof.Rows
set_option genInjectivity false in
structure Mod (K:Frag) (mg:Str→Option Value) (base:Heap):Prop where
  KY:K.In base
  glob:base.Ns mainGlobals mg
  blt: ∃ mb,base.Ns builtinsNs mb∧∀ x:Str,x≠"__name__"→mb x=bootBuiltins x
  nolimit:base.NoLimit
set_option genInjectivity false in
structure Cx where
 prog:Program
 w:World
 K:Frag
 mg:Str→Option Value
 base:Heap
 A:Around
 N:List Str
 s₀:Shared
 H₀:Hp
 env:Env
 outer:List Env
 stack:List Env
 ex:List Addr
 fn:Str→Bool
 calm:Bool
 pn:List (Addr×Obj)
 xe:Value→Shared→Prop
noncomputable def CG (l:List Env):List Addr:=l.filterMap (·.frame)
noncomputable abbrev Cx.fs (X:Cx):List Addr:=CG X.outer
def Ii (sc:Scope) (x:Str):Prop:=sc.names.lookup x=some .local∨sc.names.lookup x=some .cell∨sc.names.lookup x=some .free
def Loc (sc:Scope) (x:Str):Prop:=sc.names.lookup x=some .local∨sc.names.lookup x=some .cell
def Look (env:Env) (h:Heap) (m:Str→Option Value) (x:Str) (u:Value):Prop:=
 (env.kindOf x=some .local∧m x=some u)∨((env.kindOf x=some .cell∨env.kindOf x=some .free)∧∃ c,env.cells.lookup x=some c∧h.IsCell c (some u))
set_option genInjectivity false in
structure Cx.Ok (X:Cx):Prop where
 mod:Mod X.K X.mg X.base
 kind:X.env.scope.kind= .function
 glob:X.env.globals=mainGlobals
 blt:X.env.builtins=builtinsNs
 above:X.s₀.heap.objs.size≤X.env.locals
 inj: ∀ x y c,X.env.cells.lookup x=some c→X.env.cells.lookup y=some c→x=y
 has: ∀ x,(X.env.kindOf x=some .cell∨X.env.kindOf x=some .free)→∃ c,X.env.cells.lookup x=some c
 Ig: ∀ x c,X.fn x=true→X.env.cells.lookup x=some c→X.s₀.heap.objs.size≤c
 hd:X.calm=true→X.A.handled=none
 frames:X.A.frames=some X.stack
 ID:X.stack=X.outer∨(X.stack=X.env::X.outer∧X.env.frame=some X.env.locals)
 K8: ∀ b∈X.ex,b≠X.env.locals∧∀ x c,X.env.cells.lookup x=some c→c≠b
 bs: ∀ b o,X.base.get? b=some o→X.s₀.heap.get? b=some o∧X.H₀ b=none
 Dm:X.base.objs.size≤X.s₀.heap.objs.size
 zX: ∀ b o,X.base.get? b=some o→b∉X.ex
 CK: ∀ b∈X.ex,b∉X.fs
 nX:X.s₀.heap.FunFrames X.base X.outer
 FO: ∀ b∈X.fs,X.H₀ b=none
set_option genInjectivity false in
structure Inv (X:Cx) (pins:List (Addr×Obj)) (σ:List (Option V)) (H:Hp) (s:Shared):Prop where
 ok:X.Ok
 os:s.os=X.s₀.os
 bare:AllBare s.gens
 base:Un X.fs X.ex X.H₀ H X.s₀.heap s.heap
 loc: ∃ m,s.heap.Ns X.env.locals m∧∀ (i:Nat) (x:Str) (v:V),X.N[i]?=some x→σ[i]?=some (some v)→Ii X.env.scope x→∃ u,RelV v u∧Look X.env s.heap m x u
 cell: ∀ x c,X.env.cells.lookup x=some c→∃ v,s.heap.IsCell c v
 free:H X.env.locals=none
 kG: ∀ x c,X.env.cells.lookup x=some c→H c=none
 pin: ∀ p∈X.pn++pins,s.heap.get? p.1=some p.2∧H p.1=none∧p.1≠X.env.locals∧p.1∉X.fs∧∀ v,p.2.data≠.cell v
 bE:kP X.prog X.w H s.heap
 len:σ.length=X.N.length
section
variable {X:Cx} {pins:List (Addr×Obj)} {σ:List (Option V)} {H H':Hp} {s:Shared} {h':Heap}
theorem Cx.Ok.KJ (ok:X.Ok) {b:Addr} {o:Obj} (e:X.base.get? b=some o):b∉X.fs:=fun hb=>by
 have:=(ok.nX.mem hb).1
 rw[e] at this;cases this
theorem Inv.bs (I:Inv X pins σ H s): ∀ b o,X.base.get? b=some o→s.heap.get? b=some o∧H b=none:=fun b o e=>
 ⟨I.base.keep b o (I.ok.bs b o e).1 (I.ok.bs b o e).2 (I.ok.KJ e) (I.ok.zX b o e),I.base.free b o (I.ok.bs b o e).1 (I.ok.bs b o e).2 (I.ok.zX b o e)⟩
theorem Inv.bk (I:Inv X pins σ H s): ∀ b o,X.base.get? b=some o→s.heap.get? b=some o:=fun b o e=>(I.bs b o e).1
theorem Inv.mod (I:Inv X pins σ H s):Mod X.K X.mg X.base:=I.ok.mod
theorem Inv.Ic (I:Inv X pins σ H s):X.K.In s.heap:=I.ok.mod.KY.keeps I.bk
theorem Inv.lt (I:Inv X pins σ H s):X.env.locals < s.heap.objs.size:=let ⟨_,hn,_⟩:=I.loc;hn.lt
theorem Inv.sz (I:Inv X pins σ H s):X.s₀.heap.objs.size≤s.heap.objs.size:=L6 I.ok.above (Nat.le_of_lt I.lt)
theorem Inv.KI (I:Inv X pins σ H s) {a:Addr} (h:s.heap.objs.size≤a):a∉X.fs:=fun hb=>by
 obtain⟨_,o,ho,_⟩:=I.ok.nX.mem hb
 exact absurd (L9 (L1 ho) (L6 I.sz h)) (Nat.lt_irrefl _)
theorem Inv.Hz (I:Inv X pins σ H s): ∀ x c,X.env.cells.lookup x=some c→c≠X.env.locals:=fun x c e z=>by
 obtain⟨v,o,ho,hd⟩:=I.cell x c e
 obtain⟨m,⟨o',es,ep,ho',hd',_⟩,_⟩:=I.loc
 rw[z,ho'] at ho;cases ho;rw[hd'] at hd;cases hd
theorem Inv.nX (I:Inv X pins σ H s):s.heap.FunFrames X.base X.outer:=by
 have all: ∀ (l:List Env),(∀ b∈CG l,b∈X.fs)→X.s₀.heap.FunFrames X.base l→s.heap.FunFrames X.base l:=by
  intro l
  induction l with
  |nil=>intro _ _;trivial
  |cons env r ih=>
   intro hs hl
   obtain⟨hk,⟨L,o,hf,hn,ho,hd⟩,hr⟩:=hl
   have hL:L∈X.fs:=hs L (by unfold CG;rw[List.filterMap_cons,hf];exact LJ)
   obtain⟨sl,e⟩:=I.base.slot L o ho (I.ok.FO L hL) hL fun z=>I.ok.CK L z hL
   exact⟨hk,⟨L,_,hf,hn,e,hd⟩,ih (fun b hb=>hs b (by unfold CG;rw[List.filterMap_cons,hf];exact LM _ hb)) hr⟩
 exact all X.outer (fun _ hb=>hb) I.ok.nX
theorem Inv.stack (I:Inv X pins σ H s):s.heap.FunFrames X.base X.stack:=by
 rcases I.ok.ID with e|⟨e,hf⟩
 ·rw[e];exact I.nX
 ·rw[e]
  obtain⟨m,hn,_⟩:=I.loc
  refine .cons (by rw[I.ok.kind];decide) hf hn ?_ I.nX
  exact Heap.get?_none_of_le (L6 I.ok.Dm I.ok.above)
theorem Inv.nv (I:Inv X pins σ H s): ∀ b∈CG X.stack,b∈X.env.locals::X.fs:=fun b hb=>by
 rcases I.ok.ID with e|⟨e,hf⟩
 ·rw[e] at hb;exact LM _ hb
 ·rw[e] at hb
  unfold CG at hb
  rw[List.filterMap_cons,hf] at hb
  exact hb
theorem Inv.yf (I:Inv X pins σ H s): ∀ b∈CG X.stack,H b=none:=fun b hb=>by
 rcases LU.mp (I.nv b hb) with e|hb
 ·rw[e];exact I.free
 ·obtain⟨_,o,ho,_⟩:=I.ok.nX.mem hb
  exact I.base.free b o ho (I.ok.FO b hb) fun z=>I.ok.CK b z hb
theorem Inv.step {g':Array GenState} {t':Nat} {d':Drawn} {ch:List Addr} (I:Inv X pins σ H s)
  (hch: ∀ b∈ch,(b∈X.ex∨X.s₀.heap.objs.size≤b)∧b≠X.env.locals∧(∀ x c,X.env.cells.lookup x=some c→c≠b)∧∀ p∈X.pn++pins,p.1≠b)
  (keep: ∀ b o,b≠X.env.locals→b∉X.fs→b∉ch→s.heap.get? b=some o→H b=none→h'.get? b=some o)
  (slot: ∀ b o,b≠X.env.locals→b∈X.fs→b∉ch→s.heap.get? b=some o→H b=none→∃ sl,h'.get? b=some {o with slots:=sl}) (free: ∀ b o,b∉ch→s.heap.get? b=some o→H b=none→H' b=none)
  (there: ∀ b o,b∉ch→s.heap.get? b=some o→∃ o',h'.get? b=some o')
  (sO: ∀ b xs,H b=some (.tup xs)→H' b=some (.tup xs)) (mP: ∀ b o u,H b=some (.h8 o u)→H' b=some (.h8 o u)) (qO: ∀ b ps,H b=some (.oV ps)→∃ more,H' b=some (.oV (ps++more)))
  (ns: ∀ m,s.heap.Ns X.env.locals m→h'.Ns X.env.locals m) (bE:kP X.prog X.w H' h') (hg:AllBare g'):
  Inv X pins σ H' {s with heap:=h',gens:=g',drawn:=d',toks:=t'}:=by
 have KL: ∀ b o,X.s₀.heap.get? b=some o→b≠X.env.locals:=fun b o e=>Mg (L9 (L1 e) I.ok.above)
 have neC: ∀ b o,X.s₀.heap.get? b=some o→b∉X.ex→b∉ch:=fun b o e hx hb=>by
  rcases(hch b hb).1 with z|z
  ·exact hx z
  ·exact absurd (L9 (L1 e) z) (Nat.lt_irrefl _)
 have cellK: ∀ x c,X.env.cells.lookup x=some c→∀ v,s.heap.IsCell c v→h'.IsCell c v:=fun x c e v hq0=>by
  obtain⟨o,ho,hd⟩:=hq0
  have nch:c∉ch:=fun z=>(hch c z).2.2.1 x c e rfl
  by_cases hc:c∈X.fs
  ·obtain⟨sl,q⟩:=slot c o (I.Hz x c e) hc nch ho (I.kG x c e)
   exact⟨_,q,hd⟩
  ·exact⟨o,keep c o (I.Hz x c e) hc nch ho (I.kG x c e),hd⟩
 refine⟨I.ok,I.os,hg,⟨fun b o e n hb hx=>?_,fun b o e n hb hx=>?_,fun b o e n hx=>?_,fun b o e hx=>?_,fun b xs e=>sO b xs (I.base.sO b xs e),fun b o xs e=>mP b o xs (I.base.mP b o xs e),fun b ps e=>?_⟩,?_,fun x c e=>?_,?_,fun x c e=>?_,fun p hp=>?_,bE,I.len⟩
 ·exact keep b o (KL b o e) hb (neC b o e hx) (I.base.keep b o e n hb hx) (I.base.free b o e n hx)
 ·obtain⟨sl,e1⟩:=I.base.slot b o e n hb hx
  obtain⟨sl',e2⟩:=slot b _ (KL b o e) hb (neC b o e hx) e1 (I.base.free b o e n hx)
  exact⟨sl',e2⟩
 ·obtain⟨o',e1⟩:=I.base.there b o e hx
  exact free b o' (neC b o e hx) e1 (I.base.free b o e n hx)
 ·obtain⟨o',e1⟩:=I.base.there b o e hx
  exact there b o' (neC b o e hx) e1
 ·obtain⟨m1,e1⟩:=I.base.qO b ps e
  obtain⟨m2,e2⟩:=qO b _ e1
  exact⟨m1++m2,by rw[e2,Array.append_assoc]⟩
 ·obtain⟨m,hn,hl⟩:=I.loc
  refine⟨m,ns m hn,fun i x v e1 e2 e3=>?_⟩
  obtain⟨u,r,l⟩:=hl i x v e1 e2 e3
  refine⟨u,r,?_⟩
  rcases l with l|⟨k,c,e,z⟩
  ·exact .inl l
  ·exact .inr ⟨k,c,e,cellK x c e _ z⟩
 ·obtain⟨v,z⟩:=I.cell x c e
  exact⟨v,cellK x c e v z⟩
 ·obtain⟨m,⟨o,_,_,ho,_⟩,_⟩:=I.loc
  exact free _ o (fun z=>(hch _ z).2.1 rfl) ho I.free
 ·obtain⟨v,o,ho,hd⟩:=I.cell x c e
  exact free c o (fun z=>(hch c z).2.2.1 x c e rfl) ho (I.kG x c e)
 ·obtain⟨e,n,ne,nf,d⟩:=I.pin p hp
  have nch:p.1∉ch:=fun z=>(hch p.1 z).2.2.2 p hp rfl
  exact⟨keep p.1 p.2 ne nf nch e n,free p.1 p.2 nch e n,ne,nf,d⟩
theorem Inv.un {t':Nat} (I:Inv X pins σ H s) (u:Un X.fs [] H H' s.heap h') (bE:kP X.prog X.w H' h'):Inv X pins σ H' {s with heap:=h',toks:=t'}:=by
 obtain⟨m,⟨o,es,ep,ho,r⟩,_⟩:=id I.loc
 obtain⟨sl,hL⟩:=u.any ho I.free (by simp)
 exact I.step (g':=s.gens) (d':=s.drawn) (ch:=[]) (fun _ z=>nomatch z) (fun b o _ hb _ e n=>u.keep b o e n hb (by simp)) (fun b o _ hb _ e n=>u.slot b o e n hb (by simp)) (fun b o _ e n=>u.free b o e n (by simp)) (fun b o _ e=>u.there b o e (by simp)) u.sO u.mP u.qO (fun m' hm=>by
  obtain⟨o',es',ep',ho',r'⟩:=hm
  rw[ho] at ho';cases ho'
  exact⟨_,es',ep',hL,r'⟩) bE I.bare
theorem Inv.call {g':Array GenState} {t':Nat} {d':Drawn} {ch:List Addr} (I:Inv X pins σ H s) (u:Un (CG X.stack) ch H H' s.heap h') (bE:kP X.prog X.w H' h') (hg:AllBare g')
  (hch: ∀ b∈ch,(b∈X.ex∨X.s₀.heap.objs.size≤b)∧b≠X.env.locals∧(∀ x c,X.env.cells.lookup x=some c→c≠b)∧∀ p∈X.pn++pins,p.1≠b):
  Inv X pins σ H' {s with heap:=h',gens:=g',drawn:=d',toks:=t'}:=by
 obtain⟨m,⟨o,es,ep,ho,r⟩,_⟩:=id I.loc
 obtain⟨sl,hL⟩:=u.any ho I.free fun z=>(hch _ z).2.1 rfl
 exact I.step (ch:=ch) hch (fun b o hL hb hc e n=>u.keep b o e n (fun z=>(LU.mp (I.nv b z)).elim hL hb) hc) (fun b o _ _ hc e n=>u.any e n hc) (fun b o hc e n=>u.free b o e n hc) (fun b o hc e=>u.there b o e hc) u.sO u.mP u.qO (fun m' hm=>by
  obtain⟨o',es',ep',ho',r'⟩:=hm
  rw[ho] at ho';cases ho'
  exact⟨_,es',ep',hL,r'⟩) bE hg
theorem Inv.turned {t':Nat} {it:Addr} (I:Inv X pins σ H s) (k: ∀ b o,b≠it→s.heap.get? b=some o→h'.get? b=some o) (hn:H it=none) (hL:it≠X.env.locals)
  (h1:it∈X.ex∨X.s₀.heap.objs.size≤it) (h2: ∀ x c,X.env.cells.lookup x=some c→c≠it) (h3: ∀ p∈X.pn++pins,p.1≠it):Inv X pins σ H {s with heap:=h',toks:=t'}:=by
 have nit: ∀ b u,H b=some u→b≠it:=fun b u e z=>by rw[z,hn] at e;cases e
 refine I.step (g':=s.gens) (d':=s.drawn) (ch:=[it]) (fun b hb=>?_) (fun b o _ _ hc e _=>k b o (fun z=>hc (by simp[z])) e) (fun b o _ _ hc e _=>⟨o.slots,k b o (fun z=>hc (by simp[z])) e⟩) (fun _ _ _ _ n=>n)
  (fun b o hc e=>⟨o,k b o (fun z=>hc (by simp[z])) e⟩) (fun _ _ e=>e) (fun _ _ _ e=>e) (fun b ps e=>⟨#[],by rw[e];simp⟩) (fun m hm=>?_) (fun b u e=>?_) I.bare
 ·have e:b=it:=by simpa using hb
  subst e
  exact⟨h1,hL,h2,h3⟩
 ·obtain⟨o,es,ep,ho,r⟩:=hm
  exact⟨o,es,ep,k _ o (Ne.symm hL) ho,r⟩
 ·refine(I.bE b u e).pM (fun c v hc q=>k c v ?_ q) (fun _ q=>q) fun _ _ q=>q
  rcases hc with z|z
  ·rw[z];exact nit b u e
  ·exact nit c _ z
theorem Inv.tok (I:Inv X pins σ H s) (t:Nat):Inv X pins σ H {s with toks:=t}:=I.un (h':=s.heap) (t':=t) Un.refl I.bE
theorem Inv.kept {t':Nat} (I:Inv X pins σ H s) (k: ∀ b u,s.heap.get? b=some u→h'.get? b=some u):Inv X pins σ H {s with heap:=h',toks:=t'}:=I.un (Un.kept k) (I.bE.kept k)
theorem Inv.laid {a:Addr} {o:HO} {t':Nat} (I:Inv X pins σ H s) (k: ∀ b u,s.heap.get? b=some u→h'.get? b=some u) (hp:s.heap.objs.size≤a) (new:dz X.prog X.w (upd H a o) h' a o):
  Inv X pins σ (upd H a o) {s with heap:=h',toks:=t'}:=I.un (Un.laid k hp (I.bE.fresh hp)) (I.bE.laid k hp new)
theorem Inv.write {x e:Addr} {o:HO} {t':Nat} (I:Inv X pins σ H s) (mu:JP (H x)) (he:e=x∨H e=some (.own x)) (k: ∀ b u,b≠e→s.heap.get? b=some u→h'.get? b=some u) (heo: ∃ u,h'.get? e=some u)
  (new:dz X.prog X.w (upd H x o) h' x o):Inv X pins σ (upd H x o) {s with heap:=h',toks:=t'}:=I.un (Un.write mu he k heo) (I.bE.write mu he k heo new)
theorem Inv.kX {pins':List (Addr×Obj)} (I:Inv X pins σ H s) (h: ∀ p∈pins',s.heap.get? p.1=some p.2∧H p.1=none∧p.1≠X.env.locals∧p.1∉X.fs∧∀ v,p.2.data≠.cell v):Inv X pins' σ H s:=
 ⟨I.ok,I.os,I.bare,I.base,I.loc,I.cell,I.free,I.kG,fun p hp=>(My.mp hp).elim (fun z=>I.pin p (List.mem_append_left _ z)) (h p),I.bE,I.len⟩
theorem ve {N:List Str} (hN:N.Nodup) {i j:Nat} {x:Str} (a:N[i]?=some x) (b:N[j]?=some x):i=j:=by
 obtain⟨h1,e1⟩:=LP.mp a
 obtain⟨h2,e2⟩:=LP.mp b
 exact(List.getElem_inj hN).mp (e1.trans e2.symm)
theorem rE {M:Model} {A:Around} {E:Value→Shared→Prop} {i:Nat} {x:Str} {v:V} {u:Value} {Q:Unit→Shared→Prop} (I:Inv X pins σ H s) (hN:X.N.Nodup) (hi:X.N[i]?=some x) (hx:Loc X.env.scope x) (r:RelV v u)
  (h: ∀ s',Inv X pins (σ.set i (some v)) H s'→(∃ a,Heap.SameBut a s.heap s'.heap∧(a=X.env.locals∨X.env.cells.lookup x=some a))→Q () s') (hf:X.fn x=true∨X.env.scope.names.lookup x=some .local:=by first|exact .inl rfl|exact .inr rfl|assumption):wpAny M A (storeName X.env x u) Q E s:=by
 obtain⟨m,hn,hl⟩:=id I.loc
 have hcls:(X.env.scope.kind== .class||(X.env.scope.kind== .module&&X.env.locals !=X.env.globals))=false:=by rw[I.ok.kind];rfl
 have hiσ:i < σ.length:=by rw[I.len];exact(LP.mp hi).1
 have Hz:=I.Hz
 have tracked: ∀ {a:Addr} {h':Heap},(∃ o,s.heap.get? a=some o∧H a=none)→Heap.SameBut a s.heap h'→kP X.prog X.w H h':=fun {a h'} ha hs b ob e=>by
  obtain⟨_,_,hfree⟩:=ha
  refine(I.bE b ob e).pM (fun c w' hc q=>(hs.2 c ?_).trans q) (fun _ q=>q) fun _ _ q=>q
  rintro rfl
  rcases hc with rfl|hc
  ·rw[hfree] at e;cases e
  ·rw[hfree] at hc;cases hc
 rcases hx with hk|hk
 ·refine wpAny_storeName_local hk hn (fun h' hn' hs=>?_) hcls
  obtain⟨oL,_,_,hoL,_⟩:=id hn
  refine h _ ⟨I.ok,I.os,I.bare,⟨fun b o e n hb hx=>?_,fun b o e n hb hx=>?_,I.base.free,fun b o e hx=>?_,I.base.sO,I.base.mP,I.base.qO⟩,⟨_,hn',fun j y v' e1 e2 e3=>?_⟩,fun y c e=>?_,I.free,I.kG,fun p hp=>?_,tracked ⟨oL,hoL,I.free⟩ hs,by simpa using I.len⟩ ⟨_,hs,.inl rfl⟩
  ·exact(hs.2 b (Mg (L9 (L1 e) I.ok.above))).trans (I.base.keep b o e n hb hx)
  ·obtain⟨sl,e1⟩:=I.base.slot b o e n hb hx
   exact⟨sl,(hs.2 b (Mg (L9 (L1 e) I.ok.above))).trans e1⟩
  ·obtain⟨o',e1⟩:=I.base.there b o e hx
   exact⟨o',(hs.2 b (Mg (L9 (L1 e) I.ok.above))).trans e1⟩
  ·by_cases hj:j=i
   ·subst hj
    rw[hi] at e1;cases e1
    rw[MB hiσ] at e2
    cases e2
    exact⟨u,r,.inl ⟨hk,by simp⟩⟩
   ·rw[Mj (Ne.symm hj)] at e2
    obtain⟨u',r',q⟩:=hl j y v' e1 e2 e3
    refine⟨u',r',?_⟩
    rcases q with⟨k,e⟩|⟨k,c,e,z⟩
    ·refine .inl ⟨k,?_⟩
     have:y≠x:=fun e=>hj (ve hN e1 (e▸hi))
     simp[this,e]
    ·exact .inr ⟨k,c,e,z.sameBut hs (Hz y c e)⟩
  ·obtain⟨w',z⟩:=I.cell y c e
   exact⟨w',z.sameBut hs (Hz y c e)⟩
  ·obtain⟨e,n,ne,nf,d⟩:=I.pin p hp
   exact⟨(hs.2 p.1 ne).trans e,n,ne,nf,d⟩
 ·have hfn:X.fn x=true:=by
   rcases hf with z|z
   ·exact z
   ·rw[z] at hk;cases hk
  obtain⟨c,hc⟩:=I.ok.has x (.inl hk)
  obtain⟨w',z⟩:=I.cell x c hc
  refine wpAny_storeName_cell I.ok.kind hk hc z (fun h' hc' hs=>?_)
  obtain⟨oc,hoc,hocd⟩:=id z
  refine h {s with heap:=h'} ⟨I.ok,I.os,I.bare,⟨fun b o e n hb hx=>?_,fun b o e n hb hx=>?_,I.base.free,fun b o e hx=>?_,I.base.sO,I.base.mP,I.base.qO⟩,⟨m,hn.sameBut hs (Ne.symm (Hz x c hc)),fun j y v' e1 e2 e3=>?_⟩,fun y c' e=>?_,I.free,I.kG,fun p hp=>?_,tracked ⟨oc,hoc,I.kG x c hc⟩ hs,by simpa using I.len⟩ ⟨c,hs,.inr hc⟩
  ·exact(hs.2 b (Mg (L9 (L1 e) (I.ok.Ig x c hfn hc)))).trans (I.base.keep b o e n hb hx)
  ·obtain⟨sl,e1⟩:=I.base.slot b o e n hb hx
   exact⟨sl,(hs.2 b (Mg (L9 (L1 e) (I.ok.Ig x c hfn hc)))).trans e1⟩
  ·obtain⟨o',e1⟩:=I.base.there b o e hx
   exact⟨o',(hs.2 b (Mg (L9 (L1 e) (I.ok.Ig x c hfn hc)))).trans e1⟩
  ·by_cases hj:j=i
   ·subst hj
    rw[hi] at e1;cases e1
    rw[MB hiσ] at e2
    cases e2
    exact⟨u,r,.inr ⟨.inl hk,c,hc,hc'⟩⟩
   ·rw[Mj (Ne.symm hj)] at e2
    obtain⟨u',r',q⟩:=hl j y v' e1 e2 e3
    refine⟨u',r',?_⟩
    rcases q with q|⟨k,c',e,z'⟩
    ·exact .inl q
    ·refine .inr ⟨k,c',e,z'.sameBut hs ?_⟩
     rintro rfl
     exact hj (ve hN e1 (I.ok.inj _ _ _ e hc▸hi))
  ·by_cases hcc:c'=c
   ·subst hcc;exact⟨_,hc'⟩
   ·obtain⟨w2,z2⟩:=I.cell y c' e
    exact⟨w2,z2.sameBut hs hcc⟩
  ·obtain⟨e,n,ne,nf,d⟩:=I.pin p hp
   refine⟨(hs.2 p.1 ?_).trans e,n,ne,nf,d⟩
   intro q
   rw[q,hoc] at e
   have q':oc=p.2:=MD e
   exact d w' (by rw[←q'];exact hocd)
theorem mq {M:Model} {A:Around} {E:Value→Shared→Prop} {i:Nat} {x:Str} {v:V} {u:Value} {Q:Unit→Shared→Prop} (I:Inv X pins σ H s) (hN:X.N.Nodup) (hi:X.N[i]?=some x) (hx:Loc X.env.scope x) (r:RelV v u)
  (h: ∀ s',Inv X pins (σ.set i (some v)) H s'→Q () s') (hf:X.fn x=true∨X.env.scope.names.lookup x=some .local:=by first|exact .inl rfl|exact .inr rfl|assumption):wpAny M A (storeName X.env x u) Q E s:=
 rE I hN hi hx r (fun s' I' _=>h s' I') hf
theorem Inv.JD {s':Shared} {ch:List Addr} (I:Inv X pins σ H s) (ho:s'.os=s.os) (u:Un (CG X.stack) ch H H' s.heap s'.heap) (bE:kP X.prog X.w H' s'.heap) (hg:AllBare s'.gens)
  (hch: ∀ b∈ch,(b∈X.ex∨X.s₀.heap.objs.size≤b)∧b≠X.env.locals∧(∀ x c,X.env.cells.lookup x=some c→c≠b)∧∀ p∈X.pn++pins,p.1≠b):Inv X pins σ H' s':=by
 obtain⟨h',g',d',t',o'⟩:=s'
 have e:o'=s.os:=ho
 subst e
 exact I.call (g':=g') (t':=t') (d':=d') u bE hg hch
end
noncomputable abbrev XK:=Value→Option Addr→Hp→Prop
noncomputable abbrev St:=List (Option V)
noncomputable abbrev VK:=V→Hp→Prop
noncomputable abbrev TE:=St→Hp→VK→Prop
noncomputable abbrev TT:=St→Hp→(Bool→Hp→Prop)→Prop
noncomputable abbrev TA:=St→Hp→(List V→Hp→Prop)→Prop
set_option genInjectivity false in
structure Ends where
 nx:St→Hp→Prop
 rt:VK
 bk:St→Hp→Prop:=fun _ _=>False
 ct:St→Hp→Prop:=fun _ _=>False
noncomputable abbrev TS:=Ends→St→Hp→Prop
def EP (X:Cx) (pins:List (Addr×Obj)) (σ:St) (Q:VK) (u:Value) (s':Shared):Prop:= ∃ v H',Inv X pins σ H' s'∧RelV v u∧Q v H'
def TP (X:Cx) (pins:List (Addr×Obj)) (σ:St) (Q:Bool→Hp→Prop) (b:Bool) (s':Shared):Prop:= ∃ H',Inv X pins σ H' s'∧Q b H'
def AP (X:Cx) (pins:List (Addr×Obj)) (σ:St) (Q:List V→Hp→Prop) (us:List Value) (s':Shared):Prop:= ∃ vs H',Inv X pins σ H' s'∧Vals vs us∧Q vs H'
def SP (X:Cx) (pins:List (Addr×Obj)) (D:Ends) (f:Flow) (s':Shared):Prop:=
 match f with
 | .next=> ∃ σ' H',Inv X pins σ' H' s'∧D.nx σ' H'
 | .brk=> ∃ σ' H',Inv X pins σ' H' s'∧D.bk σ' H'
 | .cont=> ∃ σ' H',Inv X pins σ' H' s'∧D.ct σ' H'
 | .ret u=> ∃ v σ' H',Inv X pins σ' H' s'∧RelV v u∧D.rt v H'
def PE (X:Cx) (e:Expr) (t:TE):Prop:=
 ∀ (pins:List (Addr×Obj)) (s:Shared) (σ:St) (H:Hp) (Q:VK),Inv X pins σ H s→t σ H Q→wpAny (model X.prog X.w) X.A (eval e X.env) (EP X pins σ Q) X.xe s
def PT (X:Cx) (e:Expr) (t:TT):Prop:=
 ∀ (pins:List (Addr×Obj)) (s:Shared) (σ:St) (H:Hp) (Q:Bool→Hp→Prop),Inv X pins σ H s→t σ H Q→wpAny (model X.prog X.w) X.A (isTrue e X.env (eval e X.env)) (TP X pins σ Q) X.xe s
def PW (X:Cx) (e:Expr) (t:TT):Prop:=
 ∀ (whole:Sem Value) (pins:List (Addr×Obj)) (s:Shared) (σ:St) (H:Hp) (Q:Bool→Hp→Prop),Inv X pins σ H s→t σ H Q→wpAny (model X.prog X.w) X.A (isTrue e X.env whole) (TP X pins σ Q) X.xe s
theorem PW.pt {X:Cx} {e:Expr} {t:TT} (h:PW X e t):PT X e t:=h _
def PA (X:Cx) (es:List Expr) (t:TA):Prop:=
 ∀ (pos:Pos) (pins:List (Addr×Obj)) (s:Shared) (σ:St) (H:Hp) (Q:List V→Hp→Prop),Inv X pins σ H s→t σ H Q→wpAny (model X.prog X.w) X.A (spliced (backTo pos (starEach es X.env))) (AP X pins σ Q) X.xe s
def PS (X:Cx) (st:Stmt) (t:TS):Prop:=
 ∀ (pins:List (Addr×Obj)) (s:Shared) (σ:St) (H:Hp) (D:Ends),Inv X pins σ H s→t D σ H→wpAny (model X.prog X.w) X.A (exec st X.env) (SP X pins D) X.xe s
def wy (X:Cx) (st:List Stmt) (t:TS):Prop:=
 ∀ (pins:List (Addr×Obj)) (s:Shared) (σ:St) (H:Hp) (D:Ends),Inv X pins σ H s→t D σ H→wpAny (model X.prog X.w) X.A (execs st X.env) (SP X pins D) X.xe s
theorem bN {α:Type} {t:Sem α} {Q Q':α→Shared→Prop} {M:Model} {A:Around} {E:Value→Shared→Prop} {s:Shared} (h:wpAny M A t Q E s) (hQ: ∀ a s,Q a s→Q' a s):wpAny M A t Q' E s:=wpAny_mono h hQ fun _ _ x=>x
end L2
namespace L2
open PySem PySem.Spec PyProof.Rows
section
variable {X:Cx}
noncomputable def oW (i:Nat):TE:=fun σ H Q=> ∃ v,σ[i]?=some (some v)∧Q v H
noncomputable def tC (v:V):TE:=fun _ H Q=>Q v H
theorem BN {i:Nat} {x:Str} {pos:Pos} (hN:X.N[i]?=some x) (hv:Ii X.env.scope x) (hd:(x==("__debug__":Str))=false:=by decide) (hcd:(x==("__classdict__":Str))=false:=by decide):PE X (.Name x pos) (oW i):=by
 intro pins s σ H Q I h
 obtain⟨v,e,h⟩:=h
 obtain⟨m,hn,hl⟩:=I.loc
 obtain⟨u,r,l⟩:=hl i x v hN e hv
 have fin:EP X pins σ Q u s:=⟨v,H,I,r,h⟩
 rcases l with⟨hk,hm⟩|⟨hk,c,hc,hcell⟩
 ·exact wpAny_Name (wpAny_loadName_local I.ok.kind hk hn hm fin) hd
 ·rcases hk with hk|hk
  ·exact wpAny_Name (wpAny_loadName_cell I.ok.kind hk hc hcell fin) hd
  ·exact wpAny_Name (wpAny_loadName_free I.ok.kind hk hc hcell fin hcd) hd
theorem aY {i j pos}:PE X (.Constant (.int i) j pos) (tC (.int i)):=fun _ _ _ H _ I h=>wpAny_Constant_int ⟨.int i,H,I.tok _,⟨_,rfl⟩,h⟩
theorem Je {b j pos}:PE X (.Constant (.bool b) j pos) (tC (.bl b)):=fun _ _ _ H _ I h=>Constant_bool ⟨.bl b,H,I,rfl,h⟩
theorem GO {j pos}:PE X (.Constant .none j pos) (tC .aW):=fun _ _ _ H _ I h=>Constant_none ⟨.aW,H,I,rfl,h⟩
theorem GL {x j pos}:PE X (.Constant (.str x) j pos) (tC (.str x)):=fun _ _ _ H _ I h=>Calls.Constant_str ⟨.str x,H,I.tok _,⟨_,rfl⟩,h⟩
def Gl (X:Cx) (x:Str):Prop:=X.env.kindOf x=some .globalImplicit
theorem Ez {E:Value→Shared→Prop} {pins:List (Addr×Obj)} {s:Shared} {σ:St} {H:Hp} {x:Str} {u:Value} {pos:Pos} {Q:Value→Shared→Prop} (I:Inv X pins σ H s) (hg:Gl X x) (hm:X.mg x=some u) (h:Q u s)
  (hd:(x==("__debug__":Str))=false:=by decide):wpAny (model X.prog X.w) X.A (eval (.Name x pos) X.env) Q E s:=
 Calls.Name_function_global I.ok.kind hg (Calls.loadGlobal_global (by rw[I.ok.glob];exact I.mod.glob.keeps I.bk) hm h) hd
theorem lQ {E:Value→Shared→Prop} {pins:List (Addr×Obj)} {s:Shared} {σ:St} {H:Hp} {x:Str} {u:Value} {pos:Pos} {Q:Value→Shared→Prop} (I:Inv X pins σ H s) (hg:Gl X x) (hm:X.mg x=none) (hv:bootBuiltins x=some u) (h:Q u s)
  (hn:x≠"__name__":=by decide) (hd:(x==("__debug__":Str))=false:=by decide):wpAny (model X.prog X.w) X.A (eval (.Name x pos) X.env) Q E s:=by
 obtain⟨mb,h1,h2⟩:=I.mod.blt
 exact Calls.Name_function_global I.ok.kind hg (Calls.loadGlobal_builtin (by rw[I.ok.glob];exact I.mod.glob.keeps I.bk) hm (by rw[I.ok.blt];exact h1.keeps I.bk) ((h2 x hn).trans hv) h) hd
variable {a b:Expr} {ta tb:TE} {pos:Pos}
def PC (X:Cx) (op:CmpOp) (a b:Expr) (t:TE):Prop:=
 ∀ (pins:List (Addr×Obj)) (s:Shared) (σ:St) (H:Hp) (Q:VK),Inv X pins σ H s→t σ H Q→
  wpAny (model X.prog X.w) X.A (eval a X.env) (fun v s₁=>wpAny (model X.prog X.w) X.A (eval b X.env) (fun u s₂=>wpAny (model X.prog X.w) X.A (compareOp op v u) (EP X pins σ Q) X.xe s₂) X.xe s₁) X.xe s
theorem vf (b:Expr) {op:CmpOp} (h:op≠.In) (h2:op≠.NotIn):behindInMarks op b=false:=by
 have e1:(op==CmpOp.In)=false:=by cases op<;>first|rfl|exact absurd rfl h
 have e2:(op==CmpOp.NotIn)=false:=by cases op<;>first|rfl|exact absurd rfl h2
 cases b<;>simp[behindInMarks,e1,e2]
noncomputable def tB (t:TE):TT:=fun σ H Q=>t σ H fun x H1=> ∃ c,x= .bl c∧Q c H1
theorem GP {op:CmpOp} {t:TE} (h:PC X op a b t) (h1:behindInMarks op b=false:=by first|exact vf _ (by decide) (by decide)|rfl):PE X (.Compare a [op] [b] pos) t:=fun pins s σ H Q I hw=>wpAny_Compare1 (h pins s σ H Q I hw) h1
theorem GH {op:CmpOp} {t:TE} (h:PC X op a b t) (h1:behindInMarks op b=false:=by first|exact vf _ (by decide) (by decide)|rfl):PT X (.Compare a [op] [b] pos) (tB t):=by
 intro pins s σ H Q I hw
 refine wpAny_isTrue_Compare1 (bN (h pins s σ H _ I hw) fun v s1 h1=>bN h1 fun u s2 h2=>bN h2 fun c s3 ⟨x,H1,I1,r1,q1⟩=>?_) h1
 obtain⟨d,rfl,q⟩:=q1
 cases r1
 exact wpAny_truthy_bool ⟨H1,I1,q⟩
theorem GF {e:Expr} {t:TE} (h:PE X e t) (he: ∀ whole,isTrue e X.env whole=(do let v ←whole;standAt e.pos;holding [v] (truthy v)):=by intro _;rfl):PT X e (tB t):=by
 intro pins s σ H Q I hw
 refine isTrue_plain (bN (h pins s σ H _ I hw) fun v s1 ⟨x,H1,I1,r1,q1⟩=>?_) (he _)
 obtain⟨d,rfl,q⟩:=q1
 cases r1
 exact wpAny_truthy_bool ⟨H1,I1,q⟩
variable {tA tB':TT} {rest:List Expr}
noncomputable def Kv (t u:TT):TT:=fun σ H Q=>t σ H fun c H1=>if c=true then u σ H1 Q else Q false H1
noncomputable def Lw (t u:TT):TT:=fun σ H Q=>t σ H fun c H1=>if c=true then Q true H1 else u σ H1 Q
noncomputable def Kt (t:TT):TT:=fun σ H Q=>t σ H fun c H1=>Q (!c) H1
theorem yy (ha:PT X a tA):PW X (.BoolOp .And [a] pos) tA:=by
 intro wh pins s σ H Q I h
 refine isTrue_and (bN (ha pins s σ H Q I h) fun c s1 e=>?_)
 cases c with
 |true=>exact isTrue_and_nil e
 |false=>exact e
theorem GD (ha:PT X a tA):PW X (.BoolOp .Or [a] pos) tA:=by
 intro wh pins s σ H Q I h
 refine isTrue_or (bN (ha pins s σ H Q I h) fun c s1 e=>?_)
 cases c with
 |false=>exact isTrue_or_nil e
 |true=>exact e
theorem Bv (ha:PT X a tA) (hb:PW X (.BoolOp .And (b::rest) pos) tB'):PW X (.BoolOp .And (a::b::rest) pos) (Kv tA tB'):=by
 intro wh pins s σ H Q I h
 refine isTrue_and (bN (ha pins s σ H _ I h) fun c s1 ⟨H1,I1,q1⟩=>?_)
 cases c with
 |true=>exact hb wh pins s1 σ H1 Q I1 q1
 |false=>exact⟨H1,I1,q1⟩
theorem IZ (ha:PT X a tA) (hb:PW X (.BoolOp .Or (b::rest) pos) tB'):PW X (.BoolOp .Or (a::b::rest) pos) (Lw tA tB'):=by
 intro wh pins s σ H Q I h
 refine isTrue_or (bN (ha pins s σ H _ I h) fun c s1 ⟨H1,I1,q1⟩=>?_)
 cases c with
 |true=>exact⟨H1,I1,q1⟩
 |false=>exact hb wh pins s1 σ H1 Q I1 q1
theorem GG (ha:PT X a tA):PT X (.UnaryOp .Not a pos) (Kt tA):=by
 intro pins s σ H Q I h
 exact isTrue_not (ha pins s σ H (fun c H1=>Q (!c) H1) I h)
noncomputable def IB (ta tb:TE):TE:=fun σ H Q=>ta σ H fun x H1=> ∃ c,x= .bl c∧if c=true then tb σ H1 Q else Q (.bl false) H1
theorem GN {op} {t:TE} (h:PE X a t):PE X (.BoolOp op [a] pos) t:=fun pins s σ H Q I hw=>BoolOp_one (h pins s σ H Q I hw)
theorem GQ (ha:PE X a ta) (hb:PE X (.BoolOp .And (b::rest) pos) tb):PE X (.BoolOp .And (a::b::rest) pos) (IB ta tb):=by
 intro pins s σ H Q I h
 refine BoolOp_and (bN (ha pins s σ H _ I h) fun v s1 ⟨x,H1,I1,r1,q1⟩=>?_)
 obtain⟨c,rfl,q1⟩:=q1
 cases r1
 refine wpAny_truthy_bool ?_
 cases c with
 |true=>exact hb pins s1 σ H1 Q I1 q1
 |false=>exact⟨.bl false,H1,I1,rfl,q1⟩
noncomputable def Lx (t:TT) (ta tb:TE):TE:=fun σ H Q=>t σ H fun c H1=>if c=true then ta σ H1 Q else tb σ H1 Q
theorem BQ {c:Expr} (hc:PT X c tA) (ha:PE X a ta) (hb:PE X b tb):PE X (.IfExp c a b pos) (Lx tA ta tb):=by
 intro pins s σ H Q I h
 refine wpAny_IfExp (bN (hc pins s σ H _ I h) fun d s1 ⟨H1,I1,q1⟩=>?_)
 cases d with
 |true=>exact ha pins s1 σ H1 Q I1 q1
 |false=>exact hb pins s1 σ H1 Q I1 q1
end
end L2
namespace L2
open PySem PySem.Spec PyProof.Rows
def cQ (K:Frag) (H:Hp) (a:Addr) (xs:List V):Prop:=
 Rd H a (.lst xs)∨
  ∃ (o:Obj) (its:Array Value) (n:Nat),K.lookup a=some o∧o.cls= .type "list"∧o.dict=none∧o.data= .seq its n∧its.size≤sizeLine∧Vals xs its.toList
def fM (K:Frag) (H:Hp) (a:Addr) (xs:List V):Prop:=
 Rd H a (.tup xs)∨
  ∃ (o:Obj) (its:Array Value) (n:Nat),K.lookup a=some o∧o.cls= .type "tuple"∧o.data= .seq its n∧its.size≤sizeLine∧Vals xs its.toList
noncomputable def Lf:Value→Option V
 | .none=>some .aW
 | .bool b=>some (.bl b)
 | .int i _=>some (.int i)
 | .str x _=>some (.str x)
 | .bytes b _=>some (.JF b)
 | .float b _=>some (.K7 b)
 | .ref a=>some (.ref a)
 | .type n=>some (.ty n)
 |_=>none
theorem RelV.abs {x:V} {u:Value} (r:RelV x u):Lf u=some x:=by
 cases x with
 |aW=>cases r;rfl
 |bl _=>cases r;rfl
 |int _=>obtain⟨t,rfl⟩:=r;rfl
 |str _=>obtain⟨t,rfl⟩:=r;rfl
 |JF _=>obtain⟨t,rfl⟩:=r;rfl
 |K7 _=>obtain⟨t,rfl⟩:=r;rfl
 |ref _=>cases r;rfl
 |ty _=>cases r;rfl
theorem RelV.inj {x y:V} {u:Value} (r:RelV x u) (q:RelV y u):x=y:=MD (r.abs.symm.trans q.abs)
theorem Vals.inj: ∀ {xs ys:List V} {us:List Value},Vals xs us→Vals ys us→xs=ys
 |_,_,_,.nil,.nil=>rfl
 |_,_,_,.cons r t,.cons r' t'=>by rw[r.inj r',Vals.inj t t']
section
variable {X:Cx} {pins:List (Addr×Obj)} {σ:St} {H:Hp} {s:Shared} {a:Addr} {xs ys:List V}
theorem cQ.of {K:Frag} (h:H a=some (.lst xs)):cQ K H a xs:=.inl (.inl h)
theorem fM.of {K:Frag} (h:H a=some (.tup xs)):fM K H a xs:=.inl (.inl h)
theorem Inv.list (I:Inv X pins σ H s) (h:cQ X.K H a xs): ∃ its:List Value,Vals xs its∧PlainL s.heap a its.toArray∧xs.length≤sizeLine:=by
 rcases h with h|⟨o,its,n,hk,hc,hd,hs,hz,r⟩
 ·obtain⟨z,its,n,r,e⟩:=h.ok I.bE
  exact⟨its,r,⟨_,n,e,rfl,rfl,rfl⟩,z⟩
 ·refine⟨its.toList,r,⟨o,n,I.Ic a o hk,hc,hd,by simpa using hs⟩,?_⟩
  have e:=r.length
  simp only[Mn] at e
  lia
theorem Inv.tuple (I:Inv X pins σ H s) (h:fM X.K H a xs): ∃ its:List Value,Vals xs its∧IsTup s.heap a its.toArray∧xs.length≤sizeLine:=by
 rcases h with h|⟨o,its,n,hk,hc,hs,hz,r⟩
 ·obtain⟨z,its,r,p⟩:=h.ok I.bE
  exact⟨its,r,p,z⟩
 ·refine⟨its.toList,r,⟨o,I.Ic a o hk,hc,n,by simpa using hs⟩,?_⟩
  have e:=r.length
  simp only[Mn] at e
  lia
theorem Inv.vq (I:Inv X pins σ H s) (h:cQ X.K H a xs) (h':cQ X.K H a ys):xs=ys:=by
 obtain⟨its,r,⟨o,n,e,_,_,d⟩,_⟩:=I.list h
 obtain⟨its',r',⟨o',n',e',_,_,d'⟩,_⟩:=I.list h'
 rw[e] at e';cases e'
 rw[d] at d'
 injection d' with d1 _
 have:its=its':=by simpa using congrArg Array.toList d1
 subst this
 exact r.inj r'
theorem Inv.zx (I:Inv X pins σ H s) (h:fM X.K H a xs) (h':fM X.K H a ys):xs=ys:=by
 obtain⟨its,r,⟨o,e,_,n,d⟩,_⟩:=I.tuple h
 obtain⟨its',r',⟨o',e',_,n',d'⟩,_⟩:=I.tuple h'
 rw[e] at e';cases e'
 rw[d] at d'
 injection d' with d1 _
 have:its=its':=by simpa using congrArg Array.toList d1
 subst this
 exact r.inj r'
end
noncomputable abbrev Cx.pI (X:Cx) (E:Value→Shared→Prop):Cx:={X with xe:=E}
noncomputable abbrev Cx.tU (X:Cx):Cx:=X.pI fun _ _=>False
theorem Cx.Ok.pI {X:Cx} (ok:X.Ok) (E:Value→Shared→Prop):(X.pI E).Ok:=
 ⟨ok.mod,ok.kind,ok.glob,ok.blt,ok.above,ok.inj,ok.has,ok.Ig,ok.hd,ok.frames,ok.ID,ok.K8,ok.bs,ok.Dm,ok.zX,ok.CK,ok.nX,ok.FO⟩
theorem Cx.Ok.jl {X:Cx} {E:Value→Shared→Prop} (ok:(X.pI E).Ok):X.Ok:=
 ⟨ok.mod,ok.kind,ok.glob,ok.blt,ok.above,ok.inj,ok.has,ok.Ig,ok.hd,ok.frames,ok.ID,ok.K8,ok.bs,ok.Dm,ok.zX,ok.CK,ok.nX,ok.FO⟩
section
variable {X:Cx} {pins:List (Addr×Obj)} {σ:St} {H:Hp} {s:Shared} {E:Value→Shared→Prop}
theorem Inv.pI (I:Inv X pins σ H s) (E:Value→Shared→Prop):Inv (X.pI E) pins σ H s:=⟨I.ok.pI E,I.os,I.bare,I.base,I.loc,I.cell,I.free,I.kG,I.pin,I.bE,I.len⟩
theorem Inv.jl (I:Inv (X.pI E) pins σ H s):Inv X pins σ H s:=⟨I.ok.jl,I.os,I.bare,I.base,I.loc,I.cell,I.free,I.kG,I.pin,I.bE,I.len⟩
theorem SP.jl {D:Ends} {f:Flow} {s':Shared} (h:SP (X.pI E) pins D f s'):SP X pins D f s':=by
 cases f with
 |next=>obtain⟨σ',H',I,q⟩:=h;exact⟨σ',H',I.jl,q⟩
 |brk=>obtain⟨σ',H',I,q⟩:=h;exact⟨σ',H',I.jl,q⟩
 |cont=>obtain⟨σ',H',I,q⟩:=h;exact⟨σ',H',I.jl,q⟩
 |ret u=>obtain⟨v,σ',H',I,r,q⟩:=h;exact⟨v,σ',H',I.jl,r,q⟩
theorem PE.tU {e:Expr} {t:TE} (h:PE X.tU e t):PE X e t:=fun pins s σ H Q I hw=>
 wpAny_mono (h pins s σ H Q (I.pI _) hw) (fun _ _ ⟨v,H',I',r,q⟩=>⟨v,H',I'.jl,r,q⟩) fun _ _ z=>False.elim z
theorem wy.tU {st:List Stmt} {t:TS} (h:wy X.tU st t):wy X st t:=fun pins s σ H D I hw=>
 wpAny_mono (h pins s σ H D (I.pI _) hw) (fun _ _ q=>q.jl) fun _ _ z=>False.elim z
end
section
variable {X:Cx} {st:Stmt} {rest:List Stmt} {t u:TS} {e:Expr} {te:TE} {pos:Pos}
noncomputable def Iz:TS:=fun D σ H=>D.nx σ H
noncomputable def Ks (t u:TS):TS:=fun D σ H=>t {D with nx:=u D} σ H
theorem tm:wy X [] Iz:=fun _ _ σ H _ I h=>wpAny_execs_nil ⟨σ,H,I,h⟩
theorem dJ (h1:PS X st t) (h2:wy X rest u):wy X (st::rest) (Ks t u):=by
 intro pins s σ H D I h
 refine wpAny_execs_cons (bN (h1 pins s σ H {D with nx:=u D} I h) fun f s1 q=>?_)
 cases f with
 |next=>
  obtain⟨σ',H',I',q⟩:=q
  exact h2 pins s1 σ' H' D I' q
 |ret v=>exact q
 |brk=>exact q
 |cont=>exact q
theorem jw (h1:PS X st t):wy X [st] t:=by
 intro pins s σ H D I h
 refine wpAny_execs_cons (bN (h1 pins s σ H D I h) fun f s1 q=>?_)
 cases f with
 |next=>exact wpAny_execs_nil q
 |ret v=>exact q
 |brk=>exact q
 |cont=>exact q
theorem Inv.quiet {pins:List (Addr×Obj)} {σ:St} {H:Hp} {s:Shared} (I:Inv X pins σ H s):interactive X.env=false:=by simp[interactive,I.ok.kind]
noncomputable def yb (te:TE):TS:=fun D σ H=>te σ H fun _ H1=>D.nx σ H1
theorem DY (he:PE X e te) (hs:swapsWith e none pos.line X.env=pure false:=by rfl):PS X (.Expr e pos) (yb te):=by
 intro pins s σ H D I h
 exact wpAny_Expr_any (bN (he pins s σ H _ I h) fun v s1 ⟨x,H1,I1,r1,q1⟩=>⟨σ,H1,I1,q1⟩) I.quiet hs
noncomputable def Gi (te:TE):TS:=fun D σ H=>te σ H D.rt
theorem tu (he:PE X e te):PS X (.Return (some e) pos) (Gi te):=by
 intro pins s σ H D I h
 exact wpAny_Return_some (bN (he pins s σ H _ I h) fun v s1 ⟨x,H1,I1,r1,q1⟩=>⟨x,σ,H1,I1,r1,q1⟩)
noncomputable def Gm (c:TT) (t u:TS):TS:=fun D σ H=>c σ H fun b H1=>if b=true then t D σ H1 else u D σ H1
theorem BC {c:Expr} {a b:List Stmt} {tc:TT} (hc:PT X c tc) (ha:wy X a t) (hb:wy X b u):PS X (.If c a b pos) (Gm tc t u):=by
 intro pins s σ H D I h
 refine wpAny_If (bN (hc pins s σ H _ I h) fun d s1 ⟨H1,I1,q1⟩=>?_)
 cases d with
 |true=>exact ha pins s1 σ H1 D I1 q1
 |false=>exact hb pins s1 σ H1 D I1 q1
end
noncomputable abbrev TG:=V→St→Hp→(St→Hp→Prop)→Prop
noncomputable abbrev Dh:=List V→St→Hp→(St→Hp→Prop)→Prop
def PG (X:Cx) (target:Expr) (t:TG):Prop:=
 ∀ (pins:List (Addr×Obj)) (s:Shared) (σ:St) (H:Hp) (v:V) (u:Value) (Q:St→Hp→Prop),Inv X pins σ H s→RelV v u→t v σ H Q→
  wpAny (model X.prog X.w) X.A (assign target X.env u) (fun _ s'=> ∃ σ' H',Inv X pins σ' H' s'∧Q σ' H') X.xe s
def JO (X:Cx) (ts:List Expr) (t:Dh):Prop:=
 ∀ (pins:List (Addr×Obj)) (s:Shared) (σ:St) (H:Hp) (vs:List V) (us:List Value) (Q:St→Hp→Prop),Inv X pins σ H s→Vals vs us→t vs σ H Q→
  wpAny (model X.prog X.w) X.A (assignInOrder ((assignEach ts X.env).map (·.2)) us) (fun _ s'=> ∃ σ' H',Inv X pins σ' H' s'∧Q σ' H') X.xe s
noncomputable abbrev Fg:=V→V→V→Hp→(Hp→Prop)→Prop
def HM (X:Cx) (t:Fg):Prop:=
 ∀ (pins:List (Addr×Obj)) (s:Shared) (σ:St) (H:Hp) (o i v:V) (ov iv u:Value) (Q:Hp→Prop),Inv X pins σ H s→RelV o ov→RelV i iv→RelV v u→t o i v H Q→
  wpAny (model X.prog X.w) X.A (setItem ov iv u) (fun _ s'=> ∃ H',Inv X pins σ H' s'∧Q H') X.xe s
section
variable {X:Cx} {pos:Pos}
noncomputable def gn (i:Nat):TG:=fun v σ H Q=>Q (σ.set i (some v)) H
theorem pf {i:Nat} {x:Str} (hN:X.N.Nodup) (hi:X.N[i]?=some x) (hx:Loc X.env.scope x) (hf:X.fn x=true∨X.env.scope.names.lookup x=some .local:=by first|exact .inl rfl|exact .inr rfl|assumption):PG X (.Name x pos) (gn i):=by
 intro pins s σ H v u Q I r h
 exact wpAny_assign_Name (mq I hN hi hx r (fun s' I'=>⟨_,H,I',h⟩) hf)
noncomputable def Ho:Dh:=fun vs σ H Q=>vs=[]∧Q σ H
noncomputable def CD (t:TG) (u:Dh):Dh:=fun vs σ H Q=> ∃ v r,vs=v::r∧t v σ H fun σ' H'=>u r σ' H' Q
theorem yB:JO X [] Ho:=by
 intro pins s σ H vs us Q I r h
 obtain⟨e,h⟩:=h
 subst e
 cases r
 exact assignInOrder_nil ⟨σ,H,I,h⟩
theorem pX {e:Expr} {es:List Expr} {t:TG} {u:Dh} (h1:PG X e t) (h2:JO X es u)
  (hs:(assignEach (e::es) X.env).map (·.2)=assign e X.env::(assignEach es X.env).map (·.2):=by rfl):JO X (e::es) (CD t u):=by
 intro pins s σ H vs us Q I r h
 obtain⟨v,vr,e1,h⟩:=h
 subst e1
 cases r with
 |cons r rr=>
  rw[hs]
  refine assignInOrder_cons (bN (h1 pins s σ H _ _ _ I r h) fun _ s1 ⟨σ1,H1,I1,q1⟩=>?_)
  exact h2 pins s1 σ1 H1 _ _ Q I1 rr q1
noncomputable def CC (K:Frag) (n:Nat) (t:Dh):TG:=fun v σ H Q=> ∃ a xs,v= .ref a∧fM K H a xs∧xs.length=n∧t xs σ H Q
theorem BM {es:List Expr} {k:Nat} {t:Dh} {n:Nat} (hc:X.calm=true) (h:JO X es t)
  (hn:(assignEach es X.env).length=n:=by rfl) (hst:(assignEach es X.env).findIdx? (·.1)=none:=by rfl):PG X (.Tuple es k pos) (CC X.K n t):=by
 intro pins s σ H v u Q I r hw
 obtain⟨a,xs,e1,hq,hl,hw⟩:=hw
 subst e1
 cases r
 obtain⟨its,rv,ht,hz⟩:=I.tuple hq
 refine assign_Tuple_tuple (I.ok.hd hc) ht (by simp[hn,←hl,rv.length]) hst fun h' hx=>?_
 have I1:Inv X pins σ H {s with heap:=h'}:=I.kept (t':=s.toks) fun b o e=>hx b o (Mg (L1 e)) e
 exact h pins _ σ H xs _ Q I1 (by simpa using rv) hw
noncomputable def EM (to ti:TE) (t:Fg):TG:=fun v σ H Q=>to σ H fun o H1=>ti σ H1 fun i H2=>t o i v H2 fun H3=>Q σ H3
theorem w8 {o i:Expr} {to ti:TE} {t:Fg} (ho:PE X o to) (hi:PE X i ti) (hs:HM X t)
  (ha: ∀ v,assign (.Subscript o i pos) X.env v=(do
   let ov ←holding [v] (eval o X.env)
   let iv ←holding [v,ov] (eval i X.env)
   standAt pos
   holding [v,ov,iv] (setItem ov iv v)
   release [v,ov,iv] []):=by intro _;rfl):PG X (.Subscript o i pos) (EM to ti t):=by
 intro pins s σ H v u Q I r h
 rw[ha]
 refine LI (wpAny_holding (bN (ho pins s σ H _ I h) fun ov s1 ⟨x,H1,I1,r1,q1⟩=>?_))
 refine LI (wpAny_holding (bN (hi pins s1 σ H1 _ I1 q1) fun iv s2 ⟨y,H2,I2,r2,q2⟩=>?_))
 refine LI (wpAny_standAt (LI (wpAny_holding (bN (hs pins s2 σ H2 x y v ov iv u _ I2 r1 r2 r q2) fun _ s3 ⟨H3,I3,q3⟩=>?_))))
 exact wpAny_release ⟨σ,H3,I3,q3⟩
noncomputable def lA (te:TE) (g:TG):TS:=fun D σ H=>te σ H fun x H1=>g x σ H1 D.nx
theorem wZ {tg e:Expr} {te:TE} {g:TG} (he:PE X e te) (hg:PG X tg g) (hs:swapsWithSole [tg] e pos.line X.env=pure false:=by rfl) (hw:swappedStores [tg] e X.env=pure none:=by rfl)
  (h1:(assignEach [tg] X.env).map (·.2)=[assign tg X.env]:=by rfl):PS X (.Assign [tg] e pos) (lA te g):=by
 intro pins s σ H D I h
 refine wpAny_Assign_stores (bN (he pins s σ H _ I h) fun v s1 ⟨x,H1,I1,r1,q1⟩=>?_) hs hw
 rw[h1]
 exact bN (hg pins s1 σ H1 x v _ I1 r1 q1) fun _ s2 q=>q
theorem ku {i:Nat} {x:Str} {e:Expr} {te:TE} {pos':Pos} (hN:X.N.Nodup) (hi:X.N[i]?=some x) (hx:Loc X.env.scope x) (he:PE X e te) (hs:swapsWith e (some (.Name x pos')) pos.line X.env=pure false:=by rfl) (hf:X.fn x=true∨X.env.scope.names.lookup x=some .local:=by first|exact .inl rfl|exact .inr rfl|assumption):
  PS X (.Assign [.Name x pos'] e pos) (lA te (gn i)):=by
 intro pins s σ H D I h
 refine wpAny_Assign_Name (bN (he pins s σ H _ I h) fun v s1 ⟨y,H1,I1,r1,q1⟩=>?_) hs
 exact mq I1 hN hi hx r1 (fun s2 I2=>⟨_,H1,I2,q1⟩) hf
noncomputable def Gj (i j:Nat) (ta:TA):TS:=fun D σ H=>ta σ H fun vs H1=> ∃ v w,vs=[v,w]∧D.nx ((σ.set i (some v)).set j (some w)) H1
theorem GI {i j:Nat} {x y:Str} {a b:Expr} {ta:TA} {px py pt:Pos} {kt k2 pt2} (hc:X.calm=true) (hN:X.N.Nodup) (hi:X.N[i]?=some x) (hj:X.N[j]?=some y) (hij:i≠j)
  (hx:X.env.scope.names.lookup x=some .local) (hy:X.env.scope.names.lookup y=some .local) (ha:PA X [a,b] ta)
  (hw:swappedStores [.Tuple [.Name x px,.Name y py] kt pt] (.Tuple [a,b] k2 pt2) X.env=pure (some [x,y]))
  (hs:swapsWithSole [.Tuple [.Name x px,.Name y py] kt pt] (.Tuple [a,b] k2 pt2) pos.line X.env=pure false:=by rfl):
  PS X (.Assign [.Tuple [.Name x px,.Name y py] kt pt] (.Tuple [a,b] k2 pt2) pos) (Gj i j ta):=by
 intro pins s σ H D I h
 rw[exec_Assign_arm]
 refine LI (wpAny_standAt ?_)
 rw[hs]
 refine LI (LN ?_)
 rw[MA (by decide)]
 refine LI (Tuple_ (bN (ha _ pins s σ H _ I h) fun us s1 ⟨vs,H1,I1,r1,q1⟩=>?_))
 obtain⟨v,w,e1,q1⟩:=q1
 subst e1
 obtain⟨u1,u2,rfl,rv,rw'⟩: ∃ u1 u2,us=[u1,u2]∧RelV v u1∧RelV w u2:=by
  cases r1 with
  |cons p q=>
   cases q with
   |cons p' q'=>
    cases q'
    exact⟨_,_,rfl,p,p'⟩
 refine wpAny_newObj_type ?_ (by show 2≤sizeLine;decide)
 have I2:Inv X pins σ H1 {s1 with heap:=s1.heap.push {cls:=.type "tuple",data:=.seq [u1,u2].toArray}}:=I1.kept (t':=s1.toks) fun b o e=>LL _ e
 rw[hw]
 refine LI (LN ?_)
 show wpAny (model X.prog X.w) X.A (do rule "assign.swapped-stores";let items ←unpackItems (.ref s1.heap.objs.size) 2 none;assignInOrder [fun v=>bindName X.env y v,fun v=>bindName X.env x v] items.reverse;pure Flow.next) _ _ _
 refine LI (wpAny_rule (LI (unpackItems_tuple (items:= #[u1,u2]) (I.ok.hd hc) (IsTup.new s1.heap _) fun h' hx'=>?_)))
 have I3:=I2.kept (h':=h') (t':=s1.toks) fun b o e=>hx' b o (Mg (L1 e)) e
 show wpAny _ _ (assignInOrder [fun v=>bindName X.env y v,fun v=>bindName X.env x v] [u2,u1] >>= fun _=>pure Flow.next) _ _ _
 refine LI (assignInOrder_cons (wpAny_bindName (mq I3 hN hj (.inl hy) rw' (fun s2 I4=>?_) (.inr hy))))
 refine assignInOrder_cons (wpAny_bindName (mq I4 hN hi (.inl hx) rv (fun s3 I5=>assignInOrder_nil (LN ?_)) (.inr hx)))
 rw[List.set_comm _ _ (Ne.symm hij)] at I5
 exact⟨_,H1,I5,q1⟩
end
section
variable {X:Cx} {pos:Pos}
noncomputable def wI (c:TT) (tb:TS):TS:=fun D σ H=> ∃ W:Nat→St→Hp→Prop,(∃ m,W m σ H)∧∀ m σ H,W m σ H→
 c σ H fun b H1=>if b=true then ∃ N:St→Hp→Prop,(∀ σ' H',N σ' H'→∃ m',m' < m∧W m' σ' H')∧tb {D with nx:=N,ct:=N,bk:=D.nx} σ H1 else D.nx σ H1
theorem BB {c:Expr} {body:List Stmt} {tc:TT} {tb:TS} (hp:PassesOwn (model X.prog X.w) X.A X.env X.xe) (hc:PT X c tc) (hb:wy X body tb):PS X (.While c body [] pos) (wI tc tb):=by
 intro pins s σ H D I h
 obtain⟨W,⟨m0,w0⟩,turn⟩:=h
 refine wpAny_While (codeAny_whileLoop (fun n s'=> ∃ σ' H',Inv X pins σ' H' s'∧W n σ' H') ?_ m0 ⟨σ,H,I,w0⟩)
 rintro n s1 ⟨σ1,H1,I1,w1⟩
 refine wpAny_passesOwn hp (bN (hc pins s1 σ1 H1 _ I1 (turn n σ1 H1 w1)) fun b s2 ⟨H2,I2,q2⟩=>?_)
 cases b with
 |true=>
  obtain⟨N,hN,q2⟩:=q2
  rw[Mz rfl]
  refine wpAny_passesOwn hp (bN (hb pins s2 σ1 H2 _ I2 q2) fun f s3 q3=>?_)
  cases f with
  |next=>
   obtain⟨σ3,H3,I3,n3⟩:=q3
   obtain⟨m',hm,w3⟩:=hN σ3 H3 n3
   exact⟨m',hm,σ3,H3,I3,w3⟩
  |cont=>
   obtain⟨σ3,H3,I3,n3⟩:=q3
   obtain⟨m',hm,w3⟩:=hN σ3 H3 n3
   exact⟨m',hm,σ3,H3,I3,w3⟩
  |brk=>exact q3
  |ret v=>exact q3
 |false=>
  rw[MA Bool.false_ne_true]
  exact wpAny_execs_nil ⟨σ1,H2,I2,q2⟩
end
set_option genInjectivity false in
structure It where
 go:Nat→Hp→Prop
 AG:Nat→Hp→V→Hp→Prop
 stop:Nat→Hp→Prop
def eQ (X:Cx) (pins:List (Addr×Obj)) (H:Hp) (b:Addr):Prop:=
 H b=none∧b≠X.env.locals∧b∉X.fs∧(b∈X.ex∨X.s₀.heap.objs.size≤b)∧(∀ x c,X.env.cells.lookup x=some c→c≠b)∧∀ p∈X.pn++pins,p.1≠b
theorem Inv.rj {X:Cx} {pins:List (Addr×Obj)} {σ:St} {H H':Hp} {s:Shared} {b:Addr} (I:Inv X pins σ H s) (hb:s.heap.objs.size≤b) (hn:H' b=none):eQ X pins H' b:=by
 refine⟨hn,Nat.ne_of_gt (L9 I.lt hb),I.KI hb,.inr (L6 I.sz hb),fun x c e z=>?_,fun p hp z=>?_⟩
 ·obtain⟨v,q⟩:=I.cell x c e
  exact absurd (L9 q.lt (by rw[z];exact hb)) (Nat.lt_irrefl _)
 ·exact absurd (L9 (L1 (I.pin p hp).1) (by rw[z];exact hb)) (Nat.lt_irrefl _)
set_option genInjectivity false in
structure Turn (P:Program) (w:World) (K:Frag) (tg:Expr) (J:It) (fp:List Addr) (it:Addr) (tn:Nat→Heap→Prop):Prop where
 mem:it∈fp
 obj: ∀ i h,tn i h→∀ b∈fp,∃ o,h.get? b=some o∧∀ v,o.data≠.cell v
 keep: ∀ i h h',tn i h→(∀ b∈fp,∀ o,h.get? b=some o→h'.get? b=some o)→tn i h'
 item: ∀ (X:Cx),X.prog=P→X.w=w→X.K=K→X.calm=true→∀ (i:Nat) (pins:List (Addr×Obj)) (s:Shared) (σ:St) (H:Hp) (E:Value→Shared→Prop),Inv X pins σ H s→(∀ b∈fp,eQ X pins H b)→tn i s.heap→J.go i H→
  wpAny (model P w) X.A (pyNext (.ref it)) (fun r s1=> ∃ u,r=some u∧
   wpAny (model P w) X.A (letOwnedTupleGo tg (.ref it) u) (fun _ s2=> ∃ x H',Inv X pins σ H' s2∧RelV x u∧J.AG i H x H'∧tn (i+1) s2.heap∧∀ b∈fp,H' b=none) E s1) E s
 done: ∀ (X:Cx),X.prog=P→X.w=w→X.K=K→X.calm=true→∀ (i:Nat) (pins:List (Addr×Obj)) (s:Shared) (σ:St) (H:Hp) (E:Value→Shared→Prop),Inv X pins σ H s→(∀ b∈fp,eQ X pins H b)→tn i s.heap→J.stop i H→
  wpAny (model P w) X.A (pyNext (.ref it)) (fun r s1=>r=none∧Inv X pins σ H s1) E s
 self: ∀ (A:Around) (i:Nat) (s:Shared) (Q:Value→Shared→Prop) (E:Value→Shared→Prop),tn i s.heap→Q (.ref it) s→wpAny (model P w) A (pyIter (.ref it)) Q E s
noncomputable abbrev TI:=St→Hp→(It→Hp→Prop)→Prop
def Ke (X:Cx) (pins:List (Addr×Obj)) (σ:St) (tg:Expr) (R:It→Hp→Prop) (itv:Value) (s2:Shared):Prop:=
 ∃ (it:Addr) (fp:List Addr) (tn:Nat→Heap→Prop) (J:It) (H':Hp),itv= .ref it∧Inv X pins σ H' s2∧Turn X.prog X.w X.K tg J fp it tn∧tn 0 s2.heap∧(∀ b∈fp,eQ X pins H' b)∧R J H'
def PI (X:Cx) (tg iter:Expr) (wi:TI):Prop:=
 ∀ (pins:List (Addr×Obj)) (s:Shared) (σ:St) (H:Hp) (R:It→Hp→Prop),Inv X pins σ H s→wi σ H R→
  wpAny (model X.prog X.w) X.A (eval iter X.env) (fun v s1=>wpAny (model X.prog X.w) X.A (pyIter v) (Ke X pins σ tg R) X.xe s1) X.xe s
theorem sg {M : Model} {A : Around} {E : Value → Shared → Prop} {s : Shared} {tg : Expr} {it : Addr} {u : Value} {o : Obj} {n : String} {vs : Array Value} {Q : Unit → Shared → Prop} (ho : s.heap.get? it = some o) (hc : o.cls = .type n) (hd : o.data = .fields vs)
    (hn : ["enumerate", "zip", "dict_itemiterator", "dict_reverseitemiterator", "odict_iterator", "itertools.zip_longest", "itertools.pairwise"].contains n = false) (hQ : Q () s) : wpAny M A (letOwnedTupleGo tg (.ref it) u) Q E s := by
  unfold letOwnedTupleGo
  cases tg <;> first
    | exact LN hQ
    | (cases u <;> first
        | exact LN hQ
        | (refine LI (wpAny_load ho ?_)
           rw [hc, hd]
           show wpAny M A (if (["enumerate", "zip", "dict_itemiterator", "dict_reverseitemiterator", "odict_iterator", "itertools.zip_longest", "itertools.pairwise"].contains n && vs[0]? == some (rawInt _)) = true then _ else _) Q E s
           rw [MA (by intro h; rw [hn, Bool.false_and] at h; cases h)]
           exact LN hQ))
noncomputable def Ki (K:Frag) (a:Addr):It:=
 ⟨fun i H=> ∃ xs x,cQ K H a xs∧xs[i]?=some x,fun i H x H'=>H'=H∧∀ xs,cQ K H a xs→xs[i]?=some x,fun i H=> ∃ xs,cQ K H a xs∧xs.length≤i⟩
noncomputable def Kg (K:Frag) (a:Addr):It:=
 ⟨fun i H=> ∃ xs x,fM K H a xs∧xs[i]?=some x,fun i H x H'=>H'=H∧∀ xs,fM K H a xs→xs[i]?=some x,fun i H=> ∃ xs,fM K H a xs∧xs.length≤i⟩
noncomputable def Kh (lo:Int) (n:Nat):It:=⟨fun i _=>i < n,fun i H x H'=>H'=H∧x= .int (lo+i),fun i _=>n≤i⟩
theorem zt {P:Program} {w:World} {K:Frag} {tg:Expr} (a it:Addr):Turn P w K tg (Ki K a) [it] it (fun i h=>h.IsListIter it a i) where
 mem:=by simp
 obj:=fun i h st b hb=>by
  have e:b=it:=by simpa using hb
  subst e
  obtain⟨o,e,c,d⟩:=st
  exact⟨o,e,fun v z=>by rw[d] at z;cases z⟩
 keep:=fun i h h' st k=>st.at fun o e=>k it (by simp) o e
 item:=by
  intro X hP hw hK hc i pins s σ H E I hf st hg
  subst hP hw hK
  obtain⟨xs,x,hq,hx⟩:=hg
  obtain⟨its,rv,p,hz⟩:=I.list hq
  obtain⟨u,hu,ru⟩:=rv.get hx
  obtain⟨f0,f1,f2,f3,f4,f5⟩:=hf it (by simp)
  refine wpAny_pyNext_list_item st p.isList (x:=u) (by simpa using hu) fun h' st' sb=>?_
  have I1:Inv X pins σ H {s with heap:=h'}:=I.turned (t':=s.toks) (fun b o hb e=>(sb.2 b hb).trans e) f0 f1 f3 f4 f5
  obtain⟨o,e,c,d⟩:=id st'
  exact⟨u,rfl,sg (s:={s with heap:=h'}) e c d (by decide) ⟨x,H,I1,ru,⟨rfl,fun ys hy=>by rw[I.vq hy hq];exact hx⟩,st',fun b hb=>(hf b hb).1⟩⟩
 done:=by
  intro X hP hw hK hc i pins s σ H E I hf st hg
  subst hP hw hK
  obtain⟨xs,hq,hx⟩:=hg
  obtain⟨its,rv,p,hz⟩:=I.list hq
  obtain⟨f0,f1,f2,f3,f4,f5⟩:=hf it (by simp)
  have hl:=rv.length
  exact wpAny_pyNext_list_end (I.ok.hd hc) st p.isList (by simp;lia) fun h' eb=>⟨rfl,I.turned (t':=s.toks) (fun b o hb e=>eb b o hb e) f0 f1 f3 f4 f5⟩
 self:=fun _ _ _ _ _ st h=>wpAny_pyIter_listiter st h
theorem wC {P:Program} {w:World} {K:Frag} {tg:Expr} (a it:Addr):Turn P w K tg (Kg K a) [it] it (fun i h=>h.IsTupleIter it a i) where
 mem:=by simp
 obj:=fun i h st b hb=>by
  have e:b=it:=by simpa using hb
  subst e
  obtain⟨o,e,c,d⟩:=st
  exact⟨o,e,fun v z=>by rw[d] at z;cases z⟩
 keep:=fun i h h' st k=>st.at fun o e=>k it (by simp) o e
 item:=by
  intro X hP hw hK hc i pins s σ H E I hf st hg
  subst hP hw hK
  obtain⟨xs,x,hq,hx⟩:=hg
  obtain⟨its,rv,p,hz⟩:=I.tuple hq
  obtain⟨u,hu,ru⟩:=rv.get hx
  obtain⟨f0,f1,f2,f3,f4,f5⟩:=hf it (by simp)
  refine wpAny_pyNext_tuple_item st (show s.heap.IsTuple a its.toArray from p) (x:=u) (by simpa using hu) fun h' st' sb=>?_
  have I1:Inv X pins σ H {s with heap:=h'}:=I.turned (t':=s.toks) (fun b o hb e=>(sb.2 b hb).trans e) f0 f1 f3 f4 f5
  obtain⟨o,e,c,d⟩:=id st'
  exact⟨u,rfl,sg (s:={s with heap:=h'}) e c d (by decide) ⟨x,H,I1,ru,⟨rfl,fun ys hy=>by rw[I.zx hy hq];exact hx⟩,st',fun b hb=>(hf b hb).1⟩⟩
 done:=by
  intro X hP hw hK hc i pins s σ H E I hf st hg
  subst hP hw hK
  obtain⟨xs,hq,hx⟩:=hg
  obtain⟨its,rv,p,hz⟩:=I.tuple hq
  obtain⟨f0,f1,f2,f3,f4,f5⟩:=hf it (by simp)
  have hl:=rv.length
  exact wpAny_pyNext_tuple_end (I.ok.hd hc) st (show s.heap.IsTuple a its.toArray from p) (by simp;lia) fun h' eb=>⟨rfl,I.turned (t':=s.toks) (fun b o hb e=>eb b o hb e) f0 f1 f3 f4 f5⟩
 self:=fun _ _ _ _ _ st h=>wpAny_pyIter_tupleiter st h
theorem wD {P:Program} {w:World} {K:Frag} {tg:Expr} (it:Addr) (lo:Int) (n:Nat):Turn P w K tg (Kh lo n) [it] it (fun i h=>IsRangeIter h it (lo+(i:Nat) * 1) ((n:Int) - (i:Nat)) 1) where
 mem:=by simp
 obj:=fun i h st b hb=>by
  have e:b=it:=by simpa using hb
  subst e
  exact⟨_,st,fun v z=>by
   have z':Data.fields _=Data.cell v:=z
   cases z'⟩
 keep:=fun i h h' st k=>k it (by simp) _ st
 item:=by
  intro X hP hw hK hc i pins s σ H E I hf st hg
  subst hP hw hK
  obtain⟨f0,f1,f2,f3,f4,f5⟩:=hf it (by simp)
  have W:=Walks.range (prog:=X.prog) (w:=X.w) (I.ok.hd hc) it lo 1 n
  refine W.item i s _ _ hg st fun v h' tk hv st' kk=>?_
  obtain⟨t,rfl⟩:=hv
  have I1:Inv X pins σ H {s with heap:=h',toks:=tk}:=I.turned (fun b o hb e=>kk b o (by simpa using hb) e) f0 f1 f3 f4 f5
  refine⟨_,rfl,sg (s:={s with heap:=h',toks:=tk}) (n:="range_iterator") st' rfl rfl (by decide) ⟨.int (lo+i),H,I1,⟨t,?_⟩,⟨rfl,rfl⟩,st',fun b hb=>(hf b hb).1⟩⟩
  rw[Int.mul_one]
 done:=by
  intro X hP hw hK hc i pins s σ H E I hf st hg
  subst hP hw hK
  obtain⟨f0,f1,f2,f3,f4,f5⟩:=hf it (by simp)
  exact wpAny_pyNext_range_end (I.ok.hd hc) st (by have:n≤i:=hg;lia) fun h' eb=>⟨rfl,I.turned (t':=s.toks) (fun b o hb e=>eb b o hb e) f0 f1 f3 f4 f5⟩
 self:=fun _ _ _ _ _ st h=>wpAny_pyIter_rangeiter st h
end L2
namespace L2
open PySem PySem.Spec PyProof.Rows
section
variable {X:Cx} {tg:Expr}
theorem Br {pins:List (Addr×Obj)} {σ:St} {H:Hp} {s:Shared} {R:It→Hp→Prop} {E:Value→Shared→Prop} {lo hi:Int} {t u v:Tok} {tk:Nat} (I:Inv X pins σ H s) (h1: -(2 ^ 62)≤lo) (h2:lo < 2 ^ 62) (h3: -(2 ^ 62)≤hi) (h4:hi < 2 ^ 62)
  (q:R (Kh lo (hi - lo).toNat) H):wpAny (model X.prog X.w) X.A (pyIter (.ref s.heap.objs.size)) (Ke X pins σ tg R) E {s with heap:=s.heap.push {cls:=.type "range",data:=.fields #[.int lo t,.int hi u,.int 1 v]},toks:=tk}:=by
 refine wpAny_pyIter_range (IsRange.new ..) (small_one h1 h2 h3 h4) ?_
 have I1:Inv X pins σ H {s with heap:=s.heap.push {cls:=.type "range",data:=.fields #[.int lo t,.int hi u,.int 1 v]},toks:=tk}:=I.kept fun b o e=>LL _ e
 refine⟨(s.heap.push {cls:=.type "range",data:=.fields #[.int lo t,.int hi u,.int 1 v]}).objs.size,[(s.heap.push {cls:=.type "range",data:=.fields #[.int lo t,.int hi u,.int 1 v]}).objs.size],_,_,H,rfl,
  I1.kept (t':=tk) fun b o e=>LL _ e,wD _ lo (hi - lo).toNat,?_,fun b hb=>?_,q⟩
 ·have e1:lo+((0:Nat):Int) * 1=lo:=by simp
  have e2:(((hi - lo).toNat:Nat):Int) - ((0:Nat):Int)=Builtin.Range.rangeSize lo hi 1:=by rw[rangeSize_one];split<;>lia
  show IsRangeIter _ _ (lo+((0:Nat):Int) * 1) ((((hi - lo).toNat:Nat):Int) - ((0:Nat):Int)) 1
  rw[e1,e2]
  exact LY _ rfl
 ·have e:b=(s.heap.push {cls:=.type "range",data:=.fields #[.int lo t,.int hi u,.int 1 v]}).objs.size:=by simpa using hb
  subst e
  exact I1.rj (LQ _) (I1.bE.fresh (LQ _))
noncomputable def Cu (ta:TA):TI:=fun σ H R=>ta σ H fun vs H1=> ∃ j:Int,vs=[.int j]∧-(2 ^ 62)≤j∧j < 2 ^ 62∧R (Kh 0 j.toNat) H1
theorem zM {a:Expr} {ta:TA} {p pos:Pos} (hg:Gl X "range") (hm:X.mg "range"=none) (ha:PA X [a] ta) (hs:starEach [a] X.env=[(false,eval a X.env)]:=by rfl):PI X tg (.Call (.Name "range" p) [a] [] pos) (Cu ta):=by
 intro pins s σ H R I h
 refine Call_ (lQ I hg hm boot_range (PyProof.Rows.callWith_type1 (bN (ha pos pins s σ H _ I h) fun us s1 ⟨vs,H1,I1,r1,q1⟩=>?_) hs rfl))
 obtain⟨j,e,q1,q2,q⟩:=q1
 subst e
 cases r1 with
 |cons r rr=>
  cases rr
  obtain⟨t,rfl⟩:=r
  exact call_range_1 (Br I1 (by lia) (by lia) q1 q2 (by simpa using q))
noncomputable def zy (wi:TI) (g:TG) (tb:TS):TS:=fun D σ H=>wi σ H fun J H1=> ∃ W:Nat→Nat→St→Hp→Prop,(∃ m,W 0 m σ H1)∧∀ i m σ H,W i m σ H→
 (J.stop i H∧D.nx σ H)∨(J.go i H∧∃ N:St→Hp→Prop,(∀ σ' H',N σ' H'→∃ m',m' < m∧W (i+1) m' σ' H')∧∀ x H',J.AG i H x H'→g x σ H' fun σ2 H2=>tb {D with nx:=N,ct:=N,bk:=D.nx} σ2 H2)
noncomputable def nJ (fp:List Addr) (h:Heap):List (Addr×Obj):=fp.filterMap fun b=>(h.get? b).map fun o=>(b,o)
theorem fV {fp:List Addr} {h:Heap} {b:Addr} {o:Obj} (hb:b∈fp) (e:h.get? b=some o):(b,o)∈nJ fp h:=List.mem_filterMap.mpr ⟨b,hb,by rw[e];rfl⟩
theorem zW {fp:List Addr} {h:Heap} {p:Addr×Obj} (hp:p∈nJ fp h):p.1∈fp∧h.get? p.1=some p.2:=by
 obtain⟨b,hb,e⟩:=List.mem_filterMap.mp hp
 cases q:h.get? b with
 |none=>rw[q] at e;cases e
 |some o=>
  rw[q] at e
  have e':(b,o)=p:=MD e
  subst e'
  exact⟨hb,q⟩
theorem Inv.pinned {pins:List (Addr×Obj)} {σ:St} {H:Hp} {s:Shared} {fp:List Addr} (I:Inv X pins σ H s) (hf: ∀ b∈fp,eQ X pins H b) (ho: ∀ b∈fp,∃ o,s.heap.get? b=some o∧∀ v,o.data≠.cell v):Inv X (pins++nJ fp s.heap) σ H s:=
 I.kX fun p hp=>(My.mp hp).elim (fun z=>I.pin p (L4 _ z)) fun z=>by
  obtain⟨hb,e⟩:=zW z
  obtain⟨f0,f1,f2,_⟩:=hf p.1 hb
  obtain⟨o,e',d⟩:=ho p.1 hb
  rw[e] at e';cases e'
  exact⟨e,f0,f1,f2,d⟩
theorem Inv.kc {pins pl:List (Addr×Obj)} {σ:St} {H:Hp} {s:Shared} (I:Inv X (pins++pl) σ H s):Inv X pins σ H s:=I.kX fun p hp=>I.pin p (L4 _ (List.mem_append_left _ hp))
theorem tw {iter:Expr} {body:List Stmt} {wi:TI} {g:TG} {tb:TS} {pos:Pos} (hp:PassesOwn (model X.prog X.w) X.A X.env X.xe) (hc:X.calm=true) (hi:PI X tg iter wi) (hg:PG X tg g) (hb:wy X body tb)
  (hs: ∀ x,foldedSetIterable iter X.env x=pure x:=by intro _;rfl):PS X (.For tg iter body [] pos) (zy wi g tb):=by
 intro pins s σ H D I h
 refine wpAny_For (bN (hi pins s σ H _ I h) fun v s1 h1=>bN h1 fun itv s2 h2=>?_) hs
 obtain⟨it,fp,tn,J,H2,e,I2,T,st2,f2,W,⟨m0,w0⟩,turn⟩:=h2
 subst e
 have stat: ∀ {H':Hp},(∀ b∈fp,H' b=none)→∀ b∈fp,eQ X pins H' b:=fun hn b hb=>⟨hn b hb,(f2 b hb).2⟩
 refine codeAny_forLoop_any (fun n s'=> ∃ i σ' H',Inv X pins σ' H' s'∧tn i s'.heap∧(∀ b∈fp,H' b=none)∧W i n σ' H') ?_ m0 ⟨0,σ,H2,I2,st2,fun b hb=>(f2 b hb).1,w0⟩
 rintro n s3 ⟨i,σ3,H3,I3,st3,fr3,w3⟩
 rcases turn i n σ3 H3 w3 with⟨stop,qn⟩|⟨go,N,hN,step⟩
 ·refine wpAny_passesOwn hp (bN (T.done X rfl rfl rfl hc i pins s3 σ3 H3 X.xe I3 (stat fr3) st3 stop) fun r s4 ⟨hr,I4⟩=>?_)
  subst hr
  exact wpAny_execs_nil ⟨σ3,H3,I4,qn⟩
 ·refine wpAny_passesOwn hp (bN (T.item X rfl rfl rfl hc i pins s3 σ3 H3 X.xe I3 (stat fr3) st3 go) fun r s4 ⟨u,hr,h4⟩=>?_)
  subst hr
  refine wpAny_passesOwn hp (bN h4 fun _ s5 ⟨x,H5,I5,r5,y5,st5,fr5⟩=>?_)
  have I5':=I5.pinned (stat fr5) (T.obj _ _ st5)
  refine wpAny_passesOwn hp (bN (hg _ s5 σ3 H5 x u _ I5' r5 (step x H5 y5)) fun _ s6 ⟨σ6,H6,I6,q6⟩=>?_)
  refine wpAny_passesOwn hp (bN (hb _ s6 σ6 H6 _ I6 q6) fun f s7 q7=>?_)
  have again: ∀ {σ7:St} {H7:Hp},Inv X (pins++nJ fp s5.heap) σ7 H7 s7→N σ7 H7→∃ m,m < n∧∃ i σ' H',Inv X pins σ' H' s7∧tn i s7.heap∧(∀ b∈fp,H' b=none)∧W i m σ' H':=fun {σ7 H7} I7 n7=>by
   obtain⟨m',hm,w7⟩:=hN σ7 H7 n7
   refine⟨m',hm,i+1,σ7,H7,I7.kc,T.keep _ _ _ st5 fun b hb o e=>(I7.pin (b,o) (L4 _ (L4 _ (fV hb e)))).1,fun b hb=>?_,w7⟩
   obtain⟨o,e,d⟩:=T.obj _ _ st5 b hb
   exact(I7.pin (b,o) (L4 _ (L4 _ (fV hb e)))).2.1
  cases f with
  |next=>obtain⟨σ7,H7,I7,n7⟩:=q7;exact again I7 n7
  |cont=>obtain⟨σ7,H7,I7,n7⟩:=q7;exact again I7 n7
  |brk=>obtain⟨σ7,H7,I7,q7⟩:=q7;exact⟨σ7,H7,I7.kc,q7⟩
  |ret v=>obtain⟨x7,σ7,H7,I7,r7,q7⟩:=q7;exact⟨x7,σ7,H7,I7.kc,r7,q7⟩
end
end L2
namespace L2
open PySem PySem.Spec PyProof.Rows
noncomputable abbrev R2:=V→V→Hp→VK→Prop
def fT (X:Cx) (f:Value→Value→Sem Value) (r:R2):Prop:=
 ∀ (pins:List (Addr×Obj)) (s:Shared) (σ:St) (H:Hp) (x y:V) (v u:Value) (Q:VK),Inv X pins σ H s→RelV x v→RelV y u→r x y H Q→
  wpAny (model X.prog X.w) X.A (f v u) (EP X pins σ Q) X.xe s
def Kd (X:Cx) (f:Value→Sem Value) (r:V→Hp→VK→Prop):Prop:=
 ∀ (pins:List (Addr×Obj)) (s:Shared) (σ:St) (H:Hp) (x:V) (v:Value) (Q:VK),Inv X pins σ H s→RelV x v→r x H Q→
  wpAny (model X.prog X.w) X.A (f v) (EP X pins σ Q) X.xe s
def iy (X:Cx) (f:Value) (r:List V→Hp→VK→Prop):Prop:=
 ∀ (pins:List (Addr×Obj)) (s:Shared) (σ:St) (H:Hp) (xs:List V) (us:List Value) (Q:VK),Inv X pins σ H s→Vals xs us→r xs H Q→
  wpAny (model X.prog X.w) X.A (call f us) (EP X pins σ Q) X.xe s
noncomputable def Dx (r:R2) (ta tb:TE):TE:=fun σ H Q=>ta σ H fun x H1=>tb σ H1 fun y H2=>r x y H2 Q
noncomputable def Kq (r:V→Hp→VK→Prop) (ta:TE):TE:=fun σ H Q=>ta σ H fun x H1=>r x H1 Q
noncomputable def rI (C:Int→Int→Prop) (g:Int→Int→V):R2:=fun x y H Q=> ∃ i j,x= .int i∧y= .int j∧C i j∧Q (g i j) H
noncomputable def wX (g:Int→Int→V):R2:=fun x y H Q=> ∃ i j,x= .int i∧y= .int j∧Q (g i j) H
def rU (g:Int→V):V→Hp→VK→Prop:=fun x H Q=> ∃ i,x= .int i∧Q (g i) H
section
variable {X:Cx} {a b c:Expr} {ta tb tc:TE} {pos:Pos}
theorem HC (ha:PE X a ta) (hb:PE X b tb) {pins:List (Addr×Obj)} {s:Shared} {σ:St} {H:Hp} {R:V→V→Hp→Prop} (I:Inv X pins σ H s)
  (h:ta σ H fun x H1=>tb σ H1 fun y H2=>R x y H2) {Q:Value→Shared→Prop} {f:Value→Value→Sem Value}
  (hf: ∀ v u s2 x y H2,Inv X pins σ H2 s2→RelV x v→RelV y u→R x y H2→wpAny (model X.prog X.w) X.A (f v u) Q X.xe s2):
  wpAny (model X.prog X.w) X.A (eval a X.env) (fun v s₁=>wpAny (model X.prog X.w) X.A (eval b X.env) (fun u s₂=>wpAny (model X.prog X.w) X.A (f v u) Q X.xe s₂) X.xe s₁) X.xe s:=by
 refine bN (ha pins s σ H _ I h) fun v s1 ⟨x,H1,I1,r1,q1⟩=>?_
 refine bN (hb pins s1 σ H1 _ I1 q1) fun u s2 ⟨y,H2,I2,r2,q2⟩=>?_
 exact hf v u s2 x y H2 I2 r1 r2 q2
theorem cj {op:Operator} {r:R2} (ho:fT X (binaryOp op) r) (ha:PE X a ta) (hb:PE X b tb):PE X (.BinOp a op b pos) (Dx r ta tb):=by
 intro pins s σ H Q I h
 exact wpAny_BinOp (HC ha hb I h fun v u s2 x y H2 I2 rx ry q=>ho pins s2 σ H2 x y v u Q I2 rx ry q)
theorem Ja {op:UnaryOp} {r:V→Hp→VK→Prop} (ho:Kd X (unaryOp op) r) (ha:PE X a ta):PE X (.UnaryOp op a pos) (Kq r ta):=by
 intro pins s σ H Q I h
 exact UnaryOp_ (bN (ha pins s σ H _ I h) fun v s1 ⟨x,H1,I1,r1,q1⟩=>ho pins s1 σ H1 x v Q I1 r1 q1)
theorem HZ {f:Value→Value→Sem Value} {C:Int→Int→Prop} {g:Int→Int→Int}
  (rule: ∀ (i j:Int) (t u:Tok) (s:Shared) (Q:Value→Shared→Prop) (E:Value→Shared→Prop),C i j→Q (.int (g i j) s.toks) {s with toks:=s.toks+1}→wpAny (model X.prog X.w) X.A (f (.int i t) (.int j u)) Q E s):
  fT X f (rI C fun i j=>.int (g i j)):=by
 intro pins s σ H x y v u Q I rx ry h
 obtain⟨i,j,rfl,rfl,hc,q⟩:=h
 obtain⟨t,rfl⟩:=rx
 obtain⟨t',rfl⟩:=ry
 exact rule i j t t' s _ _ hc ⟨.int (g i j),H,I.tok _,⟨_,rfl⟩,q⟩
theorem Ji {f:Value→Value→Sem Value} {g:Int→Int→Int}
  (rule: ∀ (i j:Int) (t u:Tok) (s:Shared) (Q:Value→Shared→Prop) (E:Value→Shared→Prop),Q (.int (g i j) s.toks) {s with toks:=s.toks+1}→wpAny (model X.prog X.w) X.A (f (.int i t) (.int j u)) Q E s):
  fT X f (wX fun i j=>.int (g i j)):=by
 intro pins s σ H x y v u Q I rx ry h
 obtain⟨i,j,rfl,rfl,q⟩:=h
 obtain⟨t,rfl⟩:=rx
 obtain⟨t',rfl⟩:=ry
 exact rule i j t t' s _ _ ⟨.int (g i j),H,I.tok _,⟨_,rfl⟩,q⟩
theorem Ei {f:Value→Value→Sem Value} {g:Int→Int→Bool}
  (rule: ∀ (i j:Int) (t u:Tok) (s:Shared) (Q:Value→Shared→Prop) (E:Value→Shared→Prop),Q (.bool (g i j)) s→wpAny (model X.prog X.w) X.A (f (.int i t) (.int j u)) Q E s):
  fT X f (wX fun i j=>.bl (g i j)):=by
 intro pins s σ H x y v u Q I rx ry h
 obtain⟨i,j,rfl,rfl,q⟩:=h
 obtain⟨t,rfl⟩:=rx
 obtain⟨t',rfl⟩:=ry
 exact rule i j t t' s _ _ ⟨.bl (g i j),H,I,rfl,q⟩
def HQ (i j:Int):Prop:=0 < j∧j < 1073741824
def Di (i j:Int):Prop:=0≤j∧j≤1000000∧i.natAbs < 2 ^ 64
def ou (i j:Int):Prop:=(-(2 ^ 64) < i∧i < 2 ^ 64)∨(-(2 ^ 64) < j∧j < 2 ^ 64)
theorem ou.ok {i j:Int} (h:ou i j):IntMulOk i j:=by
 rcases h with⟨h1,h2⟩|⟨h1,h2⟩
 ·exact .of_left (intBits_le_64 h1 h2)
 ·exact .of_right (intBits_le_64 h1 h2)
theorem jx:fT X (binaryOp .Add) (wX fun i j=>.int (i+j)):=Ji fun _ _ _ _ _ _ _ q=>add_int q
theorem xf:fT X (binaryOp .Sub) (wX fun i j=>.int (i - j)):=Ji fun _ _ _ _ _ _ _ q=>sub_int q
theorem nM:fT X (binaryOp .Mult) (rI ou fun i j=>.int (i * j)):=HZ fun _ _ _ _ _ _ _ hc q=>mul_int q hc.ok
theorem tL:fT X (binaryOp .FloorDiv) (rI HQ fun i j=>.int (i / j)):=HZ fun i j _ _ _ _ _ hc q=>by
 have h1:(0:Int) < j:=hc.1
 have h2:j < 1073741824:=hc.2
 exact floordiv_int (by lia) (by rw[Int.fdiv_eq_ediv_of_nonneg i (by lia)];exact q) (.inl (PyProof.noPylong_small (by lia)))
theorem i9:fT X (binaryOp .Mod) (rI (fun _ j=>0 < j) fun i j=>.int (i % j)):=HZ fun i j _ _ _ _ _ hc q=>by
 have h1:(0:Int) < j:=hc
 exact mod_int' (by lia) (by rw[Int.fmod_eq_emod_of_nonneg i (by lia)];exact q)
theorem GX:fT X (binaryOp .Pow) (rI Di fun i j=>.int (i ^ j.toNat)):=HZ fun _ _ _ _ _ _ _ hc q=>pow_int_small hc.1 hc.2.1 hc.2.2 q
theorem Lv {f:Value→Sem Value} {g:Int→Int}
  (rule: ∀ (i:Int) (t:Tok) (s:Shared) (Q:Value→Shared→Prop) (E:Value→Shared→Prop),Q (.int (g i) s.toks) {s with toks:=s.toks+1}→wpAny (model X.prog X.w) X.A (f (.int i t)) Q E s):
  Kd X f (rU fun i=>.int (g i)):=by
 intro pins s σ H x v Q I rx h
 obtain⟨i,rfl,q⟩:=h
 obtain⟨t,rfl⟩:=rx
 exact rule i t s _ _ ⟨.int (g i),H,I.tok _,⟨_,rfl⟩,q⟩
theorem ke:Kd X (unaryOp .USub) (rU fun i=>.int (-i)):=Lv fun _ _ _ _ _ q=>neg_int q
end
section
variable {X:Cx} {a b c:Expr} {ta tb tc:TE} {pos:Pos}
theorem kH {pins:List (Addr×Obj)} {σ:St} {H:Hp} {s:Shared} {Q:VK} {k k':Bool} (I:Inv X pins σ H s) (q:Q (.bl k) H) (e:k=k'):EP X pins σ Q (.bool k') s:=by
 subst e
 exact⟨.bl k,H,I,rfl,q⟩
theorem lI:fT X (compareOp .Lt) (wX fun i j=>.bl (decide (i < j))):=Ei fun _ _ _ _ _ _ _ q=>lt_int q
theorem Jh:fT X (compareOp .LtE) (wX fun i j=>.bl (decide (i≤j))):=Ei fun _ _ _ _ _ _ _ q=>le_int q
theorem B3:fT X (compareOp .Gt) (wX fun i j=>.bl (decide (j < i))):=Ei fun _ _ _ _ _ _ _ q=>gt_int q
theorem B4:fT X (compareOp .GtE) (wX fun i j=>.bl (decide (j≤i))):=Ei fun _ _ _ _ _ _ _ q=>ge_int q
theorem zU:fT X (compareOp .In) (fun x y H Q=> ∃ i j,x= .str i∧y= .str j∧Q (.bl (!(Builtin.Str.occurrences j i 0 j.length 1).isEmpty)) H):=by
 intro pins s σ H x y v u Q I rx ry h
 obtain⟨i,j,rfl,rfl,q⟩:=h
 obtain⟨t,rfl⟩:=rx
 obtain⟨t',rfl⟩:=ry
 exact in_str (kH I q rfl)
theorem lO:fT X (compareOp .Is) (fun x y H Q=>y= .aW∧Q (.bl (decide (x= .aW))) H):=by
 intro pins s σ H x y v u Q I rx ry h
 obtain⟨rfl,q⟩:=h
 cases ry
 refine is_none_gen (kH I q ?_)
 cases x<;>first
  |(cases rx;rfl)
  |(obtain⟨t,rfl⟩:=rx;rfl)
theorem mE:fT X (compareOp .IsNot) (fun x y H Q=>y= .aW∧Q (.bl (!decide (x= .aW))) H):=by
 intro pins s σ H x y v u Q I rx ry h
 obtain⟨rfl,q⟩:=h
 cases ry
 refine isnot_none_gen (kH I q ?_)
 cases x<;>first
  |(cases rx;rfl)
  |(obtain⟨t,rfl⟩:=rx;rfl)
theorem fT.or {f:Value→Value→Sem Value} {r r':R2} (h:fT X f r) (h':fT X f r'):fT X f (fun x y H Q=>r x y H Q∨r' x y H Q):=by
 intro pins s σ H x y v u Q I rx ry q
 rcases q with q|q
 ·exact h pins s σ H x y v u Q I rx ry q
 ·exact h' pins s σ H x y v u Q I rx ry q
theorem aF (b:Expr) {op:CmpOp} (h:op≠.In:=by decide) (h2:op≠.NotIn:=by decide):behindInMarks op b=false:=by
 have e1:(op==CmpOp.In)=false:=by cases op<;>first|rfl|exact absurd rfl h
 have e2:(op==CmpOp.NotIn)=false:=by cases op<;>first|rfl|exact absurd rfl h2
 cases b<;>simp[behindInMarks,e1,e2]
theorem D6 {op:CmpOp} {r:R2} (ho:fT X (compareOp op) r) (ha:PE X a ta) (hb:PE X b tb) (hm:behindInMarks op b=false):PE X (.Compare a [op] [b] pos) (Dx r ta tb):=by
 intro pins s σ H Q I h
 exact wpAny_Compare1 (HC ha hb I h fun v u s2 x y H2 I2 rx ry q=>ho pins s2 σ H2 x y v u Q I2 rx ry q) hm
noncomputable def Fq (t:TE):TT:=fun σ H Q=>t σ H fun x H'=> ∃ k,x= .bl k∧Q k H'
theorem o8 {op:CmpOp} {r:R2} (ho:fT X (compareOp op) r) (ha:PE X a ta) (hb:PE X b tb) (hm:behindInMarks op b=false):PT X (.Compare a [op] [b] pos) (Fq (Dx r ta tb)):=by
 intro pins s σ H Q I h
 refine wpAny_isTrue_Compare1 (bN (ha pins s σ H _ I h) fun v s1 ⟨x,H1,I1,r1,q1⟩=>bN (hb pins s1 σ H1 _ I1 q1) fun u s2 ⟨y,H2,I2,r2,q2⟩=>
  bN (ho pins s2 σ H2 x y v u _ I2 r1 r2 q2) fun c s3 ⟨z,H3,I3,r3,k,e,q3⟩=>?_) hm
 subst e
 cases r3
 exact wpAny_truthy_bool ⟨H3,I3,q3⟩
noncomputable def wK (r r':R2) (ta tb tc:TE):TE:=fun σ H Q=>ta σ H fun x H1=>tb σ H1 fun y H2=>r x y H2 fun z H3=> ∃ k,z= .bl k∧
 (if k=true then tc σ H3 fun w' H4=>r' y w' H4 Q else Q (.bl false) H3)
theorem BR {op op':CmpOp} {r r':R2} (ho:fT X (compareOp op) r) (ho':fT X (compareOp op') r') (ha:PE X a ta) (hb:PE X b tb) (hc:PE X c tc)
  (hm:lastMarks [op,op'] [b,c]=false:=by with_unfolding_all rfl):PE X (.Compare a [op,op'] [b,c] pos) (wK r r' ta tb tc):=by
 intro pins s σ H Q I h
 refine Compare_chain (bN (ha pins s σ H _ I h) fun v s1 ⟨x,H1,I1,r1,q1⟩=>chain_link (bN (hb pins s1 σ H1 _ I1 q1) fun u s2 ⟨y,H2,I2,r2,q2⟩=>
  bN (ho pins s2 σ H2 x y v u _ I2 r1 r2 q2) fun d s3 ⟨z,H3,I3,r3,k,e,q3⟩=>?_)) hm
 subst e
 cases r3
 refine wpAny_truthy_bool ?_
 cases k with
 |false=>exact ite_ff ⟨.bl false,H3,I3,rfl,q3⟩
 |true=>exact ite_tt (chain_last (bN (hc pins s3 σ H3 _ I3 q3) fun w' s4 ⟨z',H4,I4,r4,q4⟩=>ho' pins s4 σ H4 y z' u w' Q I4 r2 r4 q4))
theorem Bz {op op':CmpOp} {r r':R2} (ho:fT X (compareOp op) r) (ho':fT X (compareOp op') r') (ha:PE X a ta) (hb:PE X b tb) (hc:PE X c tc)
  (hm:lastMarks [op,op'] [b,c]=false:=by with_unfolding_all rfl):PT X (.Compare a [op,op'] [b,c] pos) (Fq (wK r r' ta tb tc)):=by
 intro pins s σ H Q I h
 refine isTrue_chain (bN (ha pins s σ H _ I h) fun v s1 ⟨x,H1,I1,r1,q1⟩=>test_link (bN (hb pins s1 σ H1 _ I1 q1) fun u s2 ⟨y,H2,I2,r2,q2⟩=>
  bN (ho pins s2 σ H2 x y v u _ I2 r1 r2 q2) fun d s3 ⟨z,H3,I3,r3,k,e,q3⟩=>?_)) hm
 subst e
 cases r3
 refine wpAny_truthy_bool ?_
 cases k with
 |false=>
  obtain⟨k',e',q'⟩:=q3
  cases e'
  exact ite_ff ⟨H3,I3,q'⟩
 |true=>
  refine ite_tt (test_last (bN (hc pins s3 σ H3 _ I3 q3) fun w' s4 ⟨z',H4,I4,r4,q4⟩=>bN (ho' pins s4 σ H4 y z' u w' _ I4 r2 r4 q4) fun d' s5 ⟨z2,H5,I5,r5,k2,e2,q5⟩=>?_))
  subst e2
  cases r5
  exact wpAny_truthy_bool ⟨H5,I5,q5⟩
theorem p7:(sizeLine:Nat) < 2 ^ 63:=by rw[Mq];decide
theorem xh:fT X (binaryOp .Add) (fun x y H Q=> ∃ i j,x= .str i∧y= .str j∧i.length+j.length≤sizeLine∧Q (.str (i++j)) H):=by
 intro pins s σ H x y v u Q I rx ry h
 obtain⟨i,j,rfl,rfl,hz,q⟩:=h
 obtain⟨t,rfl⟩:=rx
 obtain⟨t',rfl⟩:=ry
 exact add_str (fun t' tk=>⟨.str (i++j),H,I.tok _,⟨_,rfl⟩,q⟩) hz
theorem vals1 {x:V} {us:List Value} (r:Vals [x] us): ∃ u,us=[u]∧RelV x u:=by
 cases r with
 |cons r1 r2=>cases r2;exact⟨_,rfl,r1⟩
theorem vals2 {x y:V} {us:List Value} (r:Vals [x,y] us): ∃ u w',us=[u,w']∧RelV x u∧RelV y w':=by
 cases r with
 |cons r1 r2=>
  cases r2 with
  |cons r3 r4=>cases r4;exact⟨_,_,rfl,r1,r3⟩
theorem C7:iy X (.builtin "abs") (fun xs H Q=> ∃ i,xs=[.int i]∧Q (.int (if i < 0 then -i else i)) H):=by
 intro pins s σ H xs us Q I r h
 obtain⟨i,rfl,q⟩:=h
 obtain⟨u,rfl,t,rfl⟩:=vals1 r
 exact call_abs_int fun u tk=>⟨.int (if i < 0 then -i else i),H,I.tok _,⟨_,rfl⟩,q⟩
theorem n6 (hc:X.calm=true):iy X (.builtin "max") (fun xs H Q=> ∃ i j,xs=[.int i,.int j]∧Q (.int (if j > i then j else i)) H):=by
 intro pins s σ H xs us Q I r h
 obtain⟨i,j,rfl,q⟩:=h
 obtain⟨u,w',rfl,⟨t,rfl⟩,⟨t',rfl⟩⟩:=vals2 r
 refine max_two_ints (I.ok.hd hc) fun h' tk k=>⟨_,H,I.kept k,?_,q⟩
 by_cases hj:j > i
 ·rw[Mz hj,Mz hj];exact⟨_,rfl⟩
 ·rw[MA hj,MA hj];exact⟨_,rfl⟩
theorem nZ (hc:X.calm=true):iy X (.builtin "min") (fun xs H Q=> ∃ i j,xs=[.int i,.int j]∧Q (.int (if j < i then j else i)) H):=by
 intro pins s σ H xs us Q I r h
 obtain⟨i,j,rfl,q⟩:=h
 obtain⟨u,w',rfl,⟨t,rfl⟩,⟨t',rfl⟩⟩:=vals2 r
 refine min_two_ints (I.ok.hd hc) fun h' tk k=>⟨_,H,I.kept k,?_,q⟩
 by_cases hj:j < i
 ·rw[Mz hj,Mz hj];exact⟨_,rfl⟩
 ·rw[MA hj,MA hj];exact⟨_,rfl⟩
theorem sG:iy X (.type "int") (fun xs H Q=>(∃ i,xs=[.int i]∧Q (.int i) H)∨∃ k,xs=[.bl k]∧Q (.int (if k then 1 else 0)) H):=by
 intro pins s σ H xs us Q I r h
 rcases h with⟨i,rfl,q⟩|⟨k,rfl,q⟩
 ·obtain⟨u,rfl,t,rfl⟩:=vals1 r
  exact call_int_int ⟨.int i,H,I,⟨_,rfl⟩,q⟩
 ·obtain⟨u,rfl,r1⟩:=vals1 r
  cases r1
  exact call_int_bool ⟨.int (if k then 1 else 0),H,I.tok _,⟨_,rfl⟩,q⟩
def JT (K:Frag) (x:V) (H:Hp) (n:Nat):Prop:=
 match x with
 | .str y=>y.length≤sizeLine∧n=y.length
 | .JF y=>y.size≤sizeLine∧n=y.size
 | .ref p=>(∃ xs,cQ K H p xs∧n=xs.length)∨∃ xs,fM K H p xs∧n=xs.length
 |_=>False
theorem C6:iy X (.builtin "len") (fun xs H Q=> ∃ x n,xs=[x]∧JT X.K x H n∧Q (.int n) H):=by
 intro pins s σ H xs us Q I r h
 obtain⟨x,n,rfl,e,q⟩:=h
 obtain⟨u,rfl,rx⟩:=vals1 r
 have hl:=p7
 have hs:sizeLine=16777216:=Mq
 cases x with
 |str y=>
  obtain⟨t,rfl⟩:=rx
  obtain⟨hy,e'⟩:y.length≤sizeLine∧n=y.length:=e
  subst e'
  exact len_str (by lia) ⟨.int _,H,I.tok _,⟨_,rfl⟩,q⟩
 |JF y=>
  obtain⟨t,rfl⟩:=rx
  obtain⟨hy,e'⟩:y.size≤sizeLine∧n=y.size:=e
  subst e'
  exact PySem.W.len_bytes (by lia) ⟨.int _,H,I.tok _,⟨_,rfl⟩,q⟩
 |ref p=>
  cases rx
  have e':(∃ xs,cQ X.K H p xs∧n=xs.length)∨∃ xs,fM X.K H p xs∧n=xs.length:=e
  rcases e' with⟨xs,hx,e'⟩|⟨xs,hx,e'⟩
  ·subst e'
   obtain⟨its,r',pl,hz⟩:=I.list hx
   have hlen:=r'.length
   exact Calls.call_len_list pl.isList (by simp only[LO];lia) ⟨.int xs.length,H,I.tok _,⟨_,by simp only[LO];rw[hlen]⟩,q⟩
  ·subst e'
   obtain⟨its,r',pl,hz⟩:=I.tuple hx
   have hlen:=r'.length
   exact len_tuple pl (by simp only[LO];lia) ⟨.int xs.length,H,I.tok _,⟨_,by simp only[LO];rw[hlen]⟩,q⟩
 |_=>exact(show False from e).elim
end
end L2
namespace L2
open PySem PySem.Spec PyProof.Rows
theorem rq.some_of {v:V} {o:Option Value} (r:rq (some v) o): ∃ u,o=some u∧RelV v u:=by
 cases o with
 |none=>exact(show False from r).elim
 |some u=>exact⟨u,rfl,r⟩
end L2
namespace L2
open PySem PySem.Spec PyProof.Rows
set_option genInjectivity false in
structure eV (k:Nat) (A:Around):Prop where
 hd:A.handled=none
 dp:A.depth+3 * k+5 < recursionLimit
 un:A.units+16 * k+200 < cLine
 gd:A.guards=some []
theorem eV.mono {j k:Nat} {A:Around} (r:eV k A) (h:j≤k):eV j A:=⟨r.hd,by have:=r.dp;lia,by have:=r.un;lia,r.gd⟩
theorem eV.deeper {k:Nat} {A:Around} (r:eV (k+1) A) (env:Env):eV k (A.deeper env):=
 ⟨r.hd,by have:=r.dp;show A.depth+1+3 * k+5 < _;lia,by have:=r.un;show A.units+3+16 * k+200 < _;lia,r.gd⟩
theorem eV.in1 {k:Nat} {A:Around} (r:eV (k+1) A):eV k A.in1:=
 ⟨r.hd,by have:=r.dp;show A.depth+3 * k+5 < _;lia,by have:=r.un;show A.units+1+16 * k+200 < _;lia,by first|exact r.gd|(simp[Around.in1,r.gd])⟩
theorem eV.depth {k:Nat} {A:Around} (r:eV k A):A.depth < recursionLimit:=by have:=r.dp;lia
theorem eV.units {k:Nat} {A:Around} (r:eV k A):A.units+64 < cLine:=by have:=r.un;lia
noncomputable def wJ:TA:=fun _ H Q=>Q [] H
noncomputable def mm (ta:TE) (tr:TA):TA:=fun σ H Q=>ta σ H fun x H1=>tr σ H1 fun xs H2=>Q (x::xs) H2
section
variable {X:Cx} {e:Expr} {es:List Expr} {te:TE} {t:TA} {pos:Pos}
theorem gA:PA X [] wJ:=fun _ _ _ _ H Q I h=>Calls.spliced_nil ⟨[],H,I,.nil,h⟩
theorem dS (ha:PE X e te) (hr:PA X es t) (hs:starEach (e::es) X.env=(false,eval e X.env)::starEach es X.env:=by rfl):PA X (e::es) (mm te t):=by
 intro pos pins s σ H Q I h
 rw[hs]
 show wpAny _ _ (spliced ((false,eval e X.env)::backTo pos (starEach es X.env))) _ _ s
 refine Calls.spliced_cons (bN (ha pins s σ H _ I h) fun u s1 ⟨x,H1,I1,r1,q1⟩=>?_)
 exact bN (hr pos pins s1 σ H1 _ I1 q1) fun us s2 ⟨xs,H2,I2,r2,q2⟩=>⟨x::xs,H2,I2,.cons r1 r2,q2⟩
noncomputable def Iu (t:TA):TE:=fun σ H Q=>t σ H fun xs H1=>xs.length≤sizeLine∧∀ p,H1 p=none→Q (.ref p) (upd H1 p (.tup xs))
noncomputable def Ku (t:TA):TE:=fun σ H Q=>t σ H fun xs H1=>xs.length≤sizeLine∧∀ p,H1 p=none→Q (.ref p) (upd H1 p (.lst xs))
theorem xa {x1} (h:PA X es t):PE X (.Tuple es x1 pos) (Iu t):=by
 intro pins s σ H Q I hq
 refine wpAny_Tuple_spliced (bN (h pos pins s σ H _ I hq) fun us s1 ⟨xs,H1,I1,r,z,q⟩=>⟨by rw[←r.length];exact z,?_⟩)
 have hf:H1 s1.heap.objs.size=none:=I1.bE.fresh (LQ _)
 refine⟨.ref s1.heap.objs.size,upd H1 s1.heap.objs.size (.tup xs),I1.laid (t':=s1.toks) (fun b u e=>LL _ e) (LQ _) ?_,rfl,q _ hf⟩
 exact⟨z,us,r,⟨_,LY _ rfl,rfl,_,rfl⟩⟩
theorem xb (h:PA X es t):PE X (.List es pos) (Ku t):=by
 intro pins s σ H Q I hq
 refine wpAny_List_spliced (bN (h pos pins s σ H _ I hq) fun us s1 ⟨xs,H1,I1,r,z,q⟩=>⟨by rw[←r.length];exact z,?_⟩)
 have hf:H1 s1.heap.objs.size=none:=I1.bE.fresh (LQ _)
 refine⟨.ref s1.heap.objs.size,upd H1 s1.heap.objs.size (.lst xs),I1.laid (t':=s1.toks) (fun b u e=>LL _ e) (LQ _) ?_,rfl,q _ hf⟩
 exact⟨z,us,0,r,LY _ rfl⟩
end
noncomputable abbrev Sp:=List V→Hp→VK→XK→Prop
noncomputable abbrev AF:=List Env→Hp→Shared→XK→Value→Shared→Prop
set_option genInjectivity false in
structure AD (P:Program) (w:World) (K:Frag) (mg:Str→Option Value) (base:Heap) (A:Around) (outer:List Env) (s:Shared) (H:Hp):Prop where
 frames:A.frames=some outer
 mod:Mod K mg base
 bs: ∀ b o,base.get? b=some o→s.heap.get? b=some o∧H b=none
 Dm:base.objs.size≤s.heap.objs.size
 nX:s.heap.FunFrames base outer
 FO: ∀ b∈CG outer,H b=none
 bE:kP P w H s.heap
 bare:AllBare s.gens
def CE (outer:List Env) (P:Program) (w:World) (H:Hp) (s:Shared) (Q:VK) (u:Value) (s':Shared):Prop:=
 ∃ v H',s'.os=s.os∧AllBare s'.gens∧Un (CG outer) [] H H' s.heap s'.heap∧kP P w H' s'.heap∧RelV v u∧Q v H'
def CR (CX:AF) (outer:List Env) (P:Program) (w:World) (H:Hp) (s:Shared) (Q:VK) (E:XK) (r:Result) (s':Shared):Prop:=
 match r with
 | .ok (.ret u)=>CE outer P w H s Q u s'
 | .ok _=>False
 | .error e=>CX outer H s E e s'
set_option genInjectivity false in
structure bL (P:Program) (w:World) (K:Frag) (mg:Str→Option Value) (base:Heap) (CX:AF) (k:Nat) (f:Addr) (fd:FuncData) (ps:List Str) (sp:Sp):Prop where
 len: ∀ vs H Q E,sp vs H Q E→vs.length=ps.length
 run: ∀ (A:Around) (outer:List Env) (s:Shared) (H:Hp) (args:Args) (us:List Value) (vs:List V) (Q:VK) (E:XK),eV k A→AD P w K mg base A outer s H→BindsTo s fd args (ps.zip us)→Vals vs us→sp vs H Q E→
  codeAny (model P w) A (.call (.ref f) args) (CR CX outer P w H s Q E) s
theorem bL.imp {P:Program} {w:World} {K:Frag} {mg:Str→Option Value} {base:Heap} {CX:AF} {k:Nat} {f:Addr} {fd:FuncData} {ps:List Str} {sp sp':Sp} (F:bL P w K mg base CX k f fd ps sp)
  (h: ∀ vs H Q E,sp' vs H Q E→sp vs H Q E):bL P w K mg base CX k f fd ps sp':=
 ⟨fun vs H Q E q=>F.len vs H Q E (h _ _ _ _ q),fun A outer s H args us vs Q E hr he hb hv hs=>F.run A outer s H args us vs Q E hr he hb hv (h _ _ _ _ hs)⟩
section
variable {X:Cx} {pins:List (Addr×Obj)} {σ:St} {H:Hp} {s s':Shared}
theorem Inv.uc (I:Inv X pins σ H s):AD X.prog X.w X.K X.mg X.base X.A X.stack s H:=
 ⟨I.ok.frames,I.ok.mod,I.bs,L6 I.ok.Dm I.sz,I.stack,I.yf,I.bE,I.bare⟩
theorem Inv.after {Q:VK} {u:Value} (I:Inv X pins σ H s) (h:CE X.stack X.prog X.w H s Q u s'):EP X pins σ Q u s':=by
 obtain⟨v,H',os,bare,un,bE,r,q⟩:=h
 obtain⟨hh,g,d,t,os'⟩:=s'
 obtain rfl:os'=s.os:=os
 exact⟨v,H',I.call (h':=hh) (g':=g) (d':=d) (t':=t) (ch:=[]) un bE bare (fun b z=>absurd z (by simp)),r,q⟩
end
noncomputable def uA (sp:Sp) (dvs:List V) (E:XK) (t:TA):TE:=fun σ H Q=>t σ H fun vs H1=>sp (vs++dvs) H1 Q E
def Binds (K:Frag) (fd:FuncData) (ps:List Str) (ds:List Value):Prop:=
 ∀ (s:Shared) (us:List Value),K.In s.heap→(us++ds).length=ps.length→BindsTo s fd ⟨us,[]⟩ (ps.zip (us++ds))
theorem Binds.all {K:Frag} {fd:FuncData} {ps:List Str} (h: ∀ us:List Value,us.length=ps.length→bindArgs fd ⟨us,[]⟩=pure (ps.zip us)):Binds K fd ps []:=fun s us _ hl=>by
 rw[List.append_nil] at hl ⊢
 exact .of_eq (h us hl)
def Passes (CX:AF) (X:Cx) (E:XK):Prop:= ∀ (pins:List (Addr×Obj)) (σ:St) (H:Hp) (s:Shared) (e:Value) (s':Shared),Inv X pins σ H s→CX X.stack H s E e s'→X.xe e s'
section
variable {X:Cx} {CX:AF} {k:Nat} {f C:Addr} {fd:FuncData} {ps:List Str} {sp:Sp} {dvs:List V} {ds:List Value} {E:XK} {x m:Str} {p pos apos:Pos} {e o:Expr} {es:List Expr} {ta:TE} {t:TA}
theorem Gw {pins:List (Addr×Obj)} {σ:St} {H:Hp} {s:Shared} {Q:VK} {us:List Value} {vs:List V} (F:bL X.prog X.w X.K X.mg X.base CX k f fd ps sp) (hr:eV k X.A) (hb:Binds X.K fd ps ds) (hd:Vals dvs ds) (hx:Passes CX X E)
  (I:Inv X pins σ H s) (r:Vals vs us) (h:sp (vs++dvs) H Q E):wpAny (model X.prog X.w) X.A (call (.ref f) us) (EP X pins σ Q) X.xe s:=by
 have r2:Vals (vs++dvs) (us++ds):=r.append hd
 have hl:(us++ds).length=ps.length:=by rw[←r2.length];exact F.len _ _ _ _ h
 refine wpAny_call (codeAny_mono (F.run X.A X.stack s H ⟨us,[]⟩ (us++ds) (vs++dvs) Q E hr I.uc (hb s us I.Ic hl) r2 h) fun r s' hq=>?_)
 cases r with
 |error e=>exact hx pins σ H s e s' I hq
 |ok fl=>
  cases fl with
  |ret u=>exact I.after hq
  |next=>exact False.elim hq
  |brk=>exact False.elim hq
  |cont=>exact False.elim hq
theorem D7 (F:bL X.prog X.w X.K X.mg X.base CX k f fd ps sp) (hr:eV k X.A) (hg:Gl X x) (hm:X.mg x=some (.ref f)) (hk:keepIn X.K (.ref f)=true) (hb:Binds X.K fd ps ds) (hd:Vals dvs ds) (hx:Passes CX X E)
  (ha:PA X (e::es) t) (hdb:(x==("__debug__":Str))=false:=by decide) (he:starEach (e::es) X.env=(false,eval e X.env)::starEach es X.env:=by rfl) (hpl:(backTo pos (starEach es X.env)).any (·.1)=false:=by rfl):
  PE X (.Call (.Name x p) (e::es) [] pos) (uA sp dvs E t):=by
 intro pins s σ H Q I h
 refine wpAny_Call_Name_kw (Ez I hg hm ?_ hdb)
 refine PySem.W.callWith_K (h₀:=X.base) I.ok.mod.KY hk (bN (ha pos pins s σ H _ I h) fun us s1 ⟨vs,H1,I1,r,q⟩=>⟨I1.Ic,?_⟩) he hpl
 exact Gw F hr hb hd hx I1 r q
end
set_option genInjectivity false in
structure aI (N P:List Str) (sc:Scope):Prop where
 kind:sc.kind= .function
 co:sc.isCoroutine=false
 gen:sc.isGenerator=false
 nd:N.Nodup
 pre:N.take P.length=P
 par: ∀ x∈P,sc.names.lookup x=some .local∨sc.names.lookup x=some .cell
 G2: ∀ y∈sc.names,y.2≠.free
theorem sH {kindOf:Str→Option NameKind} {x:Str}: ∀ {binds:List (Str×Value)} {m:Str→Option Value},(∀ v,(x,v)∉binds)→bindL kindOf binds m x=m x
 |[],_,_=>rfl
 |(n,v)::r,m,h=>by
  unfold bindL
  rw[sH fun w hw=>h w (LM _ hw)]
  split
  ·have:x≠n:=by rintro rfl;exact h v LJ
   simp[this]
  ·rfl
theorem sJ {kindOf:Str→Option NameKind} {x:Str}: ∀ {binds:List (Str×Value)} {m:Str→Option Value},(∀ v,(x,v)∉binds)→bindC kindOf binds m x=m x
 |[],_,_=>rfl
 |(n,v)::r,m,h=>by
  unfold bindC
  rw[sJ fun w hw=>h w (LM _ hw)]
  split
  ·rfl
  ·have:x≠n:=by rintro rfl;exact h v LJ
   simp[this]
theorem sI {kindOf:Str→Option NameKind} {x:Str} {v:Value}: ∀ {P:List Str} {vs:List Value} {i:Nat} {m:Str→Option Value},P.Nodup→P[i]?=some x→vs[i]?=some v→kindOf x=some .local→
  bindL kindOf (P.zip vs) m x=some v
 |[],_,_,_,_,h,_,_=>by simp at h
 |_::_,[],_,_,_,_,h,_=>by simp at h
 |p::P,w::vs,0,m,nd,h1,h2,hk=>by
  simp at h1 h2;subst h1;subst h2
  show bindL kindOf ((p,w)::P.zip vs) m p=_
  unfold bindL
  rw[sH fun v hv=>(List.nodup_cons.mp nd).1 (List.of_mem_zip hv).1,Mz hk]
  simp
 |p::P,w::vs,i+1,m,nd,h1,h2,hk=>by
  show bindL kindOf ((p,w)::P.zip vs) m x=_
  unfold bindL
  exact sI (i:=i) (List.nodup_cons.mp nd).2 (by simpa using h1) (by simpa using h2) hk
theorem sL {kindOf:Str→Option NameKind} {x:Str} {v:Value}: ∀ {P:List Str} {vs:List Value} {i:Nat} {m:Str→Option Value},P.Nodup→P[i]?=some x→vs[i]?=some v→kindOf x≠some .local→
  bindC kindOf (P.zip vs) m x=some v
 |[],_,_,_,_,h,_,_=>by simp at h
 |_::_,[],_,_,_,_,h,_=>by simp at h
 |p::P,w::vs,0,m,nd,h1,h2,hk=>by
  simp at h1 h2;subst h1;subst h2
  show bindC kindOf ((p,w)::P.zip vs) m p=_
  unfold bindC
  rw[sJ fun v hv=>(List.nodup_cons.mp nd).1 (List.of_mem_zip hv).1,MA hk]
  simp
 |p::P,w::vs,i+1,m,nd,h1,h2,hk=>by
  show bindC kindOf ((p,w)::P.zip vs) m x=_
  unfold bindC
  exact sL (i:=i) (List.nodup_cons.mp nd).2 (by simpa using h1) (by simpa using h2) hk
noncomputable def start (N:List Str) (vs:List V):St:=vs.map some++List.replicate (N.length - vs.length) none
noncomputable def jO (CX:AF) (P:Program) (w:World) (K:Frag) (mg:Str→Option Value) (base:Heap) (N:List Str) (qual:Str) (scope:Scope) (f:Addr) (cd:Value) (A:Around) (outer:List Env) (s:Shared) (H:Hp) (E:XK):Cx where
 prog:=P
 w:=w
 K:=K
 mg:=mg
 base:=base
 A:=A.deeper (envOfC qual scope s.heap.objs.size f cd)
 N:=N
 s₀:=s
 H₀:=H
 env:=envOfC qual scope s.heap.objs.size f cd
 outer:=outer
 stack:=envOfC qual scope s.heap.objs.size f cd::outer
 ex:=[]
 calm:=true
 fn:=fun _=>true
 pn:=[]
 xe:=fun e s'=>wpAny (model P w) (A.deeper (envOfC qual scope s.heap.objs.size f cd)) (leaving (envOfC qual scope s.heap.objs.size f cd) e) (fun _ s''=>CX outer H s E e s'') (fun e' s''=>CX outer H s E e' s'') s'
theorem v5 {sc:Scope} {n:Nat} {x:Str} (h:sc.names.lookup x=some .cell): ∃ c,(cellsFrom n sc.names []).lookup x=some c:=by
 have q:=PySem.W.cellsFrom_some sc.names n [] (.inl h)
 exact Option.isSome_iff_exists.mp q
theorem r6 {CX:AF} {P:Program} {w:World} {K:Frag} {mg:Str→Option Value} {base:Heap} {N ps:List Str} {qual:Str} {scope:Scope} {f:Addr} {cd:Value} {A:Around} {outer:List Env} {s s1:Shared} {H:Hp} {E:XK} {us:List Value} {vs:List V}
  (S:aI N ps scope) (hd:A.handled=none) (e0:AD P w K mg base A outer s H) (hl:vs.length=ps.length) (r:Vals vs us)
  (x:InCallC s s.heap.objs.size (bindL (envOfC qual scope s.heap.objs.size f cd).kindOf (ps.zip us) fun _=>none) (cellsFrom (s.heap.objs.size+1) scope.names []) (bindC (envOfC qual scope s.heap.objs.size f cd).kindOf (ps.zip us) fun _=>none) s1):
  Inv (jO CX P w K mg base N qual scope f cd A outer s H E) [] (start N vs) H s1:=by
 have hpl:ps.length≤N.length:=by have:=congrArg List.length S.pre;rw[List.length_take] at this;lia
 obtain⟨h1,tk,rfl,hk⟩:=x.done
 have noA: ∀ b:Addr,b∉(jO CX P w K mg base N qual scope f cd A outer s H E).ex:=fun b z=>absurd (show b∈([]:List Addr) from z) (by simp)
 refine⟨⟨e0.mod,S.kind,rfl,rfl,LQ _,fun y z c h1 h2=>?_,fun y hy=>?_,fun y c _ h=>?_,fun _=>hd,Around.frames_deeper e0.frames,.inr ⟨rfl,rfl⟩,fun b z=>absurd z (noA b),e0.bs,e0.Dm,fun b _ _=>noA b,fun b z=>absurd z (noA b),e0.nX,e0.FO⟩,
  rfl,e0.bare,Un.kept hk,⟨_,x.toInCall.ns,fun i y v h1 h2 h3=>?_⟩,fun y c h=>⟨_,x.cell y c h⟩,e0.bE.fresh (LQ _),fun y c h=>?_,fun p hp=>absurd (show p∈([]:List (Addr×Obj)) from hp) (by simp),e0.bE.kept hk,?_⟩
 ·exact name_of_addr x.apart (PySem.mem_of_lookup h1) (PySem.mem_of_lookup h2)
 ·have hy:scope.names.lookup y=some .cell∨scope.names.lookup y=some .free:=hy
  rcases hy with hy|hy
  ·exact v5 hy
  ·exact absurd rfl (S.G2 _ (PySem.mem_of_lookup hy))
 ·exact Nat.le_of_lt (x.above y c (PySem.mem_of_lookup h))
 ·have hi:i < vs.length:=by
   unfold start at h2
   by_cases hi:i < vs.length
   ·exact hi
   ·rw[List.getElem?_append_right (by simpa using hi)] at h2
    rw[List.getElem?_replicate] at h2
    split at h2<;>cases h2
  have ha:vs[i]?=some v:=by
   unfold start at h2
   rw[Mr (by simpa using hi),L5] at h2
   cases e:vs[i]? with
   |none=>rw[e] at h2;cases h2
   |some a=>rw[e] at h2;cases h2;rfl
  obtain⟨u,hu,rv⟩:=r.get ha
  have hp:ps[i]?=some y:=by
   rw[←S.pre,List.getElem?_take_of_lt (by lia)];exact h1
  have ndP:ps.Nodup:=by rw[←S.pre];exact S.nd.sublist (List.take_sublist _ _)
  refine⟨u,rv,?_⟩
  rcases S.par y (List.mem_of_getElem? hp) with k|k
  ·exact .inl ⟨k,sI ndP hp hu k⟩
  ·obtain⟨c,e⟩:=v5 (n:=s.heap.objs.size+1) k
   refine .inr ⟨.inl k,c,e,?_⟩
   have q:=x.cell y c e
   rw[sL ndP hp hu (by show scope.names.lookup y≠_;rw[k];decide)] at q
   exact q
 ·exact e0.bE.fresh (Nat.le_of_lt (x.above y c (PySem.mem_of_lookup h)))
 ·unfold start
  show _=N.length
  rw[Mc,LK,List.length_replicate]
  lia
theorem FQ {CX:AF} {P:Program} {w:World} {K:Frag} {mg:Str→Option Value} {base:Heap} {k:Nat} {f:Addr} {name qual:Str} {params:Arguments} {body:List Stmt} {scope:Scope} {dV kV doc pm cdv ct oc:Value} {an od:Option Addr}
  {osl:Array (Option Value)} {N ps:List Str} {sp:Sp} (lk:K.lookup f=some ⟨oc,od,.func (fnOf name qual params body scope dV kV doc pm an cdv ct),osl⟩) (hcd:codeIn K cdv qual=true) (S:aI N ps scope)
  (len: ∀ vs H Q E,sp vs H Q E→vs.length=ps.length)
  (hbody: ∀ (A:Around) (outer:List Env) (s:Shared) (H:Hp) (vs:List V) (Q:VK) (E:XK),eV k (A.deeper (envOfC qual scope s.heap.objs.size f cdv))→sp vs H Q E→
   ∃ t,wy (jO CX P w K mg base N qual scope f cdv A outer s H E) body t∧t {nx:=fun _ H'=>Q .aW H',rt:=Q} (start N vs) H):
  bL P w K mg base CX (k+1) f (fnOf name qual params body scope dV kV doc pm an cdv ct) ps sp:=by
 refine⟨len,fun A outer s H args us vs Q E hr e0 hb r hsp=>?_⟩
 have hl:=len _ _ _ _ hsp
 have KX:K.In s.heap:=e0.mod.KY.keeps fun b o e=>(e0.bs b o e).1
 have lim:s.heap.NoLimit:=e0.mod.nolimit.keeps fun b o e=>(e0.bs b o e).1
 have hkind: ∀ y∈ps.zip us,scope.names.lookup y.1=some .local∨(scope.names.lookup y.1=some .cell∧((cellsFrom (s.heap.objs.size+1) scope.names []).lookup y.1).isSome=true):=fun hq0 hy=>by
  obtain⟨n,v⟩:=hq0
  rcases S.par n (List.of_mem_zip hy).1 with q|q
  ·exact .inl q
  ·exact .inr ⟨q,PySem.W.cellsFrom_some _ _ _ (.inl q)⟩
 refine codeAny_call_function hr.depth (KX _ _ lk) rfl S.co S.gen rfl (PySem.W.codeRec_of KX hcd) (hb _ _ _ _ ?_)
 refine wpAny_newFunctionEnv_cells S.kind hkind fun env he s1 x=>?_
 subst he
 refine⟨lim.keeps x.toInCall.keep,codeAny_func ?_⟩
 obtain⟨t,ht,hq⟩:=hbody A outer s H vs Q E (hr.deeper _) hsp
 have I:Inv (jO CX P w K mg base N qual scope f cdv A outer s H E) [] (start N vs) H s1:=r6 S hr.hd e0 hl r x
 refine wpAny_mono (ht [] s1 (start N vs) H _ I hq) (fun fl s' hs=>?_) fun e s' hs=>hs
 have fin: ∀ {σ':St} {H':Hp} {v:V} {u:Value},Inv (jO CX P w K mg base N qual scope f cdv A outer s H E) [] σ' H' s'→RelV v u→Q v H'→CE outer P w H s Q u s':=
  fun {σ' H' v u} J rv q=>⟨v,H',J.os,J.bare,J.base,J.bE,rv,q⟩
 cases fl with
 |ret u=>
  obtain⟨v,σ',H',J,rv,q⟩:=hs
  exact fin J rv q
 |next=>
  obtain⟨σ',H',J,q⟩:=hs
  exact fin (v:=V.aW) (u:=Value.none) J rfl q
 |brk=>
  obtain⟨_,_,_,q⟩:=hs
  exact False.elim q
 |cont=>
  obtain⟨_,_,_,q⟩:=hs
  exact False.elim q
end L2
namespace L2
open PySem PySem.Spec PyProof.Rows
section
variable {X:Cx} {x:Str} {p pos:Pos} {e:Expr} {es:List Expr} {t:TA} {id T:String} {r:List V→Hp→VK→Prop}
noncomputable def HX (r:List V→Hp→VK→Prop) (t:TA):TE:=fun σ H Q=>t σ H fun vs H1=>r vs H1 Q
theorem uU (hc:iy X (.builtin id) r) (hg:Gl X x) (hm:X.mg x=none) (hv:bootBuiltins x=some (.builtin id)) (ha:PA X (e::es) t) (hn:x≠"__name__":=by decide) (hdb:(x==("__debug__":Str))=false:=by decide)
  (he:starEach (e::es) X.env=(false,eval e X.env)::starEach es X.env:=by rfl) (hpl:(backTo pos (starEach es X.env)).any (·.1)=false:=by rfl):PE X (.Call (.Name x p) (e::es) [] pos) (HX r t):=by
 intro pins s σ H Q I h
 refine wpAny_Call_Name_kw (lQ I hg hm hv ?_ hn hdb)
 exact PyProof.Rows.callWith_builtin1 (bN (ha pos pins s σ H _ I h) fun us s1 ⟨vs,H1,I1,r1,q1⟩=>hc pins s1 σ H1 vs us Q I1 r1 q1) he hpl
theorem zO (hc:iy X (.type T) r) (hg:Gl X x) (hm:X.mg x=none) (hv:bootBuiltins x=some (.type T)) (ha:PA X (e::es) t) (hn:x≠"__name__":=by decide) (hdb:(x==("__debug__":Str))=false:=by decide)
  (he:starEach (e::es) X.env=(false,eval e X.env)::starEach es X.env:=by rfl) (hpl:(backTo pos (starEach es X.env)).any (·.1)=false:=by rfl):PE X (.Call (.Name x p) (e::es) [] pos) (HX r t):=by
 intro pins s σ H Q I h
 refine wpAny_Call_Name_kw (lQ I hg hm hv ?_ hn hdb)
 exact PyProof.Rows.callWith_type1 (bN (ha pos pins s σ H _ I h) fun us s1 ⟨vs,H1,I1,r1,q1⟩=>hc pins s1 σ H1 vs us Q I1 r1 q1) he hpl
end
end L2
namespace HT
open PySem PyProof.Rows
noncomputable def lexLt:List Int→List Int→Bool
 |[],[]=>false
 |[],_::_=>true
 |_::_,[]=>false
 |x::xs,y::ys=>if x=y then lexLt xs ys else decide (x < y)
theorem lP (x y:Int) (xs ys:List Int):lexLt (x::xs) (y::ys)=if x=y then lexLt xs ys else decide (x < y):=rfl
theorem lJ:lexLt [] []=false:=rfl
theorem p8 (y:Int) (ys:List Int):lexLt [] (y::ys)=true:=rfl
theorem p9 (x:Int) (xs:List Int):lexLt (x::xs) []=false:=rfl
theorem CM (A:Around) (s:Shared) (a:Int) (t:Tok) (c:Int) (u:Tok): ∃ e,SeqAt.EqAt A s (.int a t) (.int c u) e∧(e=true↔a=c):=
 ⟨(a==c),SeqAt.EqAt.int_int a t c u,by simp⟩
section
variable {prog : Program} {w : World} {A : Around} {E : Value → Shared → Prop} {s : Shared}
theorem EZ {t b:Addr} {vs ws:List Value} {Q:Value→Shared→Prop} (ht:IsTup s.heap t vs.toArray) (hb:IsTup s.heap b ws.toArray) (hv:vs≠[])
  (h1:ws=[]→Q (.ref t) s) (h2:ws≠[]→Q (.ref s.heap.objs.size) {s with heap:=s.heap.push {cls:=.type "tuple",data:=.seq (vs++ws).toArray}})
  (hsz:vs.length+ws.length≤sizeLine):wpAny (model prog w) A (binaryOp .Add (.ref t) (.ref b)) Q E s:=by
 obtain⟨⟨cls,dd,data,sl⟩,ho,hc,n,hd⟩:=id ht
 obtain⟨⟨cls2,dd2,data2,sl2⟩,ho2,hc2,n2,hd2⟩:=id hb
 simp only at hc hd hc2 hd2
 subst hc hd hc2 hd2
 have e:vs.toArray++ws.toArray=(vs++ws).toArray:=by simp
 by_cases hw:ws=[]
 ·exact concat_meets ⟨_,ho,rfl⟩ ⟨_,ho2,rfl⟩ noFill_tuple_add seq_tuple_add PySem.F.slot_tuple_add PySem.F.entry_tuple_add (PySem.F.args_tuple_add_2 _ _)
   (tuple_addW1 t b vs.toArray ws.toArray n n2 dd dd2 sl sl2 (by simpa using hv) (by simp[hw])) ⟨ho,ho2,h1 hw⟩
 ·refine concat_meets ⟨_,ho,rfl⟩ ⟨_,ho2,rfl⟩ noFill_tuple_add seq_tuple_add PySem.F.slot_tuple_add PySem.F.entry_tuple_add (PySem.F.args_tuple_add_2 _ _)
   (tuple_addW2 t b vs.toArray ws.toArray n n2 dd dd2 sl sl2 (by simpa using hv) (by simpa using hw) (by rw[LO,LO];exact hsz)) ⟨ho,ho2,?_⟩
  rw[e]
  exact h2 hw
noncomputable def dR (n d:Nat):Option Int→Nat
 |none=>d
 |some v=>if v < 0 then(v+(n:Int)).toNat else min v.toNat n
theorem my (n d:Nat):dR n d none=d:=rfl
theorem o7 (n d k:Nat):dR n d (some (k:Int))=min k n:=by
 show (if(k:Int) < 0 then((k:Int)+(n:Int)).toNat else min (k:Int).toNat n)=min k n
 rw[MA (by lia),Int.toNat_natCast]
theorem Gv (n d:Nat) (hd:d≤n) (o:Option Int):dR n d o≤n:=by
 cases o with
 |none=>exact hd
 |some v=>
  show (if v < 0 then(v+(n:Int)).toNat else min v.toNat n)≤n
  by_cases hv:v < 0
  ·rw[Mz hv];lia
  ·rw[MA hv];exact Nat.min_le_right _ _
theorem y9 (v:Int) (n d:Nat):(if v < 0 then max (v+(n:Int)) 0 else min v (n:Int))=((dR n d (some v):Nat):Int):=by
 show (if v < 0 then max (v+(n:Int)) 0 else min v (n:Int))=(((if v < 0 then(v+(n:Int)).toNat else min v.toNat n):Nat):Int)
 by_cases hv:v < 0
 ·simp only[Mz hv];lia
 ·simp only[MA hv];lia
theorem xV (lo hi:Option Int) (n:Nat):Builtin.Slice.sliceAdjust lo hi 1 (n:Int)=(((dR n 0 lo:Nat):Int),((dR n n hi:Nat):Int)):=by
 have h1: ¬ ((1:Int) < 0):=by lia
 unfold Builtin.Slice.sliceAdjust
 simp only[h1,if_false]
 refine Prod.ext ?_ ?_
 ·cases lo with
  |none=>rfl
  |some v=>exact y9 v n 0
 ·cases hi with
  |none=>rfl
  |some v=>exact y9 v n n
theorem w6 (i j:Nat):Builtin.Slice.slicePlaces (i:Int) (j:Int) 1=j - i:=by
 unfold Builtin.Slice.slicePlaces
 have h1:(1:Int) > 0:=by lia
 simp only[h1,if_true,Int.ediv_one]
 split<;>lia
theorem pP {v:Value} {o:Option Int} {Q:Option Int→Shared→Prop} (p:IsPart v o) (h:Q o s):wpAny (model prog w) A (Builtin.Slice.slicePartIndex v) Q E s:=by
 cases p with
 |none=>exact slicePart_none h
 |int i t=>exact slicePart_int h
theorem jd {sl:Addr} {vl vu:Value} {lo hi:Option Int} {n:Nat} {Q:Int×Int×Nat→Shared→Prop} (hs:s.heap.IsSliceOf sl vl vu .none) (pl:IsPart vl lo) (pu:IsPart vu hi)
  (h:Q (((dR n 0 lo:Nat):Int),1,dR n n hi - dR n 0 lo) s):wpAny (model prog w) A (Builtin.Slice.sliceApplied (.ref sl) (pure (n:Int))) Q E s:=by
 obtain⟨os,hos,hcs,hds⟩:=id hs
 unfold Builtin.Slice.sliceApplied Builtin.Slice.sliceFields
 refine LI (LI (wpAny_field hos hds (x:=vl) rfl (LI (wpAny_field hos hds (x:=vu) rfl (LI (wpAny_field hos hds (x:=.none) rfl (LN ?_)))))))
 refine LI (slicePart_none ?_)
 show wpAny _ _ (if((1:Int)==0)=true then _ else _) _ _ s
 rw[MA (by decide)]
 refine LI (pP pl (LI (pP pu (LI (LN ?_)))))
 show wpAny _ _ (match Builtin.Slice.sliceAdjust lo hi 1 (n:Int) with|(lo,hi)=>pure (lo,(1:Int),Builtin.Slice.slicePlaces lo hi 1)) _ _ s
 rw[xV lo hi n]
 show wpAny _ _ (pure (((dR n 0 lo:Nat):Int),(1:Int),Builtin.Slice.slicePlaces ((dR n 0 lo:Nat):Int) ((dR n n hi:Nat):Int) 1)) _ _ s
 rw[w6]
 exact LN h
theorem BJ (xs:Array Value) (i k:Nat):((List.range k).filterMap fun (m:Nat)=>xs[((i:Int)+(m:Int) * 1).toNat]?).toArray=((xs.toList.drop i).take k).toArray:=by
 have e:(fun (m:Nat)=>xs[((i:Int)+(m:Int) * 1).toNat]?)=fun m=>xs[i+m]?:=by
  funext m
  have:((i:Int)+(m:Int) * 1).toNat=i+m:=by lia
  rw[this]
 rw[e]
 have:=pick_run xs i k
 rw[List.filterMap_map] at this
 have e2:((fun x=>xs[x]?)∘fun x=>i+x)=fun m=>xs[i+m]?:=rfl
 rw[e2] at this
 rw[this]
theorem mO {t sl:Addr} {items:Array Value} {vl vu:Value} {lo hi:Option Int} {Q:Value→Shared→Prop} (ht:IsTup s.heap t items) (hs:s.heap.IsSliceOf sl vl vu .none) (pl:IsPart vl lo) (pu:IsPart vu hi)
  (hw: ¬ (dR items.size 0 lo=0∧dR items.size items.size hi=items.size))
  (h:Q (.ref s.heap.objs.size) {s with heap:=s.heap.push {cls:=.type "tuple",data:=.seq ((items.toList.drop (dR items.size 0 lo)).take (dR items.size items.size hi - dR items.size 0 lo)).toArray}})
  (hsz:items.size≤sizeLine):wpAny (model prog w) A (getItem (.ref t) (.ref sl)) Q E s:=by
 have htake:sizeOk (.seq ((items.toList.drop (dR items.size 0 lo)).take (dR items.size items.size hi - dR items.size 0 lo)).toArray):=by
  show ((items.toList.drop (dR items.size 0 lo)).take (dR items.size items.size hi - dR items.size 0 lo)).toArray.size≤sizeLine
  rw[LO,List.length_take,List.length_drop,Mn]
  lia
 have hj:dR items.size items.size hi≤items.size:=Gv _ _ (LQ _) hi
 obtain⟨os,hos,hcs,hds⟩:=id hs
 have hTs:s.TypeIs (.ref sl) "slice":=⟨os,hos,hcs⟩
 unfold getItem
 try with_reducible refine wpAny_holding ?_
 first|refine LI (LN ?_)|skip
 refine LI (wpAny_sequenceKey ht.typeIs (by decide) ?_)
 refine LI (wpAny_callSpecial?_slot (name:=Str.ofString "__getitem__") ht.typeIs PyProof.Rows.slot_tuple_getitem
  (wpAny_call_entry PyProof.Rows.slot_tuple_getitem ht.typeIs entry_tuple_getitem ?_ (args_tuple_getitem _ _)))
 show wpAny _ _ (Builtin.Tuple.tupleItemsOf (.ref t) >>= _) _ _ s
 refine LI (tupleItemsOf_ ht ?_)
 refine LI (wpAny_typeOf hTs ?_)
 rw[Mz (by decide)]
 refine LI (jd hs pl pu ?_)
 have hno: ¬ ((((dR items.size 0 lo:Nat):Int)==0&&(1:Int)==1&&(dR items.size items.size hi - dR items.size 0 lo)==items.size)=true):=by
  intro q
  rw[Mo,Mo] at q
  have q1:((dR items.size 0 lo:Nat):Int)=0:=eq_of_beq q.1.1
  have q2:dR items.size items.size hi - dR items.size 0 lo=items.size:=eq_of_beq q.2
  exact hw ⟨by lia,by lia⟩
 show wpAny _ _ (if(((dR items.size 0 lo:Nat):Int)==0&&(1:Int)==1&&(dR items.size items.size hi - dR items.size 0 lo)==items.size)=true then _ else _) _ _ s
 rw[MA hno,BJ]
 first
  |exact LI (m:=Builtin.Tuple.tupleExact _) (wpAny_newObj_type (LN ⟨_,rfl,LN h⟩) htake)
  |exact LI (m:=Builtin.Tuple.tupleExact _) (wpAny_newObj_type (LI (LN (LN ⟨_,rfl,LN h⟩))) htake)
  |exact LI (LI (m:=Builtin.Tuple.tupleExact _) (wpAny_newObj_type (LN (LN ⟨_,rfl,LN h⟩)) htake))
  |exact LI (LI (m:=Builtin.Tuple.tupleExact _) (wpAny_newObj_type (LN ⟨_,rfl,LN h⟩) htake))
end
end HT
namespace L2
open PySem PySem.Spec PyProof.Rows
noncomputable abbrev TO:=St→Hp→(Option Int→Hp→Prop)→Prop
def PO (X:Cx) (e:Option Expr) (t:TO):Prop:=
 ∀ (pins:List (Addr×Obj)) (s:Shared) (σ:St) (H:Hp) (Q:Option Int→Hp→Prop),Inv X pins σ H s→t σ H Q→
  wpAny (model X.prog X.w) X.A (evalPart e X.env) (fun u s'=> ∃ o H',Inv X pins σ H' s'∧IsPart u o∧Q o H') X.xe s
noncomputable def Dy:TO:=fun _ H Q=>Q none H
noncomputable def Iw (t:TE):TO:=fun σ H Q=>t σ H fun x H1=> ∃ i,x= .int i∧Q (some i) H1
section
variable {X:Cx} {e:Expr} {te:TE} {lo hi:Option Expr} {tl th:TO} {pos p2:Pos}
theorem pd:PO X none Dy:=by
 intro pins s σ H Q I h
 rw[evalPart_none]
 exact LN ⟨none,H,I,.none,h⟩
theorem o9 (h:PE X e te):PO X (some e) (Iw te):=by
 intro pins s σ H Q I hw
 rw[evalPart_some]
 refine bN (h pins s σ H _ I hw) fun u s1 ⟨x,H1,I1,r1,q1⟩=>?_
 obtain⟨i,rfl,q⟩:=q1
 obtain⟨t,rfl⟩:=r1
 exact⟨some i,H1,I1,.int i t,q⟩
def AJ (X:Cx) (r:V→Option Int→Option Int→Hp→VK→Prop):Prop:=
 ∀ (pins:List (Addr×Obj)) (s:Shared) (σ:St) (H:Hp) (x:V) (v vl vu:Value) (lo hi:Option Int) (sl:Addr) (Q:VK),Inv X pins σ H s→RelV x v→s.heap.IsSliceOf sl vl vu .none→IsPart vl lo→IsPart vu hi→r x lo hi H Q→
  ∃ T id,typeLookup (.type T) "__getitem__"=pure (some (.builtin id))∧s.TypeIs v T∧wpAny (model X.prog X.w) X.A (getItem v (.ref sl)) (EP X pins σ Q) X.xe s
theorem AJ.or {r r':V→Option Int→Option Int→Hp→VK→Prop} (h:AJ X r) (h':AJ X r'):AJ X (fun x lo hi H Q=>r x lo hi H Q∨r' x lo hi H Q):=by
 intro pins s σ H x v vl vu lo hi sl Q I rx hs pl pu q
 rcases q with q|q
 ·exact h pins s σ H x v vl vu lo hi sl Q I rx hs pl pu q
 ·exact h' pins s σ H x v vl vu lo hi sl Q I rx hs pl pu q
noncomputable def Kr (r:V→Option Int→Option Int→Hp→VK→Prop) (te:TE) (tl th:TO):TE:=fun σ H Q=>te σ H fun x H1=>tl σ H1 fun l H2=>th σ H2 fun u H3=>r x l u H3 Q
theorem mz {r:V→Option Int→Option Int→Hp→VK→Prop} (hr:AJ X r) (he:PE X e te) (hl:PO X lo tl) (hu:PO X hi th):PE X (.Subscript e (.Slice lo hi none p2) pos) (Kr r te tl th):=by
 intro pins s σ H Q I h
 refine Subscript_ (bN (he pins s σ H _ I h) fun v s1 ⟨x,H1,I1,r1,q1⟩=>?_)
 refine wpAny_Slice (bN (hl pins s1 σ H1 _ I1 q1) fun vl s2 ⟨l,H2,I2,pl,q2⟩=>bN (hu pins s2 σ H2 _ I2 q2) fun vu s3 ⟨u,H3,I3,pu,q3⟩=>?_)
 rw[evalPart_none]
 refine LN ?_
 have I4:Inv X pins σ H3 {s3 with heap:=s3.heap.push {cls:=.type "slice",data:=.fields #[vl,vu,.none]}}:=I3.kept (t':=s3.toks) fun b ob q=>LL _ q
 obtain⟨T,id,hT,ht,hg⟩:=hr pins {s3 with heap:=s3.heap.push {cls:=.type "slice",data:=.fields #[vl,vu,.none]}} σ H3 x v vl vu l u s3.heap.objs.size Q I4 r1 (Heap.IsSliceOf.new ..) pl pu q3
 show wpAny (model X.prog X.w) X.A (subscriptTail e (.Slice lo hi none p2) v (.ref s3.heap.objs.size)) (EP X pins σ Q) X.xe {s3 with heap:=s3.heap.push {cls:=.type "slice",data:=.fields #[vl,vu,.none]}}
 exact tail_any (ops:=[.ref s3.heap.objs.size,v]) ht hT hg (by with_unfolding_all rfl)
noncomputable def mX (xs:List V) (lo hi:Option Int):List V:=(xs.drop (HT.dR xs.length 0 lo)).take (HT.dR xs.length xs.length hi - HT.dR xs.length 0 lo)
theorem oQ (xs:List V) (lo hi:Option Int):(mX xs lo hi).length≤xs.length:=by
 unfold mX
 rw[List.length_take,List.length_drop]
 lia
def IL (K:Frag):V→Option Int→Option Int→Hp→VK→Prop:=fun x lo hi H Q=> ∃ a xs,x= .ref a∧fM K H a xs∧
 ¬ (HT.dR xs.length 0 lo=0∧HT.dR xs.length xs.length hi=xs.length)∧∀ p,H p=none→Q (.ref p) (upd H p (.tup (mX xs lo hi)))
theorem Gs:AJ X (IL X.K):=by
 intro pins s σ H x v vl vu lo hi sl Q I rx hs pl pu h
 obtain⟨a,xs,rfl,hx,hw,q⟩:=h
 cases rx
 obtain⟨its,r,ht,hz⟩:=I.tuple hx
 have hlen:its.toArray.size=xs.length:=by rw[LO];exact r.length.symm
 refine⟨"tuple",_,PyProof.Rows.slot_tuple_getitem.lookup,ht.typeIs,?_⟩
 refine HT.mO ht hs pl pu (by rw[hlen];exact hw) ?_ (by rw[hlen];exact hz)
 rw[hlen]
 refine⟨.ref s.heap.objs.size,_,I.laid (t':=s.toks) (o:=.tup (mX xs lo hi)) (fun b ob q=>LL _ q) (LQ _) ?_,rfl,q _ (I.bE.fresh (LQ _))⟩
 exact⟨L6 (oQ xs lo hi) hz,_,(r.drop (HT.dR xs.length 0 lo)).take (HT.dR xs.length xs.length hi - HT.dR xs.length 0 lo),IsTup.new _ _⟩
noncomputable def FE (K:Frag):R2:=fun x y H Q=> ∃ a b xs ys,x= .ref a∧y= .ref b∧fM K H a xs∧fM K H b ys∧xs≠[]∧xs.length+ys.length≤sizeLine∧
 (ys=[]→Q (.ref a) H)∧(ys≠[]→∀ p,H p=none→Q (.ref p) (upd H p (.tup (xs++ys))))
theorem Vals.pk {xs:List V} {us:List Value} (r:Vals xs us):us=[]↔xs=[]:=by
 cases r with
 |nil=>simp
 |cons _ _=>simp
theorem Eh:fT X (binaryOp .Add) (FE X.K):=by
 intro pins s σ H x y v u Q I rx ry h
 obtain⟨a,b,xs,ys,rfl,rfl,ha,hb,hx,hz,q1,q2⟩:=h
 cases rx
 cases ry
 obtain⟨its,r1,p1,_⟩:=I.tuple ha
 obtain⟨its2,r2,p2,_⟩:=I.tuple hb
 refine HT.EZ p1 p2 (fun z=>hx (r1.pk.mp z)) (fun z=>⟨.ref a,H,I,rfl,q1 (r2.pk.mp z)⟩) (fun z=>?_) (by rw[←r1.length,←r2.length];exact hz)
 refine⟨.ref s.heap.objs.size,_,I.laid (t':=s.toks) (o:=.tup (xs++ys)) (fun b ob q=>LL _ q) (LQ _) ?_,rfl,q2 (fun w=>z (r2.pk.mpr w)) _ (I.bE.fresh (LQ _))⟩
 exact⟨by rw[Mc];exact hz,_,r1.append r2,IsTup.new _ _⟩
end
end L2
namespace L2
open PySem PySem.Spec PyProof.Rows
noncomputable def uu (n:Nat) (i:Int):Option Nat:=if 0≤i then(if i < n then some i.toNat else none) else if -(n:Int)≤i then some (i+n).toNat else none
noncomputable def lW {α:Type} (xs:List α) (i:Int):Option α:=(uu xs.length i).bind fun j=>xs[j]?
theorem yJ {n:Nat} {i:Int} {j:Nat} (h:uu n i=some j):seqIndex? i n=some j∧j < n∧-(n:Int)≤i∧i < n:=by
 unfold uu at h
 by_cases h0:0≤i
 ·rw[Mz h0] at h
  by_cases h1:i < n
  ·rw[Mz h1] at h
   have e:i.toNat=j:=MD h
   exact⟨by rw[seqIndex_of h0 h1,e],by lia,by lia,h1⟩
  ·rw[MA h1] at h;cases h
 ·rw[MA h0] at h
  by_cases h1: -(n:Int)≤i
  ·rw[Mz h1] at h
   have e:(i+n).toNat=j:=MD h
   exact⟨by rw[seqIndex_neg (by lia) h1,e],by lia,h1,by lia⟩
  ·rw[MA h1] at h;cases h
theorem uk {α:Type} {xs:List α} {i:Int} {v:α} (h:lW xs i=some v): ∃ j,seqIndex? i xs.length=some j∧xs[j]?=some v∧j < xs.length∧-(xs.length:Int)≤i∧i < xs.length:=by
 unfold lW at h
 cases e:uu xs.length i with
 |none=>rw[e] at h;cases h
 |some j=>
  rw[e] at h
  obtain⟨h1,h2,h3,h4⟩:=yJ e
  exact⟨j,h1,h,h2,h3,h4⟩
theorem zf {α:Type} {xs:List α} {j:Nat} {v:α} (h:xs[j]?=some v):lW xs (j:Int)=some v:=by
 have hj:j < xs.length:=(LP.mp h).1
 have e:uu xs.length (j:Int)=some j:=by
  unfold uu
  rw[Mz (by lia),Mz (by lia)];simp
 unfold lW;rw[e];exact h
def ur (b:Expr):Prop:= ∀ o i,subscripted b false o i=operate [o,i] (getItem o i)
def Dp (X:Cx) (r:R2):Prop:=
 ∀ (value slice:Expr) (pins:List (Addr×Obj)) (s:Shared) (σ:St) (H:Hp) (x y:V) (v u:Value) (Q:VK),Inv X pins σ H s→RelV x v→RelV y u→r x y H Q→
  subscripted slice false v u=operate [v,u] (getItem v u)→wpAny (model X.prog X.w) X.A (subscriptTail value slice v u) (EP X pins σ Q) X.xe s
def Lg (X:Cx) (id:String) (r:V→List V→Hp→VK→Prop):Prop:=
 ∀ (pins:List (Addr×Obj)) (s:Shared) (σ:St) (H:Hp) (x:V) (xs:List V) (v:Value) (us:List Value) (Q:VK),Inv X pins σ H s→RelV x v→Vals xs us→r x xs H Q→
  wpAny (model X.prog X.w) X.A (call (.builtin id) (v::us)) (EP X pins σ Q) X.xe s
section
variable {X:Cx} {a b:Expr} {ta tb:TE} {pos:Pos}
theorem Dp.or {r r':R2} (h:Dp X r) (h':Dp X r'):Dp X (fun x y H Q=>r x y H Q∨r' x y H Q):=by
 intro value slice pins s σ H x y v u Q I rx ry q hs
 rcases q with q|q
 ·exact h value slice pins s σ H x y v u Q I rx ry q hs
 ·exact h' value slice pins s σ H x y v u Q I rx ry q hs
theorem jf {r:R2} (hr:Dp X r) (ha:PE X a ta) (hb:PE X b tb) (hs:ur b):PE X (.Subscript a b pos) (Dx r ta tb):=by
 intro pins s σ H Q I h
 exact Subscript_ (HC ha hb I h fun v u s2 x y H2 I2 rx ry q=>hr a b pins s2 σ H2 x y v u Q I2 rx ry q (hs _ _))
noncomputable def IX (K:Frag):R2:=fun x y H Q=> ∃ p xs i v,x= .ref p∧y= .int i∧cQ K H p xs∧lW xs i=some v∧Q v H
noncomputable def DS (K:Frag):R2:=fun x y H Q=> ∃ p xs i v,x= .ref p∧y= .int i∧fM K H p xs∧lW xs i=some v∧Q v H
noncomputable def IW:R2:=fun x y H Q=> ∃ z i c,x= .str z∧y= .int i∧z.length≤sizeLine∧lW z.cps.toList i=some c∧Q (.str ⟨#[c]⟩) H
theorem gZ:Dp X (IX X.K):=by
 intro value slice pins s σ H x y v u Q I rx ry h hs
 obtain⟨p,xs,i,z,rfl,rfl,hq,he,q⟩:=h
 cases rx
 obtain⟨t,rfl⟩:=ry
 obtain⟨its,r,pl,hz⟩:=I.list hq
 obtain⟨j,h1,h2,h3,h4,h5⟩:=uk he
 obtain⟨w,ew,rw'⟩:=r.get h2
 have hl:=r.length
 have hn:=p7
 have fin:EP X pins σ Q w s:=⟨z,H,I,rw',q⟩
 by_cases h0:0≤i
 ·have hj:i.toNat=j:=by
   rw[seqIndex_of h0 h5] at h1
   exact MD h1
  exact item_listR pl.isList h0 (by lia) (by rw[hj];simpa using ew) fin hs
 ·have hj:(i+(its.toArray.size:Int)).toNat=j:=by
   rw[seqIndex_neg (by lia) h4] at h1
   rw[LO,←hl]
   exact MD h1
  exact subscriptTail_builtinR (x:=w) pl.isList.typeIs slot_list_getitem.lookup
   (wpAny_getItem_list_neg (Q:=fun r s'=>r=w∧EP X pins σ Q r s') pl.isList (by lia) (by rw[LO]<;>lia) (by lia) (by rw[hj];simpa using ew) ⟨rfl,fin⟩) hs
theorem qe:Dp X (DS X.K):=by
 intro value slice pins s σ H x y v u Q I rx ry h hs
 obtain⟨p,xs,i,z,rfl,rfl,hq,he,q⟩:=h
 cases rx
 obtain⟨t,rfl⟩:=ry
 obtain⟨its,r,pl,hz⟩:=I.tuple hq
 obtain⟨j,h1,h2,h3,h4,h5⟩:=uk he
 obtain⟨w,ew,rw'⟩:=r.get h2
 have hl:=r.length
 have hn:=p7
 have fin:EP X pins σ Q w s:=⟨z,H,I,rw',q⟩
 exact subscriptTail_builtinR (x:=w) pl.typeIs slot_tuple_getitem.lookup
  (getItem_tuple (j:=j) (Q:=fun r s'=>r=w∧EP X pins σ Q r s') pl (by lia) (by lia) (by rw[LO,←hl];exact h1) (by simpa using ew) ⟨rfl,fin⟩) hs
theorem Hg:Dp X IW:=by
 intro value slice pins s σ H x y v u Q I rx ry h hs
 obtain⟨z,i,c,rfl,rfl,hz,he,q⟩:=h
 obtain⟨t,rfl⟩:=rx
 obtain⟨t',rfl⟩:=ry
 obtain⟨j,h1,h2,h3,h4,h5⟩:=uk he
 have hl:z.cps.toList.length=z.length:=by simp[Str.length]
 rw[hl] at h1 h4 h5
 have hn:=p7
 exact tail_any (typeIs_str s z t) slot_str_getitem.lookup (getItem_str (c:=c) (by
  have e1:decide (i < -(2 ^ 63:Int))=false:=Mb (by lia)
  have e2:decide (i ≥ 2 ^ 63)=false:=Mb (by lia)
  rw[e1,e2,Bool.or_false]) (by rw[h1];simpa using h2) ⟨.str ⟨#[c]⟩,H,I.tok _,⟨_,rfl⟩,q⟩) hs
noncomputable def Lk (K:Frag):R2:=fun x y H Q=>IX K x y H Q∨DS K x y H Q∨IW x y H Q
theorem Hh:Dp X (Lk X.K):=gZ.or (qe.or Hg)
theorem xp (its:List Value) (n j:Nat) (u:Value):Obj.mapSeq (·.setIfInBounds j u) {cls:=.type "list",data:=.seq its.toArray n}={cls:=.type "list",data:=.seq (its.set j u).toArray n}:=by
 simp[Obj.mapSeq]
theorem Inv.lst {pins:List (Addr×Obj)} {σ:St} {H:Hp} {s:Shared} {p:Addr} {xs:List V} (I:Inv X pins σ H s) (h:H p=some (.lst xs)):
  ∃ (its:List Value) (n:Nat),Vals xs its∧s.heap.get? p=some {cls:=.type "list",data:=.seq its.toArray n}∧xs.length≤sizeLine:=by
 obtain⟨z,its,n,r,e⟩:=I.bE p _ h
 exact⟨its,n,r,e,z⟩
theorem Inv.G8 {pins:List (Addr×Obj)} {σ:St} {H:Hp} {s:Shared} {p:Addr} {xs ys:List V} {its its':List Value} {n n':Nat} {f:Obj→Obj} (I:Inv X pins σ H s) (h:H p=some (.lst xs))
  (ho:s.heap.get? p=some {cls:=.type "list",data:=.seq its.toArray n}) (hf:f {cls:=.type "list",data:=.seq its.toArray n}={cls:=.type "list",data:=.seq its'.toArray n'}) (r:Vals ys its') (hz:ys.length≤sizeLine) (t:Nat):
  Inv X pins σ (upd H p (.lst ys)) {s with heap:=s.heap.update p f,toks:=t}:=by
 have e:(s.heap.update p f).get? p=some {cls:=.type "list",data:=.seq its'.toArray n'}:=by
  rw[Heap.get?_update_self f ho (by rw[hf]<;>rfl),hf]
 refine I.write (x:=p) (e:=p) (by rw[h];trivial) (.inl rfl) (fun b u hb q=>(Heap.get?_update_other _ _ (Ne.symm hb)).trans q) ⟨_,e⟩ ?_
 exact⟨hz,its',n',r,e⟩
def Fy:V→V→V→Hp→(Hp→Prop)→Prop:=fun o i v H Q=> ∃ p xs k j,o= .ref p∧i= .int k∧H p=some (.lst xs)∧uu xs.length k=some j∧Q (upd H p (.lst (xs.set j v)))
theorem set_list:HM X Fy:=by
 intro pins s σ H o i v ov iv u Q I ro ri rv h
 obtain⟨p,xs,k,j,rfl,rfl,hp,hj,q⟩:=h
 cases ro
 obtain⟨t,rfl⟩:=ri
 obtain⟨its,n,r,ho,hz⟩:=I.lst hp
 obtain⟨h1,h2,h3,h4⟩:=yJ hj
 have hl:=r.length
 have hn:=p7
 have I':Inv X pins σ (upd H p (.lst (xs.set j v))) {s with heap:=s.heap.update p (Obj.mapSeq (·.setIfInBounds j u))}:=
  I.G8 hp ho (xp its n j u) (r.set rv j) (by rw[List.length_set];exact hz) s.toks
 by_cases h0:0≤k
 ·have hk:k.toNat=j:=by
   rw[seqIndex_of h0 h4] at h1
   exact MD h1
  exact PySem.W.ki_setAt ho h0 (by lia) (by rw[LO,←hl];exact h4) (by rw[hk];exact⟨_,I',q⟩)
 ·have hk:(k+(its.toArray.size:Int)).toNat=j:=by
   rw[seqIndex_neg (by lia) h3] at h1
   rw[LO,←hl]
   exact MD h1
  exact PySem.W.ki_setBack ho (by lia) (by rw[LO,←hl];exact h3) (by lia) (by rw[hk];exact⟨_,I',q⟩)
theorem sU (lo hi:Option Int) (n:Nat):(sliceBounds lo hi none n).1=((HT.dR n 0 lo:Nat):Int)∧(sliceBounds lo hi none n).2.1=((HT.dR n n hi:Nat):Int)∧(sliceBounds lo hi none n).2.2=1:=by
 refine⟨?_,?_,rfl⟩
 ·cases lo with
  |none=>simp[sliceBounds,HT.dR]
  |some i=>
   simp only[sliceBounds,HT.dR,Option.getD_none,show (1:Int) > 0 by decide,if_true]
   by_cases h:i < 0
   ·simp only[h,if_true]<;>lia
   ·simp only[h,if_false]<;>lia
 ·cases hi with
  |none=>simp[sliceBounds,HT.dR]
  |some i=>
   simp only[sliceBounds,HT.dR,Option.getD_none,show (1:Int) > 0 by decide,if_true]
   by_cases h:i < 0
   ·simp only[h,if_true]<;>lia
   ·simp only[h,if_false]<;>lia
theorem qP (its:List Value) (lo hi:Option Int):slicePick its.toArray lo hi none=((its.drop (HT.dR its.length 0 lo)).take (HT.dR its.length its.length hi - HT.dR its.length 0 lo)).toArray:=by
 obtain⟨h1,h2,h3⟩:=sU lo hi its.toArray.size
 unfold slicePick
 rw[h1,h2,h3]
 simp only[sliceRange_one,pick_run,LO]<;>rfl
def IP (K:Frag):V→Option Int→Option Int→Hp→VK→Prop:=fun x lo hi H Q=> ∃ a xs,x= .ref a∧cQ K H a xs∧∀ p,H p=none→Q (.ref p) (upd H p (.lst (mX xs lo hi)))
theorem o6:AJ X (IP X.K):=by
 intro pins s σ H x v vl vu lo hi sl Q I rx hs pl pu h
 obtain⟨a,xs,rfl,hx,q⟩:=h
 cases rx
 obtain⟨its,r,ht,hz⟩:=I.list hx
 have hlen:=r.length
 refine⟨"list",_,slot_list_getitem.lookup,ht.isList.typeIs,?_⟩
 refine wpAny_getItem_list_slice ht.isList hs pl pu .none (by simp) ?_ (by rw[LO]<;>lia)
 rw[qP,←hlen]
 refine⟨.ref s.heap.objs.size,_,I.laid (t':=s.toks) (o:=.lst (mX xs lo hi)) (fun b ob q=>LL _ q) (LQ _) ?_,rfl,q _ (I.bE.fresh (LQ _))⟩
 exact⟨L6 (oQ xs lo hi) hz,_,0,(r.drop (HT.dR xs.length 0 lo)).take (HT.dR xs.length xs.length hi - HT.dR xs.length 0 lo),LY _ rfl⟩
noncomputable def d9:V→Bool
 | .aW=>true
 | .bl _=>true
 | .int _=>true
 | .str _=>true
 |_=>false
noncomputable def sx:V→V→Bool
 | .aW,.aW=>true
 | .bl a,.bl b=>a==b
 | .bl a,.int b=>(if a then 1 else 0)==b
 | .int a,.bl b=>a==(if b then 1 else 0)
 | .int a,.int b=>a==b
 | .str a,.str b=>a==b
 |_,_=>false
theorem CN {A:Around} {s:Shared} {y x:V} {u v:Value} (ry:RelV y u) (rx:RelV x v) (fy:d9 y=true) (fx:d9 x=true):SeqAt.EqAt A s u v (sx y x):=by
 cases y with
 |aW=>
  cases ry
  cases x with
  |aW=>cases rx;exact SeqAt.EqAt.same _
  |bl b=>cases rx;exact SeqAt.EqAt.none_bool b
  |int b=>obtain⟨t,rfl⟩:=rx;exact SeqAt.EqAt.none_int b t
  |str b=>obtain⟨t,rfl⟩:=rx;exact SeqAt.EqAt.none_str b t
  |_=>exact absurd (show false=true from fx) Bool.false_ne_true
 |bl a=>
  cases ry
  cases x with
  |aW=>cases rx;exact SeqAt.EqAt.bool_none a
  |bl b=>cases rx;exact SeqAt.EqAt.bool_bool a b
  |int b=>obtain⟨t,rfl⟩:=rx;exact SeqAt.EqAt.bool_int a b t
  |str b=>obtain⟨t,rfl⟩:=rx;exact SeqAt.EqAt.bool_str a b t
  |_=>exact absurd (show false=true from fx) Bool.false_ne_true
 |int a=>
  obtain⟨t',rfl⟩:=ry
  cases x with
  |aW=>cases rx;exact SeqAt.EqAt.int_none a t'
  |bl b=>cases rx;exact SeqAt.EqAt.int_bool a t' b
  |int b=>obtain⟨t,rfl⟩:=rx;exact SeqAt.EqAt.int_int a t' b t
  |str b=>obtain⟨t,rfl⟩:=rx;exact SeqAt.EqAt.int_str a t' b t
  |_=>exact absurd (show false=true from fx) Bool.false_ne_true
 |str a=>
  obtain⟨t',rfl⟩:=ry
  cases x with
  |aW=>cases rx;exact SeqAt.EqAt.str_none a t'
  |bl b=>cases rx;exact SeqAt.EqAt.str_bool a t' b
  |int b=>obtain⟨t,rfl⟩:=rx;exact SeqAt.EqAt.str_int a t' b t
  |str b=>obtain⟨t,rfl⟩:=rx;exact SeqAt.EqAt.str_str a t' b t
  |_=>exact absurd (show false=true from fx) Bool.false_ne_true
 |_=>exact absurd (show false=true from fy) Bool.false_ne_true
noncomputable def xB (x:V) (u:Value):Bool:=match u with
 | .none=>sx .aW x
 | .bool b=>sx (.bl b) x
 | .int i _=>sx (.int i) x
 | .str z _=>sx (.str z) x
 |_=>false
theorem CL {x y:V} {u:Value} (r:RelV y u) (f:d9 y=true):xB x u=sx y x:=by
 cases y with
 |aW=>cases r;rfl
 |bl b=>cases r;rfl
 |int i=>obtain⟨t,rfl⟩:=r;rfl
 |str z=>obtain⟨t,rfl⟩:=r;rfl
 |_=>exact absurd (show false=true from f) Bool.false_ne_true
theorem m6 {x:V}: ∀ {xs:List V} {us:List Value},Vals xs us→xs.all d9=true→us.any (xB x)=xs.any fun y=>sx y x
 |_,_,.nil,_=>rfl
 |y::xs,u::us,.cons r t,f=>by
  rw[List.all_cons,Mo] at f
  rw[List.any_cons,List.any_cons,CL r f.1,m6 t f.2]
theorem kE {A:Around} {s:Shared} {x:V} {v:Value} (rx:RelV x v) (fx:d9 x=true): ∀ {xs:List V} {us:List Value},Vals xs us→xs.all d9=true→∀ u∈us,SeqAt.EqAt A s u v (xB x u)
 |_,_,.nil,_=>fun u hu=>by cases hu
 |y::xs,u::us,.cons r t,f=>fun u' hu=>by
  rw[List.all_cons,Mo] at f
  rcases LU.mp hu with rfl|hu
  ·rw[CL r f.1];exact CN r rx f.1 fx
  ·exact kE rx fx t f.2 u' hu
noncomputable def J9 (x:V) (xs:List V):Bool:=xs.any fun y=>sx y x
noncomputable def KA (K:Frag) (neg:Bool):R2:=fun x y H Q=> ∃ p xs,y= .ref p∧(cQ K H p xs∨fM K H p xs)∧d9 x=true∧xs.all d9=true∧Q (.bl (if neg then !J9 x xs else J9 x xs)) H
theorem zV:fT X (compareOp .In) (KA X.K false):=by
 intro pins s σ H x y v u Q I rx ry h
 obtain⟨p,xs,rfl,hq,fx,fs,q⟩:=h
 cases ry
 rcases hq with hq|hq
 ·obtain⟨its,r,pl,hz⟩:=I.list hq
  refine SeqAt.in_listAt (xB x) pl.isList (fun w hw=>kE rx fx r fs w (by simpa using hw)) ⟨.bl _,H,I,rfl,?_⟩
  rw[show its.toArray.any (xB x)=its.any (xB x) by simp,m6 r fs]
  exact q
 ·obtain⟨its,r,pl,hz⟩:=I.tuple hq
  refine SeqAt.in_tupleAt (xB x) pl (fun w hw=>kE rx fx r fs w (by simpa using hw)) ⟨.bl _,H,I,rfl,?_⟩
  rw[show its.toArray.any (xB x)=its.any (xB x) by simp,m6 r fs]
  exact q
theorem tI:fT X (compareOp .NotIn) (KA X.K true):=by
 intro pins s σ H x y v u Q I rx ry h
 obtain⟨p,xs,rfl,hq,fx,fs,q⟩:=h
 cases ry
 rcases hq with hq|hq
 ·obtain⟨its,r,pl,hz⟩:=I.list hq
  refine SeqAt.notIn_listAt (xB x) pl.isList (fun w hw=>kE rx fx r fs w (by simpa using hw)) ⟨.bl _,H,I,rfl,?_⟩
  rw[show its.toArray.any (xB x)=its.any (xB x) by simp,m6 r fs]
  exact q
 ·obtain⟨its,r,pl,hz⟩:=I.tuple hq
  refine SeqAt.notIn_tupleAt (xB x) pl (fun w hw=>kE rx fx r fs w (by simpa using hw)) ⟨.bl _,H,I,rfl,?_⟩
  rw[show its.toArray.any (xB x)=its.any (xB x) by simp,m6 r fs]
  exact q
theorem tH:fT X (compareOp .NotIn) (fun x y H Q=> ∃ i j,x= .str i∧y= .str j∧Q (.bl (!(!(Builtin.Str.occurrences j i 0 j.length 1).isEmpty))) H):=by
 intro pins s σ H x y v u Q I rx ry h
 obtain⟨i,j,rfl,rfl,q⟩:=h
 obtain⟨t,rfl⟩:=rx
 obtain⟨t',rfl⟩:=ry
 exact notIn_str ⟨.bl _,H,I,rfl,q⟩
theorem dN:iy X (.type "tuple") (fun xs H Q=> ∃ p ys,xs=[.ref p]∧((cQ X.K H p ys∧∀ l,H l=none→Q (.ref l) (upd H l (.tup ys)))∨(fM X.K H p ys∧Q (.ref p) H))):=by
 intro pins s σ H xs us Q I r h
 obtain⟨p,ys,rfl,h⟩:=h
 obtain⟨u,rfl,rx⟩:=vals1 r
 cases rx
 rcases h with⟨hq,q⟩|⟨hq,q⟩
 ·obtain⟨its,r',pl,hz⟩:=I.list hq
  have hlen:=r'.length
  refine call_tuple_list pl.isList (fun h' kp=>?_) (by simp only[LO]<;>lia)
  have I1:Inv X pins σ H {s with heap:=h'}:=I.kept (t':=s.toks) kp
  have I2:Inv X pins σ (upd H h'.objs.size (.tup ys)) {s with heap:=h'.push {cls:=.type "tuple",data:=.seq its.toArray}}:=
   I1.laid (t':=s.toks) (fun b o e=>LL _ e) (LQ _) (show dz X.prog X.w _ _ _ (.tup ys) from⟨hz,its,r',IsTup.new _ _⟩)
  exact⟨.ref h'.objs.size,_,I2,rfl,q _ (I1.bE.fresh (LQ _))⟩
 ·obtain⟨its,r',pl,hz⟩:=I.tuple hq
  exact call_tuple_same pl ⟨.ref p,H,I,rfl,q⟩
def Ko (K:Frag) (T:String) (x:V) (H:Hp):Prop:=match x with
 | .str _=>T="str"
 | .int _=>T="int"
 | .ref p=>(T="list"∧∃ xs,cQ K H p xs)∨(T="tuple"∧∃ o,K.lookup p=some o∧o.cls= .type "tuple"∧o.dict=none)∨
   (T="dict"∧((∃ kvs,Rd H p (.dK kvs))∨∃ kvs,H p=some (.dT kvs)))∨(T="set"∧∃ S n,H p=some (.set S n))
 |_=>False
theorem Ge {pins:List (Addr×Obj)} {σ:St} {H:Hp} {s:Shared} {T:String} {x:V} {v:Value} (I:Inv X pins σ H s) (r:RelV x v) (ty:Ko X.K T x H):
  s.TypeIs v T∧∀ a,v= .ref a→∃ ob,s.heap.get? a=some ob∧ob.dict=none:=by
 cases x with
 |str z=>
  obtain⟨t,rfl⟩:=r
  cases (show T="str" from ty)
  exact⟨typeIs_str s z t,fun _ e=>nomatch e⟩
 |int i=>
  obtain⟨t,rfl⟩:=r
  cases (show T="int" from ty)
  exact⟨typeIs_int s i t,fun _ e=>nomatch e⟩
 |ref p=>
  cases r
  rcases ty with⟨rfl,xs,hq⟩|⟨rfl,o,hk,hc,hd⟩|⟨rfl,hk⟩|⟨rfl,S,n,hk⟩
  ·obtain⟨its,_,pl,_⟩:=I.list hq
   refine⟨pl.isList.typeIs,fun a e=>?_⟩
   cases e
   obtain⟨o,n,e,c,hd,_⟩:=pl
   exact⟨o,e,hd⟩
  ·refine⟨⟨o,I.Ic p o hk,hc⟩,fun a e=>?_⟩
   cases e
   exact⟨o,I.Ic _ o hk,hd⟩
  ·have z: ∃ o,s.heap.get? p=some o∧o.ExactDict:=by
    rcases hk with⟨kvs,hk⟩|⟨kvs,hk⟩
    ·obtain⟨_,_,_,_,o,_,_,e,ex,_⟩:=hk.ok I.bE
     exact⟨o,e,ex⟩
    ·obtain⟨_,_,_,_,o,_,_,e,ex,_⟩:=I.bE p _ hk
     exact⟨o,e,ex⟩
   obtain⟨o,e,ex⟩:=z
   refine⟨⟨o,e,ex.1⟩,fun a e2=>?_⟩
   cases e2
   exact⟨o,e,ex.2.1⟩
  ·obtain⟨o,_,_,_,e,ex,_⟩:=I.bE p _ hk
   refine⟨⟨o,e,ex.1⟩,fun a e2=>?_⟩
   cases e2
   exact⟨o,e,ex.2.1⟩
 |_=>exact False.elim ty
noncomputable def IA (K:Frag) (T:String) (r:V→List V→Hp→VK→Prop) (to:TE) (t:TA):TE:=fun σ H Q=>to σ H fun x H1=>Ko K T x H1∧t σ H1 fun xs H2=>r x xs H2 Q
variable {o e:Expr} {es:List Expr} {to:TE} {t:TA} {name:Str} {apos cpos:Pos} {T id:String} {r:V→List V→Hp→VK→Prop}
theorem Jd (pa:PlainAttrs T) (slot:Slot T name id) (hty:typeOf (.builtin id)=pure (.type "method_descriptor")) (hm:Lg X id r) (ho:PE X o to) (ha:PA X (e::es) t)
  (hbase:attributeBase o name X.env (eval o X.env)=eval o X.env:=by rfl)
  (hfew:((backTo cpos (starEach (e::es) X.env)).all (fun x=>!x.1)&&(backToKw cpos (keywordEach [] X.env)).all (fun x=>x.1.isSome)
   &&decide ((e::es).length+([]:List Keyword).length+(if([]:List Keyword).isEmpty then 0 else 1) < 30))=true:=by rfl)
  (hline:(apos.endLine==cpos.line)=true:=by rfl) (hs:starEach (e::es) X.env=(false,eval e X.env)::starEach es X.env:=by rfl) (hplain:(backTo cpos (starEach es X.env)).any (·.1)=false:=by rfl):
  PE X (.Call (.Attribute o name apos) (e::es) [] cpos) (IA X.K T r to t):=by
 intro pins s σ H Q I h
 refine wpAny_Call_method_late hbase hfew hline rfl (bN (ho pins s σ H _ I h) fun v s1 ⟨x,H1,I1,r1,ty,q1⟩=>?_)
 obtain⟨h1,h2⟩:=Ge I1 r1 ty
 refine⟨T,id,pa,slot,hty,h1,h2,?_⟩
 have hA:=ha cpos pins s1 σ H1 _ I1 q1
 rw[hs] at hA ⊢
 refine Calls.callWith_builtin (by show (false||(backTo cpos (starEach es X.env)).any (·.1))=false;rw[hplain]<;>rfl) (Calls.evalArgs_plain ?_)
 exact bN hA fun us s2 ⟨vs,H2,I2,r2,q2⟩=>hm pins s2 σ H2 x vs v us Q I2 r1 r2 q2
end
end L2
namespace L2
open PySem PySem.Spec PyProof.Rows
def JQ (X:Cx) (id:String) (r:V→List V→Hp→VK→Prop):Prop:=
 ∀ (pins:List (Addr×Obj)) (s:Shared) (σ:St) (H:Hp) (x:V) (xs:List V) (v:Value) (us:List Value) (Q:VK),Inv X pins σ H s→RelV x v→Vals xs us→r x xs H Q→
  wpAny (model X.prog X.w) X.A (call (.builtin id) (v::us)) (EP X pins σ Q) X.xe s
theorem Vals.one: ∀ {x:V} {us:List Value},Vals [x] us→∃ u,us=[u]∧RelV x u
 |_,_,.cons r .nil=>⟨_,rfl,r⟩
theorem Vals.rep {xs:List V} {us:List Value} (h:Vals xs us): ∀ k:Nat,Vals (List.replicate k xs).flatten (List.replicate k us).flatten
 |0=>.nil
 |k+1=>by
  rw[List.replicate_succ,List.replicate_succ,List.flatten_cons,List.flatten_cons]
  exact Vals.append h (Vals.rep h k)
theorem foldl_rep (its:List Value): ∀ (k:Nat) (acc:List Value),
  List.foldl (fun x1 x2=>x1++x2) acc.toArray (List.replicate k its.toArray)=(acc++(List.replicate k its).flatten).toArray
 |0,acc=>by simp
 |k+1,acc=>by
  have e:acc.toArray++its.toArray=(acc++its).toArray:=by simp
  have e2:(acc++its)++(List.replicate k its).flatten=acc++(List.replicate (k+1) its).flatten:=by
   rw[List.replicate_succ,List.flatten_cons,List.append_assoc]
  rw[←e2,←foldl_rep its k (acc++its),←e,List.replicate_succ,List.foldl_cons]
section
variable {X:Cx} {pins:List (Addr×Obj)} {σ:St} {H:Hp} {s:Shared} {l b:Addr} {xs ys zs:List V}
theorem Inv.Ac {its its':List Value} {n:Nat} {f:Array Value→Array Value} {t':Nat} (I:Inv X pins σ H s) (hH:H l=some (.lst xs))
  (e:s.heap.get? l=some {cls:=.type "list",data:=.seq its.toArray n}) (hf:f its.toArray=its'.toArray) (hv:Vals ys its') (hz:ys.length≤sizeLine):
  Inv X pins σ (upd H l (.lst ys)) {s with heap:=s.heap.update l (Obj.mapSeq f),toks:=t'}:=by
 have q:=PySem.IsL.update e f
 rw[hf] at q
 refine I.write (x:=l) (e:=l) (by rw[hH];exact trivial) (.inl rfl) (fun b' u hb hu=>(Heap.get?_update_other s.heap (Obj.mapSeq f) (Ne.symm hb)).trans hu) ⟨_,q⟩ ?_
 exact⟨hz,its',_,hv,q⟩
theorem Inv.Cj {its:List Value} {t':Nat} (I:Inv X pins σ H s) (hv:Vals ys its) (hz:ys.length≤sizeLine):
  Inv X pins σ (upd H s.heap.objs.size (.lst ys)) {s with heap:=s.heap.push {cls:=.type "list",data:=.seq its.toArray},toks:=t'}:=
 I.laid (fun _ _ q=>LL _ q) (LQ _) ⟨hz,its,0,hv,LY _ rfl⟩
theorem Inv.fresh (I:Inv X pins σ H s):H s.heap.objs.size=none:=I.bE.fresh (LQ _)
theorem Inv.lD (I:Inv X pins σ H s) (hH:H l=some (.lst xs)):xs.length≤sizeLine∧∃ (its:List Value) (n:Nat),Vals xs its∧xs.length=its.length∧s.heap.get? l=some {cls:=.type "list",data:=.seq its.toArray n}:=by
 obtain⟨z,its,n,r,e⟩:=I.bE l _ hH
 exact⟨z,its,n,r,r.length,e⟩
theorem vd {n:Nat} (h:n≤sizeLine):Builtin.List.listTooLong n=false:=by
 unfold Builtin.List.listTooLong
 exact Mb (by lia)
end
section
variable {X:Cx}
def yx:V→List V→Hp→VK→Prop:=fun x vs H Q=> ∃ l xs y,x= .ref l∧vs=[y]∧H l=some (.lst xs)∧xs.length < sizeLine∧Q .aW (upd H l (.lst (xs++[y])))
theorem cD:JQ X "list.append" yx:=by
 intro pins s σ H x vs v us Q I rx rv h
 obtain⟨l,xs,y,rfl,rfl,hH,hz,q⟩:=h
 cases rx
 obtain⟨u,rfl,ru⟩:=rv.one
 obtain⟨z,its,n,r,hl,e⟩:=I.lD hH
 refine call_meets F.slot_list_append ⟨_,e,rfl⟩ F.entry_list_append (F.args_list_append_2 _ _) (PySem.list_append l its.toArray n u (by rw[LO];lia)) ⟨e,?_⟩
 refine⟨.aW,_,I.Ac (its':=its++[u]) hH e (by simp) (r.append (.cons ru .nil)) ?_,rfl,q⟩
 rw[Mc,List.length_singleton]
 lia
def yw:V→List V→Hp→VK→Prop:=fun x vs H Q=> ∃ l b xs zs,x= .ref l∧vs=[.ref b]∧H l=some (.lst xs)∧H b=some (.lst zs)∧xs.length+zs.length≤sizeLine∧Q .aW (upd H l (.lst (xs++zs)))
theorem zZ:JQ X "list.extend" yw:=by
 intro pins s σ H x vs v us Q I rx rv h
 obtain⟨l,b,xs,zs,rfl,rfl,hH,hB,hz,q⟩:=h
 cases rx
 obtain⟨u,rfl,ru⟩:=rv.one
 cases ru
 obtain⟨z,its,n,r,hl,e⟩:=I.lD hH
 obtain⟨z2,its2,n2,r2,hl2,e2⟩:=I.lD hB
 have hsz:its.toArray.size+its2.toArray.size≤sizeLine:=by rw[LO,LO];lia
 have hlong: ¬ (!its.toArray.isEmpty&&Builtin.List.listTooLong (its.toArray.size+its2.toArray.size))=true:=by
  rw[vd hsz,Bool.and_false]
  exact Bool.false_ne_true
 refine call_meets F.slot_list_extend ⟨_,e,rfl⟩ F.entry_list_extend (F.args_list_extend_2 _ _)
  (AutoSeq1.list_extend_list_list_0 l its.toArray n b its2.toArray n2 hlong (by rw[LO];lia) (by lia)) ⟨e,e2,?_⟩
 refine⟨.aW,_,I.Ac (its':=its++its2) hH e (by simp) (r.append r2) ?_,rfl,q⟩
 rw[Mc]
 lia
noncomputable def GC:R2:=fun x y H Q=> ∃ l b xs zs,x= .ref l∧y= .ref b∧H l=some (.lst xs)∧H b=some (.lst zs)∧xs.length+zs.length≤sizeLine∧∀ p,H p=none→Q (.ref p) (upd H p (.lst (xs++zs)))
theorem xg:fT X (binaryOp .Add) GC:=by
 intro pins s σ H x y v u Q I rx ry h
 obtain⟨l,b,xs,zs,rfl,rfl,hH,hB,hz,q⟩:=h
 cases rx
 cases ry
 obtain⟨z,its,n,r,hl,e⟩:=I.lD hH
 obtain⟨z2,its2,n2,r2,hl2,e2⟩:=I.lD hB
 refine PySem.P.add_list e e2 ?_ (by rw[LO,LO];lia)
 have ea:its.toArray++its2.toArray=(its++its2).toArray:=by simp
 rw[ea]
 exact⟨.ref _,_,I.Cj (t':=s.toks) (r.append r2) (by rw[Mc];lia),rfl,q _ I.fresh⟩
noncomputable def IT:R2:=fun x y H Q=> ∃ l k xs,x= .ref l∧y= .int k∧H l=some (.lst xs)∧-(2 ^ 63)≤k∧k < 2 ^ 63∧xs.length * k.toNat≤sizeLine∧
 ∀ p,H p=none→Q (.ref p) (upd H p (.lst (List.replicate k.toNat xs).flatten))
theorem len_rep {α:Type} (xs:List α) (k:Nat):(List.replicate k xs).flatten.length=k * xs.length:=by
 induction k with
 |zero=>simp
 |succ k ih=>rw[List.replicate_succ,List.flatten_cons,Mc,ih,Nat.succ_mul,Nat.add_comm]
theorem GW:fT X (binaryOp .Mult) IT:=by
 intro pins s σ H x y v u Q I rx ry h
 obtain⟨l,k,xs,rfl,rfl,hH,h1,h2,hz,q⟩:=h
 cases rx
 obtain⟨t,rfl⟩:=ry
 obtain⟨z,its,n,r,hl,e⟩:=I.lD hH
 have hlen:its.toArray.size * k.toNat≤sizeLine:=by rw[LO,←hl];exact hz
 have hcap: ¬ its.toArray.size * k.toNat > (2 ^ 63 - 1) / 8:=by
  have:(sizeLine:Nat)≤(2 ^ 63 - 1) / 8:=by decide
  lia
 have hfit: ¬ (!Builtin.List.listFitsIndex k)=true:=by
  rw[fitsIndex_both h1 h2]
  exact Bool.false_ne_true
 have hlong: ¬ Builtin.List.listTooLong (its.toArray.size * k.toNat)=true:=by
  rw[vd hlen]
  exact Bool.false_ne_true
 have hnew:List.foldl (fun x1 x2=>x1++x2) #[] (List.replicate (if its.toArray.isEmpty=true then 0 else k.toNat) its.toArray)=(List.replicate k.toNat its).flatten.toArray:=by
  have f0: ∀ m:Nat,List.foldl (fun x1 x2=>x1++x2) #[] (List.replicate m its.toArray)=(List.replicate m its).flatten.toArray:=fun m=>by
   have:=foldl_rep its m []
   rw[List.nil_append] at this
   exact this
  rw[f0]
  cases its with
  |nil=>simp
  |cons a r'=>rw[MA (by simp)]
 refine wpAny_binaryOp_repeat_ref (T:="list") (U:="int") (by decide) ⟨_,e,rfl⟩ (fun s'=>typeIs_int s' k t) noFill_list_mul F.fills_int_mul F.slot_int_rmul repeat_list F.slot_int_index.lookup
  (call_meets F.slot_int_rmul (typeIs_int s k t) F.entry_int_rmul (F.args_int_rmul_2 _ _) (int___rmul___int_list k t l its.toArray n)
   ⟨e,rfl,⟨_,e,rfl⟩,call_meets F.slot_list_mul ⟨_,e,rfl⟩ F.entry_list_mul (F.args_list_mul_2 _ _) (AutoListH.list___mul___list_int_3 l its.toArray n k t hfit hcap hlong) ⟨e,?_⟩⟩)
 rw[hnew]
 exact⟨.ref _,_,I.Cj (t':=s.toks) (r.rep k.toNat) (by rw[len_rep,Nat.mul_comm];exact hz),rfl,q _ I.fresh⟩
end
end L2
namespace Att
open PySem PySem.W PySem.Calls PyProof.Rows
theorem oZ {P:Params} {h:Heap}: ∀ (ns:List Int) (vs:List Value),WellAll P h vs (ns.map WData.int)→IntsAre vs ns:=by
 intro ns
 induction ns with
 |nil=>
  intro vs w
  rw[List.map_nil] at w
  cases w
  exact .nil
 |cons n ns ih=>
  intro vs w
  rw[LS] at w
  cases w with
  |cons a b=>
   cases a
   exact .cons _ _ (ih _ b)
theorem zH {l:OpenLaw} {n:Nat} (hn:l.most=some n) {P:Params} {h:Heap} {args:List WData} {vals:List Value}
  (hpre:l.row.toRowW.claim.pre args=true) (hwl:WellAll P h vals args):
  ∃ a vs ns,vals=[Value.ref a]∧args=[WData.list (ns.map WData.int)]∧h.get? a=some {cls:=.type "list",data:=.seq vs.toArray}∧IntsAre vs ns∧ns.length≤n:=by
 have hsh:WShape.hasAll [] args [.list .int]=true:=(pre_splitW hpre).1
 have hc:l.pre.holds [] {args:=args}=true:=(pre_splitW hpre).2
 obtain⟨d,r,rfl,h1,h2⟩:=hasAllW_cons hsh
 obtain rfl:=hasAllW_nil h2
 obtain⟨xs,rfl,h3⟩:=hasW_list h1
 obtain⟨ns,rfl⟩:=items_int h3
 have hlen:ns.length≤n:=by
  unfold OpenLaw.pre at hc
  have h4:(WTm.not (.lt (.lit (.int (n:Int))) (.len (.arg 0)))).holds [] {args:=[.list (ns.map .int)]}=true:=by
   have h4:=(holds_andW hc).1
   rw[hn] at h4
   exact h4
  have h5:=condW_of h4 (w_not (w_lt w_lit (w_len_list (w_arg rfl))))
  rw[LK] at h5
  refine Nat.le_of_not_lt fun q=>?_
  have q':(n:Int) < ((ns.length:Nat):Int):=by lia
  first
   |(rw[decide_eq_true q'] at h5;exact absurd h5 (by decide))
   |(simp at h5;lia)
 cases hwl with
 |cons w1 w2=>
  cases w2
  cases w1 with
  |list ho hall=>exact⟨_,_,ns,rfl,rfl,ho,oZ ns _ hall,hlen⟩
theorem zL (l:OpenLaw) (args:List WData):l.row.toRowW.claim.post args (.bool true) args=true:=
 postW_of (r:=l.row.toRowW) (X:=(true==true))
  (show WShape.has [] (.bool true) .bool=true by first|rfl|decide|simp[WShape.has,WShape.arms,WShape.armsAll])
  (show (WTm.eq .res (.lit (.bool true))).value [] {args:=args,res:=some (.bool true),after:=args}=some (.bool (true==true)) from w_eq_bool (w_res rfl) w_lit) rfl
theorem we {l:OpenLaw} {n:Nat} {q:Program} {loose:List Str} {XP:(Str→Option Value)→Heap→Prop} {YP:World→Heap→Prop} {d:DefRec}
  (hn:l.most=some n) (hdf:d.params.defaults=[])
  (call: ∀ (w:World) (s₀ s₁:Shared) (mg mb:Str→Option Value) (fa:Addr) (o:Obj) (pm cd doc:Value) (a:Addr) (vs:List Value) (ns:List Int),
   Ground q loose [] XP w s₀ mg mb s₁.heap→YP w s₁.heap→
   s₁.heap.get? fa=some o→o.data= .func (docDef d.name d.params d.body d.scope pm cd doc)→s₁.heap.CodeRec cd d.name→mg d.name=some (.ref fa)→
   s₁.heap.get? a=some {cls:=.type "list",data:=.seq vs.toArray}→IntsAre vs ns→ns.length≤n→s₁.gens= #[]→
   codeAny (model l.prog w) callerA (.call (.ref fa) ⟨[.ref a],[]⟩) (fun r s'=>r= .ok (.ret (.bool true))∧OldK s₁.heap s'.heap∧s'.os=s₁.os∧AllBare s'.gens) s₁):
  WalkO q loose XP YP l.row.toRowW d [] (fun f vs=>PySem.call f vs):=by
 intro w s₀ s₁ mg mb G Y fa o pm cd doc dV kV ho hd hcd hD hmg hg args vals as hpre hlay hrd hwl hlo
 obtain rfl:dV= .none:=Dflts.none hD hdf
 obtain rfl:kV= .none:=Dflts.noKw hD
 obtain⟨a,vs,ns,rfl,rfl,hobj,hints,hlen⟩:=zH hn hpre hwl
 refine enter_call (codeAny_mono (call w s₀ s₁ mg mb fa o pm cd doc a vs ns G Y ho (fd_plain hd) hcd hmg hobj hints hlen hg) fun r s' hq=>?_)
 obtain⟨rfl,h2,h3,h4⟩:=hq
 exact⟨.inl ⟨.bool true,.bool true,[],rfl,fun _=>rfl,.bool true,zL l _,fun _=>⟨List.Pairwise.nil,fun _ hm=>(nomatch hm)⟩⟩,h2,h3,h4⟩
end Att
namespace L2
open PySem PySem.Spec PyProof.Rows
theorem kT: ∀ {vs:List Value} {ns:List Int},IntsAre vs ns→Vals (ns.map V.int) vs
 |_,_,.nil=>.nil
 |_,_,.cons n t h=>.cons ⟨t,rfl⟩ (kT h)
end L2
namespace L2
open PySem PySem.Spec PyProof.Rows
end L2
namespace L2
open PySem PySem.Spec PyProof.Rows
noncomputable def aR (s:Stmt):Arguments:=match s with
 | .FunctionDef _ a _ _ _ _ _ _ _ _=>a
 |_=>{posonlyargs:=[],args:=[],vararg:=none,kwonlyargs:=[],kw_defaults:=[],kwarg:=none,defaults:=[]}
noncomputable def aw (s:Stmt):List Stmt:=match s with
 | .FunctionDef _ _ b _ _ _ _ _ _ _=>b
 |_=>[]
noncomputable def ae (s:Stmt):Scope:=match s with
 | .FunctionDef _ _ _ _ _ _ sc _ _ _=>sc
 |_=>{kind:=.function,names:=[],isGenerator:=false,isCoroutine:=false}
noncomputable abbrev fS:AF:=fun _ _ _ _ _ _=>False
noncomputable abbrev E0:XK:=fun _ _ _=>False
theorem aJ {X:Cx}:Passes fS X E0:=fun _ _ _ _ _ _ _ h=>h.elim
set_option genInjectivity false in
structure Fj (K:Frag) (x qual:Str) (st:Stmt) (f:Addr) (fd:FuncData):Prop where
 ex: ∃ (oc:Value) (od:Option Addr) (kV doc pm:Value) (an:Option Addr) (cdv ct:Value) (osl:Array (Option Value)),
  fd=fnOf x qual (aR st) (aw st) (ae st) .none kV doc pm an cdv ct∧K.lookup f=some ⟨oc,od,.func fd,osl⟩∧codeIn K cdv qual=true
 kp:keepIn K (.ref f)=true
section
variable {P:Program} {w:World} {K:Frag} {mg:Str→Option Value} {base:Heap}
theorem Fj.ok {x qual:Str} {st:Stmt} {f:Addr} {fd:FuncData} {N ps:List Str} {k:Nat} {sp:Sp} (F:Fj K x qual st f fd) (S:aI N ps (ae st)) (len: ∀ vs H Q E,sp vs H Q E→vs.length=ps.length)
  (hbody: ∀ (cdv:Value) (A:Around) (outer:List Env) (s:Shared) (H:Hp) (vs:List V) (Q:VK) (E:XK),eV k (A.deeper (envOfC qual (ae st) s.heap.objs.size f cdv))→sp vs H Q E→
   ∃ t,wy (jO fS P w K mg base N qual (ae st) f cdv A outer s H E).tU (aw st) t∧t {nx:=fun _ H'=>Q .aW H',rt:=Q} (start N vs) H):bL P w K mg base fS (k+1) f fd ps sp:=by
 obtain⟨oc,od,kV,doc,pm,an,cdv,ct,osl,rfl,lk,hcd⟩:=F.ex
 refine FQ lk hcd S len fun A outer s H vs Q E hr hsp=>?_
 obtain⟨t,h,q⟩:=hbody cdv A outer s H vs Q E hr hsp
 exact⟨t,h.tU,q⟩
theorem Fj.binds {x qual:Str} {st:Stmt} {f:Addr} {fd:FuncData} {ps:List Str} (F:Fj K x qual st f fd)
  (h: ∀ (kV doc pm:Value) (an:Option Addr) (cdv ct:Value) (us:List Value),us.length=ps.length→bindArgs (fnOf x qual (aR st) (aw st) (ae st) .none kV doc pm an cdv ct) ⟨us,[]⟩=pure (ps.zip us)):Binds K fd ps []:=by
 obtain⟨oc,od,kV,doc,pm,an,cdv,ct,osl,rfl,lk,hcd⟩:=F.ex
 exact .all (h kV doc pm an cdv ct)
theorem bx {x qual:Str} {st:Stmt} {f:Addr} {oc:Value} {od an:Option Addr} {osl:Array (Option Value)} {kV doc pm cdv ct:Value} (l:K.lookup f=some ⟨oc,od,.func (fnOf x qual (aR st) (aw st) (ae st) .none kV doc pm an cdv ct),osl⟩)
  (c:codeIn K cdv qual=true) (k:keepIn K (.ref f)=true):Fj K x qual st f (fnOf x qual (aR st) (aw st) (ae st) .none kV doc pm an cdv ct):=⟨⟨oc,od,kV,doc,pm,an,cdv,ct,osl,rfl,l,c⟩,k⟩
end
theorem r9 {A:Around} {k:Nat} (hr:eV k A):A.units+1 < cLine:=Nat.lt_of_le_of_lt (Nat.add_le_add_left (by decide:1≤64) _) hr.units
section
variable {X:Cx}
theorem pv (i:Nat) {x:Str} {pos:Pos} (hN:X.N[i]?=some x:=by rfl) (hv:Ii X.env.scope x:=by first|exact Or.inl rfl|exact Or.inr (Or.inl rfl)|exact Or.inr (Or.inr rfl)) (hd:(x==("__debug__":Str))=false:=by decide)
  (hcd:(x==("__classdict__":Str))=false:=by decide):PE X (.Name x pos) (oW i):=BN hN hv hd hcd
end
theorem Hl {c A B:Prop} [Decidable c] (h1:c→A) (h2: ¬ c→B):if c then A else B:=by
 by_cases h:c
 ·rw[Mz h]
  exact h1 h
 ·rw[MA h]
  exact h2 h
def gq (H H':Hp):Prop:= ∀ b o,H b=some o→H' b=some o
theorem gq.trans {H H1 H2:Hp} (a:gq H H1) (b:gq H1 H2):gq H H2:=fun c o h=>b c o (a c o h)
theorem gq.seq {K:Frag} {H H':Hp} {a:Addr} {xs:List V} (e:gq H H') (h:cQ K H a xs):cQ K H' a xs:=by
 rcases h with(h|⟨o,h⟩)|h
 ·exact .inl (.inl (e _ _ h))
 ·exact .inl (.inr ⟨o,e _ _ h⟩)
 ·exact .inr h
end L2
end
namespace L2
section
variable {κ:Type} [DecidableEq κ]
noncomputable def mj (kvs:List (κ×V)) (k:κ):Option V:=(kvs.find? fun kv=>decide (kv.1=k)).map (·.2)
noncomputable def putK (kvs:List (κ×V)) (k:κ) (v:V):List (κ×V):=
 if(kvs.any fun kv=>decide (kv.1=k))=true then kvs.map (fun kv=>if kv.1=k then(kv.1,v) else kv) else kvs++[(k,v)]
theorem lZ {p:κ×V} {r:List (κ×V)} {k:κ} (e:p.1=k):mj (p::r) k=some p.2:=by simp[mj,List.find?_cons,e]
theorem mf {p:κ×V} {r:List (κ×V)} {k:κ} (e: ¬ p.1=k):mj (p::r) k=mj r k:=by simp[mj,List.find?_cons,e]
theorem uw (k:κ): ∀ kvs:List (κ×V),(kvs.any fun kv=>decide (kv.1=k))=(mj kvs k).isSome
 |[]=>rfl
 |p::r=>by
  rw[List.any_cons]
  by_cases e:p.1=k
  ·simp only[lZ e,decide_eq_true e,Bool.true_or,Option.isSome_some]
  ·rw[mf e,Mb e,Bool.false_or];exact uw k r
theorem oG (kvs:List (κ×V)) (k:κ) (v:V):(putK kvs k v).length≤kvs.length+1:=by
 unfold putK
 split
 ·rw[LK];lia
 ·rw[Mc,LX,List.length_nil];lia
theorem rq.nU {o:Option V} {u:Option Value} (r:rq o u):o.isSome=u.isSome:=by
 cases o with
 |none=>cases u with
  |none=>rfl
  |some _=>exact(show False from r).elim
 |some _=>cases u with
  |none=>exact(show False from r).elim
  |some _=>rfl
theorem KV.val {kvs:List (κ×V)} {vs:List (κ×Value)} (r:KV kvs vs) (k:κ):rq (mj kvs k) (valueAt vs k):=by
 unfold KV at r
 induction r with
 |nil=>exact True.intro
 | @cons p q ps qs h t ih=>
  obtain⟨h1,h2⟩:=h
  by_cases e:p.1=k
  ·have e':q.1=k:=h1.symm.trans e
   have b:valueAt (q::qs) k=some q.2:=by simp[valueAt,List.find?_cons,e']
   rw[lZ e,b];exact h2
  ·have e': ¬ q.1=k:=fun z=>e (h1.trans z)
   have b:valueAt (q::qs) k=valueAt qs k:=by simp[valueAt,List.find?_cons,e']
   rw[mf e,b];exact ih
theorem KV.any {kvs:List (κ×V)} {vs:List (κ×Value)} (r:KV kvs vs) (k:κ):(kvs.any fun kv=>decide (kv.1=k))=vs.any fun kv=>decide (kv.1=k):=by
 unfold KV at r
 induction r with
 |nil=>rfl
 |cons h t ih=>rw[List.any_cons,List.any_cons,ih,h.1]
theorem KV.wQ {kvs:List (κ×V)} {vs:List (κ×Value)} (r:KV kvs vs) (k:κ) {y:V} {u:Value} (ry:RelV y u):
  KV (kvs.map fun kv=>if kv.1=k then(kv.1,y) else kv) (vs.map fun kv=>if kv.1=k then(kv.1,u) else kv):=by
 unfold KV at r ⊢
 induction r with
 |nil=>exact .nil
 | @cons p q ps qs h t ih=>
  rw[LS,LS]
  refine .cons ?_ ih
  obtain⟨h1,h2⟩:=h
  by_cases e:p.1=k
  ·rw[Mz e,Mz (h1.symm.trans e)];exact⟨h1,ry⟩
  ·rw[MA e,MA (fun z=>e (h1.trans z))];exact⟨h1,h2⟩
theorem KV.put {kvs:List (κ×V)} {vs:List (κ×Value)} (r:KV kvs vs) (k:κ) {y:V} {u:Value} (ry:RelV y u):KV (putK kvs k y) (stored vs k u):=by
 unfold putK stored
 rw[r.any k]
 by_cases e:(vs.any fun kv=>decide (kv.1=k))=true
 ·rw[Mz e,Mz e];exact r.wQ k ry
 ·rw[MA e,MA e];exact Paired.snoc r ⟨rfl,ry⟩
theorem KV.keys {kvs:List (κ×V)} {vs:List (κ×Value)} (r:KV kvs vs):kvs.map (·.1)=vs.map (·.1):=by
 unfold KV at r
 induction r with
 |nil=>rfl
 |cons h t ih=>rw[LS,LS,ih,h.1]
theorem KV.length {kvs:List (κ×V)} {vs:List (κ×Value)} (r:KV kvs vs):kvs.length=vs.length:=Paired.length r
end
theorem yI {P:Program} {w:World} {k:Key} {u:Value} (r:RelV (kV k) u):(bC P w).is k u=true:=by
 cases k with
 |inl i=>obtain⟨t,e⟩:=(show ∃ t,u=Value.int i t from r);subst e;exact vm P w i t
 |inr x=>obtain⟨t,e⟩:=(show ∃ t,u=Value.str x t from r);subst e;exact vk P w x t
theorem rZ {P:Program} {w:World}: ∀ {ks:List Key} {us:List Value},Vals (ks.map kV) us→ItemsAre (bC P w) ks us
 |[],_,r=>by rw[List.map_nil] at r;cases r;exact .nil
 |k::ks,_,r=>by
  rw[LS] at r
  cases r with
  |cons h t=>exact .cons (yI h) (rZ t)
abbrev KT (H:Hp):List (List Key×V)→List (List Key×Addr×Value)→Prop:=Paired fun p q=>p.1=q.1∧H q.2.1=some (.tup (p.1.map kV))∧RelV p.2 q.2.2
theorem KT.val {H:Hp} {kvs:List (List Key×V)} {xs:List (List Key×Addr×Value)} (r:KT H kvs xs) (k:List Key):rq (mj kvs k) ((atKey xs k).map (·.2)):=by
 induction r with
 |nil=>exact True.intro
 | @cons p q ps qs h t ih=>
  obtain⟨h1,_,h2⟩:=h
  by_cases e:p.1=k
  ·have e':q.1=k:=h1.symm.trans e
   have b:atKey (q::qs) k=some q.2:=by simp[atKey,List.find?_cons,e']
   rw[lZ e,b];exact h2
  ·have e': ¬ q.1=k:=fun z=>e (h1.trans z)
   have b:atKey (q::qs) k=atKey qs k:=by simp[atKey,List.find?_cons,e']
   rw[mf e,b];exact ih
theorem KT.wQ {H:Hp} {kvs:List (List Key×V)} {xs:List (List Key×Addr×Value)} (r:KT H kvs xs) (k:List Key) {y:V} {u:Value} (ry:RelV y u):
  KT H (kvs.map fun kv=>if kv.1=k then(kv.1,y) else kv) (xs.map (putAt k u)):=by
 induction r with
 |nil=>exact .nil
 | @cons p q ps qs h t ih=>
  rw[LS,LS]
  refine .cons ?_ ih
  obtain⟨h1,h2,h3⟩:=h
  unfold putAt
  by_cases e:p.1=k
  ·rw[Mz e,Mz (h1.symm.trans e)];exact⟨h1,h2,ry⟩
  ·rw[MA e,MA (fun z=>e (h1.trans z))];exact⟨h1,h2,h3⟩
theorem KT.put {H:Hp} {kvs:List (List Key×V)} {xs:List (List Key×Addr×Value)} (r:KT H kvs xs) (k:List Key) {b:Addr} {y:V} {u:Value} (hb:H b=some (.tup (k.map kV))) (ry:RelV y u):
  KT H (putK kvs k y) (storedH xs k b u):=by
 have e:(kvs.any fun kv=>decide (kv.1=k))=(atKey xs k).isSome:=by
  rw[uw,(r.val k).nU,Option.isSome_map]
 unfold putK storedH
 rw[e]
 by_cases q:(atKey xs k).isSome=true
 ·rw[Mz q,Mz q];exact r.wQ k ry
 ·rw[MA q,MA q];exact Paired.snoc r ⟨rfl,hb,ry⟩
theorem KT.keeps {H H':Hp} {kvs:List (List Key×V)} {xs:List (List Key×Addr×Value)} (r:KT H kvs xs) (ht: ∀ b ys,H b=some (.tup ys)→H' b=some (.tup ys)):KT H' kvs xs:=
 Paired.G7 r fun _ _ z=>⟨z.1,ht _ _ z.2.1,z.2.2⟩
section
variable {P:Program} {w:World} {H:Hp} {h:Heap} {a:Addr}
theorem Fw {u:HO} (ok:kP P w H h) (e:Rd H a u):dz P w H h a u:=e.ok ok
theorem vS {kvs:List (Key×V)} (ok:kP P w H h) (e:Rd H a (.dK kvs)):kvs.length≤sizeLine∧(a==sysModules)=false∧∃ vs,KV kvs vs∧h.DictOf (bC P w) a vs:=
 show dz P w H h a (.dK kvs) from Fw ok e
theorem JA {kvs:List (Key×V)} (ok:kP P w H h) (e:H a=some (.dK kvs)):kvs.length≤sizeLine∧(a==sysModules)=false∧∃ vs,KV kvs vs∧h.DictOf (bC P w) a vs:=vS ok (.inl e)
theorem tZ {ks:List Key} (ok:kP P w H h) (e:H a=some (.tup (ks.map kV))):(tupleKind (bC P w)).is h ks a:=by
 obtain⟨_,its,r,o,h1,h2,n,h3⟩:=(show dz P w H h a (.tup (ks.map kV)) from ok a _ e)
 exact⟨o,its.toArray,n,h1,h2,h3,by simpa using rZ r⟩
theorem yY {kvs:List (List Key×V)} (ok:kP P w H h) (e:Rd H a (.dT kvs)):kvs.length≤sizeLine∧(a==sysModules)=false∧
  ∃ xs,KT H kvs xs∧h.DictOfH (tupleKind (bC P w)) a xs:=by
 obtain⟨z,y,xs,r,o,es,ep,h1,h2,h3,h4,h5⟩:=(show dz P w H h a (.dT kvs) from Fw ok e)
 refine⟨z,y,xs,r,o,es,ep,h1,h2,h3,h4,fun x hx=>?_,h5⟩
 have all: ∀ {l:List (List Key×V)} {m:List (List Key×Addr×Value)},KT H l m→∀ x∈m,(tupleKind (bC P w)).is h x.1 x.2.1:=by
  intro l m q
  induction q with
  |nil=>intro x hx;exact nomatch hx
  | @cons p q ps qs hq t ih=>
   intro x hx
   rcases LU.mp hx with e|hx
   ·subst e
    exact tZ ok (by rw[←hq.1];exact hq.2.1)
   ·exact ih x hx
 exact all r x hx
theorem Jz {kvs:List (List Key×V)} (ok:kP P w H h) (e:H a=some (.dT kvs)):kvs.length≤sizeLine∧(a==sysModules)=false∧
  ∃ xs,KT H kvs xs∧h.DictOfH (tupleKind (bC P w)) a xs:=yY ok (.inl e)
end
def AE (H:Hp) (a:Addr) (y:V) (r:Option V):Prop:=
 (∃ kvs k,Rd H a (.dK kvs)∧y=kV k∧r=mj kvs k)∨∃ kvs k b,Rd H a (.dT kvs)∧y= .ref b∧H b=some (.tup (k.map kV))∧r=mj kvs k
def JW (H:Hp) (a:Addr) (y v:V) (H':Hp):Prop:=
 (∃ kvs k,H a=some (.dK kvs)∧y=kV k∧kvs.length < sizeLine∧H'=upd H a (.dK (putK kvs k v)))∨
 ∃ kvs k b,H a=some (.dT kvs)∧y= .ref b∧H b=some (.tup (k.map kV))∧kvs.length < sizeLine∧H'=upd H a (.dT (putK kvs k v))
section
variable {X:Cx} {pins:List (Addr×Obj)} {σ:St} {H:Hp} {s:Shared} {a:Addr} {y v:V} {u r:Value} {o:Option V} {A:Around} {E:Value→Shared→Prop}
theorem Inv.big (I:Inv X pins σ H s):sysModules < s.heap.objs.size:=by
 have h:mainGlobals < s.heap.objs.size:=(I.mod.glob.keeps I.bk).lt
 exact Nat.lt_trans (by decide) h
theorem Aw {Q:Value→Shared→Prop} (hu:A.units+1 < cLine) (I:Inv X pins σ H s) (g:AE H a y (some v)) (ry:RelV y u) (h: ∀ w' s',Inv X pins σ H s'→RelV v w'→Q w' s'):
  wpAny (model X.prog X.w) A (getItem (.ref a) u) Q E s:=by
 rcases g with⟨kvs,k,e,ey,l⟩|⟨kvs,k,b,e,ey,eb,l⟩
 ·subst ey
  obtain⟨z,hd,vs,rel,dd⟩:=vS I.bE e
  obtain⟨w',hw,rw'⟩:=rq.some_of (v:=v) (o:=valueAt vs k) (by rw[l];exact rel.val k)
  exact wpAny_getItem_of (yI ry) dd.mapOf hw (h w' _ (I.tok _) rw')
 ·subst ey
  cases (show u=Value.ref b from ry)
  obtain⟨z,hd,xs,rel,dd⟩:=yY I.bE e
  obtain⟨w',hw,rw'⟩:=rq.some_of (v:=v) (o:=(atKey xs k).map (·.2)) (by rw[l];exact rel.val k)
  obtain⟨p,hp,hp2⟩:=Ma.mp hw
  refine wpAny_getItem_heap (tupleKind_room_in1 hu) (tZ I.bE eb) dd hp ?_
  rw[hp2]
  exact h w' _ (I.tok _) rw'
theorem Lb {Q:Value→Shared→Prop} (hu:A.units+1 < cLine) (I:Inv X pins σ H s) (g:AE H a y o) (ry:RelV y u) (h: ∀ s',Inv X pins σ H s'→Q (.bool o.isSome) s'):
  wpAny (model X.prog X.w) A (compareOp .In u (.ref a)) Q E s:=by
 rcases g with⟨kvs,k,e,ey,l⟩|⟨kvs,k,b,e,ey,eb,l⟩
 ·subst ey
  obtain⟨z,hd,vs,rel,dd⟩:=vS I.bE e
  refine wpAny_in_of (yI ry) hd dd.mapOf ?_
  rw[←(rel.val k).nU,←l]
  exact h _ (I.tok _)
 ·subst ey
  cases (show u=Value.ref b from ry)
  obtain⟨z,hd,xs,rel,dd⟩:=yY I.bE e
  refine wpAny_in_heap (tupleKind_room_in1 hu) (tZ I.bE eb) hd dd ?_
  have q:=(rel.val k).nU
  rw[Option.isSome_map] at q
  rw[←q,←l]
  exact h _ (I.tok _)
theorem y3 {h':Heap} {t':Nat} {ob:HO} (I:Inv X pins σ H s) (mu:JP (H a)) (hs:Heap.SameBut a s.heap h') (he: ∃ q,h'.get? a=some q) (new:dz X.prog X.w (upd H a ob) h' a ob):
  Inv X pins σ (upd H a ob) {s with heap:=h',toks:=t'}:=
 I.write (x:=a) (e:=a) mu (.inl rfl) (fun b q hb z=>(hs.2 b hb).trans z) he new
theorem Hu {P:Program} {w:World} {H':Hp} {h':Heap} {kvs:List (Key×V)} {vs:List (Key×Value)} (z:kvs.length≤sizeLine) (hd:(a==sysModules)=false) (rel:KV kvs vs) (dd:h'.DictOf (bC P w) a vs):
  dz P w H' h' a (.dK kvs):=⟨z,hd,vs,rel,dd⟩
theorem Av {H':Hp} {Q:Unit→Shared→Prop} (hu:A.units+1 < cLine) (I:Inv X pins σ H s) (g:JW H a y v H') (ry:RelV y u) (rv:RelV v r) (h: ∀ s',Inv X pins σ H' s'→Q () s'):
  wpAny (model X.prog X.w) A (setItem (.ref a) u r) Q E s:=by
 rcases g with⟨kvs,k,e,ey,l,eH⟩|⟨kvs,k,b,e,ey,eb,l,eH⟩
 ·subst ey eH
  obtain⟨z,hd,vs,rel,dd⟩:=JA I.bE e
  have hz:vs.length≤sizeLine:=by rw[←rel.length];exact z
  have hl:(putK kvs k v).length≤sizeLine:=by have:=oG kvs k v;lia
  refine wpAny_setItem_pairs (hsz:=hz) (yI ry) dd fun h' dd' hs=>h _ ?_
  have he: ∃ q,h'.get? a=some q:=let ⟨q,_,_,hq,_⟩:=dd';⟨q,hq⟩
  exact y3 I (by rw[e];exact True.intro) hs he (Hu hl hd (rel.put k rv) dd')
 ·subst ey eH
  cases (show u=Value.ref b from ry)
  obtain⟨z,hd,xs,rel,dd⟩:=Jz I.bE e
  have hz:xs.length≤sizeLine:=by rw[←Paired.length rel];exact z
  have hl:(putK kvs k v).length≤sizeLine:=by have:=oG kvs k v;lia
  refine wpAny_setItem_heap (hsz:=hz) (tupleKind_room_in1 hu) (tZ I.bE eb) dd fun h' dd' hs=>h _ ?_
  obtain⟨q,es,ep,hq,h2,h3,h4,_,h5⟩:=dd'
  refine y3 I (by rw[e];exact True.intro) hs ⟨q,hq⟩ ⟨hl,hd,_,(rel.put k eb rv).keeps fun c ys ec=>?_,q,es,ep,hq,h2,h3,h4,h5⟩
  rw[ao (B9 ec e (fun z=>nomatch z))]
  exact ec
end
section
variable {X:Cx} {pins:List (Addr×Obj)} {σ:St} {H:Hp} {s:Shared} {a:Addr} {kvs:List (Key×V)} {k:Key} {u:Value} {A:Around} {E:Value→Shared→Prop}
theorem JB {Q:Value→Shared→Prop} (I:Inv X pins σ H s) (e:Rd H a (.dK kvs)) (h: ∀ t s',Inv X pins σ H s'→Q (.int kvs.length t) s'):wpAny (model X.prog X.w) A (call (.builtin "len") [.ref a]) Q E s:=by
 obtain⟨z,hd,vs,rel,dd⟩:=vS I.bE e
 refine call_len_dict hd dd (by rw[←rel.length];rw[Mq] at z;lia) ?_
 rw[←rel.length]
 exact h _ _ (I.tok _)
end
def HN (i:Expr):Prop:= ∀ ov iv,subscripted i false ov iv=operate [ov,iv] (getItem ov iv)
theorem DC {prog:Program} {w:World} {A:Around} {E:Value→Shared→Prop} {s:Shared} {env:Env} {value slice:Expr} {pos:Pos} {T id:String} {Q:Value→Shared→Prop}
  (hl:typeLookup (.type T) "__getitem__"=pure (some (.builtin id))) (hs:HN slice)
  (h:wpAny (model prog w) A (eval value env) (fun o s₁=>wpAny (model prog w) A (eval slice env) (fun i s₂=>s₂.TypeIs o T∧wpAny (model prog w) A (getItem o i) Q E s₂) E s₁) E s):
  wpAny (model prog w) A (eval (.Subscript value slice pos) env) Q E s:=by
 refine Subscript_ (wpAny_mono h (fun o s₁ h₁=>wpAny_mono h₁ (fun i s₂ h₂=>?_) fun _ _ x=>x) fun _ _ x=>x)
 obtain⟨hT,h₂⟩:=h₂
 unfold subscriptTail
 refine LI ?_
 rw[getitemInPython_of_ne hT.not_modules]
 refine LI (wpAny_specialOf hT hl ?_)
 have fin:wpAny (model prog w) A (subscripted slice false o i) (fun r s₃=>wpAny (model prog w) A (letTemporaryGo value o r >>= fun _=>pure r) Q E s₃) E s₂:=by
  rw[hs o i]
  exact wpAny_operating (wpAny_mono h₂ (fun r s₃ h₃=>LI (wpAny_letTemporaryGo (LN h₃))) fun _ _ x=>x)
 first
  |exact LN (LI fin)
  |exact LI (LN (LI fin))
  |exact LI fin
theorem vV {X:Cx} {pins:List (Addr×Obj)} {σ:St} {H:Hp} {s:Shared} {a:Addr} {y:V} {o:Option V} (I:Inv X pins σ H s) (g:AE H a y o):s.TypeIs (.ref a) "dict":=by
 rcases g with⟨kvs,k,e,_,_⟩|⟨kvs,k,b,e,_,_,_⟩
 ·obtain⟨_,_,vs,_,dd⟩:=vS I.bE e
  exact dd.typeIs
 ·obtain⟨_,_,xs,_,dd⟩:=yY I.bE e
  exact dd.typeIs
noncomputable def Ft (td ty:TE):TE:=fun σ H Q=>td σ H fun x H1=>ty σ H1 fun y H2=> ∃ a v,x= .ref a∧AE H2 a y (some v)∧Q v H2
noncomputable def Gn (ty td:TE):TE:=fun σ H Q=>ty σ H fun y H1=>td σ H1 fun x H2=> ∃ a o,x= .ref a∧AE H2 a y o∧Q (.bl o.isSome) H2
noncomputable def Bl (td ty tv:TE):TS:=fun D σ H=>tv σ H fun v H1=>td σ H1 fun x H2=>ty σ H2 fun y H3=> ∃ a H4,x= .ref a∧JW H3 a y v H4∧D.nx σ H4
section
variable {X:Cx} {o i e value:Expr} {pos pos' tpos:Pos} {td ty tv:TE}
theorem D3 (hu:X.A.units+1 < cLine) (ho:PE X o td) (hi:PE X i ty) (hs:HN i):PE X (.Subscript o i pos) (Ft td ty):=by
 intro pins s σ H Q I h
 refine DC PySem.F.slot_dict_getitem.lookup hs (bN (ho pins s σ H _ I h) fun u s1 ⟨x,H1,I1,rx,q1⟩=>bN (hi pins s1 σ H1 _ I1 q1) fun iv s2 ⟨y,H2,I2,ry,a,v,ex,g,q2⟩=>?_)
 subst ex
 obtain rfl:u=Value.ref a:=rx
 exact⟨vV I2 g,Aw hu I2 g ry fun w' s3 I3 rw'=>⟨v,H2,I3,rw',q2⟩⟩
theorem BU (hu:X.A.units+1 < cLine) (hi:PE X i ty) (ho:PE X o td):PC X .In i o (Gn ty td):=by
 intro pins s σ H Q I h
 refine bN (hi pins s σ H _ I h) fun iv s1 ⟨y,H1,I1,ry,q1⟩=>bN (ho pins s1 σ H1 _ I1 q1) fun u s2 ⟨x,H2,I2,rx,a,ov,ex,g,q2⟩=>?_
 subst ex
 obtain rfl:u=Value.ref a:=rx
 exact Lb hu I2 g ry fun s3 I3=>⟨.bl ov.isSome,H2,I3,rfl,q2⟩
theorem DZ (hu:X.A.units+1 < cLine) (ho:PE X o td) (hi:PE X i ty) (hv:PE X value tv) (hs:swapsWith value (some (.Subscript o i pos')) pos.line X.env=pure false):
  PS X (.Assign [.Subscript o i pos'] value pos) (Bl td ty tv):=by
 intro pins s σ H D I h
 refine wpAny_Assign_Subscript (bN (hv pins s σ H _ I h) fun r s1 ⟨v,H1,I1,rv,q1⟩=>bN (ho pins s1 σ H1 _ I1 q1) fun u s2 ⟨x,H2,I2,rx,q2⟩=>bN (hi pins s2 σ H2 _ I2 q2) fun iv s3 ⟨y,H3,I3,ry,a,H4,ex,g,q3⟩=>?_) hs
 subst ex
 obtain rfl:u=Value.ref a:=rx
 exact Av hu I3 g ry rv fun s4 I4=>⟨σ,H4,I4,q3⟩
end
theorem C1 {P:Program} {w:World} {H:Hp} (h:Heap) (hb:sysModules < h.objs.size):dz P w H (h.push {cls:=.type "dict",data:=.dict #[]}) h.objs.size (.dK []):=
 ⟨Me _,beq_eq_false_iff_ne.mpr (Ne.symm (Mg hb)),[],.nil,Heap.DictOf.new h⟩
noncomputable def A5:TE:=fun _ H Q=> ∀ p,H p=none→Q (.ref p) (upd H p (.dK []))
section
variable {X:Cx} {pos:Pos}
theorem uT:PE X (.Dict [] [] pos) A5:=fun pins s σ H Q I h=>
 wpAny_Dict_empty ⟨.ref s.heap.objs.size,_,I.laid (a:=s.heap.objs.size) (o:=.dK []) (t':=s.toks) (fun _ _ q=>LL _ q) (LQ _) (C1 s.heap I.big),rfl,h _ (I.bE.fresh (LQ _))⟩
end
noncomputable def gE (cells:List (Str×Addr)) (cs:List (Str×Addr)) (p:Str×NameKind):List (Str×Addr):=
 if p.2== .free then(match cells.lookup p.1 with|some c=>(p.1,c)::cs|none=>cs) else cs
noncomputable def vZ (names:List (Str×NameKind)) (cells:List (Str×Addr)):List (Str×Addr):=names.foldl (gE cells) []
theorem mY (env:Env): ∀ (names:List (Str×NameKind)) (cs:List (Str×Addr)),(∀ p∈names,p.2= .free→∃ c,env.cells.lookup p.1=some c)→
  (forIn names cs fun (p:Str×NameKind) r=>(if(p.2== .free)=true then do let a ←cellOf env p.1;pure (ForInStep.yield ((p.1,a)::r)) else pure (ForInStep.yield r):Sem (ForInStep (List (Str×Addr)))))=pure (names.foldl (gE env.cells) cs)
 |[],cs,_=>rfl
 |p::r,cs,h=>by
  have ih:=fun cs'=>mY env r cs' fun q hq=>h q (LM _ hq)
  rw[List.forIn_cons]
  by_cases hp:(p.2== .free)=true
  ·obtain⟨c,hc⟩:=h p LJ (by simpa using hp)
   have e:gE env.cells cs p=(p.1,c)::cs:=by unfold gE;rw[Mz hp,hc]
   have e2:cellOf env p.1=pure c:=by unfold cellOf;rw[hc]
   rw[Mz hp,e2,List.foldl_cons,e]
   exact ih _
  ·have e:gE env.cells cs p=cs:=by unfold gE;rw[MA hp]
   rw[MA hp,List.foldl_cons,e]
   exact ih _
theorem lS {scope:Scope} {env:Env} (h: ∀ p∈scope.names,p.2= .free→∃ c,env.cells.lookup p.1=some c):closureFor scope env=pure (vZ scope.names env.cells):=by
 have q:=mY env scope.names [] h
 unfold closureFor
 show (forIn scope.names [] _ >>= fun cs=>pure cs)=_
 have e: ∀ m:Sem (List (Str×Addr)),(m >>= fun cs=>pure cs)=m:=fun m=>bind_pure m
 rw[e]
 exact q
theorem fH (cells:List (Str×Addr)): ∀ (names:List (Str×NameKind)) (cs:List (Str×Addr)),(∀ x c,cs.lookup x=some c→cells.lookup x=some c)→∀ x c,(names.foldl (gE cells) cs).lookup x=some c→cells.lookup x=some c
 |[],_,h=>h
 |p::r,cs,h=>fH cells r _ (fun x c e=>by
  unfold gE at e
  split at e
  ·split at e
   ·rename_i c' hc'
    rw[List.lookup_cons] at e
    split at e
    ·rename_i hx
     have hx':x=p.1:=by simpa using hx
     cases e;rw[hx'];exact hc'
    ·exact h x c e
   ·exact h x c e
  ·exact h x c e)
theorem vY (cells:List (Str×Addr)): ∀ (names:List (Str×NameKind)) (cs:List (Str×Addr)) (x:Str),(∃ c,cs.lookup x=some c)→∃ c,(names.foldl (gE cells) cs).lookup x=some c
 |[],_,_,h=>h
 |p::r,cs,x,h=>vY cells r _ x (by
  unfold gE
  split
  ·split
   ·rw[List.lookup_cons]
    split
    ·exact⟨_,rfl⟩
    ·exact h
   ·exact h
  ·exact h)
theorem xI (cells:List (Str×Addr)): ∀ (names:List (Str×NameKind)) (cs:List (Str×Addr)) (x:Str),(x,NameKind.free)∈names→(∃ c,cells.lookup x=some c)→∃ c,(names.foldl (gE cells) cs).lookup x=some c
 |[],_,_,h,_=>by simp at h
 |p::r,cs,x,h,hc=>by
  rcases LU.mp h with e|e
  ·subst e
   refine vY cells r _ x ?_
   obtain⟨c,hc⟩:=hc
   unfold gE
   rw[Mz (by rfl),hc]
   exact⟨c,by rw[List.lookup_cons];simp⟩
  ·exact xI cells r _ x e hc
noncomputable def jb (X:Cx) (scope:Scope) (N:List Str) (s₀:Shared) (H₀:Hp) (ex:List Addr) (pn:List (Addr×Obj)):Cx:=
 {prog:=X.prog,w:=X.w,K:=X.K,mg:=X.mg,base:=X.base,A:=X.A,N:=N,s₀:=s₀,H₀:=H₀,env:=compEnvC scope (vZ scope.names X.env.cells) s₀.heap.objs.size X.env,outer:=X.stack,stack:=X.stack,ex:=ex,fn:=fun _=>false,calm:=true,pn:=pn,xe:=fun _ _=>False}
noncomputable def iN (js:List (Option Nat)) (σ:St):St:=js.map fun o=>match o with|some j=>(σ[j]?).getD none|none=>none
def zk (X:Cx) (ifs:List Expr) (t:TT):Prop:=
 ∀ (pins:List (Addr×Obj)) (s:Shared) (σ:St) (H:Hp) (Q:Bool→Hp→Prop),Inv X pins σ H s→t σ H Q→
  wpAny (model X.prog X.w) X.A (forIn ifs true fun c r=>if r=true then do let ok ←isTrue c X.env (eval c X.env);pure (ForInStep.yield ok) else pure (ForInStep.yield r)) (TP X pins σ Q) X.xe s
noncomputable def Iy:TT:=fun _ H Q=>Q true H
theorem DW {X:Cx}:zk X [] Iy:=fun pins s σ H Q I h=>wpAny_tests_nil ⟨H,I,h⟩
theorem DV {X:Cx} {c:Expr} {t:TT} (h:PT X c t):zk X [c] t:=fun pins s σ H Q I hw=>wpAny_tests_one (h pins s σ H Q I hw)
theorem Ax {prog:Program} {w:World} {A:Around} {R:Result→Shared→Prop} {s:Shared} {elt target iter:Expr} {ifs:List Expr} {scope:Scope} {pos:Pos} {it acc:Value} {env:Env} (I:Nat→Shared→Prop)
  (turn: ∀ n s,I n s→wpAny (model prog w) A (pyNext it) (fun r s₁=>match r with
   |none=>R (.ok .next) s₁
   |some v=>wpAny (model prog w) A (letOwnedTupleGo target it v) (fun _ s₁'=>wpAny (model prog w) A (assign target env v) (fun _ s₂=>
     wpAny (model prog w) A (forIn ifs true fun c r=>if r=true then do let ok ←isTrue c env (eval c env);pure (ForInStep.yield ok) else pure (ForInStep.yield r)) (fun ok s₃=>
      if ok=true then wpAny (model prog w) A (eval elt env) (fun x s₄=>
       wpAny (model prog w) A (call (.builtin "list.append") [acc,x]) (fun _ s₅=> ∃ m,m < n∧I m s₅) (fun _ _=>False) s₄) (fun _ _=>False) s₃
      else ∃ m,m < n∧I m s₃) (fun _ _=>False) s₂) (fun _ _=>False) s₁') (fun _ _=>False) s₁) (fun _ _=>False) s)
  (n:Nat) (h:I n s):
  codeAny (model prog w) A (.compLoop (.ListComp elt [⟨target,iter,ifs,0⟩] scope pos) 0 it acc env) R s:=by
 refine codeAny_loop rfl I (fun n s hI=>?_) n h
 show wpAny _ A ((compTurn (.ListComp elt [⟨target,iter,ifs,0⟩] scope pos) 0 it acc env).onRaise (fun x=>do noteFrame x env;theTreesLotGoes x)) _ _ s
 refine wpAny_noted ?_
 refine wpAny_mono (E:=fun _ _=>False) ?_ (fun _ _ q=>q) fun _ _ q=>q.elim
 rw[compTurn_list]
 refine LI (wpAny_standAt (LI (bN (turn n s hI) fun r s₁ h₁=>?_)))
 cases r with
 |none=>exact LN h₁
 |some v=>
  refine LI (bN h₁ fun _ s₁' h₁'=>?_)
  refine LI (bN h₁' fun _ s₂ h₂=>LI (bN h₂ fun ok s₃ h₃=>?_))
  cases ok with
  |false=>exact LN ⟨rfl,h₃⟩
  |true=>exact LI (LI (bN h₃ fun x s₄ h₄=>LI (bN h₄ fun _ s₅ h₅=>LN (LN ⟨rfl,h₅⟩))))
def LD (J:It) (D:Addr) (g:TG) (tt:TT) (te:TE) (Q:VK) (σ0:St) (H1:Hp):Prop:=
 ∃ W:Nat→Nat→St→Hp→Prop,(∃ m,W 0 m σ0 (upd H1 D (.lst [])))∧∀ i m σ' H',W i m σ' H'→
  (J.stop i H'∧Q (.ref D) H')∨(J.go i H'∧∀ x H2,J.AG i H' x H2→g x σ' H2 fun σ2 H3=>tt σ2 H3 fun ok H4=>
   if ok=true then te σ2 H4 fun y H5=> ∃ ys,H5 D=some (.lst ys)∧ys.length < sizeLine∧∃ m',m' < m∧W (i+1) m' σ2 (upd H5 D (.lst (ys++[y])))
   else ∃ m',m' < m∧W (i+1) m' σ2 H4)
noncomputable def Gk (js:List (Option Nat)) (wi:TI) (g:TG) (tt:TT) (te:TE):TE:=fun σ H Q=>wi σ H fun J H1=> ∀ D,H1 D=none→LD J D g tt te Q (iN js σ) H1
set_option genInjectivity false in
structure aS (X:Cx) (scope:Scope) (N:List Str) (js:List (Option Nat)):Prop where
 kind:scope.kind= .function
 xn: ∀ y∈scope.names,y.2≠.cell
 names: ∀ y∈scope.names,y.2= .local→scope.names.lookup y.1=some .local
 free: ∀ y∈scope.names,y.2= .free→X.env.scope.names.lookup y.1=some .cell∨X.env.scope.names.lookup y.1=some .free
 len:js.length=N.length
 LB: ∀ (i:Nat) (y:Str) (j:Nat),N[i]?=some y→js[i]?=some (some j)→X.N[j]?=some y∧scope.names.lookup y=some .free
noncomputable def lL (env:Env) (p:Str×NameKind):Str×NameKind:=if(p.2==NameKind.free&&env.scope.kind== .function&&env.kindOf p.1==some .cell) then(p.1,NameKind.cell) else(p.1,p.2)
theorem uR (env:Env) (p:Str×NameKind):(lL env p).1=p.1:=by unfold lL;split<;>rfl
theorem uP {env:Env}: ∀ {names:List (Str×NameKind)} {x:Str},names.lookup x=some .free→(names.map (lL env)).lookup x=some .cell∨(names.map (lL env)).lookup x=some .free
 |[],_,h=>by simp at h
 |p::r,x,h=>by
  rw[LS,List.lookup_cons,uR]
  rw[List.lookup_cons] at h
  cases hx:x==p.1 with
  |true=>
   rw[hx] at h
   have h':p.2= .free:=by simpa using h
   have e:(lL env p).2= .cell∨(lL env p).2= .free:=by
    unfold lL
    split
    ·exact .inl rfl
    ·exact .inr h'
   rcases e with e|e
   ·exact .inl (congrArg some e)
   ·exact .inr (congrArg some e)
  |false=>
   rw[hx] at h
   exact uP (env:=env) h
theorem uQ {env:Env}: ∀ {names:List (Str×NameKind)} {x:Str},((names.map (lL env)).lookup x=some .cell∨(names.map (lL env)).lookup x=some .free)→(x,NameKind.free)∈names∨(x,NameKind.cell)∈names
 |[],_,h=>by simp at h
 |p::r,x,h=>by
  rw[LS,List.lookup_cons,uR] at h
  cases hx:x==p.1 with
  |true=>
   rw[hx] at h
   have hx':x=p.1:=by simpa using hx
   have h2:(lL env p).2= .cell∨(lL env p).2= .free:=h.elim (fun z=>.inl (MD z)) fun z=>.inr (MD z)
   have e:p.2= .free∨p.2= .cell:=by
    by_cases hc:(p.2==NameKind.free&&env.scope.kind== .function&&env.kindOf p.1==some .cell)=true
    ·simp only[Mo] at hc
     exact .inl (by simpa using hc.1.1)
    ·have e2:lL env p=(p.1,p.2):=by unfold lL;rw[MA hc]
     rw[e2] at h2
     exact h2.symm
   rcases e with e|e
   ·exact .inl (by rw[hx',←e];exact LJ)
   ·exact .inr (by rw[hx',←e];exact LJ)
  |false=>
   rw[hx] at h
   rcases uQ h with q|q
   ·exact .inl (LM _ q)
   ·exact .inr (LM _ q)
section
variable {X:Cx} {pins:List (Addr×Obj)} {σ:St} {H:Hp} {s:Shared} {scope:Scope} {N:List Str} {js:List (Option Nat)} {fp:List Addr}
theorem aS.EY (L:aS X scope N js) (ok:X.Ok): ∀ p∈scope.names,p.2= .free→∃ c,X.env.cells.lookup p.1=some c:=fun p hp hf=>ok.has p.1 (L.free p hp hf)
theorem aS.ok (L:aS X scope N js) (I:Inv X pins σ H s) (hc:X.calm=true) (hf: ∀ b∈fp,eQ X pins H b) (ho: ∀ b∈fp,∃ o,s.heap.get? b=some o):(jb X scope N s H fp (X.pn++pins)).Ok where
 mod:=I.ok.mod
 kind:=L.kind
 glob:=I.ok.glob
 blt:=I.ok.blt
 above:=LQ _
 inj:=fun x y c h1 h2=>I.ok.inj x y c (fH _ _ _ (fun _ _ e=>by simp at e) x c h1) (fH _ _ _ (fun _ _ e=>by simp at e) y c h2)
 has:=fun x hx=>by
  have hx':(scope.names.map (lL X.env)).lookup x=some .cell∨(scope.names.map (lL X.env)).lookup x=some .free:=hx
  rcases uQ hx' with q|q
  ·exact xI _ _ _ x q (L.EY I.ok _ q rfl)
  ·exact absurd rfl (L.xn _ q)
 Ig:=fun x c h _=>by cases h
 hd:=fun _=>I.ok.hd hc
 frames:=I.ok.frames
 ID:=.inl rfl
 K8:=fun b hb=>by
  obtain⟨o,e⟩:=ho b hb
  refine⟨Mg (L1 e),fun x c h=>(hf b hb).2.2.2.2.1 x c (fH _ _ _ (fun _ _ e=>by simp at e) x c h)⟩
 bs:=I.bs
 Dm:=L6 I.ok.Dm I.sz
 zX:=fun b o e hb=>by
  rcases(hf b hb).2.2.2.1 with z|z
  ·exact I.ok.zX b o e z
  ·exact absurd (L9 (L1 e) (L6 I.ok.Dm z)) (Nat.lt_irrefl _)
 CK:=fun b hb z=>by
  rcases LU.mp (I.nv b z) with e|e
  ·exact(hf b hb).2.1 e
  ·exact(hf b hb).2.2.1 e
 nX:=I.stack
 FO:=I.yf
theorem aS.start (L:aS X scope N js) (I:Inv X pins σ H s) (hc:X.calm=true) (hf: ∀ b∈fp,eQ X pins H b) (ho: ∀ b∈fp,∃ o,s.heap.get? b=some o) {h':Heap} {tk:Nat}
  (hn:h'.Ns s.heap.objs.size (fun _=>none)) (hk: ∀ b o,s.heap.get? b=some o→h'.get? b=some o):
  Inv (jb X scope N s H fp (X.pn++pins)) [] (iN js σ) H {s with heap:=h',toks:=tk}:=by
 refine⟨L.ok I hc hf ho,rfl,I.bare,Un.kept hk,⟨_,hn,fun i y v e1 e2 e3=>?_⟩,fun x c e=>?_,I.bE.fresh (LQ _),fun x c e=>?_,fun p hp=>?_,I.bE.kept hk,?_⟩
 ·unfold iN at e2
  rw[L5] at e2
  cases ej:js[i]? with
  |none=>rw[ej] at e2;cases e2
  |some o=>
   rw[ej] at e2
   cases o with
   |none=>simp at e2
   |some j=>
    simp only[Option.map_some,Option.some.injEq] at e2
    have es:σ[j]?=some (some v):=by
     cases q:σ[j]? with
     |none=>rw[q] at e2;simp at e2
     |some z=>rw[q] at e2;simp at e2;rw[e2]
    obtain⟨en,ef⟩:=L.LB i y j e1 ej
    have em:(y,NameKind.free)∈scope.names:=PySem.mem_of_lookup ef
    have ek:=L.free _ em rfl
    obtain⟨m,_,hl⟩:=I.loc
    obtain⟨u,r,l⟩:=hl j y v en es (ek.elim (fun z=>.inr (.inl z)) fun z=>.inr (.inr z))
    refine⟨u,r,.inr ⟨uP ef,?_⟩⟩
    rcases l with⟨l,_⟩|⟨_,c,ec,z⟩
    ·have l':X.env.scope.names.lookup y=some .local:=l
     rcases ek with ek|ek<;>(rw[ek] at l';cases l')
    ·obtain⟨c',hc'⟩:=xI X.env.cells scope.names [] y em ⟨c,ec⟩
     have e':=fH X.env.cells scope.names [] (fun _ _ e=>by simp at e) y c' hc'
     rw[ec] at e';cases e'
     obtain⟨o,ho,hd⟩:=z
     exact⟨c,hc',⟨o,hk c o ho,hd⟩⟩
 ·obtain⟨v,o,ho,hd⟩:=I.cell x c (fH _ _ _ (fun _ _ e=>by simp at e) x c e)
  exact⟨v,o,hk c o ho,hd⟩
 ·exact I.kG x c (fH _ _ _ (fun _ _ e=>by simp at e) x c e)
 ·have hp':p∈X.pn++pins:=by simpa[jb] using hp
  obtain⟨e,n,ne,nf,d⟩:=I.pin p hp'
  refine⟨hk _ _ e,n,Mg (L1 e),fun z=>?_,d⟩
  rcases LU.mp (I.nv _ z) with q|q
  ·exact ne q
  ·exact nf q
 ·unfold iN
  rw[LK]
  exact L.len
theorem Ck {σ':St} {H':Hp} {s':Shared} {ps:List (Addr×Obj)} (I:Inv X pins σ H s) (hf: ∀ b∈fp,eQ X pins H b) (J:Inv (jb X scope N s H fp (X.pn++pins)) ps σ' H' s'):
  Inv X pins σ H' s'∧eQ X pins H' s.heap.objs.size∧∃ m,s'.heap.Ns s.heap.objs.size m:=by
 refine⟨I.JD (ch:=fp) J.os J.base J.bE J.bare fun b hb=>⟨(hf b hb).2.2.2.1,(hf b hb).2.1,(hf b hb).2.2.2.2.1,(hf b hb).2.2.2.2.2⟩,I.rj (LQ _) J.free,?_⟩
 obtain⟨m,hn,_⟩:=J.loc
 exact⟨m,hn⟩
theorem Inv.gone {H':Hp} {s':Shared} {C:Addr} {h':Heap} {m:Str→Option Value} (I:Inv X pins σ H' s') (f:eQ X pins H' C) (hs:Heap.SameBut C s'.heap h'):Inv X pins σ H' {s' with heap:=h'}:=
 I.turned (t':=s'.toks) (it:=C) (fun b o hb e=>(hs.2 b hb).trans e) f.1 f.2.1 f.2.2.2.1 f.2.2.2.2.1 f.2.2.2.2.2
theorem EA {elt target iter:Expr} {ifs:List Expr} {pos:Pos} {g:TG} {tt:TT} {te:TE} {it:Addr} {tn:Nat→Heap→Prop} {J:It} {Q:VK} {R:Value→Addr→Result→Shared→Prop}
  (L:aS X scope N js) (hc:X.calm=true)
  (hg: ∀ s₀ H₀ ex pn,PG (jb X scope N s₀ H₀ ex pn) target g) (ht: ∀ s₀ H₀ ex pn,zk (jb X scope N s₀ H₀ ex pn) ifs tt) (he: ∀ s₀ H₀ ex pn,PE (jb X scope N s₀ H₀ ex pn) elt te)
  (I:Inv X pins σ H s) (T:Turn X.prog X.w X.K target J fp it tn) (st:tn 0 s.heap) (hf: ∀ b∈fp,eQ X pins H b)
  {D:Addr} {s3:Shared} {h₁:Heap} {tk:Nat} (I3:Inv X pins σ (upd H D (.lst [])) s3) (hDl: ∀ b o,s.heap.get? b=some o→b≠D) (k3: ∀ b o,s.heap.get? b=some o→s3.heap.get? b=some o)
  (hns₁:h₁.Ns s3.heap.objs.size (fun _=>none)) (kk: ∀ b o,s3.heap.get? b=some o→h₁.get? b=some o)
  (w: ∃ W:Nat→Nat→St→Hp→Prop,(∃ m,W 0 m (iN js σ) (upd H D (.lst [])))∧∀ i m σ' H',W i m σ' H'→
   (J.stop i H'∧Q (.ref D) H')∨(J.go i H'∧∀ x H2,J.AG i H' x H2→g x σ' H2 fun σ2 H3=>tt σ2 H3 fun ok H4=>
    if ok=true then te σ2 H4 fun y H5=> ∃ ys,H5 D=some (.lst ys)∧ys.length < sizeLine∧∃ m',m' < m∧W (i+1) m' σ2 (upd H5 D (.lst (ys++[y])))
    else ∃ m',m' < m∧W (i+1) m' σ2 H4))
  (hR: ∀ C s' H',Inv X pins σ H' s'→eQ X pins H' C→(∃ m,s'.heap.Ns C m)→Q (.ref D) H'→R (.ref D) C (.ok .next) s'):
  codeAny (model X.prog X.w) X.A (.compStart (.ListComp elt [⟨target,iter,ifs,0⟩] scope pos) 0 (.ref it) (.ref D) {newEnv scope s3.heap.objs.size X.env.globals (vZ scope.names X.env.cells) X.env.qual none .none (some X.env) builtinsNs with scope:=relabel scope X.env}) (R (.ref D) s3.heap.objs.size) {s3 with heap:=h₁,toks:=tk}:=by
 have obj:=T.obj 0 s.heap st
 have ho3: ∀ b∈fp,∃ o,s3.heap.get? b=some o:=fun b hb=>by obtain⟨o,e,_⟩:=obj b hb;exact⟨o,k3 b o e⟩
 have hf3: ∀ b∈fp,eQ X pins (upd H D (.lst [])) b:=fun b hb=>by
  refine⟨?_,(hf b hb).2⟩
  obtain⟨o,e,_⟩:=obj b hb
  rw[ao (hDl b o e)]
  exact(hf b hb).1
 have I4:Inv (jb X scope N s3 (upd H D (.lst [])) fp (X.pn++pins)) [] (iN js σ) (upd H D (.lst [])) {s3 with heap:=h₁,toks:=tk}:=
  L.start I3 hc hf3 ho3 hns₁ kk
 obtain⟨W,⟨m0,w0⟩,turn⟩:=w
 have st4:tn 0 h₁:=T.keep 0 _ _ st fun b _ o e=>kk b o (k3 b o e)
 generalize hX:jb X scope N s3 (upd H D (.lst [])) fp (X.pn++pins)=Y at I4
 have fpY: ∀ b∈fp,b≠Y.env.locals∧b∉Y.fs∧(b∈Y.ex∨Y.s₀.heap.objs.size≤b)∧(∀ x c,Y.env.cells.lookup x=some c→c≠b)∧∀ p∈Y.pn++[],p.1≠b:=fun b hb=>by
  rw[←hX]
  obtain⟨o,e⟩:=ho3 b hb
  refine⟨Mg (L1 e),fun z=>?_,.inl hb,fun x c h=>(hf b hb).2.2.2.2.1 x c (fH _ _ _ (fun _ _ e=>by simp at e) x c h),fun p hp=>(hf b hb).2.2.2.2.2 p (by simpa[jb] using hp)⟩
  rcases LU.mp (I3.nv b z) with q|q
  ·exact(hf b hb).2.1 q
  ·exact(hf b hb).2.2.1 q
 have loop:codeAny (model X.prog X.w) X.A (.compLoop (.ListComp elt [⟨target,iter,ifs,0⟩] scope pos) 0 (.ref it) (.ref D) Y.env) (R (.ref D) s3.heap.objs.size) {s3 with heap:=h₁,toks:=tk}:=by
  have pr:Y.prog=X.prog:=by rw[←hX];rfl
  have pw:Y.w=X.w:=by rw[←hX];rfl
  have pK:Y.K=X.K:=by rw[←hX];rfl
  have pA:Y.A=X.A:=by rw[←hX];rfl
  have pc:Y.calm=true:=by rw[←hX];rfl
  have px:Y.xe=fun _ _=>False:=by rw[←hX];rfl
  have stat: ∀ {H':Hp},(∀ b∈fp,H' b=none)→∀ b∈fp,eQ Y [] H' b:=fun hn b hb=>⟨hn b hb,fpY b hb⟩
  refine Ax (fun n s'=> ∃ i σ' H',Inv Y [] σ' H' s'∧tn i s'.heap∧(∀ b∈fp,H' b=none)∧W i n σ' H') ?_ m0 ⟨0,_,_,I4,st4,fun b hb=>(hf3 b hb).1,w0⟩
  rintro n s5 ⟨i,σ5,H5,I5,st5,fr5,w5⟩
  have gY:PG Y target g:=by rw[←hX];exact hg _ _ _ _
  have tY:zk Y ifs tt:=by rw[←hX];exact ht _ _ _ _
  have eY:PE Y elt te:=by rw[←hX];exact he _ _ _ _
  unfold PG at gY;unfold zk at tY;unfold PE at eY
  rw[pr,pw,pA,px] at gY tY eY
  have ap:=cD (X:=Y)
  unfold JQ at ap
  rw[pr,pw,pA,px] at ap
  rcases turn i n σ5 H5 w5 with⟨stop,q⟩|⟨go,step⟩
  ·have d:=T.done Y pr pw pK pc i [] s5 σ5 H5 (fun _ _=>False) I5 (stat fr5) st5 stop
   rw[pA] at d
   refine bN d fun r s6 ⟨hr,I6⟩=>?_
   subst hr
   have I6':Inv (jb X scope N s3 (upd H D (.lst [])) fp (X.pn++pins)) [] σ5 H5 s6:=by rw[hX];exact I6
   obtain⟨a1,a2,a3⟩:=Ck I3 hf3 I6'
   exact hR _ s6 H5 a1 a2 a3 q
  ·have d:=T.item Y pr pw pK pc i [] s5 σ5 H5 (fun _ _=>False) I5 (stat fr5) st5 go
   rw[pA] at d
   refine bN d fun r s6 ⟨u,hr,h6⟩=>?_
   subst hr
   refine bN h6 fun _ s7 ⟨x,H7,I7,r7,y7,st7,fr7⟩=>?_
   have I7':=I7.pinned (stat fr7) (T.obj _ _ st7)
   refine bN (gY _ s7 σ5 H7 x u _ I7' r7 (step x H7 y7)) fun _ s8 ⟨σ8,H8,I8,q8⟩=>?_
   have again: ∀ {σ9:St} {H9:Hp} {s9:Shared},Inv Y ([]++nJ fp s7.heap) σ9 H9 s9→(∃ m',m' < n∧W (i+1) m' σ9 H9)→∃ m,m < n∧∃ i σ' H',Inv Y [] σ' H' s9∧tn i s9.heap∧(∀ b∈fp,H' b=none)∧W i m σ' H':=fun {σ9 H9 s9} I9 ⟨m',hm,w9⟩=>by
    refine⟨m',hm,i+1,σ9,H9,I9.kc,T.keep _ _ _ st7 fun b hb o e=>(I9.pin (b,o) (L4 _ (L4 _ (fV hb e)))).1,fun b hb=>?_,w9⟩
    obtain⟨o,e,d⟩:=T.obj _ _ st7 b hb
    exact(I9.pin (b,o) (L4 _ (L4 _ (fV hb e)))).2.1
   refine bN (tY _ s8 σ8 H8 _ I8 q8) fun ok s9 ⟨H9,I9,q9⟩=>?_
   cases ok with
   |false=>
    rw[MA (by decide)] at q9
    rw[MA (by decide)]
    exact again I9 q9
   |true=>
    rw[Mz rfl] at q9
    rw[Mz rfl]
    refine bN (eY _ s9 σ8 H9 _ I9 q9) fun v s10 ⟨y,H10,I10,r10,ys,eys,lys,q10⟩=>?_
    refine bN (ap _ s10 σ8 H10 (.ref D) [y] (.ref D) [v] (fun _ H'=> ∃ m',m' < n∧W (i+1) m' σ8 H') I10 rfl (.cons r10 .nil) ⟨D,ys,y,rfl,rfl,eys,lys,q10⟩) fun v2 s11 ⟨y2,H11,I11,_,q11⟩=>?_
    exact again I11 q11
 have ee:({newEnv scope s3.heap.objs.size X.env.globals (vZ scope.names X.env.cells) X.env.qual none .none (some X.env) builtinsNs with scope:=relabel scope X.env}:Env)=Y.env:=by rw[←hX];rfl
 rw[ee]
 exact codeAny_compStart_list loop (T.self _ 0 _ _ _ st4 loop)
theorem vt {elt target iter:Expr} {ifs:List Expr} {pos:Pos} {g:TG} {tt:TT} {te:TE} {it:Addr} {tn:Nat→Heap→Prop} {J:It} {Q:VK} {E:Value→Shared→Prop} {R:Value→Addr→Result→Shared→Prop}
  (L:aS X scope N js) (hc:X.calm=true)
  (hg: ∀ s₀ H₀ ex pn,PG (jb X scope N s₀ H₀ ex pn) target g) (ht: ∀ s₀ H₀ ex pn,zk (jb X scope N s₀ H₀ ex pn) ifs tt) (he: ∀ s₀ H₀ ex pn,PE (jb X scope N s₀ H₀ ex pn) elt te)
  (I:Inv X pins σ H s) (T:Turn X.prog X.w X.K target J fp it tn) (st:tn 0 s.heap) (hf: ∀ b∈fp,eQ X pins H b)
  (w: ∀ D,H D=none→∃ W:Nat→Nat→St→Hp→Prop,(∃ m,W 0 m (iN js σ) (upd H D (.lst [])))∧∀ i m σ' H',W i m σ' H'→
   (J.stop i H'∧Q (.ref D) H')∨(J.go i H'∧∀ x H2,J.AG i H' x H2→g x σ' H2 fun σ2 H3=>tt σ2 H3 fun ok H4=>
    if ok=true then te σ2 H4 fun y H5=> ∃ ys,H5 D=some (.lst ys)∧ys.length < sizeLine∧∃ m',m' < m∧W (i+1) m' σ2 (upd H5 D (.lst (ys++[y])))
    else ∃ m',m' < m∧W (i+1) m' σ2 H4))
  (hR: ∀ D C s' H',Inv X pins σ H' s'→eQ X pins H' C→(∃ m,s'.heap.Ns C m)→Q (.ref D) H'→R (.ref D) C (.ok .next) s'):
  wpAny (model X.prog X.w) X.A (newList []) (fun acc s₃=>wpAny (model X.prog X.w) X.A (newFunctionEnv scope X.env.globals (vZ scope.names X.env.cells) [] X.env.qual none .none (some X.env)) (fun cenv s₄=>
   codeAny (model X.prog X.w) X.A (.compStart (.ListComp elt [⟨target,iter,ifs,0⟩] scope pos) 0 (.ref it) acc {cenv with scope:=relabel scope X.env}) (R acc cenv.locals) s₄) E s₃) E s:=by
 have I3:=I.Cj (t':=s.toks) (ys:=[]) (its:=[]) .nil (Me _)
 have hD:=I.fresh
 refine wpAny_newObj_type (wpAny_newFunctionEnv L.xn (by intro y hy;simp at hy) (fun h₁ hns₁ hsb₁=>?_) L.kind)
 dsimp only at hns₁ hsb₁
 exact EA (Q:=Q) (R:=R) (s3:={s with heap:=s.heap.push {cls:=.type "list",data:=.seq ([]:List Value).toArray},toks:=s.toks}) L hc hg ht he I T st hf I3 (fun b o e=>Mg (L1 e)) (fun b o e=>LL _ e) hns₁
  (fun b o e=>hsb₁.extBut b o (Mg (L1 e)) (LL _ e)) (w _ hD) (fun C=>hR _ C)
theorem Jc {elt target iter:Expr} {ifs:List Expr} {pos:Pos} {wi:TI} {g:TG} {tt:TT} {te:TE} (L:aS X scope N js) (hc:X.calm=true) (hi:PI X target iter wi)
  (hg: ∀ s₀ H₀ ex pn,PG (jb X scope N s₀ H₀ ex pn) target g) (ht: ∀ s₀ H₀ ex pn,zk (jb X scope N s₀ H₀ ex pn) ifs tt) (he: ∀ s₀ H₀ ex pn,PE (jb X scope N s₀ H₀ ex pn) elt te)
  (hs: ∀ x,foldedSetIterable iter X.env x=pure x:=by intro _;rfl):PE X (.ListComp elt [⟨target,iter,ifs,0⟩] scope pos) (Gk js wi g tt te):=by
 intro pins s σ H Q I h
 rw[eval_ListComp]
 refine wpAny_comprehension_free (use:=none) rfl hs (lS (L.EY I.ok)) L.kind L.names (bN (hi pins s σ H _ I h) fun v s1 h1=>bN h1 fun itv s2 h2=>?_)
 obtain⟨it,fp,tn,J,H2,e,I2,T,st2,f2,w⟩:=h2
 subst e
 refine vt (Q:=Q) (R:=fun acc C=>compPost (model X.prog X.w) X.A X.xe none (EP X pins σ Q) acc C) L hc hg ht he I2 T st2 f2 w ?_
 intro D C s' H' I' f' ⟨m,hn⟩ q
 exact⟨m,hn,fun h' hs'=>⟨.ref D,H',I'.gone (m:=m) f' hs',rfl,q⟩⟩
theorem I0 {elt target iter:Expr} {ifs:List Expr} {pos spos py:Pos} {y:Str} {k:Nat} {wi:TI} {g:TG} {tt:TT} {te:TE} (hN:X.N.Nodup) (hk:X.N[k]?=some y) (hy:Loc X.env.scope y) (L:aS X scope N js) (hc:X.calm=true) (hi:PI X target iter wi)
  (hg: ∀ s₀ H₀ ex pn,PG (jb X scope N s₀ H₀ ex pn) target g) (ht: ∀ s₀ H₀ ex pn,zk (jb X scope N s₀ H₀ ex pn) ifs tt) (he: ∀ s₀ H₀ ex pn,PE (jb X scope N s₀ H₀ ex pn) elt te)
  (hsw:swapsWith (.ListComp elt [⟨target,iter,ifs,0⟩] scope pos) (some (.Name y py)) spos.line X.env=pure true:=by rfl)
  (hs: ∀ x,foldedSetIterable iter X.env x=pure x:=by intro _;rfl) (hf:X.fn y=true∨X.env.scope.names.lookup y=some .local:=by first|exact .inl rfl|exact .inr rfl|assumption):
  PS X (.Assign [.Name y py] (.ListComp elt [⟨target,iter,ifs,0⟩] scope pos) spos) (lA (Gk js wi g tt te) (gn k)):=by
 intro pins s σ H D I h
 rw[exec_Assign_Name_used _ _ _ _ hsw]
 refine LI (wpAny_standAt (LI ?_))
 show wpAny _ X.A (do let _ ←comprehension (.ListComp elt [⟨target,iter,ifs,0⟩] scope pos) scope X.env _ (newList []) false (eval iter X.env) (some (assign (.Name y py) X.env))) _ _ s
 refine LI (bN (wpAny_comprehension_free (Q:=fun _ s'=>SP X pins D .next s') rfl hs (lS (L.EY I.ok)) L.kind L.names (bN (hi pins s σ H _ I h) fun v s1 h1=>bN h1 fun itv s2 h2=>?_)) fun _ s' hq=>LN (LN hq))
 obtain⟨it,fp,tn,J,H2,e,I2,T,st2,f2,w⟩:=h2
 subst e
 refine vt (Q:=fun v H1=>D.nx (σ.set k (some v)) H1) (R:=fun acc C=>compPost (model X.prog X.w) X.A X.xe (some (assign (.Name y py) X.env)) (fun _ s'=>SP X pins D .next s') acc C) L hc hg ht he I2 T st2 f2 w ?_
 intro A C s' H' I' f' ⟨m,hn⟩ q
 show wpAny _ _ (assign (.Name y py) X.env (.ref A)) _ _ s'
 refine wpAny_assign_Name (rE (v:=V.ref A) I' hN hk hy rfl (fun s2 I3 ⟨a,hsb,ha⟩=>?_) hf)
 have hca:C≠a:=by
  rintro rfl
  rcases ha with z|z
  ·exact f'.2.1 z
  ·exact f'.2.2.2.2.1 y _ z rfl
 exact⟨m,hn.sameBut hsb hca,fun h' hs'=>⟨_,H',I3.gone (m:=m) f' hs',q⟩⟩
end
noncomputable def Kf (x:Str):It:=⟨fun i _=>i < x.cps.size,fun i H v H'=>H'=H∧∃ c,x.cps[i]?=some c∧v= .str ⟨#[c]⟩,fun i _=>i=x.cps.size⟩
theorem rB {P:Program} {w:World} {K:Frag} {tg:Expr} (it:Addr) (x:Str) (t:Tok) {ty:String}
  (hn:["enumerate","zip","dict_itemiterator","dict_reverseitemiterator","odict_iterator","itertools.zip_longest","itertools.pairwise"].contains ty=false)
  (Wk: ∀ A:Around,A.handled=none→Walks P w A it [it] [it] x.cps.size (SignAt x) (fun i h=>h.IsStrIter it ty x t i))
  (Sf: ∀ (A:Around) i (s:Shared) (Q:Value→Shared→Prop) (E:Value→Shared→Prop),s.heap.IsStrIter it ty x t i→Q (.ref it) s→wpAny (model P w) A (pyIter (.ref it)) Q E s):Turn P w K tg (Kf x) [it] it (fun i h=>h.IsStrIter it ty x t i) where
 mem:=by simp
 obj:=fun i h st b hb=>by
  have e:b=it:=by simpa using hb
  subst e
  obtain⟨o,e,c,d⟩:=st
  exact⟨o,e,fun v z=>by rw[d] at z;cases z⟩
 keep:=fun i h h' st k=>by
  obtain⟨o,e,c,d⟩:=st
  exact⟨o,k it (by simp) o e,c,d⟩
 item:=by
  intro X hP hw hK hc i pins s σ H E I hf st hg
  subst hP hw hK
  obtain⟨f0,f1,f2,f3,f4,f5⟩:=hf it (by simp)
  refine(Wk X.A (I.ok.hd hc)).item i s _ _ hg st fun v h' tk hv st' kk=>?_
  obtain⟨c,u,hcx,rfl⟩:=hv
  have I1:Inv X pins σ H {s with heap:=h',toks:=tk}:=I.turned (fun b o hb e=>kk b o (by simpa using hb) e) f0 f1 f3 f4 f5
  obtain⟨o,e,oc,d⟩:=id st'
  exact⟨_,rfl,sg (s:={s with heap:=h',toks:=tk}) e oc d hn ⟨.str ⟨#[c]⟩,H,I1,⟨u,rfl⟩,⟨rfl,c,hcx,rfl⟩,st',fun b hb=>(hf b hb).1⟩⟩
 done:=by
  intro X hP hw hK hc i pins s σ H E I hf st hg
  subst hP hw hK
  have hg':i=x.cps.size:=hg
  subst hg'
  obtain⟨f0,f1,f2,f3,f4,f5⟩:=hf it (by simp)
  exact(Wk X.A (I.ok.hd hc)).done s _ _ st fun h' tk kk=>⟨rfl,I.turned (fun b o hb e=>kk b o (by simpa using hb) e) f0 f1 f3 f4 f5⟩
 self:=fun A i s Q E st h=>Sf A i s Q E st h
section
variable {X:Cx} {tg:Expr}
theorem zT:fT X (compareOp .LtE) (fun x y H Q=> ∃ i j,x= .str i∧y= .str j∧Q (.bl (!decide (j.cps.toList < i.cps.toList))) H):=by
 intro pins s σ H x y v u Q I rx ry h
 obtain⟨i,j,rfl,rfl,q⟩:=h
 obtain⟨t,rfl⟩:=rx
 obtain⟨t',rfl⟩:=ry
 exact PySem.P.le_str (kH I q rfl)
theorem Eg:fT X (binaryOp .Mult) (rI IntMulOk fun i j=>.int (i * j)):=HZ fun _ _ _ _ _ _ _ hc q=>mul_int q hc
theorem mD:fT X (binaryOp .Pow) (rI (fun i j=>0≤j∧(Builtin.Int.intBits i:Int) * j≤2 ^ 27) fun i j=>.int (i ^ j.toNat)):=HZ fun _ _ _ _ _ _ _ hc q=>pow_int hc.1 hc.2 q
noncomputable def Kz (K:Frag) (neg:Bool):R2:=fun x y H Q=> ∃ p q xs,x= .ref p∧y= .ref q∧cQ K H p xs∧cQ K H q []∧Q (.bl (xor neg xs.isEmpty)) H
theorem zS (hu:X.A.units < cLine):fT X (compareOp .NotEq) (Kz X.K true):=by
 intro pins s σ H x y v u Q I rx ry h
 obtain⟨p,q,xs,rfl,rfl,h1,h2,hq⟩:=h
 cases rx;cases ry
 obtain⟨its,r1,l1,_⟩:=I.list h1
 obtain⟨its2,r2,l2,_⟩:=I.list h2
 cases r2
 cases xs with
 |nil=>
  cases r1
  exact SeqAt.RcNeAt.lists (e:=fun _=>true) l1.isList l2.isList rfl hu (fun j a _=>by simp at a) _ _ _ _ (kH I hq rfl)
 |cons y ys=>
  have e:=r1.length
  exact SeqAt.RcNeAt.lists_lengths l1.isList l2.isList (by simp;intro z;subst z;simp at e) hu _ _ _ _ (kH I hq rfl)
theorem JG {bs:List Bool} {its:List Value} (r:Vals (bs.map V.bl) its) (i:Nat) (v:Value) (e:its[i]?=some v): ∃ b,bs[i]?=some b∧v= .bool b:=by
 have hl:=r.length
 rw[LK] at hl
 have hi:i < bs.length:=by rw[hl];exact(LP.mp e).1
 obtain⟨u,h1,h2⟩:=r.get (x:=V.bl bs[i]) (by rw[L5,LH hi];rfl)
 rw[e] at h1;cases h1
 exact⟨bs[i],LH hi,h2⟩
theorem wV (bs:List Bool):((List.range bs.length).all fun i=>(bs[i]?).getD true)=bs.all id:=by
 rw[Bool.eq_iff_iff,List.all_eq_true,List.all_eq_true]
 constructor
 ·intro h b hb
  obtain⟨i,hi,e⟩:=List.getElem_of_mem hb
  have:=h i (List.mem_range.mpr hi)
  rw[LH hi,e] at this
  exact this
 ·intro h i hi
  have hi':=List.mem_range.mp hi
  rw[LH hi']
  exact h _ (Mu hi')
theorem qB (hc:X.calm=true):iy X (.builtin "all") (fun xs H Q=> ∃ (p:Addr) (bs:List Bool),xs=[.ref p]∧cQ X.K H p (bs.map V.bl)∧Q (.bl (bs.all id)) H):=by
 intro pins s σ H xs us Q I r h
 obtain⟨p,bs,rfl,hq,q⟩:=h
 obtain⟨u,rfl,rx⟩:=vals1 r
 cases rx
 obtain⟨its,r',pl,hz⟩:=I.list hq
 have hl:=pl.isList
 have hlt:p < s.heap.objs.size:=by obtain⟨_,e,_⟩:=hl;exact L1 e
 have hlen:=r'.length
 rw[LK] at hlen
 refine call_all_walk (wpAny_pyIter_list hl ?_)
 refine⟨s.heap.objs.size,[s.heap.objs.size,p],[s.heap.objs.size],its.toArray.size,_,_,fun i=>(bs[i]?).getD true,rfl,Walks.list (A:=X.A.in1) (I.ok.hd hc) _ p (Mg hlt) its.toArray,
  ⟨⟨_,LY _ rfl,rfl,rfl⟩,hl.push _⟩,fun i v s' Q' E' hP hQ=>?_,fun h' tk hk=>?_⟩
 ·obtain⟨b,e,rfl⟩:=JG r' i v (by simpa using hP)
  simp only[e,Option.getD_some] at hQ
  exact wpAny_truthy_bool hQ
 ·refine⟨.bl (bs.all id),H,I.kept (fun b o e=>hk b o (fun hm=>?_) (LL _ e)),?_,q⟩
  ·rw[Mf.mp hm] at e;exact Nat.lt_irrefl _ (L1 e)
  ·show Value.bool _=Value.bool _
   rw[LO,←hlen,wV]
theorem ye: ∀ {ys:List Str} {us:List Value},Vals (ys.map V.str) us→StrsAre us ys
 |[],us,r=>by rw[List.map_nil] at r;cases r;exact .nil
 |y::ys,us,r=>by
  rw[LS] at r
  cases r with
  |cons h t=>obtain⟨t',rfl⟩:=h;exact .cons y t' (ye t)
theorem Ep:Lg X "str.join" (fun x xs H Q=> ∃ (sep:Str) (p:Addr) (ys:List Str),x= .str sep∧xs=[.ref p]∧cQ X.K H p (ys.map V.str)∧(ys.map (·.length)).sum+ys.length * sep.length≤16777216∧Q (.str (Txt.join sep ys)) H):=by
 intro pins s σ H x xs v us Q I rx rv h
 obtain⟨sep,p,ys,rfl,rfl,hq,hz,q⟩:=h
 obtain⟨t,rfl⟩:=rx
 obtain⟨u,rfl,ru⟩:=vals1 rv
 cases ru
 obtain⟨its,r',pl,_⟩:=I.list hq
 exact join_list pl.isList (by simpa using ye r') hz fun t' k=>⟨.str (Txt.join sep ys),H,I.tok _,⟨_,rfl⟩,q⟩
end
noncomputable def Jr (scope es:Scope) (XN N:List Str) (js:List (Option Nat)):Bool:=
 (scope.kind== .function)&&scope.names.all (fun y=>y.2 != .cell&&(y.2 != .local||scope.names.lookup y.1==some .local)&&(y.2 != .free||es.names.lookup y.1==some .cell||es.names.lookup y.1==some .free))&&
 (js.length==N.length)&&(List.range N.length).all (fun i=>match N[i]?,js[i]? with|some y,some (some j)=>XN[j]?==some y&&scope.names.lookup y==some .free|_,_=>true)
theorem aS.tV {X:Cx} {scope:Scope} {N:List Str} {js:List (Option Nat)} (es:Scope) (XN:List Str) (h1:X.env.scope=es) (h2:X.N=XN) (h:Jr scope es XN N js=true):aS X scope N js:=by
 unfold Jr at h
 simp only[Mo,List.all_eq_true] at h
 obtain⟨⟨⟨ha,hb⟩,hc⟩,hd⟩:=h
 refine⟨by simpa using ha,fun y hy=>?_,fun y hy hl=>?_,fun y hy hl=>?_,by simpa using hc,fun i y j e1 e2=>?_⟩
 ·have:=(hb y hy).1.1
  simpa using this
 ·have:=(hb y hy).1.2
  rw[hl] at this
  simpa using this
 ·have:=(hb y hy).2
  rw[hl] at this
  rw[h1]
  simpa using this
 ·have hi:i < N.length:=(LP.mp e1).1
  have:=hd i (List.mem_range.mpr hi)
  rw[e1,e2] at this
  simp only[Mo] at this
  rw[h2]
  exact⟨by simpa using this.1,by simpa using this.2⟩
noncomputable def isStar:Expr→Bool
 | .Starred .. =>true
 |_=>false
theorem IE {e:Expr} {es:List Expr} {env:Env} (h:isStar e=false):starEach (e::es) env=(false,eval e env)::starEach es env:=by
 cases e<;>first
  |rfl
  |(exfalso;exact Bool.noConfusion h)
theorem Jf {X:Cx} {e:Expr} {es:List Expr} {te:TE} {t:TA} (ha:PE X e te) (hr:PA X es t) (h:isStar e=false:=by rfl):PA X (e::es) (mm te t):=dS ha hr (IE h)
theorem je {H:Hp} {p:Addr} (h:H p=none) (o:HO):gq H (upd H p o):=fun b u q=>by rw[ao (aQ q h)];exact q
section
set_option genInjectivity false in
structure Bx (p:Prop):Prop where
 out:p
abbrev BE (X:Cx) (e:Expr) (t:TE):Prop:=Bx (PE X e t)
abbrev BT (X:Cx) (e:Expr) (t:TT):Prop:=Bx (PT X e t)
abbrev BW (X:Cx) (e:Expr) (t:TT):Prop:=Bx (PW X e t)
abbrev BA (X:Cx) (es:List Expr) (t:TA):Prop:=Bx (PA X es t)
abbrev BS (X:Cx) (st:Stmt) (t:TS):Prop:=Bx (PS X st t)
abbrev Dj (X:Cx) (st:List Stmt) (t:TS):Prop:=Bx (wy X st t)
abbrev BI (X:Cx) (tg iter:Expr) (t:TI):Prop:=Bx (PI X tg iter t)
abbrev BG (X:Cx) (tg:Expr) (t:TG):Prop:=Bx (PG X tg t)
abbrev Kk (X:Cx) (ts:List Expr) (t:Dh):Prop:=Bx (JO X ts t)
abbrev BO (X:Cx) (e:Option Expr) (t:TO):Prop:=Bx (PO X e t)
abbrev Ga (X:Cx) (ifs:List Expr) (t:TT):Prop:=Bx (zk X ifs t)
inductive PV where
 |aW|bl (b:Bool)|int (i:Int)|str (x:Str)|tup (l:List PV)|lst (l:List PV)|fz (kvs:List (Key×PV))|sX (ns:List Int)|bQ
inductive M (α:Type) where
 |fail|ret (a:α)|draw (m:Int) (k:Int→M α)
namespace M
variable {α β γ:Type}
noncomputable def bind:M α→(α→M β)→M β
 |fail,_=>fail
 |ret a,f=>f a
 |draw m k,f=>draw m fun d=>(k d).bind f
def wp:M α→Nat→(α→Nat→Prop)→Prop
 |fail,_,_=>False
 |ret a,n,Q=>Q a n
 |draw m k,n,Q=>0 < m∧m < 1073741824∧∃ n',n=n'+1∧∀ d,0≤d→d < m→(k d).wp n' Q
theorem wp_bind (m:M α) (f:α→M β): ∀ (n:Nat) (Q:β→Nat→Prop),(m.bind f).wp n Q=m.wp n fun a n'=>(f a).wp n' Q:=by
 induction m with
 |fail=>intro n Q;rfl
 |ret a=>intro n Q;rfl
 |draw m k ih=>intro n Q;simp only[bind,wp,ih]
theorem wp_mono {m:M α}: ∀ {n:Nat} {Q Q':α→Nat→Prop},m.wp n Q→(∀ a n',Q a n'→Q' a n')→m.wp n Q':=by
 induction m with
 |fail=>intro n Q Q' h _;exact h
 |ret a=>intro n Q Q' h f;exact f _ _ h
 |draw m k ih=>
  intro n Q Q' h f
  obtain⟨h1,h2,n',e,h3⟩:=h
  exact⟨h1,h2,n',e,fun d a b=>ih d (h3 d a b) f⟩
theorem bind_assoc (m:M α) (f:α→M β) (g:β→M γ):(m.bind f).bind g=m.bind fun a=>(f a).bind g:=by
 induction m with
 |fail=>rfl
 |ret a=>rfl
 |draw m k ih=>simp only[bind,ih]
@[simp] theorem ret_bind (a:α) (f:α→M β):(ret a).bind f=f a:=rfl
noncomputable def cY:Option α→M α
 |some a=>ret a
 |none=>fail
end M
inductive Rep (B:Addr) (O:Addr→Prop) (H:Hp):PV→V→Prop where
 |aW:Rep B O H .aW .aW
 |bl (b:Bool):Rep B O H (.bl b) (.bl b)
 |int (i:Int):Rep B O H (.int i) (.int i)
 |str (x:Str):Rep B O H (.str x) (.str x)
 |tup {p:Addr} {xs:List V} {l:List PV} (hO: ¬ O p) (h:H p=some (.tup xs)) (hl:l.length=xs.length) (hr: ∀ (i:Nat) (y:PV) (x:V),l[i]?=some y→xs[i]?=some x→Rep B O H y x):Rep B O H (.tup l) (.ref p)
 |lst {p:Addr} {xs:List V} {l:List PV} (hO: ¬ O p) (h:H p=some (.lst xs)) (hl:l.length=xs.length) (hr: ∀ (i:Nat) (y:PV) (x:V),l[i]?=some y→xs[i]?=some x→Rep B O H y x):Rep B O H (.lst l) (.ref p)
 |fz {p:Addr} {ks:List (Key×V)} {l:List (Key×PV)} (hO: ¬ O p) (h:Rd H p (.dK ks)) (hk:l.map (·.1)=ks.map (·.1)) (hr: ∀ (i:Nat) (y:Key×PV) (x:Key×V),l[i]?=some y→ks[i]?=some x→Rep B O H y.2 x.2):Rep B O H (.fz l) (.ref p)
 |sX {p:Addr} {ns:List Int} (hO: ¬ O p) (h: ∃ o,H p=some (.h8 o (.lst (ns.map V.int)))):Rep B O H (.sX ns) (.ref p)
 |bQ:Rep B O H .bQ (.ref B)
def a9 (B:Addr) (O:Addr→Prop) (H:Hp) (l:List PV) (xs:List V):Prop:=l.length=xs.length∧∀ (i:Nat) (y:PV) (x:V),l[i]?=some y→xs[i]?=some x→Rep B O H y x
def br (B:Addr) (O:Addr→Prop) (H:Hp) (l:List (Key×PV)) (ks:List (Key×V)):Prop:=l.map (·.1)=ks.map (·.1)∧∀ (i:Nat) (y:Key×PV) (x:Key×V),l[i]?=some y→ks[i]?=some x→Rep B O H y.2 x.2
def iW (H':Hp) (p:Addr):HO→Prop
 | .oV _=> ∃ qs,H' p=some (.oV qs)
 |o=>H' p=some o
theorem iW.of {H':Hp} {p:Addr} {o:HO} (h:H' p=some o):iW H' p o:=by
 cases o<;>first|exact h|exact⟨_,h⟩
theorem iW.there {H':Hp} {p:Addr} {o:HO} (h:iW H' p o): ∃ u,H' p=some u:=by
 cases o<;>first|exact⟨_,h⟩|(obtain⟨qs,e⟩:=h;exact⟨_,e⟩)
theorem iW.to {H' H2:Hp} {p:Addr} {o:HO} (h:iW H' p o) (k: ∀ u,H' p=some u→iW H2 p u):iW H2 p o:=by
 cases o<;>first|exact k _ h|(obtain⟨qs,e⟩:=h;have q:=k (.oV qs) e;exact q)
def Ext (B:Addr) (H H':Hp):Prop:= ∀ p o,p≠B→H p=some o→iW H' p o
theorem Ext.refl (B:Addr) (H:Hp):Ext B H H:=fun _ _ _ h=>.of h
theorem Ext.trans {B:Addr} {H H1 H2:Hp} (a:Ext B H H1) (b:Ext B H1 H2):Ext B H H2:=fun p o n h=>(a p o n h).to fun u e=>b p u n e
theorem Ext.new {B p:Addr} {H:Hp} (h:H p=none) (o:HO):Ext B H (upd H p o):=fun q u _ e=>.of (by rw[ao (aQ e h)];exact e)
section
variable {B:Addr} {O O':Addr→Prop} {H H':Hp} {y:PV} {x:V} {l l':List PV} {xs xs':List V}
theorem Rep.gH (h:Rep B O H y x) (hH: ∀ p o,¬ O p→H p=some o→iW H' p o∧¬ O' p):Rep B O' H' y x:=by
 induction h with
 |aW=>exact .aW
 |bl b=>exact .bl b
 |int i=>exact .int i
 |str x=>exact .str x
 |tup hO h hl hr ih=>exact .tup (hH _ _ hO h).2 (hH _ _ hO h).1 hl ih
 |lst hO h hl hr ih=>exact .lst (hH _ _ hO h).2 (hH _ _ hO h).1 hl ih
 |sX hO h=>
  obtain⟨o,e⟩:=h
  exact .sX (hH _ _ hO e).2 ⟨o,(hH _ _ hO e).1⟩
 |fz hO h hl hr ih=>
  rcases h with h|⟨o,h⟩
  ·exact .fz (hH _ _ hO h).2 (.inl (hH _ _ hO h).1) hl ih
  ·exact .fz (hH _ _ hO h).2 (.inr ⟨o,(hH _ _ hO h).1⟩) hl ih
 |bQ=>exact .bQ
theorem Rep.keep (h:Rep B O H y x) (hH: ∀ p o,¬ O p→H p=some o→H' p=some o∧¬ O' p):Rep B O' H' y x:=h.gH fun p o n q=>⟨.of (hH p o n q).1,(hH p o n q).2⟩
theorem Rep.ext (h:Rep B O H y x) (hB:O B) (e:Ext B H H'):Rep B O H' y x:=h.gH fun p o n q=>⟨e p o (fun z=>n (z▸hB)) q,n⟩
theorem Rep.less (h:Rep B O H y x) (hO: ∀ p,O' p→O p):Rep B O' H y x:=h.keep fun p o n q=>⟨q,fun z=>n (hO p z)⟩
theorem Rep.grow (h:Rep B O H y x) (hO: ∀ p,O' p→O p∨H p=none):Rep B O' H y x:=h.keep fun p o n q=>⟨q,fun z=>by
 rcases hO p z with w|w
 ·exact n w
 ·rw[w] at q;cases q⟩
theorem a9.gH (h:a9 B O H l xs) (hH: ∀ p o,¬ O p→H p=some o→iW H' p o∧¬ O' p):a9 B O' H' l xs:=⟨h.1,fun i y x a b=>(h.2 i y x a b).gH hH⟩
theorem a9.keep (h:a9 B O H l xs) (hH: ∀ p o,¬ O p→H p=some o→H' p=some o∧¬ O' p):a9 B O' H' l xs:=⟨h.1,fun i y x a b=>(h.2 i y x a b).keep hH⟩
theorem a9.ext (h:a9 B O H l xs) (hB:O B) (e:Ext B H H'):a9 B O H' l xs:=⟨h.1,fun i y x a b=>(h.2 i y x a b).ext hB e⟩
theorem a9.less (h:a9 B O H l xs) (hO: ∀ p,O' p→O p):a9 B O' H l xs:=⟨h.1,fun i y x a b=>(h.2 i y x a b).less hO⟩
theorem a9.grow (h:a9 B O H l xs) (hO: ∀ p,O' p→O p∨H p=none):a9 B O' H l xs:=⟨h.1,fun i y x a b=>(h.2 i y x a b).grow hO⟩
theorem a9.nil:a9 B O H [] []:=⟨rfl,fun i y x a=>by simp at a⟩
theorem a9.cons (h:Rep B O H y x) (t:a9 B O H l xs):a9 B O H (y::l) (x::xs):=⟨by simp[t.1],fun i y' x' a b=>by
 cases i with
 |zero=>simp at a b;subst a b;exact h
 |succ i=>simp at a b;exact t.2 i y' x' a b⟩
theorem a9.head (h:a9 B O H (y::l) (x::xs)):Rep B O H y x:=h.2 0 y x rfl rfl
theorem a9.tail (h:a9 B O H (y::l) (x::xs)):a9 B O H l xs:=⟨by simpa using h.1,fun i y' x' a b=>h.2 (i+1) y' x' (by simpa using a) (by simpa using b)⟩
theorem a9.nil_inv (h:a9 B O H [] xs):xs=[]:=Mp h.1.symm
theorem a9.cons_inv (h:a9 B O H (y::l) xs): ∃ x r,xs=x::r∧Rep B O H y x∧a9 B O H l r:=by
 cases xs with
 |nil=>have:=h.1;simp at this
 |cons x r=>exact⟨x,r,rfl,h.head,h.tail⟩
theorem a9.at (h:a9 B O H l xs) {i:Nat} (e:l[i]?=some y): ∃ x,xs[i]?=some x∧Rep B O H y x:=by
 have hi:i < l.length:=(LP.mp e).1
 have hx:i < xs.length:=h.1▸hi
 exact⟨xs[i],LH hx,h.2 i y _ e (LH hx)⟩
theorem a9.at' (h:a9 B O H l xs) {i:Nat} (e:xs[i]?=some x): ∃ y,l[i]?=some y∧Rep B O H y x:=by
 have hi:i < xs.length:=(LP.mp e).1
 have hx:i < l.length:=h.1▸hi
 exact⟨l[i],LH hx,h.2 i _ x (LH hx) e⟩
theorem a9.append: ∀ {l:List PV} {xs:List V},a9 B O H l xs→a9 B O H l' xs'→a9 B O H (l++l') (xs++xs')
 |[],xs,h,t=>by rw[h.nil_inv];exact t
 |y::l,xs,h,t=>by
  obtain⟨x,r,rfl,h1,h2⟩:=h.cons_inv
  exact .cons h1 (a9.append h2 t)
theorem a9.drop: ∀ (k:Nat) {l:List PV} {xs:List V},a9 B O H l xs→a9 B O H (l.drop k) (xs.drop k)
 |0,_,_,h=>h
 |_+1,[],_,h=>by have e:=h.nil_inv;subst e;simpa using a9.nil
 |k+1,y::l,xs,h=>by
  obtain⟨x,r,rfl,h1,h2⟩:=h.cons_inv
  exact a9.drop k h2
theorem a9.take: ∀ (k:Nat) {l:List PV} {xs:List V},a9 B O H l xs→a9 B O H (l.take k) (xs.take k)
 |0,_,_,h=>.nil
 |_+1,[],_,h=>by have e:=h.nil_inv;subst e;simpa using a9.nil
 |k+1,y::l,xs,h=>by
  obtain⟨x,r,rfl,h1,h2⟩:=h.cons_inv
  exact .cons h1 (a9.take k h2)
theorem a9.set (h:a9 B O H l xs) (i:Nat) (hr:Rep B O H y x):a9 B O H (l.set i y) (xs.set i x):=by
 refine⟨by simp[h.1],fun j y' x' a b=>?_⟩
 by_cases e:i=j
 ·subst e
  rw[List.getElem?_set] at a b
  simp at a b
  obtain⟨_,rfl⟩:=a
  obtain⟨_,rfl⟩:=b
  exact hr
 ·rw[Mj e] at a b
  exact h.2 j y' x' a b
theorem br.keep {l:List (Key×PV)} {ks:List (Key×V)} (h:br B O H l ks) (hH: ∀ p o,¬ O p→H p=some o→H' p=some o∧¬ O' p):br B O' H' l ks:=⟨h.1,fun i y x a b=>(h.2 i y x a b).keep hH⟩
theorem br.ext {l:List (Key×PV)} {ks:List (Key×V)} (h:br B O H l ks) (hB:O B) (e:Ext B H H'):br B O H' l ks:=⟨h.1,fun i y x a b=>(h.2 i y x a b).ext hB e⟩
end
set_option genInjectivity false in
structure fA where
 K:Frag
 sp:Sp
 tabs:List (Addr×Str)
def HP:HO→Prop
 | .h8 _ (.dK _)=>False
 | .h8 _ _=>True
 |_=>False
def TabAt (H:Hp) (e:Addr×Str):Prop:= ∃ ps,H e.1=some (.oV ps)∧TriplesOk ps.toList∧∀ pos cv,codeAmong pos ps.toList=some cv→∃ c oc vs t,cv= .ref c∧H c=some (.h8 oc (.own c))∧oc.data= .fields vs∧vs[1]?=some (.str e.2 t)
theorem TabAt.keep {H H':Hp} {e:Addr×Str} (h:TabAt H e) (k1: ∀ ps,H e.1=some (.oV ps)→H' e.1=some (.oV ps)) (k2: ∀ p ob u,H p=some (.h8 ob (.own u))→H' p=some (.h8 ob (.own u))):TabAt H' e:=by
 obtain⟨ps,h1,h2,h3⟩:=h
 refine⟨ps,k1 _ h1,h2,fun pos cv e1=>?_⟩
 obtain⟨c,oc,vs,t,rfl,g1,g2⟩:=h3 pos cv e1
 exact⟨c,oc,vs,t,rfl,k2 _ _ _ g1,g2⟩
set_option genInjectivity false in
structure Bg (φ:fA) where
 B:Addr
 dP:Addr→Prop
 ok:Hp→Nat→Prop
 pB:dP B
 keep: ∀ H H' n,(∀ p o,(dP p∨HP o)→H p=some o→H' p=some o)→ok H n→ok H' n
 tp: ∀ e∈φ.tabs,dP e.1
 tab: ∀ H n,ok H n→∀ e∈φ.tabs,TabAt H e
 wG: ∀ H H' n,ok H n→(∀ e∈φ.tabs,TabAt H' e)→(∀ p o,p∉φ.tabs.map (·.1)→H p=some o→H' p=some o)→ok H' n
 C0: ∀ H n p,ok H n→dP p→∃ o,H p=some o
 dr: ∀ (H:Hp) (n:Nat) (m:Int) (Q:VK) (E:XK),ok H (n+1)→0 < m→m < 1073741824→(∀ (d:Int) (H':Hp),0≤d→d < m→Ext B H H'→ok H' n→Q (.int d) H')→φ.sp [.ref B,.int m] H Q E
variable {φ:fA}
inductive Ent where
 |un|val (y:PV)|own (l:List PV)|bT (kvs:List (Key×PV))
noncomputable abbrev af:=List Ent
def oq (G:Bg φ) (O:Addr→Prop) (H:Hp):Ent→Option V→Prop
 | .un,_=>True
 | .val y,o=> ∃ x,o=some x∧Rep G.B O H y x
 | .own l,o=> ∃ p xs,o=some (.ref p)∧O p∧¬ G.dP p∧H p=some (.lst xs)∧a9 G.B O H l xs
 | .bT l,o=> ∃ p ks,o=some (.ref p)∧O p∧¬ G.dP p∧H p=some (.dK ks)∧br G.B O H l ks
def lY (G:Bg φ) (O:Addr→Prop) (H:Hp) (σ:St) (ρ:af):Prop:=σ.length=ρ.length∧∀ (i:Nat) (e:Ent),ρ[i]?=some e→oq G O H e ((σ[i]?).getD none)
set_option genInjectivity false in
structure ES (G:Bg φ) (O:Addr→Prop) (H:Hp) (σ:St) (ρ:af) (n:Nat):Prop where
 er:lY G O H σ ρ
 ok:G.ok H n
 pr: ∀ p,G.dP p→O p
 dm: ∀ p,O p→∃ o,H p=some o
theorem ES.B {G:Bg φ} {O:Addr→Prop} {H:Hp} {σ:St} {ρ:af} {n:Nat} (s:ES G O H σ ρ n):O G.B:=s.pr _ G.pB
theorem oq.ext {G:Bg φ} {O:Addr→Prop} {H H':Hp} {e:Ent} {o:Option V} (h:oq G O H e o) (hB:O G.B) (x:Ext G.B H H'):oq G O H' e o:=by
 cases e with
 |un=>trivial
 |val y=>obtain⟨v,e,r⟩:=h;exact⟨v,e,r.ext hB x⟩
 |own l=>obtain⟨p,xs,e,hp,np,hl,r⟩:=h;exact⟨p,xs,e,hp,np,x p _ (fun z=>np (z▸G.pB)) hl,r.ext hB x⟩
 |bT l=>obtain⟨p,xs,e,hp,np,hl,r⟩:=h;exact⟨p,xs,e,hp,np,x p _ (fun z=>np (z▸G.pB)) hl,r.ext hB x⟩
theorem ES.ext {G:Bg φ} {O:Addr→Prop} {H H':Hp} {σ:St} {ρ:af} {n n':Nat} (s:ES G O H σ ρ n) (x:Ext G.B H H') (ok:G.ok H' n'):ES G O H' σ ρ n' where
 er:=⟨s.er.1,fun i e h=>(s.er.2 i e h).ext s.B x⟩
 ok:=ok
 pr:=s.pr
 dm:=fun p h=>by
  by_cases e:p=G.B
  ·subst e;exact G.C0 _ _ _ ok G.pB
  ·obtain⟨o,q⟩:=s.dm p h;exact(x p o e q).there
theorem Bg.new {G:Bg φ} {H:Hp} {n:Nat} (ok:G.ok H n) {p:Addr} (h:H p=none) (o:HO):G.ok (upd H p o) n:=G.keep _ _ _ (fun q u _ e=>by rw[ao (aQ e h)];exact e) ok
def om (G:Bg φ) (O:Addr→Prop) (H:Hp) (R:PV→Nat→Prop) (Q:VK):Prop:= ∀ (y:PV) (x:V) (H':Hp) (n':Nat),Ext G.B H H'→G.ok H' n'→Rep G.B O H' y x→R y n'→Q x H'
noncomputable def rC (φ:fA) (m:af→M PV):TE:=fun σ H Q=> ∃ (G:Bg φ) (O:Addr→Prop) (ρ:af) (n:Nat) (R:PV→Nat→Prop),ES G O H σ ρ n∧(m ρ).wp n R∧om G O H R Q
def EV (φ:fA) (X:Cx) (e:Expr) (m:af→M PV):Prop:=BE X e (rC φ m)
theorem BE.mono {X:Cx} {e:Expr} {t t':TE} (h:BE X e t) (f: ∀ σ H Q,t' σ H Q→t σ H Q):BE X e t':=⟨fun pins s σ H Q I q=>h.out pins s σ H Q I (f σ H Q q)⟩
inductive cz (G:Bg φ) (O:Addr→Prop) (H:Hp):PV→V→Prop where
 |full {y:PV} {x:V} (h:Rep G.B O H y x):cz G O H y x
 |top {p:Addr} {xs:List V} {l:List PV} (np: ¬ G.dP p) (h:H p=some (.lst xs)) (r:a9 G.B O H l xs):cz G O H (.lst l) (.ref p)
 |wH {p:Addr} {ks:List (Key×V)} {l:List (Key×PV)} (np: ¬ G.dP p) (h:H p=some (.dK ks)) (r:br G.B O H l ks):cz G O H (.fz l) (.ref p)
theorem cz.ext {G:Bg φ} {O:Addr→Prop} {H H':Hp} {y:PV} {x:V} (h:cz G O H y x) (hB:O G.B) (e:Ext G.B H H'):cz G O H' y x:=by
 cases h with
 |full h=>exact .full (h.ext hB e)
 | @top p xs l np h r=>exact .top np (e p (.lst xs) (fun z=>np (z▸G.pB)) h) (r.ext hB e)
 | @wH p ks l np h r=>exact .wH np (e p (.dK ks) (fun z=>np (z▸G.pB)) h) (r.ext hB e)
def JL (G:Bg φ) (O:Addr→Prop) (H:Hp) (R:PV→Nat→Prop) (Q:VK):Prop:= ∀ (y:PV) (x:V) (H':Hp) (n':Nat),Ext G.B H H'→G.ok H' n'→cz G O H' y x→R y n'→Q x H'
noncomputable def rD (φ:fA) (m:af→M PV):TE:=fun σ H Q=> ∃ (G:Bg φ) (O:Addr→Prop) (ρ:af) (n:Nat) (R:PV→Nat→Prop),ES G O H σ ρ n∧(m ρ).wp n R∧JL G O H R Q
def EB (φ:fA) (X:Cx) (e:Expr) (m:af→M PV):Prop:=BE X e (rD φ m)
theorem EV.b {X:Cx} {e:Expr} {m:af→M PV} (h:EV φ X e m):EB φ X e m:=BE.mono h fun σ H Q ⟨G,O,ρ,n,R,s,w,q⟩=>⟨G,O,ρ,n,R,s,w,fun y x H' n' a b c d=>q y x H' n' a b (.full c) d⟩
def JJ (G:Bg φ) (H:Hp) (R:Bool→Nat→Prop) (Q:Bool→Hp→Prop):Prop:= ∀ (b:Bool) (H':Hp) (n':Nat),Ext G.B H H'→G.ok H' n'→R b n'→Q b H'
noncomputable def A2 (φ:fA) (m:af→M Bool):TT:=fun σ H Q=> ∃ (G:Bg φ) (O:Addr→Prop) (ρ:af) (n:Nat) (R:Bool→Nat→Prop),ES G O H σ ρ n∧(m ρ).wp n R∧JJ G H R Q
def TV (φ:fA) (X:Cx) (e:Expr) (m:af→M Bool):Prop:=BT X e (A2 φ m)
def WV (φ:fA) (X:Cx) (e:Expr) (m:af→M Bool):Prop:=BW X e (A2 φ m)
def JM (G:Bg φ) (O:Addr→Prop) (H:Hp) (R:List PV→Nat→Prop) (Q:List V→Hp→Prop):Prop:= ∀ (l:List PV) (xs:List V) (H':Hp) (n':Nat),Ext G.B H H'→G.ok H' n'→a9 G.B O H' l xs→R l n'→Q xs H'
noncomputable def J1 (φ:fA) (m:af→M (List PV)):TA:=fun σ H Q=> ∃ (G:Bg φ) (O:Addr→Prop) (ρ:af) (n:Nat) (R:List PV→Nat→Prop),ES G O H σ ρ n∧(m ρ).wp n R∧JM G O H R Q
def AV (φ:fA) (X:Cx) (es:List Expr) (m:af→M (List PV)):Prop:=BA X es (J1 φ m)
def gs (G:Bg φ) (O:Addr→Prop) (H:Hp) (l:List PV) (xs:List V):Prop:=l.length=xs.length∧∀ (i:Nat) (y:PV) (x:V),l[i]?=some y→xs[i]?=some x→cz G O H y x
def HK (G:Bg φ) (O:Addr→Prop) (H:Hp) (R:List PV→Nat→Prop) (Q:List V→Hp→Prop):Prop:= ∀ (l:List PV) (xs:List V) (H':Hp) (n':Nat),Ext G.B H H'→G.ok H' n'→gs G O H' l xs→R l n'→Q xs H'
noncomputable def Ir (φ:fA) (m:af→M (List PV)):TA:=fun σ H Q=> ∃ (G:Bg φ) (O:Addr→Prop) (ρ:af) (n:Nat) (R:List PV→Nat→Prop),ES G O H σ ρ n∧(m ρ).wp n R∧HK G O H R Q
def AB (φ:fA) (X:Cx) (es:List Expr) (m:af→M (List PV)):Prop:=BA X es (Ir φ m)
def zi (G:Bg φ) (O:Addr→Prop) (H:Hp) (R:List PV→Nat→Prop) (Q:VK):Prop:= ∀ (l:List PV) (p:Addr) (xs:List V) (H':Hp) (n':Nat),Ext G.B H H'→G.ok H' n'→H p=none→H' p=some (.lst xs)→a9 G.B (fun q=>O q∨q=p) H' l xs→R l n'→Q (.ref p) H'
noncomputable def HW (φ:fA) (m:af→M (List PV)):TE:=fun σ H Q=> ∃ (G:Bg φ) (O:Addr→Prop) (ρ:af) (n:Nat) (R:List PV→Nat→Prop),ES G O H σ ρ n∧(m ρ).wp n R∧zi G O H R Q
def EF (φ:fA) (X:Cx) (e:Expr) (m:af→M (List PV)):Prop:=BE X e (HW φ m)
theorem EF.v {X:Cx} {e:Expr} {m:af→M (List PV)} (h:EF φ X e m):EV φ X e (fun ρ=>(m ρ).bind fun l=>.ret (.lst l)):=BE.mono h fun σ H Q hq0=>by
 obtain⟨G,O,ρ,n,R,s,w,q⟩:=hq0
 rw[M.wp_bind] at w
 refine⟨G,O,ρ,n,_,s,w,fun l p xs H' n' a b c d e f=>q (.lst l) _ H' n' a b (.lst (fun z=>?_) d e.1 (e.less fun q z=>.inl z).2) f⟩
 obtain⟨o,g⟩:=s.dm p z
 rw[c] at g;cases g
end
open Ent (val un)
section
variable {φ:fA}
theorem fX:100000≤sizeLine:=by rw[Mq];decide
section
variable {G:Bg φ} {O:Addr→Prop} {H:Hp} {n:Nat} {R:PV→Nat→Prop} {Q:VK} {x x':V}
theorem om.sc (w:om G O H R Q) (ok:G.ok H n) {y:PV} (r:Rep G.B O H y x) (h:R y n):Q x H:=w y x H n (Ext.refl _ _) ok r h
theorem om.tup (w:om G O H R Q) (ok:G.ok H n) (dm: ∀ p,O p→∃ o,H p=some o) {p:Addr} (hp:H p=none) {l:List PV} {xs:List V} (hB:O G.B) (r:a9 G.B O H l xs) (h:R (.tup l) n):Q (.ref p) (upd H p (.tup xs)):=by
 have e:=Ext.new (B:=G.B) hp (.tup xs)
 refine w (.tup l) _ _ n e (Bg.new ok hp _) (.tup (fun z=>?_) az r.1 (r.ext hB e).2) h
 obtain⟨o,g⟩:=dm p z
 rw[hp] at g;cases g
theorem om.lst (w:om G O H R Q) (ok:G.ok H n) (dm: ∀ p,O p→∃ o,H p=some o) {p:Addr} (hp:H p=none) {l:List PV} {xs:List V} (hB:O G.B) (r:a9 G.B O H l xs) (h:R (.lst l) n):Q (.ref p) (upd H p (.lst xs)):=by
 have e:=Ext.new (B:=G.B) hp (.lst xs)
 refine w (.lst l) _ _ n e (Bg.new ok hp _) (.lst (fun z=>?_) az r.1 (r.ext hB e).2) h
 obtain⟨o,g⟩:=dm p z
 rw[hp] at g;cases g
theorem zi.mk {R:List PV→Nat→Prop} (w:zi G O H R Q) (ok:G.ok H n) {p:Addr} (hp:H p=none) {l:List PV} {xs:List V} (hB:O G.B) (r:a9 G.B O H l xs) (h:R l n):Q (.ref p) (upd H p (.lst xs)):=by
 have e:=Ext.new (B:=G.B) hp (.lst xs)
 refine w l p xs _ n e (Bg.new ok hp _) hp az ((r.grow fun q z=>?_).ext (.inl hB) e) h
 rcases z with z|z
 ·exact .inl z
 ·subst z;exact .inr hp
theorem Bp {H:Hp} {p:Addr} {a b:List (Key×V)} (h:Rd H p (.dK a)) (g:Rd H p (.dK b)):a=b:=by
 rcases h with h|⟨o,h⟩<;>rcases g with g|⟨o',g⟩<;>(rw[h] at g;cases g)<;>rfl
theorem cz.FI (h:cz G O H .aW x):x= .aW:=by cases h with|full h=>cases h;rfl
theorem cz.Ld {b:Bool} (h:cz G O H (.bl b) x):x= .bl b:=by cases h with|full h=>cases h;rfl
theorem cz.cT {i:Int} (h:cz G O H (.int i) x):x= .int i:=by cases h with|full h=>cases h;rfl
theorem cz.iz {z:Str} (h:cz G O H (.str z) x):x= .str z:=by cases h with|full h=>cases h;rfl
theorem cz.kh {l:List PV} (h:cz G O H (.tup l) x): ∃ p xs,x= .ref p∧H p=some (.tup xs)∧a9 G.B O H l xs:=by cases h with|full h=>cases h with|tup a b c d=>exact⟨_,_,rfl,b,c,d⟩
theorem cz.gG {l:List PV} (h:cz G O H (.lst l) x): ∃ p xs,x= .ref p∧H p=some (.lst xs)∧a9 G.B O H l xs:=by
 cases h with
 |full h=>cases h with|lst a b c d=>exact⟨_,_,rfl,b,c,d⟩
 |top a b c=>exact⟨_,_,rfl,b,c⟩
theorem cz.y1 {l:List (Key×PV)} (h:cz G O H (.fz l) x): ∃ p ks,x= .ref p∧Rd H p (.dK ks)∧br G.B O H l ks:=by
 cases h with
 |full h=>cases h with|fz a b c d=>exact⟨_,_,rfl,b,c,d⟩
 |wH a b c=>exact⟨_,_,rfl,.inl b,c⟩
theorem cz.II {ns:List Int} (h:cz G O H (.sX ns) x): ∃ p o,x= .ref p∧H p=some (.h8 o (.lst (ns.map V.int))):=by cases h with|full h=>cases h with|sX a b=>obtain⟨o,b⟩:=b;exact⟨_,o,rfl,b⟩
theorem cz.low {y:PV} (h:cz G O H y x) (pr: ∀ p,G.dP p→O p):Rep G.B G.dP H y x:=by
 cases h with
 |full h=>exact h.less pr
 |top np h r=>exact .lst np h r.1 (r.less pr).2
 |wH np h r=>exact .fz np (.inl h) r.1 fun i y x a b=>(r.2 i y x a b).less pr
end
noncomputable def av (ρ:af) (i:Nat):M PV:=match ρ[i]? with|some (.val y)=>.ret y|_=>.fail
noncomputable def fW (ρ:af) (i:Nat):M PV:=match ρ[i]? with|some (.val y)=>.ret y|some (.own l)=>.ret (.lst l)|some (.bT l)=>.ret (.fz l)|_=>.fail
section
variable {X:Cx} {a b c:Expr} {pos:Pos} {ma mb mc:af→M PV}
theorem yS {e:Expr} {v:V} {y:PV} (h:BE X e (tC v)) (r: ∀ B O H,Rep B O H y v):EV φ X e (fun _=>.ret y):=BE.mono h fun σ H Q ⟨G,O,ρ,n,R,s,w,q⟩=>q.sc s.ok (r _ _ _) w
theorem aV {i:Int} {j:Nat}:EV φ X (.Constant (.int i) j pos) (fun _=>.ret (.int i)):=yS ⟨aY⟩ fun _ _ _=>.int i
theorem qo {i:Bool} {j:Nat}:EV φ X (.Constant (.bool i) j pos) (fun _=>.ret (.bl i)):=yS ⟨Je⟩ fun _ _ _=>.bl i
theorem dC {j:Nat}:EV φ X (.Constant .none j pos) (fun _=>.ret .aW):=yS ⟨GO⟩ fun _ _ _=>.aW
theorem bb {x:Str} {j:Nat}:EV φ X (.Constant (.str x) j pos) (fun _=>.ret (.str x)):=yS ⟨GL⟩ fun _ _ _=>.str x
theorem fB {G:Bg φ} {O:Addr→Prop} {H:Hp} {σ:St} {ρ:af} {i:Nat} {e:Ent} {x:V} (h:lY G O H σ ρ) (he:ρ[i]?=some e) (hx:(σ[i]?).getD none=some x):σ[i]?=some (some x):=by
 cases q:σ[i]? with
 |none=>rw[q] at hx;cases hx
 |some o=>rw[q] at hx;cases o with
  |none=>cases hx
  |some z=>simp at hx;rw[hx]
theorem ET {x:Str} (i:Nat) (h:BE X (.Name x pos) (oW i)):EV φ X (.Name x pos) (fun ρ=>av ρ i):=BE.mono h fun σ H Q hq0=>by
 obtain⟨G,O,ρ,n,R,s,w,q⟩:=hq0
 replace w:(av ρ i).wp n R:=w
 unfold av at w
 cases e:ρ[i]? with
 |none=>rw[e] at w;exact w.elim
 |some t=>
  rw[e] at w
  cases t with
  |val y=>
   obtain⟨x,hx,r⟩:=s.er.2 i _ e
   exact⟨x,fB s.er e hx,q.sc s.ok r w⟩
  |_=>exact w.elim
theorem fb {x:Str} (i:Nat) (h:BE X (.Name x pos) (oW i)):EB φ X (.Name x pos) (fun ρ=>fW ρ i):=BE.mono h fun σ H Q hq0=>by
 obtain⟨G,O,ρ,n,R,s,w,q⟩:=hq0
 replace w:(fW ρ i).wp n R:=w
 unfold fW at w
 cases e:ρ[i]? with
 |none=>rw[e] at w;exact w.elim
 |some t=>
  rw[e] at w
  cases t with
  |val y=>
   obtain⟨x,hx,r⟩:=s.er.2 i _ e
   exact⟨x,fB s.er e hx,q _ _ _ _ (Ext.refl _ _) s.ok (.full r) w⟩
  |own l=>
   obtain⟨p,xs,hx,_,np,hl,r⟩:=s.er.2 i _ e
   exact⟨_,fB s.er e hx,q _ _ _ _ (Ext.refl _ _) s.ok (.top np hl r) w⟩
  |bT l=>
   obtain⟨p,xs,hx,_,np,hl,r⟩:=s.er.2 i _ e
   exact⟨_,fB s.er e hx,q _ _ _ _ (Ext.refl _ _) s.ok (.wH np hl r) w⟩
  |un=>exact w.elim
def nh (r:R2) (op:PV→PV→M PV):Prop:= ∀ (φ:fA) (G:Bg φ) (O:Addr→Prop) (H:Hp) (n:Nat) (R:PV→Nat→Prop) (Q:VK) (y y':PV) (x x':V),
 (∀ p,G.dP p→O p)→(∀ p,O p→∃ o,H p=some o)→G.ok H n→cz G O H y x→cz G O H y' x'→(op y y').wp n R→om G O H R Q→r x x' H Q
noncomputable def ab (op:PV→PV→M PV) (ma mb:af→M PV):af→M PV:=fun ρ=>(ma ρ).bind fun x=>(mb ρ).bind fun y=>op x y
theorem two {r:R2} {op:PV→PV→M PV} (hv:nh r op): ∀ σ H Q,rC φ (ab op ma mb) σ H Q→Dx r (rD φ ma) (rD φ mb) σ H Q:=fun σ H Q hq0=>by
 obtain⟨G,O,ρ,n,R,s,w,q⟩:=hq0
 unfold ab at w
 rw[M.wp_bind] at w
 refine⟨G,O,ρ,n,_,s,w,fun y x H1 n1 e1 ok1 r1 w1=>?_⟩
 rw[M.wp_bind] at w1
 refine⟨G,O,ρ,n1,_,s.ext e1 ok1,w1,fun y' x' H2 n2 e2 ok2 r2 w2=>?_⟩
 exact hv φ G O H2 n2 R Q y y' x x' s.pr (s.ext (e1.trans e2) ok2).dm ok2 (r1.ext s.B e2) r2 w2 fun y x H' n' e o r h=>q y x H' n' (e1.trans (e2.trans e)) o r h
theorem bt {o:Operator} {r:R2} {op:PV→PV→M PV} (ho:fT X (binaryOp o) r) (hv:nh r op) (ha:EB φ X a ma) (hb:EB φ X b mb):EV φ X (.BinOp a o b pos) (ab op ma mb):=
 BE.mono ⟨cj ho ha.out hb.out⟩ (two hv)
theorem ff {o:CmpOp} {r:R2} {op:PV→PV→M PV} (ho:fT X (compareOp o) r) (hv:nh r op) (ha:EB φ X a ma) (hb:EB φ X b mb) (hm:behindInMarks o b=false):EV φ X (.Compare a [o] [b] pos) (ab op ma mb):=
 BE.mono ⟨D6 ho ha.out hb.out hm⟩ (two hv)
theorem Jw {r:R2} {op:PV→PV→M PV} (hr:Dp X r) (hv:nh r op) (ha:EB φ X a ma) (hb:EB φ X b mb) (hs:ur b):EV φ X (.Subscript a b pos) (ab op ma mb):=
 BE.mono ⟨jf hr ha.out hb.out hs⟩ (two hv)
noncomputable def bf (m:af→M PV):af→M Bool:=fun ρ=>(m ρ).bind fun y=>match y with| .bl b=>.ret b|_=>.fail
theorem um {m:af→M PV} {t:TE} (f: ∀ σ H Q,rC φ m σ H Q→t σ H Q): ∀ σ H Q,A2 φ (bf m) σ H Q→t σ H (fun x H1=> ∃ k,x= .bl k∧Q k H1):=fun σ H Q hq0=>by
 obtain⟨G,O,ρ,n,R,s,w,q⟩:=hq0
 unfold bf at w
 rw[M.wp_bind] at w
 refine f σ H _ ⟨G,O,ρ,n,_,s,w,fun y x H1 n1 e1 ok1 r1 w1=>?_⟩
 cases y with
 |bl k=>cases r1;exact⟨k,rfl,q k H1 n1 e1 ok1 w1⟩
 |_=>exact w1.elim
theorem BT.mono {e:Expr} {t t':TT} (h:BT X e t) (f: ∀ σ H Q,t' σ H Q→t σ H Q):BT X e t':=⟨fun pins s σ H Q I q=>h.out pins s σ H Q I (f σ H Q q)⟩
theorem BW.mono {e:Expr} {t t':TT} (h:BW X e t) (f: ∀ σ H Q,t' σ H Q→t σ H Q):BW X e t':=⟨fun w pins s σ H Q I q=>h.out w pins s σ H Q I (f σ H Q q)⟩
theorem aO {o:CmpOp} {r:R2} {op:PV→PV→M PV} (ho:fT X (compareOp o) r) (hv:nh r op) (ha:EB φ X a ma) (hb:EB φ X b mb) (hm:behindInMarks o b=false):TV φ X (.Compare a [o] [b] pos) (bf (ab op ma mb)):=
 BT.mono ⟨o8 ho ha.out hb.out hm⟩ (um (two hv))
theorem pJ {e:Expr} {m:af→M PV} (h:EV φ X e m) (he: ∀ whole,isTrue e X.env whole=(do let v ←whole;standAt e.pos;holding [v] (truthy v)):=by intro _;rfl):TV φ X e (bf m):=
 BT.mono ⟨GF h.out he⟩ (um fun _ _ _ h=>h)
noncomputable def vc (m:af→M Bool):af→M Bool:=fun ρ=>(m ρ).bind fun b=>.ret (!b)
theorem wB {m:af→M Bool} (h:TV φ X a m):TV φ X (.UnaryOp .Not a pos) (vc m):=BT.mono ⟨GG h.out⟩ fun σ H Q hq0=>by
 obtain⟨G,O,ρ,n,R,s,w,q⟩:=hq0
 unfold vc at w
 rw[M.wp_bind] at w
 exact⟨G,O,ρ,n,_,s,w,fun b H1 n1 e1 ok1 w1=>q (!b) H1 n1 e1 ok1 w1⟩
noncomputable def gF (ma mb:af→M Bool):af→M Bool:=fun ρ=>(ma ρ).bind fun b=>if b=true then mb ρ else .ret false
noncomputable def Eb (ma mb:af→M Bool):af→M Bool:=fun ρ=>(ma ρ).bind fun b=>if b=true then .ret true else mb ρ
theorem WV.t {e:Expr} {m:af→M Bool} (h:WV φ X e m):TV φ X e m:=⟨PW.pt h.out⟩
theorem kQ {m:af→M Bool} (h:TV φ X a m):WV φ X (.BoolOp .And [a] pos) m:=⟨yy h.out⟩
theorem wz {m:af→M Bool} (h:TV φ X a m):WV φ X (.BoolOp .Or [a] pos) m:=⟨GD h.out⟩
theorem ka {rest:List Expr} {m m':af→M Bool} (h:TV φ X a m) (h':WV φ X (.BoolOp .And (b::rest) pos) m'):WV φ X (.BoolOp .And (a::b::rest) pos) (gF m m'):=BW.mono ⟨Bv h.out h'.out⟩ fun σ H Q hq0=>by
 obtain⟨G,O,ρ,n,R,s,w,q⟩:=hq0
 unfold gF at w
 rw[M.wp_bind] at w
 refine⟨G,O,ρ,n,_,s,w,fun b H1 n1 e1 ok1 w1=>?_⟩
 cases b with
 |true=>exact⟨G,O,ρ,n1,R,s.ext e1 ok1,w1,fun b H' n' e o h=>q b H' n' (e1.trans e) o h⟩
 |false=>exact q false H1 n1 e1 ok1 w1
theorem AK {rest:List Expr} {m m':af→M Bool} (h:TV φ X a m) (h':WV φ X (.BoolOp .Or (b::rest) pos) m'):WV φ X (.BoolOp .Or (a::b::rest) pos) (Eb m m'):=BW.mono ⟨IZ h.out h'.out⟩ fun σ H Q hq0=>by
 obtain⟨G,O,ρ,n,R,s,w,q⟩:=hq0
 unfold Eb at w
 rw[M.wp_bind] at w
 refine⟨G,O,ρ,n,_,s,w,fun b H1 n1 e1 ok1 w1=>?_⟩
 cases b with
 |true=>exact q true H1 n1 e1 ok1 w1
 |false=>exact⟨G,O,ρ,n1,R,s.ext e1 ok1,w1,fun b H' n' e o h=>q b H' n' (e1.trans e) o h⟩
noncomputable def jk (ma mb:af→M PV):af→M PV:=fun ρ=>(bf ma ρ).bind fun b=>if b=true then mb ρ else .ret (.bl false)
theorem HH {m:af→M PV} {f:Bool→M PV} {σ:St} {H:Hp} {Q:VK} {G:Bg φ} {O:Addr→Prop} {ρ:af} {n:Nat} {R:PV→Nat→Prop} {T:V→Hp→Prop} (s:ES G O H σ ρ n) (w:((bf m ρ).bind f).wp n R)
  (k: ∀ (b:Bool) (H1:Hp) (n1:Nat),Ext G.B H H1→G.ok H1 n1→(f b).wp n1 R→T (.bl b) H1):rC φ m σ H T:=by
 rw[M.wp_bind] at w
 unfold bf at w
 rw[M.wp_bind] at w
 refine⟨G,O,ρ,n,_,s,w,fun y x H1 n1 e1 ok1 r1 w1=>?_⟩
 cases y with
 |bl b=>cases r1;exact k b H1 n1 e1 ok1 w1
 |_=>exact w1.elim
theorem ua {op:BoolOp} (ha:EV φ X a ma):EV φ X (.BoolOp op [a] pos) ma:=⟨GN ha.out⟩
theorem qp {rest:List Expr} (ha:EV φ X a ma) (hb:EV φ X (.BoolOp .And (b::rest) pos) mb):EV φ X (.BoolOp .And (a::b::rest) pos) (jk ma mb):=BE.mono ⟨GQ ha.out hb.out⟩ fun σ H Q ⟨G,O,ρ,n,R,s,w,q⟩=>
 HH (Q:=Q) s w fun b H1 n1 e1 ok1 w1=>⟨b,rfl,by
  cases b with
  |true=>exact⟨G,O,ρ,n1,R,s.ext e1 ok1,w1,fun y x H' n' e o r h=>q y x H' n' (e1.trans e) o r h⟩
  |false=>exact q _ _ _ _ e1 ok1 (.bl _) w1⟩
noncomputable def AH (mc:af→M Bool) (ma mb:af→M PV):af→M PV:=fun ρ=>(mc ρ).bind fun b=>if b=true then ma ρ else mb ρ
theorem sv {t:af→M Bool} (hc:TV φ X c t) (ha:EV φ X a ma) (hb:EV φ X b mb):EV φ X (.IfExp c a b pos) (AH t ma mb):=BE.mono ⟨BQ hc.out ha.out hb.out⟩ fun σ H Q hq0=>by
 obtain⟨G,O,ρ,n,R,s,w,q⟩:=hq0
 unfold AH at w
 rw[M.wp_bind] at w
 refine⟨G,O,ρ,n,_,s,w,fun b H1 n1 e1 ok1 w1=>?_⟩
 cases b with
 |true=>exact⟨G,O,ρ,n1,R,s.ext e1 ok1,w1,fun y x H' n' e o r h=>q y x H' n' (e1.trans e) o r h⟩
 |false=>exact⟨G,O,ρ,n1,R,s.ext e1 ok1,w1,fun y x H' n' e o r h=>q y x H' n' (e1.trans e) o r h⟩
noncomputable def chain (op op':PV→PV→M PV) (ma mb mc:af→M PV):af→M PV:=fun ρ=>(ma ρ).bind fun x=>(mb ρ).bind fun y=>(op x y).bind fun z=>match z with
 | .bl true=>(mc ρ).bind fun u=>op' y u
 | .bl false=>.ret (.bl false)
 |_=>.fail
theorem v3 {r r':R2} {op op':PV→PV→M PV} (hv:nh r op) (hv':nh r' op'): ∀ σ H Q,rC φ (chain op op' ma mb mc) σ H Q→wK r r' (rD φ ma) (rD φ mb) (rD φ mc) σ H Q:=fun σ H Q hq0=>by
 obtain⟨G,O,ρ,n,R,s,w,q⟩:=hq0
 unfold chain at w
 rw[M.wp_bind] at w
 refine⟨G,O,ρ,n,_,s,w,fun y x H1 n1 e1 ok1 r1 w1=>?_⟩
 rw[M.wp_bind] at w1
 refine⟨G,O,ρ,n1,_,s.ext e1 ok1,w1,fun y' x' H2 n2 e2 ok2 r2 w2=>?_⟩
 rw[M.wp_bind] at w2
 refine hv φ G O H2 n2 _ _ y y' x x' s.pr (s.ext (e1.trans e2) ok2).dm ok2 (r1.ext s.B e2) r2 w2 fun z u H3 n3 e3 ok3 r3 w3=>?_
 cases z with
 |bl k=>
  cases r3
  refine⟨k,rfl,?_⟩
  cases k with
  |true=>
   show rD φ mc σ H3 _
   rw[M.wp_bind] at w3
   refine⟨G,O,ρ,n3,_,s.ext (e1.trans (e2.trans e3)) ok3,w3,fun y4 x4 H4 n4 e4 ok4 r4 w4=>?_⟩
   exact hv' φ G O H4 n4 R Q y' y4 x' x4 s.pr (s.ext (e1.trans (e2.trans (e3.trans e4))) ok4).dm ok4 (r2.ext s.B (e3.trans e4)) r4 w4 fun y x H' n' e o r h=>q y x H' n' (e1.trans (e2.trans (e3.trans (e4.trans e)))) o r h
  |false=>exact q _ _ _ _ (e1.trans (e2.trans e3)) ok3 (.bl _) w3
 |_=>exact w3.elim
theorem vJ {o o':CmpOp} {r r':R2} {op op':PV→PV→M PV} (ho:fT X (compareOp o) r) (hv:nh r op) (ho':fT X (compareOp o') r') (hv':nh r' op') (ha:EB φ X a ma) (hb:EB φ X b mb) (hc:EB φ X c mc) (hm:lastMarks [o,o'] [b,c]=false:=by with_unfolding_all rfl):EV φ X (.Compare a [o,o'] [b,c] pos) (chain op op' ma mb mc):=
 BE.mono ⟨BR ho ho' ha.out hb.out hc.out hm⟩ (v3 hv hv')
theorem AX {o o':CmpOp} {r r':R2} {op op':PV→PV→M PV} (ho:fT X (compareOp o) r) (hv:nh r op) (ho':fT X (compareOp o') r') (hv':nh r' op') (ha:EB φ X a ma) (hb:EB φ X b mb) (hc:EB φ X c mc) (hm:lastMarks [o,o'] [b,c]=false:=by with_unfolding_all rfl):TV φ X (.Compare a [o,o'] [b,c] pos) (bf (chain op op' ma mb mc)):=
 BT.mono ⟨Bz ho ho' ha.out hb.out hc.out hm⟩ (um (v3 hv hv'))
end
end
section
variable {φ:fA}
noncomputable def toV:PV→V
 | .aW=>.aW
 | .bl b=>.bl b
 | .int i=>.int i
 | .str x=>.str x
 |_=>.ty ""
noncomputable def bo (y:PV):Bool:=d9 (toV y)
theorem il {B:Addr} {O:Addr→Prop} {H:Hp} {y:PV} {x:V} (h:Rep B O H y x) (f:bo y=true):x=toV y:=by
 cases h<;>first|rfl|(exact absurd f (by decide))|(simp[bo,toV,d9] at f)
theorem su {G:Bg φ} {O:Addr→Prop} {H:Hp} {y:PV} {x:V} (h:cz G O H y x) (f:bo y=true):x=toV y:=by
 cases h with
 |full h=>exact il h f
 |_=>simp[bo,toV,d9] at f
noncomputable def eqs (f:PV→PV→Option Bool):List PV→List PV→Option Bool
 |[],[]=>some true
 |[],_::_=>some false
 |_::_,[]=>some false
 |a::r,b::t=>(f a b).bind fun x=>(eqs f r t).bind fun y=>some (x&&y)
noncomputable def sy:Nat→PV→PV→Option Bool
 |k+1,.lst a,.lst b=>eqs (sy k) a b
 |k+1,.tup a,.tup b=>eqs (sy k) a b
 |_+1,.lst _,.tup _=>some false
 |_+1,.tup _,.lst _=>some false
 |_+1,.lst _,y=>if bo y then some false else none
 |_+1,.tup _,y=>if bo y then some false else none
 |_+1,y,.lst _=>if bo y then some false else none
 |_+1,y,.tup _=>if bo y then some false else none
 |_,y,z=>if bo y&&bo z then some (sx (toV y) (toV z)) else none
theorem qt {f:PV→PV→Option Bool}: ∀ {a b:List PV} {c:Bool},eqs f a b=some c→∃ e:Nat→Bool,(∀ j y z,a[j]?=some y→b[j]?=some z→f y z=some (e j))∧c=((List.range (min a.length b.length)).all e&&a.length==b.length)
 |[],[],c,h=>⟨fun _=>true,fun j y z e=>by simp at e,by simp[eqs] at h;simp[h]⟩
 |[],_::_,c,h=>⟨fun _=>true,fun j y z e=>by simp at e,by simp[eqs] at h;simp[h]⟩
 |_::_,[],c,h=>⟨fun _=>true,fun j y z _ e=>by simp at e,by simp[eqs] at h;simp[h]⟩
 |y::r,z::t,c,h=>by
  simp only[eqs] at h
  cases h1:f y z with
  |none=>rw[h1] at h;simp at h
  |some x=>
   rw[h1] at h
   simp only[Option.bind_some] at h
   cases h2:eqs f r t with
   |none=>rw[h2] at h;simp at h
   |some w=>
    rw[h2] at h
    simp only[Option.bind_some,Option.some.injEq] at h
    obtain⟨e,he,hw⟩:=qt h2
    refine⟨fun j=>match j with|0=>x|j+1=>e j,fun j y' z' a b=>?_,?_⟩
    ·cases j with
     |zero=>simp at a b;subst a b;exact h1
     |succ j=>simp at a b;exact he j y' z' a b
    ·have e0:min (y::r).length (z::t).length=min r.length t.length+1:=by simp only[LX];lia
     rw[e0,List.range_succ_eq_map,List.all_cons,List.all_map,←h,hw]
     simp only[LX,Function.comp_def,Bool.and_assoc]
     congr 2
     rw[Bool.eq_iff_iff];simp
theorem t8 {α β:Type} {l l':List α} {xs:List β} (h1:l.length=xs.length) (h2:l'.length=xs.length) (hh: ∀ (i:Nat) (y y':α) (x:β),l[i]?=some y→l'[i]?=some y'→xs[i]?=some x→y=y'):l=l':=by
 apply List.ext_getElem (h1.trans h2.symm)
 intro i a b
 exact hh i _ _ _ (LH a) (LH b) (LH (h1▸a))
theorem yM: ∀ {a b:List Int},a.map V.int=b.map V.int→a=b
 |[],[],_=>rfl
 |[],_::_,h=>by simp at h
 |_::_,[],h=>by simp at h
 |x::a,y::b,h=>by
  simp only[LS,List.cons.injEq,V.int.injEq] at h
  rw[h.1,yM h.2]
theorem Rep.uniq {B:Addr} {O:Addr→Prop} {H:Hp} (hB:O B) {y:PV} {x:V} (h:Rep B O H y x): ∀ {y':PV},Rep B O H y' x→y=y':=by
 induction h with
 |aW=>intro y' h;cases h;rfl
 |bl b=>intro y' h;cases h;rfl
 |int i=>intro y' h;cases h;rfl
 |str x=>intro y' h;cases h;rfl
 |tup hO h hl hr ih=>
  intro y' g
  cases g with
  |tup gO g gl gr=>
   rw[h] at g;cases g
   congr 1
   exact t8 hl gl fun i y y' x a b c=>ih i y x a c (gr i y' x b c)
  |lst gO g gl gr=>rw[h] at g;cases g
  |fz gO g gl gr=>rcases g with g|⟨o',g⟩<;>(rw[h] at g;cases g)
  |sX gO g=>obtain⟨o,g⟩:=g;rw[h] at g;cases g
  |bQ=>exact absurd hB hO
 |lst hO h hl hr ih=>
  intro y' g
  cases g with
  |lst gO g gl gr=>
   rw[h] at g;cases g
   congr 1
   exact t8 hl gl fun i y y' x a b c=>ih i y x a c (gr i y' x b c)
  |tup gO g gl gr=>rw[h] at g;cases g
  |fz gO g gl gr=>rcases g with g|⟨o',g⟩<;>(rw[h] at g;cases g)
  |sX gO g=>obtain⟨o,g⟩:=g;rw[h] at g;cases g
  |bQ=>exact absurd hB hO
 |fz hO h hl hr ih=>
  intro y' g
  cases g with
  |fz gO g gl gr=>
   obtain rfl:=Bp h g
   congr 1
   refine t8 (by simpa using congrArg List.length hl) (by simpa using congrArg List.length gl) fun i y y' x a b c=>?_
   have k1:y.1=x.1:=by
    have:=congrArg (·[i]?) hl
    simp only[L5,a,c] at this
    simpa using this
   have k2:y'.1=x.1:=by
    have:=congrArg (·[i]?) gl
    simp only[L5,b,c] at this
    simpa using this
   exact Prod.ext (k1.trans k2.symm) (ih i y x a c (gr i y' x b c))
  |tup gO g gl gr=>rcases h with h|⟨o',h⟩<;>(rw[h] at g;cases g)
  |lst gO g gl gr=>rcases h with h|⟨o',h⟩<;>(rw[h] at g;cases g)
  |sX gO g=>obtain⟨o,g⟩:=g;rcases h with h|⟨o',h⟩<;>(rw[h] at g;cases g)
  |bQ=>exact absurd hB hO
 |sX hO h=>
  intro y' g
  obtain⟨o,h⟩:=h
  cases g with
  |sX gO g=>
   obtain⟨o',g⟩:=g
   rw[h] at g
   injection g with g;injection g with g1 g2;injection g2 with g2
   congr 1
   exact yM g2
  |tup gO g gl gr=>rw[h] at g;cases g
  |lst gO g gl gr=>rw[h] at g;cases g
  |fz gO g gl gr=>rcases g with g|⟨o',g⟩<;>(rw[h] at g;cases g)
  |bQ=>exact absurd hB hO
 |bQ=>
  intro y' g
  cases g with
  |bQ=>rfl
  |tup gO g gl gr=>exact absurd hB gO
  |lst gO g gl gr=>exact absurd hB gO
  |fz gO g gl gr=>exact absurd hB gO
  |sX gO g=>exact absurd hB gO
theorem qr {f:PV→PV→Option Bool} (hf: ∀ y c,f y y=some c→c=true): ∀ {a:List PV} {c:Bool},eqs f a a=some c→c=true
 |[],c,h=>by simp[eqs] at h;exact h
 |y::r,c,h=>by
  simp only[eqs] at h
  cases h1:f y y with
  |none=>rw[h1] at h;simp at h
  |some x=>
   rw[h1] at h
   simp only[Option.bind_some] at h
   cases h2:eqs f r r with
   |none=>rw[h2] at h;simp at h
   |some w=>
    rw[h2] at h
    simp only[Option.bind_some,Option.some.injEq] at h
    rw[←h,hf _ _ h1,qr hf h2];rfl
theorem qu {k:Nat} {y z:PV} (h1:bo y=true) (h2:bo z=true):sy k y z=some (sx (toV y) (toV z)):=by
 cases k<;>cases y<;>cases z<;>first|rfl|(simp[bo,toV,d9] at h1;done)|(simp[bo,toV,d9] at h2;done)
theorem vM: ∀ (k:Nat) (y:PV) (c:Bool),sy k y y=some c→c=true:=by
 intro k
 induction k with
 |zero=>
  intro y c h
  cases y<;>simp[sy,bo,toV,d9,sx] at h<;>(try exact h)<;>(try exact h.symm)
 |succ k ih=>
  intro y c h
  cases y with
  |lst a=>exact qr ih h
  |tup a=>exact qr ih h
  |_=>simp[sy,bo,toV,d9,sx] at h<;>(try exact h)<;>(try exact h.symm)
section
variable {X:Cx} {pins:List (Addr×Obj)} {σ:St} {H:Hp} {s:Shared} {B:Addr} {O:Addr→Prop}
theorem sA {A:Around} {y z:PV} {x x':V} {u v:Value} (h1:bo y=true) (h2:bo z=true) (r1:Rep B O H y x) (r2:Rep B O H z x') (q1:RelV x u) (q2:RelV x' v):SeqAt.EqAt A s u v (sx (toV y) (toV z)):=by
 rw[il r1 h1] at q1
 rw[il r2 h2] at q2
 exact CN q1 q2 h1 h2
theorem FR (I:Inv X pins σ H s) (hB:O B): ∀ (k:Nat) (A:Around) (y z:PV) (x x':V) (u v:Value) (c:Bool),Rep B O H y x→Rep B O H z x'→RelV x u→RelV x' v→sy k y z=some c→A.units+k < cLine→SeqAt.EqAt A s u v c:=by
 intro k
 induction k with
 |zero=>
  intro A y z x x' u v c r1 r2 q1 q2 e hu
  have f:bo y=true∧bo z=true:=by
   unfold sy at e
   by_cases h:(bo y&&bo z)=true
   ·simpa using h
   ·cases y<;>cases z<;>simp_all [bo,toV,d9]
  rw[qu f.1 f.2] at e
  cases e
  exact sA f.1 f.2 r1 r2 q1 q2
 |succ k ih=>
  intro A y z x x' u v c r1 r2 q1 q2 e hu
  have hu0:A.units < cLine:=by lia
  have hu1:A.in1.units+k < cLine:=by show A.units+1+k < cLine;lia
  by_cases f:bo y=true∧bo z=true
  ·rw[qu f.1 f.2] at e
   cases e
   exact sA f.1 f.2 r1 r2 q1 q2
  cases r1 with
  | @lst p xs l hO h hl hr=>
   cases q1
   obtain⟨its,v1,p1,_⟩:=I.list (cQ.of (K:=X.K) h)
   cases r2 with
   | @lst p' xs' l' hO' h' hl' hr'=>
    cases q2
    by_cases pe:p=p'
    ·subst pe
     have e1:=Rep.uniq hB (.lst hO h hl hr) (.lst hO' h' hl' hr')
     rw[e1] at e
     rw[vM _ _ _ e]
     exact .same _
    ·obtain⟨its',v2,p2,_⟩:=I.list (cQ.of (K:=X.K) h')
     obtain⟨g,hg,hc⟩:=qt e
     refine .of_refs pe ?_
     have e1:its.toArray.size=l.length:=by rw[LO,←v1.length,hl]
     have e2:its'.toArray.size=l'.length:=by rw[LO,←v2.length,hl']
     by_cases hs:l.length=l'.length
     ·have hh:=SeqAt.RcAt.lists (A:=A) (e:=g) p1.isList p2.isList (by rw[e1,e2,hs]) hu0 (fun j h1 h2=>?_)
      ·rw[hc,←hs,Nat.min_self,beq_self_eq_true,Bool.and_true,←e1];exact hh
      ·have j1:j < l.length:=e1▸h1
       have j2:j < l'.length:=e2▸h2
       obtain⟨u1,a1,a2⟩:=v1.get (i:=j) (x:=xs[j]) (LH _)
       obtain⟨u2,b1,b2⟩:=v2.get (i:=j) (x:=xs'[j]) (LH _)
       have a3:its.toArray[j]=u1:=by
        have:=(LP.mp a1).2
        simpa using this
       have b3:its'.toArray[j]=u2:=by
        have:=(LP.mp b1).2
        simpa using this
       rw[a3,b3]
       exact ih A.in1 l[j] l'[j] _ _ _ _ _ (hr j _ _ (LH j1) (LH _)) (hr' j _ _ (LH j2) (LH _)) a2 b2 (hg j _ _ (LH j1) (LH j2)) hu1
     ·have:c=false:=by rw[hc];simp[hs]
      rw[this]
      exact SeqAt.RcAt.lists_lengths p1.isList p2.isList (by rw[e1,e2];simpa using hs) hu0
   | @tup p' xs' l' hO' h' hl' hr'=>
    cases q2
    obtain⟨its',v2,p2,_⟩:=I.tuple (fM.of (K:=X.K) h')
    cases e
    exact .list_tuple p1.isList p2 hu0
   |aW=>cases q2;cases e;exact .list_none p1.isList hu0
   |bl b=>cases q2;cases e;exact .list_bool b p1.isList hu0
   |int b=>obtain⟨t,rfl⟩:=q2;cases e;exact .list_int b t p1.isList hu0
   |str b=>obtain⟨t,rfl⟩:=q2;cases e;exact .list_str b t p1.isList hu0
   |_=>cases e
  | @tup p xs l hO h hl hr=>
   cases q1
   obtain⟨its,v1,p1,_⟩:=I.tuple (fM.of (K:=X.K) h)
   cases r2 with
   | @tup p' xs' l' hO' h' hl' hr'=>
    cases q2
    by_cases pe:p=p'
    ·subst pe
     have e1:=Rep.uniq hB (.tup hO h hl hr) (.tup hO' h' hl' hr')
     rw[e1] at e
     rw[vM _ _ _ e]
     exact .same _
    ·obtain⟨its',v2,p2,_⟩:=I.tuple (fM.of (K:=X.K) h')
     obtain⟨g,hg,hc⟩:=qt e
     refine .of_refs pe ?_
     have e1:its.toArray.size=l.length:=by rw[LO,←v1.length,hl]
     have e2:its'.toArray.size=l'.length:=by rw[LO,←v2.length,hl']
     have hh:=SeqAt.RcAt.tuples (A:=A) (e:=g) p1 p2 hu0 (fun j h1 h2=>?_)
     ·rw[hc,←e1,←e2];exact hh
     ·have j1:j < l.length:=e1▸h1
      have j2:j < l'.length:=e2▸h2
      obtain⟨u1,a1,a2⟩:=v1.get (i:=j) (x:=xs[j]) (LH _)
      obtain⟨u2,b1,b2⟩:=v2.get (i:=j) (x:=xs'[j]) (LH _)
      have a3:its.toArray[j]=u1:=by
       have:=(LP.mp a1).2
       simpa using this
      have b3:its'.toArray[j]=u2:=by
       have:=(LP.mp b1).2
       simpa using this
      rw[a3,b3]
      exact ih A.in1 l[j] l'[j] _ _ _ _ _ (hr j _ _ (LH j1) (LH _)) (hr' j _ _ (LH j2) (LH _)) a2 b2 (hg j _ _ (LH j1) (LH j2)) hu1
   | @lst p' xs' l' hO' h' hl' hr'=>
    cases q2
    obtain⟨its',v2,p2,_⟩:=I.list (cQ.of (K:=X.K) h')
    cases e
    exact .tuple_list p1 p2.isList hu0
   |aW=>cases q2;cases e;exact .tuple_none p1 hu0
   |bl b=>cases q2;cases e;exact .tuple_bool b p1 hu0
   |int b=>obtain⟨t,rfl⟩:=q2;cases e;exact .tuple_int b t p1 hu0
   |str b=>obtain⟨t,rfl⟩:=q2;cases e;exact .tuple_str b t p1 hu0
   |_=>cases e
  |aW=>
   cases r2 with
   |lst a h' b c=>cases q1;cases q2;obtain⟨its',v2,p2,_⟩:=I.list (cQ.of (K:=X.K) h');cases e;exact .none_list p2.isList hu0
   |tup a h' b c=>cases q1;cases q2;obtain⟨its',v2,p2,_⟩:=I.tuple (fM.of (K:=X.K) h');cases e;exact .none_tuple p2 hu0
   |_=>first|exact absurd ⟨rfl,rfl⟩ f|cases e
  |bl b=>
   cases r2 with
   |lst a h' _ c=>cases q1;cases q2;obtain⟨its',v2,p2,_⟩:=I.list (cQ.of (K:=X.K) h');cases e;exact .bool_list b p2.isList hu0
   |tup a h' _ c=>cases q1;cases q2;obtain⟨its',v2,p2,_⟩:=I.tuple (fM.of (K:=X.K) h');cases e;exact .bool_tuple b p2 hu0
   |_=>first|exact absurd ⟨rfl,rfl⟩ f|cases e
  |int b=>
   cases r2 with
   |lst a h' _ c=>obtain⟨t,rfl⟩:=q1;cases q2;obtain⟨its',v2,p2,_⟩:=I.list (cQ.of (K:=X.K) h');cases e;exact .int_list b t p2.isList hu0
   |tup a h' _ c=>obtain⟨t,rfl⟩:=q1;cases q2;obtain⟨its',v2,p2,_⟩:=I.tuple (fM.of (K:=X.K) h');cases e;exact .int_tuple b t p2 hu0
   |_=>first|exact absurd ⟨rfl,rfl⟩ f|cases e
  |str b=>
   cases r2 with
   |lst a h' _ c=>obtain⟨t,rfl⟩:=q1;cases q2;obtain⟨its',v2,p2,_⟩:=I.list (cQ.of (K:=X.K) h');cases e;exact .str_list b t p2.isList hu0
   |tup a h' _ c=>obtain⟨t,rfl⟩:=q1;cases q2;obtain⟨its',v2,p2,_⟩:=I.tuple (fM.of (K:=X.K) h');cases e;exact .str_tuple b t p2 hu0
   |_=>first|exact absurd ⟨rfl,rfl⟩ f|cases e
  |_=>cases z<;>cases e
end
end
section
variable {φ:fA}
section
variable {X:Cx}
theorem DR {A:Around} {s:Shared} {y z:V} {u v:Value} (f1:d9 y=true) (f2:d9 z=true) (q1:RelV y u) (q2:RelV z v):SeqAt.RcAt A s u v (sx y z)∧SeqAt.RcNeAt A s u v (!sx y z):=by
 cases y with
 |aW=>
  cases q1
  cases z with
  |aW=>cases q2;exact⟨.none_none,.none_none⟩
  |bl b=>cases q2;exact⟨.none_bool b,.none_bool b⟩
  |int b=>obtain⟨t,rfl⟩:=q2;exact⟨.none_int b t,.none_int b t⟩
  |str b=>obtain⟨t,rfl⟩:=q2;exact⟨.none_str b t,.none_str b t⟩
  |_=>cases f2
 |bl a=>
  cases q1
  cases z with
  |aW=>cases q2;exact⟨.bool_none a,.bool_none a⟩
  |bl b=>cases q2;exact⟨.bool_bool a b,.bool_bool a b⟩
  |int b=>obtain⟨t,rfl⟩:=q2;exact⟨.bool_int a b t,.bool_int a b t⟩
  |str b=>obtain⟨t,rfl⟩:=q2;exact⟨.bool_str a b t,.bool_str a b t⟩
  |_=>cases f2
 |int a=>
  obtain⟨t',rfl⟩:=q1
  cases z with
  |aW=>cases q2;exact⟨.int_none a t',.int_none a t'⟩
  |bl b=>cases q2;exact⟨.int_bool a t' b,.int_bool a t' b⟩
  |int b=>obtain⟨t,rfl⟩:=q2;exact⟨.int_int a t' b t,.int_int a t' b t⟩
  |str b=>obtain⟨t,rfl⟩:=q2;exact⟨.int_str a t' b t,.int_str a t' b t⟩
  |_=>cases f2
 |str a=>
  obtain⟨t',rfl⟩:=q1
  cases z with
  |aW=>cases q2;exact⟨.str_none a t',.str_none a t'⟩
  |bl b=>cases q2;exact⟨.str_bool a t' b,.str_bool a t' b⟩
  |int b=>obtain⟨t,rfl⟩:=q2;exact⟨.str_int a t' b t,.str_int a t' b t⟩
  |str b=>obtain⟨t,rfl⟩:=q2;exact⟨.str_str a t' b t,.str_str a t' b t⟩
  |_=>cases f2
 |_=>cases f1
theorem Fx {pins:List (Addr×Obj)} {σ:St} {H:Hp} {s:Shared} {B:Addr} {O:Addr→Prop} (I:Inv X pins σ H s) (hB:O B) (k:Nat) (A:Around) (y z:PV) (x x':V) (u v:Value) (c:Bool)
  (r1:Rep B O H y x) (r2:Rep B O H z x') (q1:RelV x u) (q2:RelV x' v) (e:sy (k+1) y z=some c) (hu:A.units+(k+1) < cLine):SeqAt.RcAt A s u v c∧SeqAt.RcNeAt A s u v (!c):=by
 have hu0:A.units < cLine:=by lia
 have hu1:A.in1.units+k < cLine:=by show A.units+1+k < cLine;lia
 by_cases f:bo y=true∧bo z=true
 ·rw[qu f.1 f.2] at e
  cases e
  rw[il r1 f.1] at q1
  rw[il r2 f.2] at q2
  exact DR f.1 f.2 q1 q2
 cases r1 with
 | @lst p xs l hO h hl hr=>
  cases q1
  obtain⟨its,v1,p1,_⟩:=I.list (cQ.of (K:=X.K) h)
  cases r2 with
  | @lst p' xs' l' hO' h' hl' hr'=>
   cases q2
   obtain⟨its',v2,p2,_⟩:=I.list (cQ.of (K:=X.K) h')
   obtain⟨g,hg,hc⟩:=qt e
   have e1:its.toArray.size=l.length:=by rw[LO,←v1.length,hl]
   have e2:its'.toArray.size=l'.length:=by rw[LO,←v2.length,hl']
   by_cases hs:l.length=l'.length
   ·have he: ∀ j (h1:j < its.toArray.size) (h2:j < its'.toArray.size),SeqAt.EqAt A.in1 s its.toArray[j] its'.toArray[j] (g j):=fun j h1 h2=>by
     have j1:j < l.length:=e1▸h1
     have j2:j < l'.length:=e2▸h2
     obtain⟨u1,a1,a2⟩:=v1.get (i:=j) (x:=xs[j]) (LH _)
     obtain⟨u2,b1,b2⟩:=v2.get (i:=j) (x:=xs'[j]) (LH _)
     have a3:its.toArray[j]=u1:=by
      have:=(LP.mp a1).2
      simpa using this
     have b3:its'.toArray[j]=u2:=by
      have:=(LP.mp b1).2
      simpa using this
     rw[a3,b3]
     exact FR I hB k A.in1 l[j] l'[j] _ _ _ _ _ (hr j _ _ (LH j1) (LH _)) (hr' j _ _ (LH j2) (LH _)) a2 b2 (hg j _ _ (LH j1) (LH j2)) hu1
    have h1:=SeqAt.RcAt.lists (A:=A) (e:=g) p1.isList p2.isList (by rw[e1,e2,hs]) hu0 he
    have h2:=SeqAt.RcNeAt.lists (A:=A) (e:=g) p1.isList p2.isList (by rw[e1,e2,hs]) hu0 he
    rw[hc,←hs,Nat.min_self,beq_self_eq_true,Bool.and_true,←e1];exact⟨h1,h2⟩
   ·have:c=false:=by rw[hc];simp[hs]
    rw[this]
    exact⟨SeqAt.RcAt.lists_lengths p1.isList p2.isList (by rw[e1,e2];simpa using hs) hu0,SeqAt.RcNeAt.lists_lengths p1.isList p2.isList (by rw[e1,e2];simpa using hs) hu0⟩
  | @tup p' xs' l' hO' h' hl' hr'=>
   cases q2
   obtain⟨its',v2,p2,_⟩:=I.tuple (fM.of (K:=X.K) h')
   cases e
   exact⟨.list_tuple p1.isList p2 hu0,.list_tuple p1.isList p2 hu0⟩
  |aW=>cases q2;cases e;exact⟨.list_none p1.isList hu0,.list_none p1.isList hu0⟩
  |bl b=>cases q2;cases e;exact⟨.list_bool b p1.isList hu0,.list_bool b p1.isList hu0⟩
  |int b=>obtain⟨t,rfl⟩:=q2;cases e;exact⟨.list_int b t p1.isList hu0,.list_int b t p1.isList hu0⟩
  |str b=>obtain⟨t,rfl⟩:=q2;cases e;exact⟨.list_str b t p1.isList hu0,.list_str b t p1.isList hu0⟩
  |_=>cases e
 | @tup p xs l hO h hl hr=>
  cases q1
  obtain⟨its,v1,p1,_⟩:=I.tuple (fM.of (K:=X.K) h)
  cases r2 with
  | @tup p' xs' l' hO' h' hl' hr'=>
   cases q2
   obtain⟨its',v2,p2,_⟩:=I.tuple (fM.of (K:=X.K) h')
   obtain⟨g,hg,hc⟩:=qt e
   have e1:its.toArray.size=l.length:=by rw[LO,←v1.length,hl]
   have e2:its'.toArray.size=l'.length:=by rw[LO,←v2.length,hl']
   have he: ∀ j (h1:j < its.toArray.size) (h2:j < its'.toArray.size),SeqAt.EqAt A.in1 s its.toArray[j] its'.toArray[j] (g j):=fun j h1 h2=>by
    have j1:j < l.length:=e1▸h1
    have j2:j < l'.length:=e2▸h2
    obtain⟨u1,a1,a2⟩:=v1.get (i:=j) (x:=xs[j]) (LH _)
    obtain⟨u2,b1,b2⟩:=v2.get (i:=j) (x:=xs'[j]) (LH _)
    have a3:its.toArray[j]=u1:=by
     have:=(LP.mp a1).2
     simpa using this
    have b3:its'.toArray[j]=u2:=by
     have:=(LP.mp b1).2
     simpa using this
    rw[a3,b3]
    exact FR I hB k A.in1 l[j] l'[j] _ _ _ _ _ (hr j _ _ (LH j1) (LH _)) (hr' j _ _ (LH j2) (LH _)) a2 b2 (hg j _ _ (LH j1) (LH j2)) hu1
   have h1:=SeqAt.RcAt.tuples (A:=A) (e:=g) p1 p2 hu0 he
   have h2:=SeqAt.RcNeAt.tuples (A:=A) (e:=g) p1 p2 hu0 he
   rw[hc,←e1,←e2];exact⟨h1,h2⟩
  | @lst p' xs' l' hO' h' hl' hr'=>
   cases q2
   obtain⟨its',v2,p2,_⟩:=I.list (cQ.of (K:=X.K) h')
   cases e
   exact⟨.tuple_list p1 p2.isList hu0,.tuple_list p1 p2.isList hu0⟩
  |aW=>cases q2;cases e;exact⟨.tuple_none p1 hu0,.tuple_none p1 hu0⟩
  |bl b=>cases q2;cases e;exact⟨.tuple_bool b p1 hu0,.tuple_bool b p1 hu0⟩
  |int b=>obtain⟨t,rfl⟩:=q2;cases e;exact⟨.tuple_int b t p1 hu0,.tuple_int b t p1 hu0⟩
  |str b=>obtain⟨t,rfl⟩:=q2;cases e;exact⟨.tuple_str b t p1 hu0,.tuple_str b t p1 hu0⟩
  |_=>cases e
 |aW=>
  cases r2 with
  |lst a h' b c=>cases q1;cases q2;obtain⟨its',v2,p2,_⟩:=I.list (cQ.of (K:=X.K) h');cases e;exact⟨.none_list p2.isList hu0,.none_list p2.isList hu0⟩
  |tup a h' b c=>cases q1;cases q2;obtain⟨its',v2,p2,_⟩:=I.tuple (fM.of (K:=X.K) h');cases e;exact⟨.none_tuple p2 hu0,.none_tuple p2 hu0⟩
  |_=>first|exact absurd ⟨rfl,rfl⟩ f|cases e
 |bl b=>
  cases r2 with
  |lst a h' _ c=>cases q1;cases q2;obtain⟨its',v2,p2,_⟩:=I.list (cQ.of (K:=X.K) h');cases e;exact⟨.bool_list b p2.isList hu0,.bool_list b p2.isList hu0⟩
  |tup a h' _ c=>cases q1;cases q2;obtain⟨its',v2,p2,_⟩:=I.tuple (fM.of (K:=X.K) h');cases e;exact⟨.bool_tuple b p2 hu0,.bool_tuple b p2 hu0⟩
  |_=>first|exact absurd ⟨rfl,rfl⟩ f|cases e
 |int b=>
  cases r2 with
  |lst a h' _ c=>obtain⟨t,rfl⟩:=q1;cases q2;obtain⟨its',v2,p2,_⟩:=I.list (cQ.of (K:=X.K) h');cases e;exact⟨.int_list b t p2.isList hu0,.int_list b t p2.isList hu0⟩
  |tup a h' _ c=>obtain⟨t,rfl⟩:=q1;cases q2;obtain⟨its',v2,p2,_⟩:=I.tuple (fM.of (K:=X.K) h');cases e;exact⟨.int_tuple b t p2 hu0,.int_tuple b t p2 hu0⟩
  |_=>first|exact absurd ⟨rfl,rfl⟩ f|cases e
 |str b=>
  cases r2 with
  |lst a h' _ c=>obtain⟨t,rfl⟩:=q1;cases q2;obtain⟨its',v2,p2,_⟩:=I.list (cQ.of (K:=X.K) h');cases e;exact⟨.str_list b t p2.isList hu0,.str_list b t p2.isList hu0⟩
  |tup a h' _ c=>obtain⟨t,rfl⟩:=q1;cases q2;obtain⟨its',v2,p2,_⟩:=I.tuple (fM.of (K:=X.K) h');cases e;exact⟨.str_tuple b t p2 hu0,.str_tuple b t p2 hu0⟩
  |_=>first|exact absurd ⟨rfl,rfl⟩ f|cases e
 |_=>cases z<;>cases e
noncomputable def GB (neg:Bool):R2:=fun x y H Q=> ∃ (B:Addr) (O:Addr→Prop) (a b:PV) (c:Bool),O B∧Rep B O H a x∧Rep B O H b y∧sy 20 a b=some c∧Q (.bl (xor neg c)) H
theorem bU (hU:X.A.units+64 < cLine):fT X (compareOp .Eq) (GB false):=by
 intro pins s σ H x y v u Q I rx ry h
 obtain⟨B,O,a,b,c,hB,r1,r2,e,q⟩:=h
 exact(Fx I hB 19 X.A a b x y v u c r1 r2 rx ry e (by lia)).1 _ _ _ _ (kH I q (by cases c<;>rfl))
theorem tJ (hU:X.A.units+64 < cLine):fT X (compareOp .NotEq) (GB true):=by
 intro pins s σ H x y v u Q I rx ry h
 obtain⟨B,O,a,b,c,hB,r1,r2,e,q⟩:=h
 exact(Fx I hB 19 X.A a b x y v u c r1 r2 rx ry e (by lia)).2 _ _ _ _ (kH I q (by cases c<;>rfl))
end
noncomputable def eI (neg:Bool) (y z:PV):M PV:=(M.cY (sy 20 y z)).bind fun c=>.ret (.bl (xor neg c))
theorem cM (neg:Bool):nh (GB neg) (eI neg):=fun φ G O H n R Q y z x x' pr dm ok r1 r2 w q=>by
 unfold eI at w
 cases e:sy 20 y z with
 |none=>rw[e] at w;exact w.elim
 |some c=>rw[e] at w;exact⟨G.B,G.dP,y,z,c,G.pB,r1.low pr,r2.low pr,e,q.sc ok (.bl _) w⟩
noncomputable def xk (C:Int→Int→Prop) [∀ i j,Decidable (C i j)] (f:Int→Int→PV):PV→PV→M PV
 | .int i,.int j=>if C i j then .ret (f i j) else .fail
 |_,_=>.fail
theorem BZ {C:Int→Int→Prop} [∀ i j,Decidable (C i j)] {f:Int→Int→PV} {g:Int→Int→V} (hf: ∀ B O H i j,Rep B O H (f i j) (g i j)):nh (rI C g) (xk C f):=fun φ G O H n R Q y z x x' pr dm ok r1 r2 w q=>by
 cases y<;>cases z<;>first|exact w.elim|skip
 rename_i i j
 rw[r1.cT,r2.cT]
 unfold xk at w
 dsimp only at w
 by_cases hc:C i j
 ·rw[Mz hc] at w;exact⟨i,j,rfl,rfl,hc,q.sc ok (hf _ _ _ _ _) w⟩
 ·rw[MA hc] at w;exact w.elim
noncomputable def xm (f:Int→Int→Bool):PV→PV→M PV
 | .int i,.int j=>.ret (.bl (f i j))
 |_,_=>.fail
theorem tF {f:Int→Int→Bool}:nh (wX fun i j=>.bl (f i j)) (xm f):=fun φ G O H n R Q y z x x' pr dm ok r1 r2 w q=>by
 cases y<;>cases z<;>first|exact w.elim|skip
 rename_i i j
 rw[r1.cT,r2.cT]
 exact⟨i,j,rfl,rfl,q.sc ok (.bl _) w⟩
noncomputable def tW:=xm fun i j=>decide (i < j)
noncomputable def EK:=xm fun i j=>decide (j < i)
noncomputable def K3:=xm fun i j=>decide (j≤i)
theorem lH:nh (wX fun i j=>.bl (decide (i < j))) tW:=tF
theorem FG:nh (wX fun i j=>.bl (decide (j < i))) EK:=tF
theorem FH:nh (wX fun i j=>.bl (decide (j≤i))) K3:=tF
noncomputable def zz:PV→PV→M PV
 | .int i,.int j=>.ret (.int (i - j))
 |_,_=>.fail
theorem xc:nh (wX fun i j=>.int (i - j)) zz:=fun φ G O H n R Q y z x x' pr dm ok r1 r2 w q=>by
 cases y<;>cases z<;>first|exact w.elim|skip
 rename_i i j
 rw[r1.cT,r2.cT]
 exact⟨i,j,rfl,rfl,q.sc ok (.int _) w⟩
instance (i j:Int):Decidable (ou i j):=by unfold ou;infer_instance
instance (i j:Int):Decidable (Di i j):=by unfold Di;infer_instance
instance (i j:Int):Decidable (HQ i j):=by unfold HQ;infer_instance
noncomputable def vi:=xk (fun _ j=>0 < j) fun i j=>.int (i % j)
noncomputable def BD:=xk Di fun i j=>.int (i ^ j.toNat)
theorem B0:nh (rI (fun _ j=>0 < j) fun i j=>.int (i % j)) vi:=BZ fun _ _ _ _ _=>.int _
theorem GR:nh (rI Di fun i j=>.int (i ^ j.toNat)) BD:=BZ fun _ _ _ _ _=>.int _
noncomputable def FF (K:Frag):R2:=fun x y H Q=>(wX fun i j=>.int (i+j)) x y H Q∨(∃ i j,x= .str i∧y= .str j∧i.length+j.length≤sizeLine∧Q (.str (i++j)) H)∨GC x y H Q∨FE K x y H Q∨
 (∃ a b ys,x= .ref a∧y= .ref b∧H a=some (.tup [])∧H b=some (.tup ys)∧Q (.ref b) H)
theorem B5 {X:Cx}:fT X (binaryOp .Add) (fun x y H Q=> ∃ a b ys,x= .ref a∧y= .ref b∧H a=some (.tup [])∧H b=some (.tup ys)∧Q (.ref b) H):=by
 intro pins s σ H x y v u Q I rx ry h
 obtain⟨a,b,ys,rfl,rfl,ha,hb,q⟩:=h
 cases rx
 cases ry
 obtain⟨its,r1,p1,_⟩:=I.tuple (fM.of (K:=X.K) ha)
 obtain⟨its2,r2,p2,_⟩:=I.tuple (fM.of (K:=X.K) hb)
 cases r1
 obtain⟨⟨cls,dd,data,sl⟩,ho,hc,n,hd⟩:=id p1
 obtain⟨⟨cls2,dd2,data2,sl2⟩,ho2,hc2,n2,hd2⟩:=id p2
 simp only at hc hd hc2 hd2
 subst hc hd hc2 hd2
 exact concat_meets ⟨_,ho,rfl⟩ ⟨_,ho2,rfl⟩ noFill_tuple_add seq_tuple_add PySem.F.slot_tuple_add PySem.F.entry_tuple_add (PySem.F.args_tuple_add_2 _ _)
   (tuple_addW0 a b _ its2.toArray n n2 dd dd2 sl sl2 rfl) ⟨ho,ho2,⟨.ref b,H,I,rfl,q⟩⟩
theorem cB {X:Cx}:fT X (binaryOp .Add) (FF X.K):=jx.or (xh.or (xg.or (Eh.or B5)))
noncomputable def cZ:PV→PV→M PV
 | .int i,.int j=>.ret (.int (i+j))
 | .str i,.str j=>if i.length+j.length≤100000 then .ret (.str (i++j)) else .fail
 | .lst a,.lst b=>if a.length+b.length≤100000 then .ret (.lst (a++b)) else .fail
 | .tup a,.tup b=>if a.length+b.length≤100000 then .ret (.tup (a++b)) else .fail
 |_,_=>.fail
theorem dQ {K:Frag}:nh (FF K) cZ:=fun φ G O H n R Q y z x x' pr dm ok r1 r2 w q=>by
 have hB:O G.B:=pr _ G.pB
 cases y<;>cases z<;>first|exact w.elim|skip
 ·rename_i i j
  rw[r1.cT,r2.cT]
  exact .inl ⟨i,j,rfl,rfl,q.sc ok (.int _) w⟩
 ·rename_i i j
  rw[r1.iz,r2.iz]
  unfold cZ at w
  dsimp only at w
  by_cases hc:i.length+j.length≤100000
  ·rw[Mz hc] at w;exact .inr (.inl ⟨i,j,rfl,rfl,L6 hc fX,q.sc ok (.str _) w⟩)
  ·rw[MA hc] at w;exact w.elim
 ·rename_i i j
  obtain⟨a,xs,rfl,h1,e1⟩:=r1.kh
  obtain⟨b,ys,rfl,h2,e2⟩:=r2.kh
  unfold cZ at w
  dsimp only at w
  by_cases hc:i.length+j.length≤100000
  ·rw[Mz hc] at w
   by_cases hn:i=[]
   ·subst hn
    rw[e1.nil_inv] at h1
    cases r2 with
    |full r2=>exact .inr (.inr (.inr (.inr ⟨a,b,ys,rfl,rfl,h1,h2,q.sc ok r2 w⟩)))
   ·refine .inr (.inr (.inr (.inl ⟨a,b,xs,ys,rfl,rfl,fM.of h1,fM.of h2,fun z=>hn ?_,L6 (by rw[←e1.1,←e2.1];exact hc) fX,fun hz=>?_,fun _ p hp=>q.tup ok dm hp hB (e1.append e2) w⟩)))
    ·subst z;exact Mp e1.1
    ·subst hz
     have:j=[]:=Mp e2.1
     subst this
     rw[List.append_nil] at w
     cases r1 with
     |full r1=>exact q.sc ok r1 w
  ·rw[MA hc] at w;exact w.elim
 ·rename_i i j
  obtain⟨a,xs,rfl,h1,e1⟩:=r1.gG
  obtain⟨b,ys,rfl,h2,e2⟩:=r2.gG
  unfold cZ at w
  dsimp only at w
  by_cases hc:i.length+j.length≤100000
  ·rw[Mz hc] at w
   exact .inr (.inr (.inl ⟨a,b,xs,ys,rfl,rfl,h1,h2,L6 (by rw[←e1.1,←e2.1];exact hc) fX,fun p hp=>q.lst ok dm hp hB (e1.append e2) w⟩))
  ·rw[MA hc] at w;exact w.elim
noncomputable def nF (i:Str) (k:Int):Str:=⟨(List.replicate k.toNat i.cps).foldl (· ++ ·) #[]⟩
noncomputable def FA:R2:=fun x y H Q=> ∃ i k,x= .str i∧y= .int k∧(1 < k∧k < 1000∧0 < i.length∧i.length < 1000∧(nF i k).length≤100000)∧Q (.str (nF i k)) H
noncomputable def Bu:R2:=fun x y H Q=>rI ou (fun i j=>.int (i * j)) x y H Q∨FA x y H Q∨IT x y H Q
theorem Ee {X:Cx}:fT X (binaryOp .Mult) FA:=by
 intro pins s σ H x y v u Q I rx ry h
 obtain⟨i,k,rfl,rfl,⟨h1,h2,h3,h4,h5⟩,q⟩:=h
 obtain⟨t,rfl⟩:=rx
 obtain⟨t',rfl⟩:=ry
 have e1: ¬ k < -(2 ^ 63:Int):=by
  have:(2:Int) ^ 63=9223372036854775808:=by decide
  lia
 have e2: ¬ k ≥ 2 ^ 63:=by
  have:(2:Int) ^ 63=9223372036854775808:=by decide
  lia
 have hz:(i.length * k.toNat)≤1000000:=L6 (Nat.mul_le_mul (Nat.le_of_lt h4) (by lia:k.toNat≤1000)) (by decide)
 have hne:(k==1||i.length==0)=false:=by
  simp only[Bool.or_eq_false_iff,beq_eq_false_iff_ne]
  exact⟨by lia,by lia⟩
 refine PySem.P.mul_str (by rw[Mb e1,Mb e2];rfl) (fun _ _ hgt=>?_) (fun _ _=>?_) ?_
 ·have:(i.length:Int)≤(2 ^ 63 - 1) / k:=by
   rw[Int.le_ediv_iff_mul_le (by lia)]
   have:(i.length:Int) * k≤1000 * 1000:=Int.mul_le_mul (by lia) (by lia) (by lia) (by lia)
   have e:(2:Int) ^ 63 - 1=9223372036854775807:=by decide
   lia
  lia
 ·have hs:sizeLine=16777216:=Mq
  show decide (i.length * k.toNat > sizeLine)=false
  exact Mb (by lia)
 ·rw[MA (by lia),MA (by rw[hne];simp)]
  exact⟨L6 h5 fX,⟨.str (nF i k),H,I.tok _,⟨_,rfl⟩,q⟩⟩
theorem Ef {X:Cx}:fT X (binaryOp .Mult) Bu:=nM.or (Ee.or GW)
noncomputable def zY:PV→PV→M PV
 | .int i,.int j=>if ou i j then .ret (.int (i * j)) else .fail
 | .str i,.int k=>if 1 < k∧k < 1000∧0 < i.length∧i.length < 1000∧(nF i k).length≤100000 then .ret (.str (nF i k)) else .fail
 | .lst l,.int k=>if -1000 < k∧k < 1000∧l.length * k.toNat≤100000 then .ret (.lst (List.replicate k.toNat l).flatten) else .fail
 |_,_=>.fail
theorem a9.rep {B:Addr} {O:Addr→Prop} {H:Hp} {l:List PV} {xs:List V} (h:a9 B O H l xs): ∀ k:Nat,a9 B O H (List.replicate k l).flatten (List.replicate k xs).flatten
 |0=>.nil
 |k+1=>by rw[List.replicate_succ,List.replicate_succ,List.flatten_cons,List.flatten_cons];exact h.append (a9.rep h k)
theorem GU:nh Bu zY:=fun φ G O H n R Q y z x x' pr dm ok r1 r2 w q=>by
 have hB:O G.B:=pr _ G.pB
 cases y<;>cases z<;>first|exact w.elim|skip
 ·rename_i i j
  rw[r1.cT,r2.cT]
  unfold zY at w
  dsimp only at w
  by_cases hc:ou i j
  ·rw[Mz hc] at w;exact .inl ⟨i,j,rfl,rfl,hc,q.sc ok (.int _) w⟩
  ·rw[MA hc] at w;exact w.elim
 ·rename_i i k
  rw[r1.iz,r2.cT]
  unfold zY at w
  dsimp only at w
  by_cases hc:1 < k∧k < 1000∧0 < i.length∧i.length < 1000∧(nF i k).length≤100000
  ·rw[Mz hc] at w;exact .inr (.inl ⟨i,k,rfl,rfl,hc,q.sc ok (.str _) w⟩)
  ·rw[MA hc] at w;exact w.elim
 ·rename_i l k
  obtain⟨a,xs,rfl,h1,e1⟩:=r1.gG
  rw[r2.cT]
  unfold zY at w
  dsimp only at w
  by_cases hc: -1000 < k∧k < 1000∧l.length * k.toNat≤100000
  ·rw[Mz hc] at w
   have e:(2:Int) ^ 63=9223372036854775808:=by decide
   exact .inr (.inr ⟨a,k,xs,rfl,rfl,h1,by lia,by lia,L6 (by rw[←e1.1];exact hc.2.2) fX,fun p hp=>q.lst ok dm hp hB (e1.rep _) w⟩)
  ·rw[MA hc] at w;exact w.elim
theorem cz.ql {G:Bg φ} {O:Addr→Prop} {H:Hp}: ∀ {l:List PV} {xs:List V},a9 G.B O H l xs→l.all bo=true→xs=l.map toV
 |[],xs,h,_=>h.nil_inv
 |y::l,xs,h,f=>by
  obtain⟨x,r,rfl,h1,h2⟩:=h.cons_inv
  rw[List.all_cons,Mo] at f
  rw[LS,il h1 f.1,cz.ql h2 f.2]
noncomputable def GA (K:Frag) (neg:Bool):R2:=fun x y H Q=>KA K neg x y H Q∨∃ i j,x= .str i∧y= .str j∧Q (.bl (xor neg (!(Builtin.Str.occurrences j i 0 j.length 1).isEmpty))) H
theorem tK {X:Cx}:fT X (compareOp .In) (GA X.K false):=by
 intro pins s σ H x y v u Q I rx ry h
 rcases h with h|⟨i,j,h1,h2,q⟩
 ·exact zV pins s σ H x y v u Q I rx ry h
 ·exact zU pins s σ H x y v u Q I rx ry ⟨i,j,h1,h2,by simpa using q⟩
theorem nL {X:Cx}:fT X (compareOp .NotIn) (GA X.K true):=by
 intro pins s σ H x y v u Q I rx ry h
 rcases h with h|⟨i,j,h1,h2,q⟩
 ·exact tI pins s σ H x y v u Q I rx ry h
 ·exact tH pins s σ H x y v u Q I rx ry ⟨i,j,h1,h2,by simpa using q⟩
noncomputable def rf (y:PV) (l:List PV):Bool:=l.any fun z=>sx (toV z) (toV y)
noncomputable def qh (neg:Bool):PV→PV→M PV
 | .str i,.str j=>.ret (.bl (xor neg (!(Builtin.Str.occurrences j i 0 j.length 1).isEmpty)))
 |y,.lst l=>if bo y&&l.all bo then .ret (.bl (xor neg (rf y l))) else .fail
 |y,.tup l=>if bo y&&l.all bo then .ret (.bl (xor neg (rf y l))) else .fail
 |_,_=>.fail
theorem yO (y:PV) (l:List PV):J9 (toV y) (l.map toV)=rf y l:=by unfold J9 rf;rw[List.any_map];rfl
theorem pY {K:Frag} (neg:Bool):nh (GA K neg) (qh neg):=fun φ G O H n R Q y z x x' pr dm ok r1 r2 w q=>by
 cases z with
 |lst l=>
  have w':(if(bo y&&l.all bo)=true then M.ret (.bl (xor neg (rf y l))) else M.fail:M PV).wp n R:=by cases y<;>exact w
  by_cases hc:(bo y&&l.all bo)=true
  ·rw[Mz hc] at w'
   rw[Mo] at hc
   obtain⟨p,xs,rfl,h1,e1⟩:=r2.gG
   have e2:=cz.ql e1 hc.2
   rw[su r1 hc.1]
   refine .inl ⟨p,xs,rfl,.inl (cQ.of h1),hc.1,?_,?_⟩
   ·rw[e2,List.all_map];exact hc.2
   ·rw[e2,yO];cases neg<;>simpa using q.sc ok (.bl _) w'
  ·rw[MA hc] at w';exact w'.elim
 |tup l=>
  have w':(if(bo y&&l.all bo)=true then M.ret (.bl (xor neg (rf y l))) else M.fail:M PV).wp n R:=by cases y<;>exact w
  by_cases hc:(bo y&&l.all bo)=true
  ·rw[Mz hc] at w'
   rw[Mo] at hc
   obtain⟨p,xs,rfl,h1,e1⟩:=r2.kh
   have e2:=cz.ql e1 hc.2
   rw[su r1 hc.1]
   refine .inl ⟨p,xs,rfl,.inr (fM.of h1),hc.1,?_,?_⟩
   ·rw[e2,List.all_map];exact hc.2
   ·rw[e2,yO];cases neg<;>simpa using q.sc ok (.bl _) w'
  ·rw[MA hc] at w';exact w'.elim
 |str j=>
  cases y<;>first|exact w.elim|skip
  rename_i i
  rw[r1.iz,r2.iz]
  exact .inr ⟨i,j,rfl,rfl,q.sc ok (.bl _) w⟩
 |_=>cases y<;>exact w.elim
noncomputable def Ie:PV→Bool
 | .aW=>true
 |_=>false
noncomputable def rh (neg:Bool) (y z:PV):M PV:=match z with| .aW=>.ret (.bl (xor neg (Ie y)))|_=>.fail
theorem yL {G:Bg φ} {O:Addr→Prop} {H:Hp} {y:PV} {x:V} (r:cz G O H y x):decide (x= .aW)=Ie y:=by
 cases r with
 |full h=>cases h<;>rfl
 |top _ _ _=>rfl
 |wH _ _ _=>rfl
theorem lN:nh (fun x y H Q=>y= .aW∧Q (.bl (decide (x= .aW))) H) (rh false):=fun φ G O H n R Q y z x x' pr dm ok r1 r2 w q=>by
 cases z<;>first|exact w.elim|skip
 have w':R (.bl (xor false (Ie y))) n:=w
 exact⟨r2.FI,q.sc ok (y:=.bl (Ie y)) (by rw[yL r1];exact .bl _) (by simpa using w')⟩
theorem mC:nh (fun x y H Q=>y= .aW∧Q (.bl (!decide (x= .aW))) H) (rh true):=fun φ G O H n R Q y z x x' pr dm ok r1 r2 w q=>by
 cases z<;>first|exact w.elim|skip
 refine⟨r2.FI,q.sc ok (y:=.bl (!Ie y)) (by rw[yL r1];exact .bl _) ?_⟩
 have w':R (.bl (xor true (Ie y))) n:=w
 simpa using w'
noncomputable def LA (i j:Str):Bool:=!decide (j.cps.toList < i.cps.toList)
noncomputable def IU:R2:=fun x y H Q=>(wX fun i j=>.bl (decide (i≤j))) x y H Q∨∃ i j,x= .str i∧y= .str j∧Q (.bl (!decide (j.cps.toList < i.cps.toList))) H
theorem kz {X:Cx}:fT X (compareOp .LtE) IU:=Jh.or zT
noncomputable def j6:PV→PV→M PV
 | .int i,.int j=>.ret (.bl (decide (i≤j)))
 | .str i,.str j=>.ret (.bl (LA i j))
 |_,_=>.fail
theorem kx:nh IU j6:=fun φ G O H n R Q y z x x' pr dm ok r1 r2 w q=>by
 cases y<;>cases z<;>first|exact w.elim|skip
 ·rename_i i j
  rw[r1.cT,r2.cT]
  exact .inl ⟨i,j,rfl,rfl,q.sc ok (.bl _) w⟩
 ·rename_i i j
  rw[r1.iz,r2.iz]
  exact .inr ⟨i,j,rfl,rfl,q.sc ok (.bl _) w⟩
theorem wj {B:Addr} {O:Addr→Prop} {H:Hp} {l:List PV} {xs:List V} (h:a9 B O H l xs) {i:Int} {y:PV} (e:lW l i=some y): ∃ x,lW xs i=some x∧Rep B O H y x:=by
 unfold lW at e ⊢
 rw[←h.1]
 cases q:uu l.length i with
 |none=>rw[q] at e;cases e
 |some j=>rw[q] at e;exact h.at e
noncomputable def aE:PV→PV→M PV
 | .lst l,.int i=>.cY (lW l i)
 | .tup l,.int i=>.cY (lW l i)
 | .str z,.int i=>if z.length≤100000 then(M.cY (lW z.cps.toList i)).bind fun c=>.ret (.str ⟨#[c]⟩) else .fail
 |_,_=>.fail
theorem Jg {K:Frag}:nh (Lk K) aE:=fun φ G O H n R Q y z x x' pr dm ok r1 r2 w q=>by
 cases y<;>cases z<;>first|exact w.elim|skip
 ·rename_i s i
  rw[r1.iz,r2.cT]
  unfold aE at w
  dsimp only at w
  by_cases hc:s.length≤100000
  ·rw[Mz hc] at w
   cases e:lW s.cps.toList i with
   |none=>rw[e] at w;exact w.elim
   |some c=>rw[e] at w;exact .inr (.inr ⟨s,i,c,rfl,rfl,L6 hc fX,e,q.sc ok (.str _) w⟩)
  ·rw[MA hc] at w;exact w.elim
 ·rename_i l i
  obtain⟨p,xs,rfl,h1,e1⟩:=r1.kh
  rw[r2.cT]
  unfold aE at w
  dsimp only at w
  cases e:lW l i with
  |none=>rw[e] at w;exact w.elim
  |some y=>
   rw[e] at w
   obtain⟨v,a,b⟩:=wj e1 e
   exact .inr (.inl ⟨p,xs,i,v,rfl,rfl,fM.of h1,a,q.sc ok b w⟩)
 ·rename_i l i
  obtain⟨p,xs,rfl,h1,e1⟩:=r1.gG
  rw[r2.cT]
  unfold aE at w
  dsimp only at w
  cases e:lW l i with
  |none=>rw[e] at w;exact w.elim
  |some y=>
   rw[e] at w
   obtain⟨v,a,b⟩:=wj e1 e
   exact .inl ⟨p,xs,i,v,rfl,rfl,cQ.of h1,a,q.sc ok b w⟩
end
section
variable {φ:fA}
section
variable {X:Cx} {e:Expr} {es:List Expr} {me:af→M PV} {ml:af→M (List PV)}
theorem BA.mono {t t':TA} (h:BA X es t) (f: ∀ σ H Q,t' σ H Q→t σ H Q):BA X es t':=⟨fun pos pins s σ H Q I q=>h.out pos pins s σ H Q I (f σ H Q q)⟩
noncomputable def aa (me:af→M PV) (ml:af→M (List PV)):af→M (List PV):=fun ρ=>(me ρ).bind fun y=>(ml ρ).bind fun l=>.ret (y::l)
theorem aA:AV φ X [] (fun _=>.ret []):=BA.mono ⟨gA⟩ fun σ H Q ⟨G,O,ρ,n,R,s,w,q⟩=>q [] [] H n (Ext.refl _ _) s.ok .nil w
theorem ah (h:EV φ X e me) (t:AV φ X es ml) (hs:isStar e=false:=by rfl):AV φ X (e::es) (aa me ml):=BA.mono ⟨Jf h.out t.out hs⟩ fun σ H Q hq0=>by
 obtain⟨G,O,ρ,n,R,s,w,q⟩:=hq0
 unfold aa at w
 rw[M.wp_bind] at w
 refine⟨G,O,ρ,n,_,s,w,fun y x H1 n1 e1 ok1 r1 w1=>?_⟩
 rw[M.wp_bind] at w1
 exact⟨G,O,ρ,n1,_,s.ext e1 ok1,w1,fun l xs H2 n2 e2 ok2 r2 w2=>q (y::l) (x::xs) H2 n2 (e1.trans e2) ok2 (.cons (r1.ext s.B e2) r2) w2⟩
theorem gs.nil {G:Bg φ} {O:Addr→Prop} {H:Hp}:gs G O H [] []:=⟨rfl,fun i y x a=>by simp at a⟩
theorem gs.cons {G:Bg φ} {O:Addr→Prop} {H:Hp} {y:PV} {x:V} {l:List PV} {xs:List V} (h:cz G O H y x) (t:gs G O H l xs):gs G O H (y::l) (x::xs):=⟨by simp[t.1],fun i y' x' a b=>by
 cases i with
 |zero=>simp at a b;subst a b;exact h
 |succ i=>simp at a b;exact t.2 i y' x' a b⟩
theorem gs.nil_inv {G:Bg φ} {O:Addr→Prop} {H:Hp} {xs:List V} (h:gs G O H [] xs):xs=[]:=Mp h.1.symm
theorem gs.cons_inv {G:Bg φ} {O:Addr→Prop} {H:Hp} {y:PV} {l:List PV} {xs:List V} (h:gs G O H (y::l) xs): ∃ x r,xs=x::r∧cz G O H y x∧gs G O H l r:=by
 cases xs with
 |nil=>have:=h.1;simp at this
 |cons x r=>exact⟨x,r,rfl,h.2 0 y x rfl rfl,by simpa using h.1,fun i y' x' a b=>h.2 (i+1) y' x' (by simpa using a) (by simpa using b)⟩
theorem gs.one {G:Bg φ} {O:Addr→Prop} {H:Hp} {y:PV} {xs:List V} (h:gs G O H [y] xs): ∃ x,xs=[x]∧cz G O H y x:=by
 obtain⟨x,r,rfl,a,b⟩:=h.cons_inv
 rw[b.nil_inv];exact⟨x,rfl,a⟩
theorem gs.two {G:Bg φ} {O:Addr→Prop} {H:Hp} {y z:PV} {xs:List V} (h:gs G O H [y,z] xs): ∃ x x',xs=[x,x']∧cz G O H y x∧cz G O H z x':=by
 obtain⟨x,r,rfl,a,b⟩:=h.cons_inv
 obtain⟨x',rfl,c⟩:=b.one
 exact⟨x,x',rfl,a,c⟩
theorem bg:AB φ X [] (fun _=>.ret []):=BA.mono ⟨gA⟩ fun σ H Q ⟨G,O,ρ,n,R,s,w,q⟩=>q [] [] H n (Ext.refl _ _) s.ok .nil w
theorem aG (h:EB φ X e me) (t:AB φ X es ml) (hs:isStar e=false:=by rfl):AB φ X (e::es) (aa me ml):=BA.mono ⟨Jf h.out t.out hs⟩ fun σ H Q hq0=>by
 obtain⟨G,O,ρ,n,R,s,w,q⟩:=hq0
 unfold aa at w
 rw[M.wp_bind] at w
 refine⟨G,O,ρ,n,_,s,w,fun y x H1 n1 e1 ok1 r1 w1=>?_⟩
 rw[M.wp_bind] at w1
 exact⟨G,O,ρ,n1,_,s.ext e1 ok1,w1,fun l xs H2 n2 e2 ok2 r2 w2=>q (y::l) (x::xs) H2 n2 (e1.trans e2) ok2 (.cons (r1.ext s.B e2) r2) w2⟩
noncomputable def bh (l:List PV):M PV:=if l.length≤100000 then .ret (.tup l) else .fail
noncomputable def bc (l:List PV):M (List PV):=if l.length≤100000 then .ret l else .fail
theorem cP {k:Nat} {pos:Pos} (h:AV φ X es ml):EV φ X (.Tuple es k pos) (fun ρ=>(ml ρ).bind bh):=BE.mono ⟨xa h.out⟩ fun σ H Q hq0=>by
 obtain⟨G,O,ρ,n,R,s,w,q⟩:=hq0
 rw[M.wp_bind] at w
 refine⟨G,O,ρ,n,_,s,w,fun l xs H1 n1 e1 ok1 r1 w1=>?_⟩
 unfold bh at w1
 by_cases hc:l.length≤100000
 ·rw[Mz hc] at w1
  refine⟨L6 (by rw[←r1.1];exact hc) fX,fun p hp=>?_⟩
  have q':om G O H1 R Q:=fun y x H' n' e o r h=>q y x H' n' (e1.trans e) o r h
  exact q'.tup ok1 (s.ext e1 ok1).dm hp s.B r1 w1
 ·rw[MA hc] at w1;exact w1.elim
theorem cC {pos:Pos} (h:AV φ X es ml):EF φ X (.List es pos) (fun ρ=>(ml ρ).bind bc):=BE.mono ⟨xb h.out⟩ fun σ H Q hq0=>by
 obtain⟨G,O,ρ,n,R,s,w,q⟩:=hq0
 rw[M.wp_bind] at w
 refine⟨G,O,ρ,n,_,s,w,fun l xs H1 n1 e1 ok1 r1 w1=>?_⟩
 unfold bc at w1
 by_cases hc:l.length≤100000
 ·rw[Mz hc] at w1
  refine⟨L6 (by rw[←r1.1];exact hc) fX,fun p hp=>?_⟩
  have e2:=Ext.new (B:=G.B) hp (.lst xs)
  refine q l p xs _ n1 (e1.trans e2) (Bg.new ok1 hp _) ?_ az ((r1.grow fun q z=>by
   rcases z with z|z
   ·exact .inl z
   ·subst z;exact .inr hp).ext (.inl s.B) e2) w1
  cases hh:H p with
  |none=>rfl
  |some o=>
   by_cases pb:p=G.B
   ·subst pb;obtain⟨o',g⟩:=G.C0 _ _ _ ok1 G.pB;rw[hp] at g;cases g
   ·obtain⟨_,this⟩:=(e1 p o pb hh).there;rw[hp] at this;cases this
 ·rw[MA hc] at w1;exact w1.elim
theorem jz {G:Bg φ} {H H1:Hp} {n:Nat} (e1:Ext G.B H H1) (ok1:G.ok H1 n) {p:Addr} (hp:H1 p=none):H p=none:=by
 cases hh:H p with
 |none=>rfl
 |some o=>
  by_cases pb:p=G.B
  ·subst pb;obtain⟨o',g⟩:=G.C0 _ _ _ ok1 G.pB;rw[hp] at g;cases g
  ·obtain⟨_,this⟩:=(e1 p o pb hh).there;rw[hp] at this;cases this
def oU (r:List V→Hp→VK→Prop) (op:List PV→M PV):Prop:= ∀ (φ:fA) (G:Bg φ) (O:Addr→Prop) (H:Hp) (n:Nat) (R:PV→Nat→Prop) (Q:VK) (l:List PV) (xs:List V),
 (∀ p,G.dP p→O p)→(∀ p,O p→∃ o,H p=some o)→G.ok H n→gs G O H l xs→(op l).wp n R→om G O H R Q→r xs H Q
theorem a8 {e:Expr} {r:List V→Hp→VK→Prop} {op:List PV→M PV} (h:BE X e (HX r (Ir φ ml))) (hv:oU r op):EV φ X e (fun ρ=>(ml ρ).bind op):=BE.mono h fun σ H Q hq0=>by
 obtain⟨G,O,ρ,n,R,s,w,q⟩:=hq0
 rw[M.wp_bind] at w
 exact⟨G,O,ρ,n,_,s,w,fun l xs H1 n1 e1 ok1 r1 w1=>hv φ G O H1 n1 R Q l xs s.pr (s.ext e1 ok1).dm ok1 r1 w1 fun y x H' n' e o r h=>q y x H' n' (e1.trans e) o r h⟩
noncomputable def gB:List PV→M PV
 |[.str z]=>if z.length≤100000 then .ret (.int z.length) else .fail
 |[.lst l]=>.ret (.int l.length)
 |[.tup l]=>.ret (.int l.length)
 |[.sX l]=>.ret (.int l.length)
 |[.fz l]=>.ret (.int l.length)
 |_=>.fail
def FD (K:Frag):List V→Hp→VK→Prop:=fun xs H Q=>(∃ x n,xs=[x]∧JT K x H n∧Q (.int n) H)∨∃ a kvs,xs=[.ref a]∧Rd H a (.dK kvs)∧Q (.int kvs.length) H
theorem dD:iy X (.builtin "len") (FD X.K):=by
 intro pins s σ H xs us Q I r h
 rcases h with h|⟨a,kvs,rfl,h,q⟩
 ·exact C6 pins s σ H xs us Q I r h
 ·obtain⟨u,rfl,rx⟩:=vals1 r
  cases rx
  exact JB I h fun t s' I'=>⟨.int kvs.length,H,I',⟨_,rfl⟩,q⟩
theorem jP {K:Frag}:oU (FD K) gB:=fun φ G O H n R Q l xs pr dm ok r w q=>by
 match l,r,w with
 |[.str z],r,w=>
  obtain⟨x,ex,r1⟩:=r.one;subst ex;clear r;have r:=r1;clear r1
  rw[r.iz]
  unfold gB at w
  dsimp only at w
  by_cases hc:z.length≤100000
  ·rw[Mz hc] at w;exact .inl ⟨_,_,rfl,⟨L6 hc fX,rfl⟩,q.sc ok (.int _) w⟩
  ·rw[MA hc] at w;exact w.elim
 |[.lst z],r,w=>
  obtain⟨x,ex,r1⟩:=r.one;subst ex;clear r;have r:=r1;clear r1
  obtain⟨p,xs,rfl,h,e⟩:=r.gG
  exact .inl ⟨_,_,rfl,.inl ⟨xs,cQ.of h,rfl⟩,q.sc ok (y:=.int z.length) (by rw[e.1];exact .int _) w⟩
 |[.tup z],r,w=>
  obtain⟨x,ex,r1⟩:=r.one;subst ex;clear r;have r:=r1;clear r1
  obtain⟨p,xs,rfl,h,e⟩:=r.kh
  exact .inl ⟨_,_,rfl,.inr ⟨xs,fM.of h,rfl⟩,q.sc ok (y:=.int z.length) (by rw[e.1];exact .int _) w⟩
 |[.sX z],r,w=>
  obtain⟨x,ex,r1⟩:=r.one;subst ex;clear r;have r:=r1;clear r1
  obtain⟨p,o,rfl,h⟩:=r.II
  exact .inl ⟨_,_,rfl,.inl ⟨_,.inl (.inr ⟨o,h⟩),rfl⟩,q.sc ok (y:=.int z.length) (by rw[LK];exact .int _) w⟩
 |[.fz z],r,w=>
  obtain⟨x,ex,r1⟩:=r.one;subst ex;clear r;have r:=r1;clear r1
  obtain⟨p,ks,rfl,h,e⟩:=r.y1
  have e1:z.length=ks.length:=by simpa using congrArg List.length e.1
  exact .inr ⟨p,ks,rfl,h,q.sc ok (y:=.int z.length) (by rw[e1];exact .int _) w⟩
noncomputable def j3:List PV→Option (List Bool)
 |[]=>some []
 | .bl b::r=>(j3 r).map (b:: ·)
 |_=>none
theorem zc {B:Addr} {O:Addr→Prop} {H:Hp}: ∀ {l:List PV} {xs:List V} {bs:List Bool},a9 B O H l xs→j3 l=some bs→xs=bs.map V.bl
 |[],xs,bs,h,e=>by simp[j3] at e;subst e;exact h.nil_inv
 |y::l,xs,bs,h,e=>by
  cases y<;>simp[j3] at e
  obtain⟨bs',e1,rfl⟩:=e
  obtain⟨x,r,rfl,h1,h2⟩:=h.cons_inv
  cases h1
  rw[LS,zc h2 e1]
noncomputable def m8:List PV→M PV
 |[.lst l]=>(M.cY (j3 l)).bind fun bs=>.ret (.bl (bs.all id))
 |_=>.fail
theorem xF {K:Frag}:oU (fun xs H Q=> ∃ (p:Addr) (bs:List Bool),xs=[.ref p]∧cQ K H p (bs.map V.bl)∧Q (.bl (bs.all id)) H) m8:=fun φ G O H n R Q l xs pr dm ok r w q=>by
 match l,r,w with
 |[.lst z],r,w=>
  obtain⟨x,ex,r1⟩:=r.one;subst ex;clear r;have r:=r1;clear r1
  obtain⟨p,xs,rfl,h,e⟩:=r.gG
  unfold m8 at w
  dsimp only at w
  cases eb:j3 z with
  |none=>rw[eb] at w;exact w.elim
  |some bs=>rw[eb] at w;rw[zc e eb] at h;exact⟨p,bs,rfl,cQ.of h,q.sc ok (.bl _) w⟩
noncomputable def rS:List PV→M PV
 |[.int i,.int j]=>.ret (.int (if j > i then j else i))
 |_=>.fail
noncomputable def p5:List PV→M PV
 |[.int i,.int j]=>.ret (.int (if j < i then j else i))
 |_=>.fail
theorem ug:oU (fun xs H Q=> ∃ i j,xs=[.int i,.int j]∧Q (.int (if j > i then j else i)) H) rS:=fun φ G O H n R Q l xs pr dm ok r w q=>by
 match l,r,w with
 |[.int i,.int j],r,w=>obtain⟨x,x',ex,r1,r'⟩:=r.two;subst ex;clear r;have r:=r1;clear r1;rw[r.cT,r'.cT];exact⟨i,j,rfl,q.sc ok (.int _) w⟩
theorem uf:oU (fun xs H Q=> ∃ i j,xs=[.int i,.int j]∧Q (.int (if j < i then j else i)) H) p5:=fun φ G O H n R Q l xs pr dm ok r w q=>by
 match l,r,w with
 |[.int i,.int j],r,w=>obtain⟨x,x',ex,r1,r'⟩:=r.two;subst ex;clear r;have r:=r1;clear r1;rw[r.cT,r'.cT];exact⟨i,j,rfl,q.sc ok (.int _) w⟩
noncomputable def xt:List PV→M PV
 |[.int i]=>.ret (.int i)
 |[.bl k]=>.ret (.int (if k then 1 else 0))
 |_=>.fail
theorem C2:oU (fun xs H Q=>(∃ i,xs=[.int i]∧Q (.int i) H)∨∃ k,xs=[.bl k]∧Q (.int (if k then 1 else 0)) H) xt:=fun φ G O H n R Q l xs pr dm ok r w q=>by
 match l,r,w with
 |[.int i],r,w=>obtain⟨x,ex,r1⟩:=r.one;subst ex;clear r;have r:=r1;clear r1;rw[r.cT];exact .inl ⟨i,rfl,q.sc ok (.int _) w⟩
 |[.bl i],r,w=>obtain⟨x,ex,r1⟩:=r.one;subst ex;clear r;have r:=r1;clear r1;rw[r.Ld];exact .inr ⟨i,rfl,q.sc ok (.int _) w⟩
noncomputable def nr:List PV→M PV
 |[.lst l]=>.ret (.tup l)
 |[.tup l]=>.ret (.tup l)
 |_=>.fail
theorem nY {K:Frag}:oU (fun xs H Q=> ∃ p ys,xs=[.ref p]∧((cQ K H p ys∧∀ l,H l=none→Q (.ref l) (upd H l (.tup ys)))∨(fM K H p ys∧Q (.ref p) H))) nr:=fun φ G O H n R Q l xs pr dm ok r w q=>by
 match l,r,w with
 |[.lst z],r,w=>
  obtain⟨x,ex,r1⟩:=r.one;subst ex;clear r;have r:=r1;clear r1
  obtain⟨p,xs,rfl,h,e⟩:=r.gG
  exact⟨p,xs,rfl,.inl ⟨cQ.of h,fun l hl=>q.tup ok dm hl (pr _ G.pB) e w⟩⟩
 |[.tup z],r,w=>
  obtain⟨x,ex,r1⟩:=r.one;subst ex;clear r;have r:=r1;clear r1
  obtain⟨p,xs,rfl,h,e⟩:=r.kh
  cases r with
  |full r=>exact⟨p,xs,rfl,.inr ⟨fM.of h,q.sc ok r w⟩⟩
end
end
section
variable {φ:fA}
noncomputable def jq (φ:fA) (f:List PV→M PV):Sp:=fun vs H Q _=> ∃ (G:Bg φ) (O:Addr→Prop) (l:List PV) (n:Nat) (R:PV→Nat→Prop),(∀ p,G.dP p→O p)∧(∀ p,O p→∃ o,H p=some o)∧G.ok H n∧a9 G.B O H l vs∧(f l).wp n R∧om G O H R Q
section
variable {X:Cx} {e:Expr} {es:List Expr} {ml:af→M (List PV)} {f:List PV→M PV}
theorem ay (h:BE X e (uA (jq φ f) [] E0 (J1 φ ml))):EV φ X e (fun ρ=>(ml ρ).bind f):=BE.mono h fun σ H Q hq0=>by
 obtain⟨G,O,ρ,n,R,s,w,q⟩:=hq0
 rw[M.wp_bind] at w
 refine⟨G,O,ρ,n,_,s,w,fun l xs H1 n1 e1 ok1 r1 w1=>?_⟩
 show jq φ f (xs++[]) H1 Q E0
 rw[List.append_nil]
 exact⟨G,O,l,n1,R,s.pr,(s.ext e1 ok1).dm,ok1,r1,w1,fun y x H' n' e o r h=>q y x H' n' (e1.trans e) o r h⟩
noncomputable def qm (y:PV):M PV:=if bo y=true then .ret y else .fail
theorem vK (h:BE X e (uA (jq φ f) [] E0 (Ir φ ml))):EV φ X e (fun ρ=>(ml ρ).bind fun l=>(f l).bind qm):=BE.mono h fun σ H Q hq0=>by
 obtain⟨G,O,ρ,n,R,s,w,q⟩:=hq0
 rw[M.wp_bind] at w
 refine⟨G,O,ρ,n,_,s,w,fun l xs H1 n1 e1 ok1 r1 w1=>?_⟩
 show jq φ f (xs++[]) H1 Q E0
 rw[List.append_nil]
 rw[M.wp_bind] at w1
 refine⟨G,G.dP,l,n1,_,fun p h=>h,fun p h=>G.C0 _ _ _ ok1 h,ok1,⟨r1.1,fun i y x a b=>(r1.2 i y x a b).low s.pr⟩,w1,fun y x H' n' e o r h=>?_⟩
 unfold qm at h
 by_cases hf:bo y=true
 ·rw[Mz hf] at h
  refine q y x H' n' (e1.trans e) o ?_ h
  rw[il r hf]
  cases y<;>first|exact .aW|exact .bl _|exact .int _|exact .str _|(simp[bo,toV,d9] at hf)
 ·rw[MA hf] at h;exact h.elim
def Lq (r:V→Option Int→Option Int→Hp→VK→Prop) (op:PV→Option Int→Option Int→M PV):Prop:= ∀ (φ:fA) (G:Bg φ) (O:Addr→Prop) (H:Hp) (n:Nat) (R:PV→Nat→Prop) (Q:VK) (y:PV) (lo hi:Option Int) (x:V),
 (∀ p,G.dP p→O p)→(∀ p,O p→∃ o,H p=some o)→G.ok H n→cz G O H y x→(op y lo hi).wp n R→om G O H R Q→r x lo hi H Q
def JK (G:Bg φ) (H:Hp) (R:Option Int→Nat→Prop) (Q:Option Int→Hp→Prop):Prop:= ∀ (o:Option Int) (H':Hp) (n':Nat),Ext G.B H H'→G.ok H' n'→R o n'→Q o H'
noncomputable def Kp (φ:fA) (m:af→M (Option Int)):TO:=fun σ H Q=> ∃ (G:Bg φ) (O:Addr→Prop) (ρ:af) (n:Nat) (R:Option Int→Nat→Prop),ES G O H σ ρ n∧(m ρ).wp n R∧JK G H R Q
def OV (φ:fA) (X:Cx) (e:Option Expr) (m:af→M (Option Int)):Prop:=BO X e (Kp φ m)
theorem BO.mono {e:Option Expr} {t t':TO} (h:BO X e t) (f: ∀ σ H Q,t' σ H Q→t σ H Q):BO X e t':=⟨fun pins s σ H Q I q=>h.out pins s σ H Q I (f σ H Q q)⟩
theorem yE:OV φ X none (fun _=>.ret none):=BO.mono ⟨pd⟩ fun σ H Q ⟨G,O,ρ,n,R,s,w,q⟩=>q none H n (Ext.refl _ _) s.ok w
noncomputable def vC:PV→M Int
 | .int i=>.ret i
 |_=>.fail
theorem yD {m:af→M PV} (h:EB φ X e m):OV φ X (some e) (fun ρ=>(m ρ).bind fun y=>(vC y).bind fun i=>.ret (some i)):=BO.mono ⟨o9 h.out⟩ fun σ H Q hq0=>by
 obtain⟨G,O,ρ,n,R,s,w,q⟩:=hq0
 rw[M.wp_bind] at w
 refine⟨G,O,ρ,n,_,s,w,fun y x H1 n1 e1 ok1 r1 w1=>?_⟩
 cases y<;>first|exact w1.elim|skip
 rename_i i
 rw[r1.cT]
 exact⟨i,rfl,q _ _ _ e1 ok1 w1⟩
noncomputable def DL (op:PV→Option Int→Option Int→M PV) (me:af→M PV) (ml mh:af→M (Option Int)):af→M PV:=fun ρ=>(me ρ).bind fun y=>(ml ρ).bind fun lo=>(mh ρ).bind fun hi=>op y lo hi
theorem vI {r:V→Option Int→Option Int→Hp→VK→Prop} {op:PV→Option Int→Option Int→M PV} {me:af→M PV} {ml mh:af→M (Option Int)} (h:BE X e (Kr r (rD φ me) (Kp φ ml) (Kp φ mh))) (hv:Lq r op):EV φ X e (DL op me ml mh):=BE.mono h fun σ H Q hq0=>by
 obtain⟨G,O,ρ,n,R,s,w,q⟩:=hq0
 unfold DL at w
 rw[M.wp_bind] at w
 refine⟨G,O,ρ,n,_,s,w,fun y x H1 n1 e1 ok1 r1 w1=>?_⟩
 rw[M.wp_bind] at w1
 refine⟨G,O,ρ,n1,_,s.ext e1 ok1,w1,fun lo H2 n2 e2 ok2 w2=>?_⟩
 rw[M.wp_bind] at w2
 refine⟨G,O,ρ,n2,_,s.ext (e1.trans e2) ok2,w2,fun hi H3 n3 e3 ok3 w3=>?_⟩
 exact hv φ G O H3 n3 R Q y lo hi x s.pr (s.ext (e1.trans (e2.trans e3)) ok3).dm ok3 (r1.ext s.B (e2.trans e3)) w3 fun y x H' n' e o r h=>q y x H' n' (e1.trans (e2.trans (e3.trans e))) o r h
noncomputable def ui (l:List PV) (lo hi:Option Int):List PV:=(l.drop (HT.dR l.length 0 lo)).take (HT.dR l.length l.length hi - HT.dR l.length 0 lo)
theorem vX {B:Addr} {O:Addr→Prop} {H:Hp} {l:List PV} {xs:List V} (h:a9 B O H l xs) (lo hi:Option Int):a9 B O H (ui l lo hi) (mX xs lo hi):=by
 unfold ui mX
 rw[←h.1]
 exact(h.drop _).take _
theorem xG (l:List PV) (lo hi:Option Int) (h:HT.dR l.length 0 lo=0∧HT.dR l.length l.length hi=l.length):ui l lo hi=l:=by
 unfold ui
 rw[h.1,h.2]
 simp
def IS (K:Frag):V→Option Int→Option Int→Hp→VK→Prop:=fun x lo hi H Q=>IP K x lo hi H Q∨IL K x lo hi H Q
theorem Kw:AJ X (IS X.K):=o6.or Gs
noncomputable def i5 (x:Str):List PV:=x.cps.toList.map fun c=>.str ⟨#[c]⟩
noncomputable def cn (lo:Int) (n:Nat):List PV:=(List.range n).map fun i=>.int (lo+(i:Nat))
inductive ir (K:Frag) (G:Bg φ) (O:Addr→Prop) (c:Bool) (H:Hp):List PV→It→Prop where
 |lst {p:Addr} {xs:List V} {l:List PV} (np: ¬ G.dP p) (hp:c=true→¬ O p) (h:H p=some (.lst xs)) (r:a9 G.B O H l xs):ir K G O c H l (Ki K p)
 |tup {p:Addr} {xs:List V} {l:List PV} (hp: ¬ O p) (h:H p=some (.tup xs)) (r:a9 G.B O H l xs):ir K G O c H l (Kg K p)
 |txt (x:Str):ir K G O c H (i5 x) (Kf x)
 |wO (lo:Int) (n:Nat):ir K G O c H (cn lo n) (Kh lo n)
theorem Hk {K:Frag} {H:Hp} {p:Addr} {xs:List V} (h:H p=some (.lst xs)) {i:Nat} (hi:i < xs.length):(Ki K p).go i H:=⟨xs,xs[i],cQ.of h,by simp[hi]⟩
theorem Hj {K:Frag} {H:Hp} {p:Addr} {xs:List V} (h:H p=some (.tup xs)) {i:Nat} (hi:i < xs.length):(Kg K p).go i H:=⟨xs,xs[i],fM.of h,by simp[hi]⟩
theorem ir.go {K:Frag} {G:Bg φ} {O:Addr→Prop} {c:Bool} {H:Hp} {l:List PV} {J:It} (t:ir K G O c H l J) {i:Nat} {y:PV} (hi:l[i]?=some y):J.go i H∧∀ x H2,J.AG i H x H2→H2=H∧Rep G.B O H y x:=by
 have hl:i < l.length:=(LP.mp hi).1
 cases t with
 |lst np hp h r=>
  refine⟨Hk h (r.1▸hl),fun x H2 z=>?_⟩
  obtain⟨e,z⟩:=z
  exact⟨e,r.2 i y x hi (z _ (cQ.of h))⟩
 |tup hp h r=>
  refine⟨Hj h (r.1▸hl),fun x H2 z=>?_⟩
  obtain⟨e,z⟩:=z
  exact⟨e,r.2 i y x hi (z _ (fM.of h))⟩
 |txt z=>
  unfold i5 at hi hl
  refine⟨by show i < z.cps.size;simpa using hl,fun x H2 q=>?_⟩
  obtain⟨e,c',hc,rfl⟩:=q
  refine⟨e,?_⟩
  rw[L5] at hi
  have:z.cps.toList[i]?=some c':=by simpa using hc
  rw[this] at hi
  cases hi
  exact .str _
 |wO lo n=>
  unfold cn at hi hl
  have hn:i < n:=by simpa using hl
  refine⟨hn,fun x H2 q=>?_⟩
  obtain⟨e,rfl⟩:=q
  refine⟨e,?_⟩
  rw[L5,List.getElem?_range hn] at hi
  cases hi
  exact .int _
theorem ir.stop {K:Frag} {G:Bg φ} {O:Addr→Prop} {c:Bool} {H:Hp} {l:List PV} {J:It} (t:ir K G O c H l J):J.stop l.length H:=by
 cases t with
 |lst np hp h r=>exact⟨_,cQ.of h,Nat.le_of_eq r.1.symm⟩
 |tup hp h r=>exact⟨_,fM.of h,Nat.le_of_eq r.1.symm⟩
 |txt z=>show (i5 z).length=z.cps.size;simp[i5]
 |wO lo n=>show n≤(cn lo n).length;simp[cn]
theorem ir.gH {K:Frag} {G:Bg φ} {O O':Addr→Prop} {c:Bool} {H H':Hp} {l:List PV} {J:It} (t:ir K G O c H l J) (k: ∀ p o,¬ O p→H p=some o→iW H' p o∧¬ O' p) (k2:c=true∨∀ p xs,¬ G.dP p→H p=some (.lst xs)→H' p=some (.lst xs)) (hc: ∀ p,c=true→¬ O p→¬ O' p):ir K G O' c H' l J:=by
 cases t with
 |lst np hp h r=>
  refine .lst np (fun z=>hc _ z (hp z)) ?_ (r.gH k)
  rcases k2 with z|z
  ·exact(k _ _ (hp z) h).1
  ·exact z _ _ np h
 |tup hp h r=>exact .tup (k _ _ hp h).2 (k _ _ hp h).1 (r.gH k)
 |txt z=>exact .txt z
 |wO lo n=>exact .wO lo n
theorem ir.keep {K:Frag} {G:Bg φ} {O O':Addr→Prop} {c:Bool} {H H':Hp} {l:List PV} {J:It} (t:ir K G O c H l J) (k: ∀ p o,¬ O p→H p=some o→H' p=some o∧¬ O' p) (k2:c=true∨∀ p xs,¬ G.dP p→H p=some (.lst xs)→H' p=some (.lst xs)) (hc: ∀ p,c=true→¬ O p→¬ O' p):ir K G O' c H' l J:=t.gH (fun p o n q=>⟨.of (k p o n q).1,(k p o n q).2⟩) k2 hc
noncomputable def Gh (φ:fA) (K:Frag) (c:Bool) (m:af→M (List PV)):TI:=fun σ H Q=> ∃ (G:Bg φ) (O:Addr→Prop) (ρ:af) (n:Nat) (R:List PV→Nat→Prop),ES G O H σ ρ n∧(m ρ).wp n R∧
 ∀ (l:List PV) (J:It) (H':Hp) (n':Nat),Ext G.B H H'→G.ok H' n'→ir K G O c H' l J→R l n'→Q J H'
def IV (φ:fA) (X:Cx) (c:Bool) (tg iter:Expr) (m:af→M (List PV)):Prop:=BI X tg iter (Gh φ X.K c m)
noncomputable def ba:PV→M (List PV)
 | .lst l=>.ret l
 | .tup l=>.ret l
 | .str x=>.ret (i5 x)
 |_=>.fail
theorem BK {tg l:Expr} {tl:TE} (hl:PE X l tl):PI X tg l (fun σ H R=>tl σ H fun x H1=>(∃ a,x= .ref a∧(∃ xs,cQ X.K H1 a xs)∧R (Ki X.K a) H1)∨(∃ a,x= .ref a∧(∃ xs,fM X.K H1 a xs)∧R (Kg X.K a) H1)∨∃ z,x= .str z∧R (Kf z) H1):=by
 intro pins s σ H R I h
 refine bN (hl pins s σ H _ I h) fun v s1 ⟨x,H1,I1,r1,q1⟩=>?_
 rcases q1 with⟨a,e,⟨xs,hq⟩,q⟩|⟨a,e,⟨xs,hq⟩,q⟩|⟨z,e,q⟩
 ·subst e
  cases r1
  obtain⟨its,rv,p,hz⟩:=I1.list hq
  refine wpAny_pyIter_list p.isList ?_
  refine⟨s1.heap.objs.size,[s1.heap.objs.size],_,_,H1,rfl,I1.kept (t':=s1.toks) fun b o e=>LL _ e,zt a _,⟨_,LY _ rfl,rfl,rfl⟩,fun b hb=>?_,q⟩
  have e:b=s1.heap.objs.size:=by simpa using hb
  subst e
  exact I1.rj (LQ _) (I1.bE.fresh (LQ _))
 ·subst e
  cases r1
  obtain⟨its,rv,p,hz⟩:=I1.tuple hq
  refine wpAny_pyIter_tuple (show s1.heap.IsTuple a its.toArray from p) ?_
  refine⟨s1.heap.objs.size,[s1.heap.objs.size],_,_,H1,rfl,I1.kept (t':=s1.toks) fun b o e=>LL _ e,wC a _,⟨_,LY _ rfl,rfl,rfl⟩,fun b hb=>?_,q⟩
  have e:b=s1.heap.objs.size:=by simpa using hb
  subst e
  exact I1.rj (LQ _) (I1.bE.fresh (LQ _))
 ·subst e
  obtain⟨t,rfl⟩:=r1
  have fin: ∀ (o:Obj) (ty:String),o.cls= .type ty→o.data= .fields #[.str z t,.int (0:Nat) 0]→Turn X.prog X.w X.K tg (Kf z) [s1.heap.objs.size] s1.heap.objs.size (fun i h=>h.IsStrIter s1.heap.objs.size ty z t i)→o.isFreed=false→
    Ke X pins σ tg R (.ref s1.heap.objs.size) {s1 with heap:=s1.heap.push o}:=fun o ty h1 h2 T hfr=>by
   refine⟨s1.heap.objs.size,[s1.heap.objs.size],_,_,H1,rfl,I1.kept (t':=s1.toks) fun b o e=>LL _ e,T,⟨_,LY _ hfr,h1,h2⟩,fun b hb=>?_,q⟩
   have e:b=s1.heap.objs.size:=by simpa using hb
   subst e
   exact I1.rj (LQ _) (I1.bE.fresh (LQ _))
  cases ha:z.cps.all (· < 128)
  ·exact wpAny_pyIter_wide ha (fin _ _ rfl rfl (rB _ z t (by decide) (fun A hA=>Walks.strWide hA _ z t) fun _ _ _ _ _ st h=>wpAny_pyIter_striter_wide st h) rfl)
  ·exact wpAny_pyIter_ascii ha (fin _ _ rfl rfl (rB _ z t (by decide) (fun A hA=>Walks.strAscii hA _ z t) fun _ _ _ _ _ st h=>wpAny_pyIter_striter_ascii st h) rfl)
theorem BI.mono {tg iter:Expr} {t t':TI} (h:BI X tg iter t) (f: ∀ σ H Q,t' σ H Q→t σ H Q):BI X tg iter t':=⟨fun pins s σ H Q I q=>h.out pins s σ H Q I (f σ H Q q)⟩
theorem mJ {tg:Expr} {m:af→M PV} (h:EB φ X e m):IV φ X false tg e (fun ρ=>(m ρ).bind ba):=BI.mono ⟨BK h.out⟩ fun σ H Q hq0=>by
 obtain⟨G,O,ρ,n,R,s,w,q⟩:=hq0
 rw[M.wp_bind] at w
 refine⟨G,O,ρ,n,_,s,w,fun y x H1 n1 e1 ok1 r1 w1=>?_⟩
 cases y<;>first|exact w1.elim|skip
 ·rw[r1.iz]
  exact .inr (.inr ⟨_,rfl,q _ _ _ _ e1 ok1 (.txt _) w1⟩)
 ·cases r1 with
  |full r1=>cases r1 with
   |tup a b c d=>exact .inr (.inl ⟨_,rfl,⟨_,fM.of b⟩,q _ _ _ _ e1 ok1 (.tup a b ⟨c,d⟩) w1⟩)
 ·cases r1 with
  |full r1=>cases r1 with
   |lst a b c d=>exact .inl ⟨_,rfl,⟨_,cQ.of b⟩,q _ _ _ _ e1 ok1 (.lst (fun z=>a (s.pr _ z)) (fun z=>by cases z) b ⟨c,d⟩) w1⟩
  |top a b c=>exact .inl ⟨_,rfl,⟨_,cQ.of b⟩,q _ _ _ _ e1 ok1 (.lst a (fun z=>by cases z) b c) w1⟩
theorem vB {tg:Expr} {m:af→M PV} (h:EV φ X e m):IV φ X true tg e (fun ρ=>(m ρ).bind ba):=BI.mono ⟨BK h.out⟩ fun σ H Q hq0=>by
 obtain⟨G,O,ρ,n,R,s,w,q⟩:=hq0
 rw[M.wp_bind] at w
 refine⟨G,O,ρ,n,_,s,w,fun y x H1 n1 e1 ok1 r1 w1=>?_⟩
 cases r1 with
 |str z=>exact .inr (.inr ⟨_,rfl,q _ _ _ _ e1 ok1 (.txt _) w1⟩)
 |tup a b c d=>exact .inr (.inl ⟨_,rfl,⟨_,fM.of b⟩,q _ _ _ _ e1 ok1 (.tup a b ⟨c,d⟩) w1⟩)
 |lst a b c d=>exact .inl ⟨_,rfl,⟨_,cQ.of b⟩,q _ _ _ _ e1 ok1 (.lst (fun z=>a (s.pr _ z)) (fun _=>a) b ⟨c,d⟩) w1⟩
 |_=>exact w1.elim
noncomputable def dH:List PV→M (List PV)
 |[.int j]=>if -1000000≤j∧j≤100000 then .ret (cn 0 j.toNat) else .fail
 |_=>.fail
theorem jL {c:Bool} {tg:Expr} (h:BI X tg e (Cu (Ir φ ml))):IV φ X c tg e (fun ρ=>(ml ρ).bind dH):=BI.mono h fun σ H Q hq0=>by
 obtain⟨G,O,ρ,n,R,s,w,q⟩:=hq0
 rw[M.wp_bind] at w
 refine⟨G,O,ρ,n,_,s,w,fun l xs H1 n1 e1 ok1 r1 w1=>?_⟩
 match l,r1,w1 with
 |[.int j],r1,w1=>
  obtain⟨x,rfl,r2⟩:=r1.one
  rw[r2.cT]
  unfold dH at w1
  dsimp only at w1
  by_cases hc: -1000000≤j∧j≤100000
  ·rw[Mz hc] at w1
   have e62:(2:Int) ^ 62=4611686018427387904:=by decide
   exact⟨j,rfl,by lia,by lia,q _ _ _ _ e1 ok1 (.wO 0 j.toNat) w1⟩
  ·rw[MA hc] at w1;exact w1.elim
noncomputable def HV (φ:fA) (b:PV→af→M af):TG:=fun v σ H Q=> ∃ (G:Bg φ) (O:Addr→Prop) (ρ:af) (n:Nat) (R:af→Nat→Prop) (y:PV),ES G O H σ ρ n∧Rep G.B O H y v∧(b y ρ).wp n R∧
 ∀ (σ':St) (ρ':af) (n':Nat),ES G O H σ' ρ' n'→R ρ' n'→Q σ' H
def GV (φ:fA) (X:Cx) (tg:Expr) (b:PV→af→M af):Prop:=BG X tg (HV φ b)
theorem lY.set {G:Bg φ} {O:Addr→Prop} {H:Hp} {σ:St} {ρ:af} (h:lY G O H σ ρ) (k:Nat) {t:Ent} {x:V} (r:oq G O H t (some x)):lY G O H (σ.set k (some x)) (ρ.set k t):=by
 refine⟨by simp[h.1],fun i e he=>?_⟩
 by_cases hk:k=i
 ·subst hk
  have hl:k < ρ.length:=by have:=(LP.mp he).1;simpa using this
  rw[MB hl] at he
  cases he
  rw[MB (h.1▸hl)]
  exact r
 ·rw[Mj hk] at he ⊢
  exact h.2 i e he
theorem ES.set {G:Bg φ} {O:Addr→Prop} {H:Hp} {σ:St} {ρ:af} {n:Nat} (s:ES G O H σ ρ n) (k:Nat) {t:Ent} {x:V} (r:oq G O H t (some x)):ES G O H (σ.set k (some x)) (ρ.set k t) n:=⟨s.er.set k r,s.ok,s.pr,s.dm⟩
noncomputable def aL (k:Nat) (y:PV) (ρ:af):M af:=.ret (ρ.set k (.val y))
theorem BG.mono {tg:Expr} {t t':TG} (h:BG X tg t) (f: ∀ v σ H Q,t' v σ H Q→t v σ H Q):BG X tg t':=⟨fun pins s σ H v u Q I r q=>h.out pins s σ H v u Q I r (f v σ H Q q)⟩
theorem bY {tg:Expr} {k:Nat} (h:BG X tg (gn k)):GV φ X tg (aL k):=BG.mono h fun v σ H Q ⟨G,O,ρ,n,R,y,s,r,w,q⟩=>q _ _ n (s.set k (t:=.val y) ⟨v,rfl,r⟩) w
noncomputable def xO:List Nat→List PV→af→af
 |k::ks,y::l,ρ=>xO ks l (ρ.set k (.val y))
 |_,_,ρ=>ρ
noncomputable def gJ (ks:List Nat) (y:PV) (ρ:af):M af:=match y with
 | .tup l=>if l.length=ks.length then .ret (xO ks l ρ) else .fail
 |_=>.fail
noncomputable def qj:List Nat→Dh
 |[]=>Ho
 |k::ks=>CD (gn k) (qj ks)
noncomputable def vv (bd:PV→af→M af) (tt:af→M Bool) (te:af→M PV):List PV→af→M (List PV)
 |[],_=>.ret []
 |y::r,ρ=>(bd y ρ).bind fun ρ1=>(tt ρ1).bind fun ok=>if ok=true then(te ρ1).bind fun z=>(vv bd tt te r ρ1).bind fun l=>.ret (z::l) else vv bd tt te r ρ1
noncomputable def gp (js:List (Option Nat)) (ρ:af):af:=js.map fun o=>match o with|some j=>(ρ[j]?).getD .un|none=>.un
theorem v7 {G:Bg φ} {O:Addr→Prop} {H:Hp} {σ:St} {ρ:af} (h:lY G O H σ ρ) (js:List (Option Nat)):lY G O H (iN js σ) (gp js ρ):=by
 refine⟨by simp[iN,gp],fun i e he=>?_⟩
 unfold gp at he
 unfold iN
 rw[L5] at he ⊢
 cases q:js[i]? with
 |none=>rw[q] at he;cases he
 |some o=>
  rw[q] at he
  simp only[Option.map_some,Option.some.injEq] at he ⊢
  subst he
  cases o with
  |none=>trivial
  |some j=>
   dsimp only
   cases q2:ρ[j]? with
   |none=>rw[Option.getD_none];trivial
   |some t=>
    have:=h.2 j t q2
    rw[Option.getD_some]
    simpa using this
noncomputable def eS:af→M Bool:=fun _=>.ret true
theorem Ga.mono {ifs:List Expr} {t t':TT} (h:Ga X ifs t) (f: ∀ σ H Q,t' σ H Q→t σ H Q):Ga X ifs t':=⟨fun pins s σ H Q I q=>h.out pins s σ H Q I (f σ H Q q)⟩
def Lp (φ:fA) (X:Cx) (ifs:List Expr) (m:af→M Bool):Prop:=Ga X ifs (A2 φ m)
theorem i3:Lp φ X [] eS:=Ga.mono ⟨DW⟩ fun σ H Q ⟨G,O,ρ,n,R,s,w,q⟩=>q true H n (Ext.refl _ _) s.ok w
theorem jm {c:Expr} {m:af→M Bool} (h:TV φ X c m):Lp φ X [c] m:=⟨DV h.out⟩
noncomputable def cx (js:List (Option Nat)) (mi:af→M (List PV)) (bd:PV→af→M af) (tt:af→M Bool) (te:af→M PV):af→M (List PV):=fun ρ=>(mi ρ).bind fun l=>if l.length≤100000 then vv bd tt te l (gp js ρ) else .fail
noncomputable def Bg.with (G:Bg φ) (D:Addr) (hD:D≠G.B):Bg φ where
 B:=G.B
 dP:=fun p=>G.dP p∨p=D
 ok:=fun H n=>G.ok H n∧∃ ys,H D=some (.lst ys)
 pB:=.inl G.pB
 keep:=fun H H' n k h=>⟨G.keep H H' n (fun p o z=>k p o (z.imp .inl id)) h.1,by obtain⟨ys,e⟩:=h.2;exact⟨ys,k D _ (.inl (.inr rfl)) e⟩⟩
 tp:=fun e he=>.inl (G.tp e he)
 tab:=fun H n h=>G.tab H n h.1
 wG:=fun H H' n h h1 h2=>⟨G.wG H H' n h.1 h1 h2,by
  obtain⟨ys,e⟩:=h.2
  refine⟨ys,h2 D _ (fun z=>?_) e⟩
  obtain⟨q,hq,rfl⟩:=LW.mp z
  obtain⟨ps,e2,_⟩:=G.tab H n h.1 q hq
  rw[e] at e2;cases e2⟩
 C0:=fun H n p h z=>by
  rcases z with z|z
  ·exact G.C0 H n p h.1 z
  ·subst z;obtain⟨ys,e⟩:=h.2;exact⟨_,e⟩
 dr:=fun H n m Q E h h0 h1 q=>G.dr H n m Q E h.1 h0 h1 fun d H' d0 d1 e o=>q d H' d0 d1 e ⟨o,by
  obtain⟨ys,e2⟩:=h.2
  exact⟨ys,e D _ hD e2⟩⟩
theorem FK {K:Frag} {js:List (Option Nat)} {mi:af→M (List PV)} {bd:PV→af→M af} {tt:af→M Bool} {te:af→M PV}: ∀ σ H Q,HW φ (cx js mi bd tt te) σ H Q→Gk js (Gh φ K false mi) (HV φ bd) (A2 φ tt) (rC φ te) σ H Q:=fun σ H Q hq0=>by
 obtain⟨G,O,ρ,n,R,s,w,q⟩:=hq0
 unfold cx at w
 rw[M.wp_bind] at w
 refine⟨G,O,ρ,n,_,s,w,fun l J H1 n1 e1 ok1 it w1=>fun D hD=>?_⟩
 by_cases hl:l.length≤100000
 case neg=>rw[MA hl] at w1;exact w1.elim
 rw[Mz hl] at w1
 have s1:=s.ext e1 ok1
 have nD: ¬ O D:=fun z=>by obtain⟨o,g⟩:=s1.dm D z;rw[hD] at g;cases g
 have pD: ¬ G.dP D:=fun z=>nD (s.pr _ z)
 have hBD:D≠G.B:=fun z=>pD (z▸G.pB)
 have hne: ∀ p o,H1 p=some o→p≠D:=fun p o hp z=>by subst z;rw[hD] at hp;cases hp
 let O':Addr→Prop:=fun p=>O p∨p=D
 let G':Bg φ:=G.with D hBD
 have k0: ∀ p o,¬ O p→H1 p=some o→upd H1 D (HO.lst []) p=some o∧¬ O' p:=fun p o np hp=>⟨by rw[ao (hne p o hp)];exact hp,fun z=>by
  rcases z with z|z
  ·exact np z
  ·exact hne p o hp z⟩
 have kD: ∀ (H5:Hp) (o:HO) p u,¬ O' p→H5 p=some u→upd H5 D o p=some u∧¬ O' p:=fun H5 o p u np hp=>⟨by rw[ao (fun z=>np (.inr z))];exact hp,np⟩
 refine⟨fun i m σ' H'=>m=l.length - i∧i≤l.length∧∃ (ys:List V) (zs:List PV) (ρ':af) (n':Nat),ys.length≤i∧H' D=some (.lst ys)∧a9 G.B O' H' zs ys∧ES G' O' H' σ' ρ' n'∧Ext G.B H1 H'∧ir K G' O' false H' l J∧
  (vv bd tt te (l.drop i) ρ').wp n' (fun t k=>R (zs++t) k),⟨l.length,by simp,Me _,[],[],gp js ρ,n1,LQ _,az,.nil,?_,Ext.new hD _,?_,?_⟩,?_⟩
 ·have er:=v7 s1.er js
  refine⟨⟨er.1,fun i e he=>?_⟩,⟨Bg.new ok1 hD _,[],az⟩,fun p z=>?_,fun p z=>?_⟩
  ·have r1:=er.2 i e he
   cases e with
   |un=>trivial
   |val y=>obtain⟨x,hx,rr⟩:=r1;exact⟨x,hx,rr.keep k0⟩
   |own t=>
    obtain⟨p,xs,hx,hp,np,hh,rr⟩:=r1
    exact⟨p,xs,hx,.inl hp,fun z=>by
     rcases z with z|z
     ·exact np z
     ·exact hne p _ hh z,by rw[ao (hne p _ hh)];exact hh,rr.keep k0⟩
   |bT t=>
    obtain⟨p,xs,hx,hp,np,hh,rr⟩:=r1
    exact⟨p,xs,hx,.inl hp,fun z=>by
     rcases z with z|z
     ·exact np z
     ·exact hne p _ hh z,by rw[ao (hne p _ hh)];exact hh,rr.keep k0⟩
  ·rcases z with z|z
   ·exact .inl (s.pr p z)
   ·exact .inr z
  ·rcases z with z|z
   ·obtain⟨o,g⟩:=s1.dm p z;exact⟨o,by rw[ao (hne p o g)];exact g⟩
   ·subst z;exact⟨_,az⟩
 ·cases it with
  |lst np hp h r=>
   exact .lst (fun z=>by
    rcases z with z|z
    ·exact np z
    ·exact hne _ _ h z) (fun z=>by cases z) (by rw[ao (hne _ _ h)];exact h) (r.keep k0)
  |tup hp h r=>exact .tup (k0 _ _ hp h).2 (k0 _ _ hp h).1 (r.keep k0)
  |txt z=>exact .txt z
  |wO lo n=>exact .wO lo n
 ·simpa using w1
 ·rintro i m σ' H' ⟨rfl,hi,ys,zs,ρ',n',hy,hDy,rz,s',ex,it',w'⟩
  by_cases hlt:i < l.length
  ·have hget:l[i]?=some l[i]:=LH hlt
   have hdrop:l.drop i=l[i]::l.drop (i+1):=List.drop_eq_getElem_cons hlt
   rw[hdrop] at w'
   unfold vv at w'
   obtain⟨g1,g2⟩:=it'.go hget
   refine .inr ⟨g1,fun x H2 yl=>?_⟩
   obtain⟨eH,rx⟩:=g2 x H2 yl
   subst eH
   rw[M.wp_bind] at w'
   refine⟨G',O',ρ',n',_,l[i],s',rx,w',fun σ2 ρ2 n2 s2 w2=>?_⟩
   rw[M.wp_bind] at w2
   refine⟨G',O',ρ2,n2,_,s2,w2,fun ok H4 n4 e4 ok4 w4=>?_⟩
   have D4:H4 D=some (.lst ys):=e4 D _ hBD hDy
   have it4:ir K G' O' false H4 l J:=it'.gH (fun p o np hp=>⟨e4 p o (fun z=>np (.inl (z▸s.B))) hp,np⟩) (.inr fun p xs np hp=>e4 p _ (fun z=>np (z▸G'.pB)) hp) fun p z=>by cases z
   cases ok with
   |true=>
    simp only[if_true] at w4 ⊢
    rw[M.wp_bind] at w4
    refine⟨G',O',ρ2,n4,_,s2.ext e4 ok4,w4,fun z x5 H5 n5 e5 ok5 r5 w5=>?_⟩
    have D5:H5 D=some (.lst ys):=e5 D _ hBD D4
    rw[M.wp_bind] at w5
    have s5:=s2.ext (e4.trans e5) ok5
    have it5:ir K G' O' false H5 l J:=it4.gH (fun p o np hp=>⟨e5 p o (fun z=>np (.inl (z▸s.B))) hp,np⟩) (.inr fun p xs np hp=>e5 p _ (fun z=>np (z▸G'.pB)) hp) fun p z=>by cases z
    refine⟨ys,D5,by rw[Mq];lia,l.length - (i+1),by lia,rfl,hlt,ys++[x5],zs++[z],ρ2,n5,by simp;lia,az,?_,?_,?_,?_,?_⟩
    ·exact((rz.ext (.inl s.B) (e4.trans e5)).append (.cons r5 .nil)).keep (kD H5 _)
    ·refine⟨⟨s5.er.1,fun j e he=>?_⟩,⟨G.keep H5 _ _ (fun p o hp hpo=>by
      have hpd:p≠D:=fun z=>by
       rcases hp with hp|hp
       ·exact pD (z▸hp)
       ·rw[z,D5] at hpo;cases hpo;exact hp
      rw[ao hpd];exact hpo) ok5.1,_,az⟩,s5.pr,fun p hp=>?_⟩
     ·have r1:=s5.er.2 j e he
      cases e with
      |un=>trivial
      |val y=>obtain⟨x,hx,rr⟩:=r1;exact⟨x,hx,rr.keep (kD H5 _)⟩
      |own t=>
       obtain⟨p,xs,hx,hp,np,hh,rr⟩:=r1
       exact⟨p,xs,hx,hp,np,by rw[ao (fun z=>np (.inr z))];exact hh,rr.keep (kD H5 _)⟩
      |bT t=>
       obtain⟨p,xs,hx,hp,np,hh,rr⟩:=r1
       exact⟨p,xs,hx,hp,np,by rw[ao (fun z=>np (.inr z))];exact hh,rr.keep (kD H5 _)⟩
     ·by_cases hpd:p=D
      ·subst hpd;exact⟨_,az⟩
      ·obtain⟨o,g⟩:=s5.dm p hp;exact⟨o,by rw[ao hpd];exact g⟩
    ·intro p o np hp
     exact((ex.trans (e4.trans e5)) p o np hp).to fun u e=>.of (by rw[ao (hne p o hp)];exact e)
    ·exact it5.keep (kD H5 _) (.inr fun p xs np hp=>by rw[ao (fun z=>np (.inr z))];exact hp) fun p z=>by cases z
    ·refine M.wp_mono w5 fun t k' hk=>?_
     have hk':R (zs++z::t) k':=hk
     simpa using hk'
   |false=>
    exact⟨l.length - (i+1),by lia,rfl,hlt,ys,zs,ρ2,n4,by lia,D4,rz.ext (.inl s.B) e4,s2.ext e4 ok4,ex.trans e4,it4,w4⟩
  ·have e:i=l.length:=by lia
   subst e
   refine .inl ⟨it'.stop,?_⟩
   rw[List.drop_length] at w'
   have w2:R (zs++[]) n':=w'
   rw[List.append_nil] at w2
   exact q zs D ys H' n' (e1.trans ex) s'.ok.1 (jz e1 ok1 hD) hDy rz w2
theorem kJ {js:List (Option Nat)} {mi:af→M (List PV)} {bd:PV→af→M af} {tt:af→M Bool} {te:af→M PV} (h:BE X e (Gk js (Gh φ X.K false mi) (HV φ bd) (A2 φ tt) (rC φ te))):EF φ X e (cx js mi bd tt te):=BE.mono h FK
end
end
section
variable {φ:fA}
inductive Fl where
 |nx (ρ:af)|rt (y:PV)|bk (ρ:af)|ct (ρ:af)
noncomputable def Ent.FL:Ent→Bool
 | .own _=>true
 | .bT _=>true
 |_=>false
noncomputable def Ent.freeze:Ent→Ent
 | .own l=>.val (.lst l)
 | .bT l=>.val (.fz l)
 |e=>e
def fN (ρ:af) (σ:St) (i:Nat) (p:Addr):Prop:= ∃ t,ρ[i]?=some t∧t.FL=true∧σ[i]?=some (some (.ref p))
set_option genInjectivity false in
structure SI (G:Bg φ) (O0:Addr→Prop) (H0:Hp) (O:Addr→Prop) (H:Hp) (σ:St) (ρ:af) (n:Nat):Prop where
 es:ES G O H σ ρ n
 p0: ∀ p,G.dP p→O0 p
 sub: ∀ p,O0 p→O p
 ext:Ext G.B H0 H
 gr: ∀ p,O p→O0 p∨H0 p=none
 d0: ∀ p,O0 p→∃ o,H0 p=some o
 fr: ∀ i p,fN ρ σ i p→H0 p=none
 dj: ∀ i j p,fN ρ σ i p→fN ρ σ j p→i=j
section
variable {G:Bg φ} {O0 O:Addr→Prop} {H0 H H':Hp} {σ:St} {ρ:af} {n n':Nat}
theorem SI.to (s:SI G O0 H0 O H σ ρ n) (x:Ext G.B H H') (ok:G.ok H' n'):SI G O0 H0 O H' σ ρ n':=⟨s.es.ext x ok,s.p0,s.sub,s.ext.trans x,s.gr,s.d0,s.fr,s.dj⟩
theorem tD {t:Ent} (ht:t.FL=false) {k:Nat} {o:Option V} {i:Nat} {p:Addr} (h:fN (ρ.set k t) (σ.set k o) i p):fN ρ σ i p:=by
 obtain⟨e,h1,h2,h3⟩:=h
 by_cases hk:k=i
 ·subst hk
  rw[List.getElem?_set] at h1
  split at h1
  ·split at h1
   ·cases h1;rw[ht] at h2;cases h2
   ·cases h1
  ·exact⟨e,h1,h2,by rw[Mj (by lia)] at h3;exact h3⟩
 ·rw[Mj hk] at h1 h3
  exact⟨e,h1,h2,h3⟩
theorem SI.Bj (s:SI G O0 H0 O H σ ρ n) (k:Nat) {y:PV} {x:V} (r:Rep G.B O H y x):SI G O0 H0 O H (σ.set k (some x)) (ρ.set k (.val y)) n:=
 ⟨s.es.set k (t:=.val y) ⟨x,rfl,r⟩,s.p0,s.sub,s.ext,s.gr,s.d0,fun i p h=>s.fr i p (tD rfl h),fun i j p h h'=>s.dj i j p (tD rfl h) (tD rfl h')⟩
theorem gQ (s:ES G O H σ ρ n) {i:Nat} {p:Addr} (h:fN ρ σ i p):O p∧¬ G.dP p∧∃ o,H p=some o:=by
 obtain⟨t,h1,h2,h3⟩:=h
 have r:=s.er.2 i t h1
 rw[h3] at r
 cases t with
 |own l=>obtain⟨q,xs,e,a,b,c,_⟩:=r;cases e;exact⟨a,b,_,c⟩
 |bT l=>obtain⟨q,xs,e,a,b,c,_⟩:=r;cases e;exact⟨a,b,_,c⟩
 |_=>cases h2
theorem uV (s:ES G O H σ ρ n) {i:Nat} {p:Addr} {o:HO} (h:fN ρ σ i p) (e:H p=some o): ¬ HP o:=by
 obtain⟨t,h1,h2,h3⟩:=h
 have r:=s.er.2 i t h1
 rw[h3] at r
 cases t with
 |own l=>obtain⟨q,xs,e',a,b,c,_⟩:=r;cases e';rw[c] at e;cases e;exact id
 |bT l=>obtain⟨q,xs,e',a,b,c,_⟩:=r;cases e';rw[c] at e;cases e;exact id
 |_=>cases h2
theorem SI.Kx (s:SI G O0 H0 O H σ ρ n) (k:Nat) {l:List PV} {p:Addr} {xs:List V} (x:Ext G.B H H') (ok:G.ok H' n') (hp:H p=none) (hp':H' p=some (.lst xs)) (r:a9 G.B (fun q=>O q∨q=p) H' l xs):
  SI G O0 H0 (fun q=>O q∨q=p) H' (σ.set k (some (.ref p))) (ρ.set k (.own l)) n':=by
 have nO: ¬ O p:=fun z=>by obtain⟨o,g⟩:=s.es.dm p z;rw[hp] at g;cases g
 have np: ¬ G.dP p:=fun z=>nO (s.es.pr p z)
 have h0:H0 p=none:=by
  cases e:H0 p with
  |none=>rfl
  |some o=>obtain⟨_,this⟩:=(s.ext p o (fun z=>np (z▸G.pB)) e).there;rw[hp] at this;cases this
 have hB:O G.B:=s.es.B
 have gw: ∀ q,(O q∨q=p)→O q∨H q=none:=fun q z=>by
  rcases z with z|z
  ·exact .inl z
  ·subst z;exact .inr hp
 have s':=s.es.ext x ok
 have es:ES G (fun q=>O q∨q=p) H' σ ρ n':=by
  refine⟨⟨s.es.er.1,fun i e he=>?_⟩,ok,fun q z=>.inl (s.es.pr q z),fun q z=>?_⟩
  ·have r1:=s.es.er.2 i e he
   cases e with
   |un=>trivial
   |val y=>obtain⟨v,hv,rr⟩:=r1;exact⟨v,hv,(rr.grow gw).ext (.inl hB) x⟩
   |own t=>
    obtain⟨q,ys,hv,hq,nq,hh,rr⟩:=r1
    exact⟨q,ys,hv,.inl hq,nq,x q _ (fun z=>nq (z▸G.pB)) hh,(rr.grow gw).ext (.inl hB) x⟩
   |bT t=>
    obtain⟨q,ys,hv,hq,nq,hh,rr⟩:=r1
    exact⟨q,ys,hv,.inl hq,nq,x q _ (fun z=>nq (z▸G.pB)) hh,⟨rr.1,fun i a b c d=>((rr.2 i a b c d).grow gw).ext (.inl hB) x⟩⟩
  ·rcases z with z|z
   ·exact s'.dm q z
   ·subst z;exact⟨_,hp'⟩
 have ow: ∀ i q,fN (ρ.set k (.own l)) (σ.set k (some (.ref p))) i q→(i=k∧q=p)∨(i≠k∧fN ρ σ i q):=fun i q h=>by
  obtain⟨t,h1,h2,h3⟩:=h
  by_cases hk:k=i
  ·subst hk
   rw[List.getElem?_set] at h3
   split at h3
   ·split at h3
    ·cases h3;exact .inl ⟨rfl,rfl⟩
    ·cases h3
   ·rename_i hh;exact absurd rfl hh
  ·rw[Mj hk] at h1 h3
   exact .inr ⟨fun z=>hk z.symm,t,h1,h2,h3⟩
 refine⟨es.set k (t:=.own l) ⟨p,xs,rfl,.inr rfl,np,hp',r⟩,s.p0,fun q z=>.inl (s.sub q z),s.ext.trans x,fun q z=>?_,s.d0,fun i q h=>?_,fun i j q h h'=>?_⟩
 ·rcases z with z|z
  ·exact s.gr q z
  ·subst z;exact .inr h0
 ·rcases ow i q h with⟨_,rfl⟩|⟨_,h⟩
  ·exact h0
  ·exact s.fr i q h
 ·rcases ow i q h with⟨rfl,rfl⟩|⟨n1,h1⟩
  ·rcases ow j q h' with⟨rfl,_⟩|⟨n2,h2⟩
   ·rfl
   ·obtain⟨_,_,o,g⟩:=gQ s.es h2;rw[hp] at g;cases g
  ·rcases ow j q h' with⟨rfl,rfl⟩|⟨n2,h2⟩
   ·obtain⟨_,_,o,g⟩:=gQ s.es h1;rw[hp] at g;cases g
   ·exact s.dj i j q h1 h2
theorem SI.put (s:SI G O0 H0 O H σ ρ n) {k:Nat} {l l':List PV} {p:Addr} {xs':List V} (hk:ρ[k]?=some (.own l)) (hp:σ[k]?=some (some (.ref p))) (r:a9 G.B O H l' xs'):SI G O0 H0 O (upd H p (.lst xs')) σ (ρ.set k (.own l')) n:=by
 have ho:fN ρ σ k p:=⟨_,hk,rfl,hp⟩
 obtain⟨hO,np,o,hh⟩:=gQ s.es ho
 have Jk:=uV s.es ho hh
 have kp: ∀ q u,¬ O q→H q=some u→upd H p (.lst xs') q=some u∧¬ O q:=fun q u nq hq=>⟨by
  have hne:q≠p:=fun z=>nq (z▸hO)
  rw[ao hne];exact hq,nq⟩
 have ow: ∀ i q,fN (ρ.set k (.own l')) σ i q→fN ρ σ i q:=fun i q h=>by
  obtain⟨t,h1,h2,h3⟩:=h
  by_cases e:k=i
  ·subst e;exact⟨_,hk,rfl,h3⟩
  ·rw[Mj e] at h1;exact⟨t,h1,h2,h3⟩
 refine⟨⟨⟨by simp[s.es.er.1],fun i e he=>?_⟩,G.keep H _ _ (fun q u hq hu=>by
   have hne:q≠p:=fun z=>by
    rcases hq with hq|hq
    ·exact np (z▸hq)
    ·rw[z,hh] at hu;cases hu;exact Jk hq
   rw[ao hne];exact hu) s.es.ok,s.es.pr,fun q hq=>?_⟩,s.p0,s.sub,fun q u nb hq=>?_,s.gr,s.d0,fun i q h=>s.fr i q (ow i q h),fun i j q h h'=>s.dj i j q (ow i q h) (ow j q h')⟩
 ·by_cases e1:k=i
  ·subst e1
   have hl:k < ρ.length:=(LP.mp hk).1
   rw[MB hl] at he
   cases he
   rw[hp]
   exact⟨p,xs',rfl,hO,np,az,r.keep kp⟩
  ·rw[Mj e1] at he
   have r1:=s.es.er.2 i e he
   cases e with
   |un=>trivial
   |val y=>obtain⟨v,hv,rr⟩:=r1;exact⟨v,hv,rr.keep kp⟩
   |own t=>
    obtain⟨q,ys,hv,hq,nq,hh',rr⟩:=r1
    have hne:q≠p:=fun z=>by
     subst z
     exact e1 (s.dj k i q ho ⟨_,he,rfl,fB s.es.er he hv⟩)
    exact⟨q,ys,hv,hq,nq,by rw[ao hne];exact hh',rr.keep kp⟩
   |bT t=>
    obtain⟨q,ys,hv,hq,nq,hh',rr⟩:=r1
    have hne:q≠p:=fun z=>by
     subst z
     exact e1 (s.dj k i q ho ⟨_,he,rfl,fB s.es.er he hv⟩)
    exact⟨q,ys,hv,hq,nq,by rw[ao hne];exact hh',rr.keep kp⟩
 ·by_cases e1:q=p
  ·subst e1;exact⟨_,az⟩
  ·obtain⟨u,g⟩:=s.es.dm q hq;exact⟨u,by rw[ao e1];exact g⟩
 ·have hne:q≠p:=fun z=>by subst z;rw[s.fr k q ho] at hq;cases hq
  exact(s.ext q u nb hq).to fun v e=>.of (by rw[ao hne];exact e)
theorem SI.frozen (s:SI G O0 H0 O H σ ρ n):ES G O0 H σ (ρ.map Ent.freeze) n:=by
 refine⟨⟨by simp[s.es.er.1],fun i e he=>?_⟩,s.es.ok,s.p0,fun p h=>s.es.dm p (s.sub p h)⟩
 rw[L5] at he
 cases q:ρ[i]? with
 |none=>rw[q] at he;cases he
 |some t=>
  rw[q] at he
  cases he
  have r1:=s.es.er.2 i t q
  cases t with
  |un=>trivial
  |val y=>obtain⟨v,hv,rr⟩:=r1;exact⟨v,hv,rr.less s.sub⟩
  |own t=>
   obtain⟨p,ys,hv,hq,nq,hh',rr⟩:=r1
   have h0:=s.fr i p ⟨_,q,rfl,fB s.es.er q hv⟩
   exact⟨_,hv,.lst (fun z=>by obtain⟨o,g⟩:=s.d0 p z;rw[h0] at g;cases g) hh' rr.1 (rr.less s.sub).2⟩
  |bT t=>
   obtain⟨p,ys,hv,hq,nq,hh',rr⟩:=r1
   have h0:=s.fr i p ⟨_,q,rfl,fB s.es.er q hv⟩
   exact⟨_,hv,.fz (fun z=>by obtain⟨o,g⟩:=s.d0 p z;rw[h0] at g;cases g) (.inl hh') rr.1 fun i a b c d=>(rr.2 i a b c d).less s.sub⟩
theorem SI.h8 (s:SI G O0 H0 O H σ ρ n):SI G O0 H0 O0 H σ (ρ.map Ent.freeze) n:=by
 have no: ∀ i p,¬ fN (ρ.map Ent.freeze) σ i p:=fun i p h=>by
  obtain⟨t,h1,h2,_⟩:=h
  rw[L5] at h1
  cases q:ρ[i]? with
  |none=>rw[q] at h1;cases h1
  |some e=>rw[q] at h1;cases h1;cases e<;>cases h2
 exact⟨s.frozen,s.p0,fun p h=>h,s.ext,fun p h=>.inl h,s.d0,fun i p h=>(no i p h).elim,fun i j p h=>(no i p h).elim⟩
noncomputable def hide (O0 O:Addr→Prop) (H:Hp):Hp:=fun p=>by
 classical exact if O p∧¬ O0 p then none else H p
theorem t5 {p:Addr} (h:O p) (h': ¬ O0 p):hide O0 O H p=none:=by unfold hide;rw[Mz ⟨h,h'⟩]
theorem ij {p:Addr} (h: ¬ (O p∧¬ O0 p)):hide O0 O H p=H p:=by unfold hide;rw[MA h]
theorem SI.now (s:SI G O0 H0 O H σ ρ n):SI G O0 (hide O0 O H) O H σ ρ n:=by
 refine⟨s.es,s.p0,s.sub,fun p o nb h=>?_,fun p h=>?_,fun p h=>?_,fun i p h=>?_,s.dj⟩
 ·by_cases c:O p∧¬ O0 p
  ·rw[t5 c.1 c.2] at h;cases h
  ·rw[ij c] at h;exact .of h
 ·by_cases c:O0 p
  ·exact .inl c
  ·exact .inr (t5 h c)
 ·rw[ij (fun z=>z.2 h)];exact s.es.dm p (s.sub p h)
 ·have h1:=gQ s.es h
  have h0:=s.fr i p h
  exact t5 h1.1 (fun z=>by obtain⟨o,g⟩:=s.d0 p z;rw[h0] at g;cases g)
theorem SI.base (s:SI G O0 H0 O H σ ρ n):Ext G.B H0 (hide O0 O H):=fun p o nb h=>by
 have c: ¬ (O p∧¬ O0 p):=fun z=>by
  rcases s.gr p z.1 with w|w
  ·exact z.2 w
  ·rw[w] at h;cases h
 exact(s.ext p o nb h).to fun v e=>.of (by rw[ij c];exact e)
theorem SI.back {H1:Hp} {O':Addr→Prop} {σ':St} {ρ':af} (s:SI G O0 H0 O H σ ρ n) (x:SI G O0 (hide O0 O H) O' H1 σ' ρ' n'):SI G O0 H0 O' H1 σ' ρ' n':=by
 have none0: ∀ p,¬ G.dP p→hide O0 O H p=none→H0 p=none:=fun p np h=>by
  cases e:H0 p with
  |none=>rfl
  |some o=>obtain⟨_,this⟩:=(s.base p o (fun z=>np (z▸G.pB)) e).there;rw[h] at this;cases this
 refine⟨x.es,x.p0,x.sub,s.base.trans x.ext,fun p h=>?_,s.d0,fun i p h=>none0 p (gQ x.es h).2.1 (x.fr i p h),x.dj⟩
 by_cases c:O0 p
 ·exact .inl c
 ·rcases x.gr p h with w|w
  ·exact .inl w
  ·exact .inr (none0 p (fun z=>c (s.p0 p z)) w)
theorem SI.walk {K:Frag} {H1:Hp} {O':Addr→Prop} {σ':St} {ρ':af} {l:List PV} {J:It} (s:SI G O0 H0 O H σ ρ n) (x:SI G O0 (hide O0 O H) O' H1 σ' ρ' n') (it:ir K G O true H l J):ir K G O' true H1 l J:=by
 have k: ∀ p o,¬ O p→H p=some o→iW H1 p o∧¬ O' p:=fun p o np hp=>by
  have e:hide O0 O H p=some o:=by rw[ij (fun z=>np z.1)];exact hp
  refine⟨x.ext p o (fun z=>np (z▸s.es.B)) e,fun z=>?_⟩
  rcases x.gr p z with w|w
  ·exact np (s.sub p w)
  ·rw[w] at e;cases e
 cases it with
 |lst np hp h r=>exact .lst np (fun _=>(k _ _ (hp rfl) h).2) (k _ _ (hp rfl) h).1 (r.gH k)
 |tup hp h r=>exact .tup (k _ _ hp h).2 (k _ _ hp h).1 (r.gH k)
 |txt z=>exact .txt z
 |wO lo n=>exact .wO lo n
end
def o4 (G:Bg φ) (O0:Addr→Prop) (H0:Hp) (D:Ends) (n:Nat):Fl→Prop
 | .nx ρ=> ∀ O σ H,SI G O0 H0 O H σ ρ n→D.nx σ H
 | .bk ρ=> ∀ O σ H,SI G O0 H0 O H σ ρ n→D.bk σ H
 | .ct ρ=> ∀ O σ H,SI G O0 H0 O H σ ρ n→D.ct σ H
 | .rt y=> ∀ x H,Ext G.B H0 H→G.ok H n→Rep G.B O0 H y x→D.rt x H
noncomputable def Fp (φ:fA) (m:af→M Fl):TS:=fun D σ H=> ∃ (G:Bg φ) (O0:Addr→Prop) (H0:Hp) (O:Addr→Prop) (ρ:af) (n:Nat),SI G O0 H0 O H σ ρ n∧(m ρ).wp n fun f n'=>o4 G O0 H0 D n' f
def SV (φ:fA) (X:Cx) (st:Stmt) (m:af→M Fl):Prop:=BS X st (Fp φ m)
def Fh (φ:fA) (X:Cx) (sts:List Stmt) (m:af→M Fl):Prop:=Dj X sts (Fp φ m)
section
variable {X:Cx} {st:Stmt} {sts:List Stmt}
theorem BS.mono {t t':TS} (h:BS X st t) (f: ∀ D σ H,t' D σ H→t D σ H):BS X st t':=⟨fun pins s σ H D I q=>h.out pins s σ H D I (f D σ H q)⟩
theorem Dj.mono {t t':TS} (h:Dj X sts t) (f: ∀ D σ H,t' D σ H→t D σ H):Dj X sts t':=⟨fun pins s σ H D I q=>h.out pins s σ H D I (f D σ H q)⟩
noncomputable def aB (m1 m2:af→M Fl):af→M Fl:=fun ρ=>(m1 ρ).bind fun f=>match f with| .nx ρ'=>m2 ρ'|o=>.ret o
theorem bR:Fh φ X [] (fun ρ=>.ret (.nx ρ)):=Dj.mono ⟨tm⟩ fun D σ H ⟨G,O0,H0,O,ρ,n,s,w⟩=>w O σ H s
theorem aC {m:af→M Fl} (h:SV φ X st m):Fh φ X [st] m:=⟨jw h.out⟩
theorem aq {m1 m2:af→M Fl} (h:SV φ X st m1) (h':Fh φ X sts m2):Fh φ X (st::sts) (aB m1 m2):=Dj.mono ⟨dJ h.out h'.out⟩ fun D σ H hq0=>by
 obtain⟨G,O0,H0,O,ρ,n,s,w⟩:=hq0
 unfold aB at w
 rw[M.wp_bind] at w
 refine⟨G,O0,H0,O,ρ,n,s,M.wp_mono w fun f n' h=>?_⟩
 cases f with
 |nx ρ'=>exact fun O' σ' H' s'=>⟨G,O0,H0,O',ρ',n',s',h⟩
 |rt y=>exact h
 |bk ρ'=>exact h
 |ct ρ'=>exact h
noncomputable def aH (k:Nat) (m:af→M PV):af→M Fl:=fun ρ=>(m ρ).bind fun y=>.ret (.nx (ρ.set k (.val y)))
theorem aP {k:Nat} {m:af→M PV} (h:BS X st (lA (rC φ m) (gn k))):SV φ X st (aH k m):=BS.mono h fun D σ H hq0=>by
 obtain⟨G,O0,H0,O,ρ,n,s,w⟩:=hq0
 unfold aH at w
 rw[M.wp_bind] at w
 exact⟨G,O,ρ,n,_,s.es,w,fun y x H1 n1 e1 ok1 r1 w1=>w1 O _ _ ((s.to e1 ok1).Bj k r1)⟩
noncomputable def jg (k:Nat) (m:af→M (List PV)):af→M Fl:=fun ρ=>(m ρ).bind fun l=>.ret (.nx (ρ.set k (.own l)))
theorem jn {k:Nat} {m:af→M (List PV)} (h:BS X st (lA (HW φ m) (gn k))):SV φ X st (jg k m):=BS.mono h fun D σ H hq0=>by
 obtain⟨G,O0,H0,O,ρ,n,s,w⟩:=hq0
 unfold jg at w
 rw[M.wp_bind] at w
 exact⟨G,O,ρ,n,_,s.es,w,fun l p xs H1 n1 e1 ok1 hp hp' r1 w1=>w1 _ _ _ (s.Kx k e1 ok1 hp hp' r1)⟩
theorem lX {k:Nat} {js:List (Option Nat)} {mi:af→M (List PV)} {bd:PV→af→M af} {tt:af→M Bool} {te:af→M PV} (h:BS X st (lA (Gk js (Gh φ X.K false mi) (HV φ bd) (A2 φ tt) (rC φ te)) (gn k))):BS X st (lA (HW φ (cx js mi bd tt te)) (gn k)):=
 BS.mono h fun D σ H q=>FK σ H _ q
noncomputable def aX (m:af→M (List PV)):af→M PV:=fun ρ=>(m ρ).bind fun l=>.ret (.lst l)
theorem qH {k:Nat} {m:af→M (List PV)} (h:BS X st (lA (HW φ m) (gn k))):BS X st (lA (rC φ (aX m)) (gn k)):=BS.mono h fun D σ H hq0=>by
 obtain⟨G,O,ρ,n,R,s,w,q⟩:=hq0
 unfold aX at w
 rw[M.wp_bind] at w
 refine⟨G,O,ρ,n,_,s,w,fun l p xs H' n' a b c d e f=>q (.lst l) _ H' n' a b (.lst (fun z=>?_) d e.1 (e.less fun q z=>.inl z).2) f⟩
 obtain⟨o,g⟩:=s.dm p z
 rw[c] at g;cases g
noncomputable def AU (ks:List Nat) (m:af→M PV):af→M Fl:=fun ρ=>(m ρ).bind fun y=>(gJ ks y ρ).bind fun ρ'=>.ret (.nx ρ')
theorem sj {G:Bg φ} {O0 O:Addr→Prop} {H0 H:Hp} {n:Nat}: ∀ (ks:List Nat) (l:List PV) (xs:List V) (σ:St) (ρ:af) (Q:St→Hp→Prop),l.length=ks.length→a9 G.B O H l xs→SI G O0 H0 O H σ ρ n→(∀ σ',SI G O0 H0 O H σ' (xO ks l ρ) n→Q σ' H)→qj ks xs σ H Q
 |[],l,xs,σ,ρ,Q,hl,r,s,q=>by
  have e:l=[]:=Mp hl
  subst e
  rw[r.nil_inv]
  exact⟨rfl,q σ s⟩
 |k::ks,l,xs,σ,ρ,Q,hl,r,s,q=>by
  cases l with
  |nil=>simp at hl
  |cons y l=>
   obtain⟨x,t,rfl,r1,r2⟩:=r.cons_inv
   exact⟨x,t,rfl,sj ks l t _ _ Q (by simpa using hl) r2 (s.Bj k r1) q⟩
theorem A1 {K:Frag} {G:Bg φ} {O0 O:Addr→Prop} {H0 H:Hp} {n:Nat} {ks:List Nat} {y:PV} {x:V} {σ:St} {ρ:af} {R:af→Nat→Prop} {Q:St→Hp→Prop} (s:SI G O0 H0 O H σ ρ n) (r:Rep G.B O H y x) (w:(gJ ks y ρ).wp n R) (q: ∀ σ' ρ',SI G O0 H0 O H σ' ρ' n→R ρ' n→Q σ' H):CC K ks.length (qj ks) x σ H Q:=by
 unfold gJ at w
 cases r with
 | @tup p xs l a b c d=>
  dsimp only at w
  by_cases hc:l.length=ks.length
  ·rw[Mz hc] at w
   exact⟨p,xs,rfl,fM.of b,by rw[←c];exact hc,sj ks l xs σ ρ Q hc ⟨c,d⟩ s fun σ' s'=>q σ' _ s' w⟩
  ·rw[MA hc] at w;exact w.elim
 |_=>exact w.elim
theorem A6 {ks:List Nat} {m:af→M PV} (h:BS X st (lA (rC φ m) (CC X.K ks.length (qj ks)))):SV φ X st (AU ks m):=BS.mono h fun D σ H hq0=>by
 obtain⟨G,O0,H0,O,ρ,n,s,w⟩:=hq0
 unfold AU at w
 rw[M.wp_bind] at w
 refine⟨G,O,ρ,n,_,s.es,w,fun y x H1 n1 e1 ok1 r1 w1=>?_⟩
 rw[M.wp_bind] at w1
 exact A1 (s.to e1 ok1) r1 w1 fun σ' ρ' s' h=>h O σ' H1 s'
noncomputable def D8 (i j:Nat) (m:af→M (List PV)):af→M Fl:=fun ρ=>(m ρ).bind fun l=>match l with|[y,z]=>.ret (.nx ((ρ.set i (.val y)).set j (.val z)))|_=>.fail
theorem Gp {i j:Nat} {m:af→M (List PV)} (h:BS X st (Gj i j (J1 φ m))):SV φ X st (D8 i j m):=BS.mono h fun D σ H hq0=>by
 obtain⟨G,O0,H0,O,ρ,n,s,w⟩:=hq0
 unfold D8 at w
 rw[M.wp_bind] at w
 refine⟨G,O,ρ,n,_,s.es,w,fun l xs H1 n1 e1 ok1 r1 w1=>?_⟩
 match l,r1,w1 with
 |[y,z],r1,w1=>
  obtain⟨x,t,rfl,h1,h2⟩:=r1.cons_inv
  obtain⟨x',t',rfl,h3,h4⟩:=h2.cons_inv
  rw[h4.nil_inv]
  exact⟨x,x',rfl,w1 O _ _ (((s.to e1 ok1).Bj i h1).Bj j h3)⟩
noncomputable def bG (m:af→M PV):af→M Fl:=fun ρ=>(m (ρ.map Ent.freeze)).bind fun y=>.ret (.rt y)
theorem aT {m:af→M PV} (h:BS X st (Gi (rC φ m))):SV φ X st (bG m):=BS.mono h fun D σ H hq0=>by
 obtain⟨G,O0,H0,O,ρ,n,s,w⟩:=hq0
 unfold bG at w
 rw[M.wp_bind] at w
 exact⟨G,O0,_,n,_,s.frozen,w,fun y x H1 n1 e1 ok1 r1 w1=>w1 x H1 (s.ext.trans e1) ok1 r1⟩
noncomputable def gz (mc:af→M Bool) (ma mb:af→M Fl):af→M Fl:=fun ρ=>(mc ρ).bind fun b=>if b=true then ma ρ else mb ρ
theorem cR {mc:af→M Bool} {ma mb:af→M Fl} (h:BS X st (Gm (A2 φ mc) (Fp φ ma) (Fp φ mb))):SV φ X st (gz mc ma mb):=BS.mono h fun D σ H hq0=>by
 obtain⟨G,O0,H0,O,ρ,n,s,w⟩:=hq0
 unfold gz at w
 rw[M.wp_bind] at w
 refine⟨G,O,ρ,n,_,s.es,w,fun b H1 n1 e1 ok1 w1=>?_⟩
 cases b with
 |true=>exact⟨G,O0,H0,O,ρ,n1,s.to e1 ok1,w1⟩
 |false=>exact⟨G,O0,H0,O,ρ,n1,s.to e1 ok1,w1⟩
noncomputable def eC (k:Nat) (m:af→M PV):af→M Fl:=fun ρ=>match ρ[k]? with|some (.own l)=>(m ρ).bind fun y=>if l.length < 100000 then .ret (.nx (ρ.set k (.own (l++[y])))) else .fail|_=>.fail
theorem ie {k:Nat} {m:af→M PV} (h:BS X st (yb (IA X.K "list" yx (oW k) (mm (rC φ m) wJ)))):SV φ X st (eC k m):=BS.mono h fun D σ H hq0=>by
 obtain⟨G,O0,H0,O,ρ,n,s,w⟩:=hq0
 unfold eC at w
 cases hk:ρ[k]? with
 |none=>simp only[hk] at w;exact w.elim
 |some t=>
  cases t with
  |own l=>
   simp only[hk] at w
   obtain⟨p,xs,hx,hO,np,hh,rr⟩:=s.es.er.2 k _ hk
   have hs:=fB s.es.er hk hx
   have npB:p≠G.B:=fun z=>np (z▸G.pB)
   rw[M.wp_bind] at w
   refine⟨_,hs,.inl ⟨rfl,xs,cQ.of hh⟩,G,O,ρ,n,_,s.es,w,fun y x H1 n1 e1 ok1 r1 w1=>?_⟩
   by_cases hc:l.length < 100000
   ·rw[Mz hc] at w1
    have s1:=s.to e1 ok1
    have big:=fX
    refine⟨p,xs,x,rfl,rfl,e1 p _ npB hh,by rw[←rr.1];lia,w1 O _ _ (s1.put hk hs ((rr.ext s.es.B e1).append (.cons r1 .nil)))⟩
   ·rw[MA hc] at w1;exact w1.elim
  |_=>simp only[hk] at w;exact w.elim
noncomputable def uK (k:Nat) (mi mv:af→M PV):af→M Fl:=fun ρ=>(mv ρ).bind fun y=>match ρ[k]? with|some (.own l)=>(mi ρ).bind fun i=>(vC i).bind fun i=>(M.cY (uu l.length i)).bind fun j=>.ret (.nx (ρ.set k (.own (l.set j y))))|_=>.fail
theorem Dz {k:Nat} {mi mv:af→M PV} (h:BS X st (lA (rC φ mv) (EM (oW k) (rD φ mi) Fy))):SV φ X st (uK k mi mv):=BS.mono h fun D σ H hq0=>by
 obtain⟨G,O0,H0,O,ρ,n,s,w⟩:=hq0
 unfold uK at w
 rw[M.wp_bind] at w
 refine⟨G,O,ρ,n,_,s.es,w,fun y x H1 n1 e1 ok1 r1 w1=>?_⟩
 have s1:=s.to e1 ok1
 cases hk:ρ[k]? with
 |none=>simp only[hk] at w1;exact w1.elim
 |some t=>
  cases t with
  |own l=>
   simp only[hk] at w1
   obtain⟨p,xs,hx,hO,np,hh,rr⟩:=s1.es.er.2 k _ hk
   have hs:=fB s.es.er hk hx
   have npB:p≠G.B:=fun z=>np (z▸G.pB)
   rw[M.wp_bind] at w1
   refine⟨_,hs,G,O,ρ,n1,_,s1.es,w1,fun i x2 H2 n2 e2 ok2 r2 w2=>?_⟩
   cases i<;>first|exact w2.elim|skip
   rename_i i
   rw[r2.cT]
   replace w2:((M.cY (uu l.length i)).bind fun j=>M.ret (.nx (ρ.set k (.own (l.set j y)))):M Fl).wp n2 (fun f n'=>o4 G O0 H0 D n' f):=w2
   cases hj:uu l.length i with
   |none=>rw[hj] at w2;exact w2.elim
   |some j=>
    rw[hj] at w2
    have s2:=s1.to e2 ok2
    exact⟨p,xs,i,j,rfl,rfl,e2 p _ npB hh,by rw[←rr.1];exact hj,w2 O _ _ (s2.put hk hs ((rr.ext s.es.B e2).set j (r1.ext s.es.B e2)))⟩
  |_=>simp only[hk] at w1;exact w1.elim
noncomputable def CF (m:af→M Fl):af→M Fl:=fun ρ=>m (ρ.map Ent.freeze)
theorem A7 {m:af→M Fl} (h:SV φ X st m):SV φ X st (CF m):=BS.mono h fun D σ H ⟨G,O0,H0,O,ρ,n,s,w⟩=>⟨G,O0,H0,O0,_,n,s.h8,w⟩
noncomputable def J0 (φ:fA) (b:PV→af→M af):TG:=fun v σ H Q=> ∃ (G:Bg φ) (O0:Addr→Prop) (H0:Hp) (O:Addr→Prop) (ρ:af) (n:Nat) (R:af→Nat→Prop) (y:PV),SI G O0 H0 O H σ ρ n∧Rep G.B O H y v∧(b y ρ).wp n R∧
 ∀ (σ':St) (ρ':af) (n':Nat),SI G O0 H0 O H σ' ρ' n'→R ρ' n'→Q σ' H
def GS (φ:fA) (X:Cx) (tg:Expr) (b:PV→af→M af):Prop:=BG X tg (J0 φ b)
theorem g8 {tg:Expr} {k:Nat} (h:BG X tg (gn k)):GS φ X tg (aL k):=BG.mono h fun v σ H Q ⟨G,O0,H0,O,ρ,n,R,y,s,r,w,q⟩=>q _ _ n (s.Bj k r) w
theorem xw {tg:Expr} {ks:List Nat} (h:BG X tg (CC X.K ks.length (qj ks))):GS φ X tg (gJ ks):=BG.mono h fun v σ H Q ⟨G,O0,H0,O,ρ,n,R,y,s,r,w,q⟩=>A1 s r w fun σ' ρ' s' h=>q σ' ρ' n s' h
noncomputable def cV (bd:PV→af→M af) (mb:af→M Fl):List PV→af→M Fl
 |[],ρ=>.ret (.nx ρ)
 |y::r,ρ=>(bd y ρ).bind fun ρ1=>(mb ρ1).bind fun f=>match f with
  | .nx ρ2=>cV bd mb r ρ2
  | .ct ρ2=>cV bd mb r ρ2
  | .bk ρ2=>.ret (.nx ρ2)
  | .rt v=>.ret (.rt v)
noncomputable def bF (mi:af→M (List PV)) (bd:PV→af→M af) (mb:af→M Fl):af→M Fl:=fun ρ=>(mi ρ).bind fun l=>cV bd mb l ρ
theorem i4 {mi:af→M (List PV)} {bd:PV→af→M af} {mb:af→M Fl} (h:BS X st (zy (Gh φ X.K true mi) (J0 φ bd) (Fp φ mb))):SV φ X st (bF mi bd mb):=BS.mono h fun D σ H hq0=>by
 obtain⟨G,O0,H0,O,ρ,n,s,w⟩:=hq0
 unfold bF at w
 rw[M.wp_bind] at w
 refine⟨G,O,ρ,n,_,s.es,w,fun l J H1 n1 e1 ok1 it w1=>?_⟩
 have s1:=s.to e1 ok1
 refine⟨fun i m σ' H'=>m=l.length - i∧i≤l.length∧∃ (O':Addr→Prop) (ρ':af) (n':Nat),SI G O0 (hide O0 O H1) O' H' σ' ρ' n'∧(cV bd mb (l.drop i) ρ').wp n' (fun f n'=>o4 G O0 H0 D n' f),
  ⟨l.length,by simp,Me _,O,ρ,n1,s1.now,by simpa using w1⟩,?_⟩
 rintro i m σ' H' ⟨rfl,hi,O',ρ',n',s',w'⟩
 have it':=s1.walk s' it
 by_cases hlt:i < l.length
 ·have hget:l[i]?=some l[i]:=LH hlt
  have hdrop:l.drop i=l[i]::l.drop (i+1):=List.drop_eq_getElem_cons hlt
  rw[hdrop] at w'
  unfold cV at w'
  obtain⟨g1,g2⟩:=it'.go hget
  refine .inr ⟨g1,fun σ2 H2=> ∃ (O':Addr→Prop) (ρ':af) (n':Nat),SI G O0 (hide O0 O H1) O' H2 σ2 ρ' n'∧(cV bd mb (l.drop (i+1)) ρ').wp n' (fun f n'=>o4 G O0 H0 D n' f),fun σ2 H2 hh=>⟨l.length - (i+1),by lia,rfl,hlt,hh⟩,fun x H2 yl=>?_⟩
  obtain⟨eH,rx⟩:=g2 x H2 yl
  subst eH
  rw[M.wp_bind] at w'
  refine⟨G,O0,_,O',ρ',n',_,l[i],s',rx,w',fun σ2 ρ2 n2 s2 w2=>?_⟩
  rw[M.wp_bind] at w2
  refine⟨G,O0,_,O',ρ2,n2,s2,M.wp_mono w2 fun f n3 w3=>?_⟩
  cases f with
  |nx ρ3=>exact fun O3 σ3 H3 s3=>⟨O3,ρ3,n3,s3,w3⟩
  |ct ρ3=>exact fun O3 σ3 H3 s3=>⟨O3,ρ3,n3,s3,w3⟩
  |bk ρ3=>exact fun O3 σ3 H3 s3=>w3 O3 σ3 H3 (s1.back s3)
  |rt y=>exact fun x3 H3 e3 ok3 r3=>w3 x3 H3 (s1.base.trans e3) ok3 r3
 ·have e:i=l.length:=by lia
  subst e
  rw[List.drop_length] at w'
  exact .inl ⟨it'.stop,w' O' σ' H' (s1.back s')⟩
noncomputable def zo (mt:af→M Bool) (mb:af→M Fl):Nat→af→M Fl
 |0,_=>.fail
 |k+1,ρ=>(mt ρ).bind fun b=>if b=true then(mb ρ).bind fun f=>(match f with
  | .nx ρ2=>zo mt mb k ρ2
  | .ct ρ2=>zo mt mb k ρ2
  | .bk ρ2=>.ret (.nx ρ2)
  | .rt v=>.ret (.rt v)) else .ret (.nx ρ)
theorem uB {mt:af→M Bool} {mb:af→M Fl} (fuel:Nat) (h:BS X st (wI (A2 φ mt) (Fp φ mb))):SV φ X st (zo mt mb fuel):=BS.mono h fun D σ H hq0=>by
 obtain⟨G,O0,H0,O,ρ,n,s,w⟩:=hq0
 refine⟨fun m σ' H'=> ∃ (O':Addr→Prop) (ρ':af) (n':Nat),SI G O0 H0 O' H' σ' ρ' n'∧(zo mt mb m ρ').wp n' (fun f n'=>o4 G O0 H0 D n' f),⟨fuel,O,ρ,n,s,w⟩,?_⟩
 rintro m σ' H' ⟨O',ρ',n',s',w'⟩
 cases m with
 |zero=>exact w'.elim
 |succ k=>
  unfold zo at w'
  rw[M.wp_bind] at w'
  refine⟨G,O',ρ',n',_,s'.es,w',fun b H1 n1 e1 ok1 w1=>?_⟩
  cases b with
  |true=>
   simp only[if_true] at w1 ⊢
   rw[M.wp_bind] at w1
   refine⟨fun σ2 H2=> ∃ (O':Addr→Prop) (ρ':af) (n':Nat),SI G O0 H0 O' H2 σ2 ρ' n'∧(zo mt mb k ρ').wp n' (fun f n'=>o4 G O0 H0 D n' f),fun σ2 H2 hh=>⟨k,by lia,hh⟩,G,O0,H0,O',ρ',n1,s'.to e1 ok1,M.wp_mono w1 fun f n3 w3=>?_⟩
   cases f with
   |nx ρ3=>exact fun O3 σ3 H3 s3=>⟨O3,ρ3,n3,s3,w3⟩
   |ct ρ3=>exact fun O3 σ3 H3 s3=>⟨O3,ρ3,n3,s3,w3⟩
   |bk ρ3=>exact fun O3 σ3 H3 s3=>w3 O3 σ3 H3 s3
   |rt y=>exact fun x3 H3 e3 ok3 r3=>w3 x3 H3 e3 ok3 r3
  |false=>
   simp only[Mt,if_false] at w1 ⊢
   exact w1 O' σ' H1 (s'.to e1 ok1)
end
noncomputable def cy:Fl→M PV
 | .nx _=>.ret .aW
 | .rt y=>.ret y
 |_=>.fail
noncomputable def jo (k:Nat) (l:List PV):af:=l.map val++List.replicate (k - l.length) .un
noncomputable def j7 (a k:Nat) (m:af→M Fl) (l:List PV):M PV:=if l.length=a then(m (jo k l)).bind cy else .fail
theorem kU {N:List Str} {vs:List V} {i:Nat} {x:V} (h:vs[i]?=some x):(start N vs)[i]?=some (some x):=by
 unfold start
 have hi:i < vs.length:=(LP.mp h).1
 rw[Mr (by simpa using hi),L5,h]
 rfl
section
variable {P:Program} {w:World} {K:Frag} {mg:Str→Option Value} {base:Heap}
theorem Jv {x qual:Str} {st:Stmt} {f:Addr} {fd:FuncData} {N ps:List Str} {k:Nat} {m:af→M Fl} (F:Fj K x qual st f fd) (S:aI N ps (ae st)) (hN:ps.length≤N.length)
  (hb: ∀ (cdv:Value) (A:Around) (outer:List Env) (s:Shared) (H:Hp) (E:XK),eV k (A.deeper (envOfC qual (ae st) s.heap.objs.size f cdv))→Fh φ (jO fS P w K mg base N qual (ae st) f cdv A outer s H E).tU (aw st) m):
  bL P w K mg base fS (k+1) f fd ps (jq φ (j7 ps.length N.length m)):=by
 refine F.ok S (fun vs H Q E h=>?_) (fun cdv A outer s H vs Q E hr h=>⟨_,(hb cdv A outer s H E hr).out,?_⟩)
 ·obtain⟨G,O,l,n,R,_,_,_,r,w,_⟩:=h
  unfold j7 at w
  by_cases hc:l.length=ps.length
  ·rw[←r.1,hc]
  ·rw[MA hc] at w;exact w.elim
 ·obtain⟨G,O,l,n,R,pr,dm,ok,r,w,q⟩:=h
  unfold j7 at w
  by_cases hc:l.length=ps.length
  ·rw[Mz hc,M.wp_bind] at w
   refine⟨G,O,H,O,jo N.length l,n,⟨⟨⟨?_,fun i e he=>?_⟩,ok,pr,dm⟩,pr,fun p h=>h,Ext.refl _ _,fun p h=>.inl h,dm,fun i p h=>?_,fun i j p h=>?_⟩,M.wp_mono w fun f n' h=>?_⟩
   ·unfold start jo;simp[r.1]
   ·unfold jo at he
    by_cases hi:i < l.length
    ·rw[Mr (by simpa using hi),L5,LH hi] at he
     cases he
     obtain⟨x,hx,rr⟩:=r.at (LH hi)
     exact⟨x,by rw[kU hx];rfl,rr⟩
    ·rw[List.getElem?_append_right (by simpa using hi),List.getElem?_replicate] at he
     split at he
     ·cases he;trivial
     ·cases he
   all_goals try (
    obtain⟨t,h1,h2,_⟩:=h
    exfalso
    unfold jo at h1
    by_cases hi:i < l.length
    ·rw[Mr (by simpa using hi),L5,LH hi] at h1
     cases h1;cases h2
    ·rw[List.getElem?_append_right (by simpa using hi),List.getElem?_replicate] at h1
     split at h1
     ·cases h1;cases h2
     ·cases h1)
   cases f with
   |nx ρ=>exact fun O' σ' H' s'=>q .aW .aW H' n' s'.ext s'.es.ok .aW h
   |rt y=>exact fun x' H' e' ok' r'=>q y x' H' n' e' ok' r' h
   |bk ρ=>exact h.elim
   |ct ρ=>exact h.elim
  ·rw[MA hc] at w;exact w.elim
end
end
section
variable {φ:fA}
section
variable {X:Cx} {e a b:Expr} {ma mb:af→M PV}
def Lr (K:Frag) (T:String) (r:V→List V→Hp→VK→Prop) (op:PV→List PV→M PV):Prop:= ∀ (φ:fA) (G:Bg φ) (O:Addr→Prop) (H0 H:Hp) (n:Nat) (R:PV→Nat→Prop) (Q:VK) (y:PV) (x:V) (l:List PV) (xs:List V),
 (∀ p,G.dP p→O p)→(∀ p,O p→∃ o,H p=some o)→G.ok H n→cz G O H y x→gs G O H l xs→(op y l).wp n R→om G O H R Q→r x xs H Q
noncomputable def tyP:PV→String
 | .str _=>"str"
 | .lst _=>"list"
 | .fz _=>"dict"
 |_=>""
noncomputable def Kc (T:String) (op:PV→List PV→M PV) (mo:af→M PV) (ml:af→M (List PV)):af→M PV:=fun ρ=>(mo ρ).bind fun y=>if tyP y=T then(ml ρ).bind fun l=>op y l else .fail
theorem Jx {T:String} {r:V→List V→Hp→VK→Prop} {op:PV→List PV→M PV} {mo:af→M PV} {ml:af→M (List PV)} (h:BE X e (IA X.K T r (rD φ mo) (Ir φ ml))) (hv:Lr X.K T r op) (hT:T≠"":=by decide):EV φ X e (Kc T op mo ml):=BE.mono h fun σ H Q hq0=>by
 obtain⟨G,O,ρ,n,R,s,w,q⟩:=hq0
 unfold Kc at w
 rw[M.wp_bind] at w
 refine⟨G,O,ρ,n,_,s,w,fun y x H1 n1 e1 ok1 r1 w1=>?_⟩
 by_cases hc:tyP y=T
 ·rw[Mz hc] at w1
  have ty:Ko X.K T x H1:=by
   subst hc
   cases y<;>first|exact absurd rfl hT|skip
   ·rw[r1.iz];rfl
   ·obtain⟨p,xs,rfl,hh,_⟩:=r1.gG;exact .inl ⟨rfl,xs,cQ.of hh⟩
   ·obtain⟨p,ks,rfl,hh,_⟩:=r1.y1;exact .inr (.inr (.inl ⟨rfl,.inl ⟨ks,hh⟩⟩))
  refine⟨ty,?_⟩
  rw[M.wp_bind] at w1
  refine⟨G,O,ρ,n1,_,s.ext e1 ok1,w1,fun l xs H2 n2 e2 ok2 r2 w2=>?_⟩
  exact hv φ G O H1 H2 n2 R Q y x l xs s.pr (s.ext (e1.trans e2) ok2).dm ok2 (r1.ext s.B e2) r2 w2 fun y x H' n' e o r h=>q y x H' n' (e1.trans (e2.trans e)) o r h
 ·rw[MA hc] at w1;exact w1.elim
noncomputable def strsOf:List PV→Option (List Str)
 |[]=>some []
 | .str b::r=>(strsOf r).map (b:: ·)
 |_=>none
theorem uC {B:Addr} {O:Addr→Prop} {H:Hp}: ∀ {l:List PV} {xs:List V} {bs:List Str},a9 B O H l xs→strsOf l=some bs→xs=bs.map V.str
 |[],xs,bs,h,e=>by simp[strsOf] at e;subst e;exact h.nil_inv
 |y::l,xs,bs,h,e=>by
  cases y<;>simp[strsOf] at e
  obtain⟨bs',e1,rfl⟩:=e
  obtain⟨x,r,rfl,h1,h2⟩:=h.cons_inv
  cases h1
  rw[LS,uC h2 e1]
noncomputable def rY:PV→List PV→M PV
 | .str sep,[.lst l]=>(M.cY (strsOf l)).bind fun ys=>if(ys.map (·.length)).sum+ys.length * sep.length≤16777216 then .ret (.str (Txt.join sep ys)) else .fail
 |_,_=>.fail
theorem Ai {y:PV} {l:List PV} {n:Nat} {R:PV→Nat→Prop} (w:(rY y l).wp n R): ∃ sep m,y= .str sep∧l=[.lst m]:=by
 unfold rY at w
 split at w
 ·exact⟨_,_,rfl,rfl⟩
 ·exact w.elim
theorem Eo {K:Frag}:Lr K "str" (fun x xs H Q=> ∃ (sep:Str) (p:Addr) (ys:List Str),x= .str sep∧xs=[.ref p]∧cQ K H p (ys.map V.str)∧(ys.map (·.length)).sum+ys.length * sep.length≤16777216∧Q (.str (Txt.join sep ys)) H) rY:=fun φ G O H0 H n R Q y x l xs pr dm ok r1 r2 w q=>by
 obtain⟨sep,l,rfl,rfl⟩:=Ai w
 ·rw[r1.iz]
  obtain⟨x2,ex,r3⟩:=r2.one
  subst ex
  obtain⟨p,xs,ep,hh,rr⟩:=r3.gG
  subst ep
  unfold rY at w
  dsimp only at w
  cases es:strsOf l with
  |none=>rw[es] at w;exact w.elim
  |some ys=>
   rw[es] at w
   replace w:(if(ys.map (·.length)).sum+ys.length * sep.length≤16777216 then M.ret (.str (Txt.join sep ys)) else .fail:M PV).wp n R:=w
   by_cases hc:(ys.map (·.length)).sum+ys.length * sep.length≤16777216
   ·rw[Mz hc] at w
    rw[uC rr es] at hh
    exact⟨sep,p,ys,rfl,rfl,cQ.of hh,hc,q.sc ok (.str _) w⟩
   ·rw[MA hc] at w;exact w.elim
noncomputable def jA:PV→M PV
 | .int i=>.ret (.int (-i))
 |_=>.fail
theorem kI (h:BE X e (Kq (rU fun i=>.int (-i)) (rD φ ma))):EV φ X e (fun ρ=>(ma ρ).bind jA):=BE.mono h fun σ H Q hq0=>by
 obtain⟨G,O,ρ,n,R,s,w,q⟩:=hq0
 rw[M.wp_bind] at w
 refine⟨G,O,ρ,n,_,s,w,fun y x H1 n1 e1 ok1 r1 w1=>?_⟩
 cases y<;>first|exact w1.elim|skip
 rw[r1.cT]
 exact⟨_,rfl,q _ _ _ _ e1 ok1 (.int _) w1⟩
noncomputable def xJ (ma mb:af→M PV):af→M (List PV):=fun ρ=>(ma ρ).bind fun x=>(mb ρ).bind fun y=>match x,y with| .lst a,.lst b=>if a.length+b.length≤100000 then .ret (a++b) else .fail|_,_=>.fail
theorem CT (h:BE X e (Dx GC (rD φ ma) (rD φ mb))):EF φ X e (xJ ma mb):=BE.mono h fun σ H Q hq0=>by
 obtain⟨G,O,ρ,n,R,s,w,q⟩:=hq0
 unfold xJ at w
 rw[M.wp_bind] at w
 refine⟨G,O,ρ,n,_,s,w,fun y x H1 n1 e1 ok1 r1 w1=>?_⟩
 rw[M.wp_bind] at w1
 refine⟨G,O,ρ,n1,_,s.ext e1 ok1,w1,fun y' x' H2 n2 e2 ok2 r2 w2=>?_⟩
 replace r1:=r1.ext s.B e2
 cases y<;>cases y'<;>first|exact w2.elim|skip
 rename_i i j
 obtain⟨a,xs,rfl,h1,q1⟩:=r1.gG
 obtain⟨b,ys,rfl,h2,q2⟩:=r2.gG
 dsimp only at w2
 by_cases hc:i.length+j.length≤100000
 ·rw[Mz hc] at w2
  have q':zi G O H2 R Q:=fun l p xs H' n' e o hp a b h=>q l p xs H' n' (e1.trans (e2.trans e)) o (jz (e1.trans e2) ok2 hp) a b h
  exact⟨a,b,xs,ys,rfl,rfl,h1,h2,L6 (by rw[←q1.1,←q2.1];exact hc) fX,fun p hp=>q'.mk ok2 hp s.B (q1.append q2) w2⟩
 ·rw[MA hc] at w2;exact w2.elim
end
end
section
variable {φ:fA}
section
variable {X:Cx} {e a b o:Expr} {es:List Expr} {pos p:Pos} {x:Str} {id T:String} {r:List V→Hp→VK→Prop} {t:TA} {st:Stmt}
theorem bv (i:Nat) {x:Str} {pos:Pos} (hN:X.N[i]?=some x:=by rfl) (hv:Ii X.env.scope x:=by first|exact Or.inl rfl|exact Or.inr (Or.inl rfl)|exact Or.inr (Or.inr rfl)) (hd:(x==("__debug__":Str))=false:=by decide)
  (hcd:(x==("__classdict__":Str))=false:=by decide):BE X (.Name x pos) (oW i):=⟨BN hN hv hd hcd⟩
theorem bz (hc:iy X (.builtin id) r) (hg:Gl X x) (hm:X.mg x=none) (hv:bootBuiltins x=some (.builtin id)) (ha:BA X (e::es) t) (hn:x≠"__name__":=by decide) (hdb:(x==("__debug__":Str))=false:=by decide)
  (he:starEach (e::es) X.env=(false,eval e X.env)::starEach es X.env:=by rfl) (hpl:(backTo pos (starEach es X.env)).any (·.1)=false:=by rfl):BE X (.Call (.Name x p) (e::es) [] pos) (HX r t):=⟨uU hc hg hm hv ha.out hn hdb he hpl⟩
theorem fo (hc:iy X (.type T) r) (hg:Gl X x) (hm:X.mg x=none) (hv:bootBuiltins x=some (.type T)) (ha:BA X (e::es) t) (hn:x≠"__name__":=by decide) (hdb:(x==("__debug__":Str))=false:=by decide)
  (he:starEach (e::es) X.env=(false,eval e X.env)::starEach es X.env:=by rfl) (hpl:(backTo pos (starEach es X.env)).any (·.1)=false:=by rfl):BE X (.Call (.Name x p) (e::es) [] pos) (HX r t):=⟨zO hc hg hm hv ha.out hn hdb he hpl⟩
theorem ax {CX:AF} {k:Nat} {f:Addr} {fd:FuncData} {ps:List Str} {sp:Sp} {ds:List Value} {dvs:List V} {E:XK} (F:bL X.prog X.w X.K X.mg X.base CX k f fd ps sp) (hr:eV k X.A) (hg:Gl X x) (hm:X.mg x=some (.ref f)) (hk:keepIn X.K (.ref f)=true) (hb:Binds X.K fd ps ds) (hd:Vals dvs ds) (hx:Passes CX X E)
  (ha:BA X (e::es) t) (hdb:(x==("__debug__":Str))=false:=by decide) (he:starEach (e::es) X.env=(false,eval e X.env)::starEach es X.env:=by rfl) (hpl:(backTo pos (starEach es X.env)).any (·.1)=false:=by rfl):
  BE X (.Call (.Name x p) (e::es) [] pos) (uA sp dvs E t):=⟨D7 F hr hg hm hk hb hd hx ha.out hdb he hpl⟩
theorem fK:BA X [] wJ:=⟨gA⟩
theorem dW {te:TE} (ha:BE X e te) (hr:BA X es t) (hs:starEach (e::es) X.env=(false,eval e X.env)::starEach es X.env:=by rfl):BA X (e::es) (mm te t):=⟨dS ha.out hr.out hs⟩
theorem jh {apos cpos:Pos} {name:Str} {to:TE} {r:V→List V→Hp→VK→Prop} (pa:PlainAttrs T) (slot:Slot T name id) (hty:typeOf (.builtin id)=pure (.type "method_descriptor")) (hm:Lg X id r) (ho:BE X o to) (ha:BA X (e::es) t)
  (hbase:attributeBase o name X.env (eval o X.env)=eval o X.env:=by rfl)
  (hfew:((backTo cpos (starEach (e::es) X.env)).all (fun x=>!x.1)&&(backToKw cpos (keywordEach [] X.env)).all (fun x=>x.1.isSome)
   &&decide ((e::es).length+([]:List Keyword).length+(if([]:List Keyword).isEmpty then 0 else 1) < 30))=true:=by rfl)
  (hline:(apos.endLine==cpos.line)=true:=by rfl) (hs:starEach (e::es) X.env=(false,eval e X.env)::starEach es X.env:=by rfl) (hplain:(backTo cpos (starEach es X.env)).any (·.1)=false:=by rfl):
  BE X (.Call (.Attribute o name apos) (e::es) [] cpos) (IA X.K T r to t):=⟨Jd pa slot hty hm ho.out ha.out hbase hfew hline hs hplain⟩
theorem kM {elt target iter:Expr} {ifs:List Expr} {scope:Scope} {N:List Str} {js:List (Option Nat)} {wi:TI} {g:TG} {tt:TT} {te:TE} (L:aS X scope N js) (hc:X.calm=true) (hi:BI X target iter wi)
  (hg: ∀ s₀ H₀ ex pn,BG (jb X scope N s₀ H₀ ex pn) target g) (ht: ∀ s₀ H₀ ex pn,Ga (jb X scope N s₀ H₀ ex pn) ifs tt) (he: ∀ s₀ H₀ ex pn,BE (jb X scope N s₀ H₀ ex pn) elt te)
  (hs: ∀ x,foldedSetIterable iter X.env x=pure x:=by intro _;rfl):BE X (.ListComp elt [⟨target,iter,ifs,0⟩] scope pos) (Gk js wi g tt te):=⟨Jc L hc hi.out (fun a b c d=>(hg a b c d).out) (fun a b c d=>(ht a b c d).out) (fun a b c d=>(he a b c d).out) hs⟩
theorem qC {elt target iter:Expr} {ifs:List Expr} {scope:Scope} {N:List Str} {js:List (Option Nat)} {spos py:Pos} {y:Str} {k:Nat} {wi:TI} {g:TG} {tt:TT} {te:TE} (hN:X.N.Nodup) (hk:X.N[k]?=some y) (hy:Loc X.env.scope y) (L:aS X scope N js) (hc:X.calm=true) (hi:BI X target iter wi)
  (hg: ∀ s₀ H₀ ex pn,BG (jb X scope N s₀ H₀ ex pn) target g) (ht: ∀ s₀ H₀ ex pn,Ga (jb X scope N s₀ H₀ ex pn) ifs tt) (he: ∀ s₀ H₀ ex pn,BE (jb X scope N s₀ H₀ ex pn) elt te)
  (hsw:swapsWith (.ListComp elt [⟨target,iter,ifs,0⟩] scope pos) (some (.Name y py)) spos.line X.env=pure true:=by rfl)
  (hs: ∀ x,foldedSetIterable iter X.env x=pure x:=by intro _;rfl) (hf:X.fn y=true∨X.env.scope.names.lookup y=some .local:=by first|exact .inl rfl|exact .inr rfl|assumption):
  BS X (.Assign [.Name y py] (.ListComp elt [⟨target,iter,ifs,0⟩] scope pos) spos) (lA (Gk js wi g tt te) (gn k)):=⟨I0 hN hk hy L hc hi.out (fun a b c d=>(hg a b c d).out) (fun a b c d=>(ht a b c d).out) (fun a b c d=>(he a b c d).out) hsw hs hf⟩
theorem aK {i:Nat} {te:TE} {pos':Pos} (hN:X.N.Nodup) (hi:X.N[i]?=some x) (hx:Loc X.env.scope x) (he:BE X e te) (hs:swapsWith e (some (.Name x pos')) pos.line X.env=pure false:=by rfl) (hf:X.fn x=true∨X.env.scope.names.lookup x=some .local:=by first|exact .inl rfl|exact .inr rfl|assumption):
  BS X (.Assign [.Name x pos'] e pos) (lA te (gn i)):=⟨ku hN hi hx he.out hs hf⟩
theorem xN {tg:Expr} {te:TE} {g:TG} (he:BE X e te) (hg:BG X tg g) (hs:swapsWithSole [tg] e pos.line X.env=pure false:=by rfl) (hw:swappedStores [tg] e X.env=pure none:=by rfl)
  (h1:(assignEach [tg] X.env).map (·.2)=[assign tg X.env]:=by rfl):BS X (.Assign [tg] e pos) (lA te g):=⟨wZ he.out hg.out hs hw h1⟩
theorem HB {i j:Nat} {x y:Str} {ta:TA} {px py pt:Pos} {kt k2 pt2} (hc:X.calm=true) (hN:X.N.Nodup) (hi:X.N[i]?=some x) (hj:X.N[j]?=some y) (hij:i≠j)
  (hx:X.env.scope.names.lookup x=some .local) (hy:X.env.scope.names.lookup y=some .local) (ha:BA X [a,b] ta)
  (hw:swappedStores [.Tuple [.Name x px,.Name y py] kt pt] (.Tuple [a,b] k2 pt2) X.env=pure (some [x,y]))
  (hs:swapsWithSole [.Tuple [.Name x px,.Name y py] kt pt] (.Tuple [a,b] k2 pt2) pos.line X.env=pure false:=by rfl):
  BS X (.Assign [.Tuple [.Name x px,.Name y py] kt pt] (.Tuple [a,b] k2 pt2) pos) (Gj i j ta):=⟨GI hc hN hi hj hij hx hy ha.out hw hs⟩
theorem aU {te:TE} (he:BE X e te):BS X (.Return (some e) pos) (Gi te):=⟨tu he.out⟩
theorem cU {c:Expr} {ss tt:List Stmt} {tc:TT} {t u:TS} (hc:BT X c tc) (ha:Dj X ss t) (hb:Dj X tt u):BS X (.If c ss tt pos) (Gm tc t u):=⟨BC hc.out ha.out hb.out⟩
theorem ip {tg iter:Expr} {body:List Stmt} {wi:TI} {g:TG} {tb:TS} (hp:PassesOwn (model X.prog X.w) X.A X.env X.xe) (hc:X.calm=true) (hi:BI X tg iter wi) (hg:BG X tg g) (hb:Dj X body tb)
  (hs: ∀ x,foldedSetIterable iter X.env x=pure x:=by intro _;rfl):BS X (.For tg iter body [] pos) (zy wi g tb):=⟨tw hp hc hi.out hg.out hb.out hs⟩
theorem v8 {c:Expr} {body:List Stmt} {tc:TT} {tb:TS} (hp:PassesOwn (model X.prog X.w) X.A X.env X.xe) (hc:BT X c tc) (hb:Dj X body tb):BS X (.While c body [] pos) (wI tc tb):=⟨BB hp hc.out hb.out⟩
theorem fc {te:TE} (he:BE X e te) (hs:swapsWith e none pos.line X.env=pure false:=by rfl):BS X (.Expr e pos) (yb te):=⟨DY he.out hs⟩
theorem fY {tg:Expr} {ta:TA} (hg:Gl X "range") (hm:X.mg "range"=none) (ha:BA X [a] ta) (hs:starEach [a] X.env=[(false,eval a X.env)]:=by rfl):BI X tg (.Call (.Name "range" p) [a] [] pos) (Cu ta):=⟨zM hg hm ha.out hs⟩
theorem wc {r:V→Option Int→Option Int→Hp→VK→Prop} {te:TE} {tl th:TO} {lo hi:Option Expr} {p2:Pos} (hr:AJ X r) (he:BE X e te) (hl:BO X lo tl) (hu:BO X hi th):BE X (.Subscript e (.Slice lo hi none p2) pos) (Kr r te tl th):=⟨mz hr he.out hl.out hu.out⟩
theorem oR {op:UnaryOp} {r:V→Hp→VK→Prop} {ta:TE} (ho:Kd X (unaryOp op) r) (ha:BE X a ta):BE X (.UnaryOp op a pos) (Kq r ta):=⟨Ja ho ha.out⟩
theorem FV {op:Operator} {r:R2} {ta tb:TE} (ho:fT X (binaryOp op) r) (ha:BE X a ta) (hb:BE X b tb):BE X (.BinOp a op b pos) (Dx r ta tb):=⟨cj ho ha.out hb.out⟩
theorem aM {i:Nat} (hN:X.N.Nodup) (hi:X.N[i]?=some x) (hx:Loc X.env.scope x) (hf:X.fn x=true∨X.env.scope.names.lookup x=some .local:=by first|exact .inl rfl|exact .inr rfl|assumption):BG X (.Name x pos) (gn i):=⟨pf hN hi hx hf⟩
theorem mZ:Kk X [] Ho:=⟨yB⟩
theorem dM {t:TG} {u:Dh} (h1:BG X e t) (h2:Kk X es u)
  (hs:(assignEach (e::es) X.env).map (·.2)=assign e X.env::(assignEach es X.env).map (·.2):=by rfl):Kk X (e::es) (CD t u):=⟨pX h1.out h2.out hs⟩
theorem qD {k:Nat} {t:Dh} {n:Nat} (hc:X.calm=true) (h:Kk X es t)
  (hn:(assignEach es X.env).length=n:=by rfl) (hst:(assignEach es X.env).findIdx? (·.1)=none:=by rfl):BG X (.Tuple es k pos) (CC X.K n t):=⟨BM hc h.out hn hst⟩
theorem HE {i:Expr} {to ti:TE} {t:Fg} (ho:BE X o to) (hi:BE X i ti) (hs:HM X t) (H: ∀ (a1:PE X o to) (a2:PE X i ti),PG X (.Subscript o i pos) (EM to ti t):=by intro a1 a2;exact w8 a1 a2 set_list):BG X (.Subscript o i pos) (EM to ti t):=⟨H ho.out hi.out⟩
end
section
variable {P:Program} {w:World} {K:Frag} {mg:Str→Option Value} {base:Heap}
theorem bK {x qual:Str} {st:Stmt} {f:Addr} {fd:FuncData} {N ps:List Str} {k:Nat} {m:af→M Fl} {body:List Stmt} {sc:Scope} {Ff:List PV→M PV} (hF:Ff=j7 ps.length N.length m) (F:Fj K x qual st f fd) (S:aI N ps (ae st)) (hN:ps.length≤N.length) (eb:aw st=body) (es:ae st=sc)
  (hb: ∀ (cdv:Value) (A:Around) (outer:List Env) (s:Shared) (H:Hp) (E:XK),eV k (A.deeper (envOfC qual sc s.heap.objs.size f cdv))→Fh φ (jO fS P w K mg base N qual sc f cdv A outer s H E).tU body m):
  bL P w K mg base fS (k+1) f fd ps (jq φ Ff):=by
 subst hF eb es
 exact Jv F S hN hb
end
end
section
open PySem.AutoSeq1 (wpAny_loadPart')
theorem nN:fillsNumberSlot (.type "tuple") "mul"=pure false:=
 PySem.fillsNumberSlot_seq (id:="tuple.__mul__") (r:=some (.builtin "tuple.__rmul__")) F.slot_tuple_mul.lookup (by decide +kernel) F.slot_tuple_rmul.lookup (by decide +kernel)
theorem tj:seqRepeat? (.type "tuple")=pure (some (.builtin "tuple.__mul__")):=by
 unfold seqRepeat?
 rw[PySem.seqSlot_of (T:="tuple") (name:="__mul__") (id:="tuple.__mul__") F.slot_tuple_mul.lookup (by decide +kernel),PySem.seqSlot_of (T:="tuple") (name:="__rmul__") (id:="tuple.__rmul__") F.slot_tuple_rmul.lookup (by decide +kernel)]
 rfl
theorem qg (a:Int) (t:Tok) (l:Addr) (items:Array Value) (n:Nat) (dd:Option Addr) (sl:Array (Option Value)):
  Meets (Builtin.«int.__rmul__» ⟨[.int a t,.ref l],[]⟩) (fun _ R s=>s.heap.get? l=some {cls:=.type "tuple",dict:=dd,data:=.seq items n,slots:=sl}∧R (.ok (.ret Value.notImplemented)) s):=
 .of_wp fun prog w A R s h=>by obtain⟨hp,g,d,tk,os⟩:=s;obtain⟨hl,h⟩:=h;wp_walk using wpAny_loadPart' hl;exact⟨_,rfl,h⟩
theorem wF (l:Addr) (items:Array Value) (n:Nat) (dd:Option Addr) (sl:Array (Option Value)) (x:Int) (u:Tok) (hc0: ¬(decide (x < -(2 ^ 63))||decide (x ≥ 2 ^ 63))=true) (hc1: ¬(items.isEmpty||x==1)=true) (hc2: ¬(decide (x≤0)||items.isEmpty)=true) (hc3: ¬((items.size:Int) * x > (2 ^ 63 - 1) / 8)) (hc4: ¬Builtin.Tuple.tupleTooMany (items.size * x)=true) (hc5: ¬ (List.foldl (fun x1 x2=>x1++x2) #[] (List.replicate x.toNat items)).size > sizeLine):
  Meets (Builtin.«tuple.__mul__» ⟨[.ref l,.int x u],[]⟩) (fun _ R s=>s.heap.get? l=some {cls:=.type "tuple",dict:=dd,data:=.seq items n,slots:=sl}∧R (.ok (.ret (Value.ref s.heap.objs.size))) {s with heap:=s.heap.push {cls:=Value.type "tuple",data:=Data.seq ((List.replicate x.toNat items).foldl (· ++ ·) #[])},toks:=s.toks}):=
 .of_wp fun prog w A R s h=>by
  obtain⟨hp,g,d,tk,os⟩:=s;obtain⟨hl,h⟩:=h
  have f1:=AutoSeq1.idx_int
  wp_walk using wpAny_loadPart' hl
  refine wpAny_ite_false (Mb hc0) ?_
  wp_walk using wpAny_loadPart' hl
  refine wpAny_ite_false (Mb hc3) ?_
  wp_walk using wpAny_loadPart' hl
  exact⟨_,rfl,h⟩
noncomputable def Fz:R2:=fun x y H Q=> ∃ l k xs,x= .ref l∧y= .int k∧H l=some (.tup xs)∧xs≠[]∧1 < k∧k < 1000∧xs.length * k.toNat≤100000∧∀ p,H p=none→Q (.ref p) (upd H p (.tup (List.replicate k.toNat xs).flatten))
theorem Ed {X:Cx}:fT X (binaryOp .Mult) Fz:=by
 intro pins s σ H x y v u Q I rx ry h
 obtain⟨l,k,xs,rfl,rfl,hH,hne,h1,h2,hz,q⟩:=h
 cases rx
 obtain⟨t,rfl⟩:=ry
 obtain⟨its,r,p,_⟩:=I.tuple (fM.of (K:=X.K) hH)
 obtain⟨⟨cls,dd,data,sl⟩,ho,hc,n,hd⟩:=id p
 simp only at hc hd
 subst hc hd
 have hlen:=r.length
 have hie:its≠[]:=fun z=>hne (r.pk.mp z)
 have hnew:List.foldl (fun x1 x2=>x1++x2) #[] (List.replicate k.toNat its.toArray)=(List.replicate k.toNat its).flatten.toArray:=by
  have:=foldl_rep its k.toNat []
  rw[List.nil_append] at this
  exact this
 have e63:(2:Int) ^ 63=9223372036854775808:=by decide
 have hsz:(its.length:Int) * k≤100000:=by
  have e:(k.toNat:Int)=k:=by lia
  have:((its.length * k.toNat:Nat):Int)≤100000:=by
   rw[←hlen]
   exact Int.ofNat_le.mpr hz
  rw[Int.natCast_mul,e] at this
  exact this
 have hs:sizeLine=16777216:=Mq
 have hfl:(List.replicate k.toNat xs).flatten.length≤sizeLine:=by rw[len_rep,Nat.mul_comm];lia
 refine wpAny_binaryOp_repeat_ref (T:="tuple") (U:="int") (by decide) ⟨_,ho,rfl⟩ (fun s'=>typeIs_int s' k t) nN F.fills_int_mul F.slot_int_rmul tj F.slot_int_index.lookup
  (call_meets F.slot_int_rmul (typeIs_int s k t) F.entry_int_rmul (F.args_int_rmul_2 _ _) (qg k t l its.toArray n dd sl)
   ⟨ho,rfl,⟨_,ho,rfl⟩,call_meets F.slot_tuple_mul ⟨_,ho,rfl⟩ F.entry_tuple_mul (F.args_tuple_mul_2 _ _) (wF l its.toArray n dd sl k t ?_ ?_ ?_ ?_ ?_ ?_) ⟨ho,?_⟩⟩)
 ·simp;lia
 ·simp[hie];lia
 ·simp[hie];lia
 ·simp only[LO];lia
 ·unfold Builtin.Tuple.tupleTooMany;simp only[LO,decide_eq_true_eq];lia
 ·rw[hnew,LO,len_rep,Nat.mul_comm,←hlen];lia
 ·rw[hnew]
  refine⟨.ref s.heap.objs.size,_,I.laid (t':=s.toks) (o:=.tup (List.replicate k.toNat xs).flatten) (fun b ob q=>LL _ q) (LQ _) ?_,rfl,q _ (I.bE.fresh (LQ _))⟩
  exact⟨hfl,_,r.rep k.toNat,IsTup.new _ _⟩
noncomputable def FC:R2:=fun x y H Q=>Bu x y H Q∨Fz x y H Q
theorem gU {X:Cx}:fT X (binaryOp .Mult) FC:=Ef.or Ed
noncomputable def lC (y z:PV):M PV:=match y,z with
 | .tup l,.int k=>if 0 < l.length∧1 < k∧k < 1000∧l.length * k.toNat≤100000 then .ret (.tup (List.replicate k.toNat l).flatten) else .fail
 |y,z=>zY y z
theorem gR:nh FC lC:=fun φ G O H n R Q y z x x' pr dm ok r1 r2 w q=>by
 have hB:O G.B:=pr _ G.pB
 cases y with
 |tup l=>
  cases z<;>first|exact w.elim|skip
  rename_i k
  obtain⟨a,xs,rfl,h1,e1⟩:=r1.kh
  rw[r2.cT]
  unfold lC at w
  dsimp only at w
  by_cases hc:0 < l.length∧1 < k∧k < 1000∧l.length * k.toNat≤100000
  ·rw[Mz hc] at w
   refine .inr ⟨a,k,xs,rfl,rfl,h1,fun z=>?_,hc.2.1,hc.2.2.1,by rw[←e1.1];exact hc.2.2.2,fun p hp=>q.tup ok dm hp hB (e1.rep _) w⟩
   subst z
   have:=e1.1
   simp at this
   have:=hc.1
   simp_all
  ·rw[MA hc] at w;exact w.elim
 |_=>exact .inl (GU φ G O H n R Q _ z x x' pr dm ok r1 r2 w q)
end
noncomputable def oH:List PV→M PV:=fun l=>match l with|[.bQ,.int m]=>.draw m fun d=>.ret (.int d)|_=>.fail
theorem Au {φ:fA} {P:Program} {w:World} {K:Frag} {mg:Str→Option Value} {base:Heap} {k:Nat} {f:Addr} {fd:FuncData} {ps:List Str} (F:bL P w K mg base fS k f fd ps φ.sp):bL P w K mg base fS k f fd ps (jq φ oH):=by
 refine F.imp fun vs H Q E h=>?_
 obtain⟨G,O,l,n,R,pr,dm,ok,r,w,q⟩:=h
 match l,r,w with
 |[.bQ,.int m],r,w=>
  obtain⟨x,t,rfl,r1,r2⟩:=r.cons_inv
  obtain⟨x',t',rfl,r3,r4⟩:=r2.cons_inv
  rw[r4.nil_inv]
  cases r1
  cases r3
  obtain⟨h0,h1,n',rfl,h⟩:=w
  exact G.dr H n' m Q E ok h0 h1 fun d H' d0 d1 e o=>q (.int d) _ H' n' e o (.int d) (h d d0 d1)
set_option genInjectivity false in
structure Gen {α:Type} (m:M α) (c:Nat) (Pr:α→Prop):Prop where
 h: ∀ n,c≤n→m.wp n fun y n'=>n≤n'+c∧Pr y
theorem Gen.ret {α:Type} {y:α} {Pr:α→Prop} (h:Pr y):Gen (.ret y) 0 Pr:=⟨fun n _=>⟨LQ _,h⟩⟩
theorem Gen.bind {α β:Type} {m:M α} {f:α→M β} {c d:Nat} {Pr:α→Prop} {Rr:β→Prop} (h:Gen m c Pr) (k: ∀ y,Pr y→Gen (f y) d Rr):Gen (m.bind f) (c+d) Rr:=⟨fun n hn=>by
 rw[M.wp_bind]
 refine M.wp_mono (h.h n (by lia)) fun y n1 ⟨h1,h2⟩=>?_
 exact M.wp_mono ((k y h2).h n1 (by lia)) fun z n2 ⟨h3,h4⟩=>⟨by lia,h4⟩⟩
theorem Gen.mono {α:Type} {m:M α} {c d:Nat} {Pr Rr:α→Prop} (h:Gen m c Pr) (hc:c≤d) (k: ∀ y,Pr y→Rr y):Gen m d Rr:=⟨fun n hn=>M.wp_mono (h.h n (by lia)) fun y n1 ⟨h1,h2⟩=>⟨by lia,k y h2⟩⟩
theorem Gen.le {α:Type} {m:M α} {c d:Nat} {Pr:α→Prop} (h:Gen m c Pr) (hc:c≤d):Gen m d Pr:=h.mono hc fun _ z=>z
theorem Gen.draw {m:Int} (h0:0 < m) (h1:m < 1073741824):Gen (oH [.bQ,.int m]) 1 fun y=> ∃ d,y= .int d∧0≤d∧d < m:=⟨fun n hn=>by
 obtain⟨n',rfl⟩: ∃ n',n=n'+1:=⟨n - 1,by lia⟩
 exact⟨h0,h1,n',rfl,fun d d0 d1=>⟨LQ _,d,rfl,d0,d1⟩⟩⟩
theorem Gen.eq {α:Type} {m:M α} {y:α} {Pr:α→Prop} (e:m= .ret y) (h:Pr y):Gen m 0 Pr:=e▸Gen.ret h
theorem Gen.lc {k:Nat} {te:af→M PV} {c:Nat} {Pr:PV→Prop} {ρ:af}: ∀ (l:List PV) (ρ':af),(∀ e,ρ'.set k e=ρ.set k e)→(∀ y∈l,Gen (te (ρ.set k (.val y))) c Pr)→Gen (vv (aL k) eS te l ρ') (l.length * c) (fun zs=>zs.length=l.length∧∀ z∈zs,Pr z)
 |[],ρ',_,_=>Gen.le (Gen.ret ⟨rfl,fun z hz=>by simp at hz⟩) (by simp)
 |y::l,ρ',hρ,h=>by
  unfold vv
  simp only[aL,eS,M.ret_bind,if_true]
  rw[hρ]
  refine Gen.le (Gen.bind (h y LJ) fun z hz=>Gen.bind (Gen.lc (ρ:=ρ) l _ (fun e=>by rw[List.set_set]) fun y' hy=>h y' (LM _ hy)) fun zs hzs=>Gen.ret ?_) (Nat.le_of_eq ?_)
  ·refine⟨by simp[hzs.1],fun u hu=>?_⟩
   rcases LU.mp hu with rfl|hu
   ·exact hz
   ·exact hzs.2 u hu
  ·simp only[LX,Nat.succ_mul]
   lia
theorem lg {k:Nat} {te:af→M PV} {f:PV→PV} {ρ:af}: ∀ (l:List PV) (ρ':af),(∀ e,ρ'.set k e=ρ.set k e)→(∀ y∈l,te (ρ.set k (.val y))= .ret (f y))→vv (aL k) eS te l ρ'= .ret (l.map f)
 |[],ρ',_,_=>rfl
 |y::l,ρ',hρ,h=>by
  unfold vv
  simp only[aL,eS,M.ret_bind,if_true]
  rw[hρ,h y LJ,lg (f:=f) (ρ:=ρ) l _ (fun e=>by rw[List.set_set]) fun y' hy=>h y' (LM _ hy)]
  rfl
theorem d8 {k:Nat} {tt:af→M Bool} {te:af→M PV} {p:PV→Bool} {f:PV→PV} {ρ:af}: ∀ (l:List PV) (ρ':af),(∀ e,ρ'.set k e=ρ.set k e)→(∀ y∈l,tt (ρ.set k (.val y))= .ret (p y))→(∀ y∈l,p y=true→te (ρ.set k (.val y))= .ret (f y))→vv (aL k) tt te l ρ'= .ret ((l.filter p).map f)
 |[],ρ',_,_,_=>rfl
 |y::l,ρ',hρ,h,h'=>by
  unfold vv
  simp only[aL,M.ret_bind]
  have ih:=d8 (p:=p) (f:=f) (ρ:=ρ) l (ρ.set k (.val y)) (fun e=>by rw[List.set_set]) (fun y' hy=>h y' (LM _ hy)) (fun y' hy=>h' y' (LM _ hy))
  rw[hρ,h y LJ,M.ret_bind]
  cases hp:p y with
  |true=>
   simp only[if_true]
   rw[h' y LJ hp,M.ret_bind,ih,List.filter_cons_of_pos hp]
   rfl
  |false=>
   simp only[Mt,if_false]
   rw[ih,List.filter_cons_of_neg (by simp[hp])]
section
variable {φ:fA}
def IM:V→Option Int→Option Int→Hp→VK→Prop:=fun x lo hi H Q=> ∃ z,x= .str z∧z.length≤100000∧Q (.str (Txt.slice z lo hi)) H
theorem part_of {v:Value} {o:Option Int} (p:IsPart v o): ∃ l:Option (Int×Tok),v=PySem.partValue l∧l.map (·.1)=o:=by
 cases p with
 |none=>exact⟨none,rfl,rfl⟩
 |int i t=>exact⟨some (i,t),rfl,rfl⟩
theorem Gu {X:Cx}:AJ X IM:=by
 intro pins s σ H x v vl vu lo hi sl Q I rx hs pl pu h
 obtain⟨z,rfl,hz,q⟩:=h
 obtain⟨t,rfl⟩:=rx
 obtain⟨l,rfl,hl⟩:=part_of pl
 obtain⟨u,rfl,hu⟩:=part_of pu
 refine⟨"str",_,F.slot_str_getitem.lookup,typeIs_str _ _ _,wpAny_getItem_str_slice (l:=l) (u:=u) (st:=none) hs rfl ?_⟩
 subst hl hu
 exact(post_val_or_str ⟨L6 (Txt.slice_le z _ _) (L6 hz fX),fun t' k=>⟨.str (Txt.slice z _ _),H,I.tok _,⟨_,rfl⟩,q⟩⟩)
section
open HT
variable {prog:Program} {w:World} {A:Around} {E:Value→Shared→Prop} {s:Shared}
theorem lE {t sl:Addr} {items:Array Value} {vl vu:Value} {lo hi:Option Int} {Q:Value→Shared→Prop} (ht:IsTup s.heap t items) (hs:s.heap.IsSliceOf sl vl vu .none) (pl:IsPart vl lo) (pu:IsPart vu hi)
  (hw:dR items.size 0 lo=0∧dR items.size items.size hi=items.size) (h:Q (.ref t) s):wpAny (model prog w) A (getItem (.ref t) (.ref sl)) Q E s:=by
 obtain⟨os,hos,hcs,hds⟩:=id hs
 have hTs:s.TypeIs (.ref sl) "slice":=⟨os,hos,hcs⟩
 unfold getItem
 try with_reducible refine wpAny_holding ?_
 first|refine LI (LN ?_)|skip
 refine LI (wpAny_sequenceKey ht.typeIs (by decide) ?_)
 refine LI (wpAny_callSpecial?_slot (name:=Str.ofString "__getitem__") ht.typeIs PyProof.Rows.slot_tuple_getitem
  (wpAny_call_entry PyProof.Rows.slot_tuple_getitem ht.typeIs entry_tuple_getitem ?_ (args_tuple_getitem _ _)))
 show wpAny _ _ (Builtin.Tuple.tupleItemsOf (.ref t) >>= _) _ _ s
 refine LI (tupleItemsOf_ ht ?_)
 refine LI (wpAny_typeOf hTs ?_)
 rw[Mz (by decide)]
 refine LI (jd hs pl pu ?_)
 have hyes:((((dR items.size 0 lo:Nat):Int)==0&&(1:Int)==1&&(dR items.size items.size hi - dR items.size 0 lo)==items.size)=true):=by
  rw[hw.1,hw.2];simp
 show wpAny _ _ (if(((dR items.size 0 lo:Nat):Int)==0&&(1:Int)==1&&(dR items.size items.size hi - dR items.size 0 lo)==items.size)=true then _ else _) _ _ s
 rw[Mz hyes]
 refine LI (m:=Builtin.Tuple.tupleIsExact _) (LI (wpAny_typeOf ht.typeIs (LN ?_)))
 rw[Mz (by decide)]
 refine LI (wpAny_rule ?_)
 exact LN ⟨_,rfl,LN h⟩
end
def IK:V→Option Int→Option Int→Hp→VK→Prop:=fun x lo hi H Q=> ∃ a xs,x= .ref a∧H a=some (.tup xs)∧(HT.dR xs.length 0 lo=0∧HT.dR xs.length xs.length hi=xs.length)∧Q (.ref a) H
theorem DJ {X:Cx}:AJ X IK:=by
 intro pins s σ H x v vl vu lo hi sl Q I rx hs pl pu h
 obtain⟨a,xs,rfl,hx,hw,q⟩:=h
 cases rx
 obtain⟨its,r,ht,hz⟩:=I.tuple (fM.of (K:=X.K) hx)
 have hlen:its.toArray.size=xs.length:=by rw[LO];exact r.length.symm
 exact⟨"tuple",_,PyProof.Rows.slot_tuple_getitem.lookup,ht.typeIs,lE ht hs pl pu (by rw[hlen];exact hw) ⟨.ref a,H,I,rfl,q⟩⟩
def IQ (K:Frag):V→Option Int→Option Int→Hp→VK→Prop:=fun x lo hi H Q=>IS K x lo hi H Q∨IK x lo hi H Q∨IM x lo hi H Q
theorem IH {X:Cx}:AJ X (IQ X.K):=Kw.or (DJ.or Gu)
noncomputable def Fv:PV→Option Int→Option Int→M PV
 | .lst l,lo,hi=>.ret (.lst (ui l lo hi))
 | .tup l,lo,hi=>.ret (.tup (ui l lo hi))
 | .str z,lo,hi=>if z.length≤100000 then .ret (.str (Txt.slice z lo hi)) else .fail
 |_,_,_=>.fail
theorem IC {K:Frag}:Lq (IQ K) Fv:=fun φ G O H n R Q y lo hi x pr dm ok r w q=>by
 cases y<;>first|exact w.elim|skip
 ·rename_i z
  rw[r.iz]
  unfold Fv at w
  dsimp only at w
  by_cases hc:z.length≤100000
  ·rw[Mz hc] at w;exact .inr (.inr ⟨z,rfl,hc,q.sc ok (.str _) w⟩)
  ·rw[MA hc] at w;exact w.elim
 ·rename_i l
  obtain⟨p,xs,rfl,h,e⟩:=r.kh
  replace w:R (.tup (ui l lo hi)) n:=w
  by_cases hc:HT.dR l.length 0 lo=0∧HT.dR l.length l.length hi=l.length
  ·rw[xG l lo hi hc] at w
   cases r with
   |full r=>exact .inr (.inl ⟨p,xs,rfl,h,by rw[←e.1];exact hc,q.sc ok r w⟩)
  ·exact .inl (.inr ⟨p,xs,rfl,fM.of h,by rw[←e.1];exact hc,fun p' hp=>q.tup ok dm hp (pr _ G.pB) (vX e lo hi) w⟩)
 ·rename_i l
  obtain⟨p,xs,rfl,h,e⟩:=r.gG
  exact .inl (.inl ⟨p,xs,rfl,cQ.of h,fun p' hp=>q.lst ok dm hp (pr _ G.pB) (vX e lo hi) w⟩)
end
section
variable {X:Cx}
theorem DQ {k:Key} {u:Value} (r:RelV (kV k) u):mI k u=true∧u.scannable=true:=by
 cases k with
 |inl i=>obtain⟨t,rfl⟩:=r;exact⟨rX i t,rfl⟩
 |inr x=>obtain⟨t,rfl⟩:=r;exact⟨rW x t,rfl⟩
end
theorem t9 {env:Env} (elt gens scope pos):eval (.SetComp elt gens scope pos) env=
  comprehension (.SetComp elt gens scope pos) scope env (firstIterPos gens pos) (newSet (.type "set")) (firstAsync gens) (firstIter gens env):=rfl
theorem AZ (elt target iter:Expr) (ifs:List Expr) (scope:Scope) (pos:Pos) (it acc:Value) (env:Env):compTurn (.SetComp elt [⟨target,iter,ifs,0⟩] scope pos) 0 it acc env=(standAt iter.pos >>= fun _=>pyNext it >>= fun r=>match r with
  |none=>pure (.done .next)
  |some v=>letOwnedTupleGo target it v >>= fun _=>assign target env v >>= fun _=>(forIn ifs true fun c r=>if r=true then do let ok ←isTrue c env (eval c env);pure (ForInStep.yield ok) else pure (ForInStep.yield r)) >>= fun ok=>
   if ok=true then(eval elt env >>= fun x=>standAt elt.pos >>= fun _=>call (.builtin "set.add") [acc,x] >>= fun _=>pure ()) >>= fun _=>again (.compLoop (.SetComp elt [⟨target,iter,ifs,0⟩] scope pos) 0 it acc env)
   else again (.compLoop (.SetComp elt [⟨target,iter,ifs,0⟩] scope pos) 0 it acc env)):=rfl
theorem zA {prog:Program} {w:World} {A:Around} {R:Result→Shared→Prop} {s:Shared} {elt target iter:Expr} {ifs:List Expr} {scope:Scope} {pos:Pos} {it acc:Value} {env:Env}
  (one:codeAny (model prog w) A (.compLoop (.SetComp elt [⟨target,iter,ifs,0⟩] scope pos) 0 it acc env) R s)
  (two:wpAny (model prog w) A (pyIter it) (fun j s'=>codeAny (model prog w) A (.compLoop (.SetComp elt [⟨target,iter,ifs,0⟩] scope pos) 0 j acc env) R s') (notedBy (model prog w) A env fun x s'=>R (.error x) s') s):
  codeAny (model prog w) A (.compStart (.SetComp elt [⟨target,iter,ifs,0⟩] scope pos) 0 it acc env) R s:=
 codeAny_of_tree (wpAny_notedAt (pos:=theWindowsPlace) (m:=compStart (.SetComp elt [⟨target,iter,ifs,0⟩] scope pos) 0 it acc env) (by
  have again_at: ∀ (j:Value) (s':Shared),codeAny (model prog w) A (.compLoop (.SetComp elt [⟨target,iter,ifs,0⟩] scope pos) 0 j acc env) R s'→(Code.compLoop (.SetComp elt [⟨target,iter,ifs,0⟩] scope pos) 0 j acc env).quiet=true∧codeAny (model prog w) A (.compLoop (.SetComp elt [⟨target,iter,ifs,0⟩] scope pos) 0 j acc env) R s':=fun _ _ q=>⟨rfl,q⟩
  unfold compStart
  change wpAny _ _ (ask >>= _) _ _ s
  apply LI
  apply wpAny_askSetting
  apply wpAny_ite
  split
  ·exact LN (again_at it s one)
  ·apply LI
   apply wpAny_rule
   apply LI
   apply wpAny_standAt
   apply LI
   exact wpAny_mono two (fun j s' q=>LN (again_at j s' q)) fun _ _ q=>q))
theorem xH {prog:Program} {w:World} {A:Around} {R:Result→Shared→Prop} {s:Shared} {elt target iter:Expr} {ifs:List Expr} {scope:Scope} {pos:Pos} {it acc:Value} {env:Env} (I:Nat→Shared→Prop)
  (turn: ∀ n s,I n s→wpAny (model prog w) A (pyNext it) (fun r s₁=>match r with
   |none=>R (.ok .next) s₁
   |some v=>wpAny (model prog w) A (letOwnedTupleGo target it v) (fun _ s₁'=>wpAny (model prog w) A (assign target env v) (fun _ s₂=>
     wpAny (model prog w) A (forIn ifs true fun c r=>if r=true then do let ok ←isTrue c env (eval c env);pure (ForInStep.yield ok) else pure (ForInStep.yield r)) (fun ok s₃=>
      if ok=true then wpAny (model prog w) A (eval elt env) (fun x s₄=>
       wpAny (model prog w) A (call (.builtin "set.add") [acc,x]) (fun _ s₅=> ∃ m,m < n∧I m s₅) (fun _ _=>False) s₄) (fun _ _=>False) s₃
      else ∃ m,m < n∧I m s₃) (fun _ _=>False) s₂) (fun _ _=>False) s₁') (fun _ _=>False) s₁) (fun _ _=>False) s)
  (n:Nat) (h:I n s):
  codeAny (model prog w) A (.compLoop (.SetComp elt [⟨target,iter,ifs,0⟩] scope pos) 0 it acc env) R s:=by
 refine codeAny_loop rfl I (fun n s hI=>?_) n h
 show wpAny _ A ((compTurn (.SetComp elt [⟨target,iter,ifs,0⟩] scope pos) 0 it acc env).onRaise (fun x=>do noteFrame x env;theTreesLotGoes x)) _ _ s
 refine wpAny_noted ?_
 refine wpAny_mono (E:=fun _ _=>False) ?_ (fun _ _ q=>q) fun _ _ q=>q.elim
 rw[AZ]
 refine LI (wpAny_standAt (LI (bN (turn n s hI) fun r s₁ h₁=>?_)))
 cases r with
 |none=>exact LN h₁
 |some v=>
  refine LI (bN h₁ fun _ s₁' h₁'=>?_)
  refine LI (bN h₁' fun _ s₂ h₂=>LI (bN h₂ fun ok s₃ h₃=>?_))
  cases ok with
  |false=>exact LN ⟨rfl,h₃⟩
  |true=>exact LI (LI (bN h₃ fun x s₄ h₄=>LI (wpAny_standAt (LI (bN h₄ fun _ s₅ h₅=>LN (LN ⟨rfl,h₅⟩))))))
section
variable {φ:fA}
section
variable {X:Cx} {e:Expr} {pos:Pos}
noncomputable def keyOf:PV→Key
 | .int i=>.inl i
 | .str x=>.inr x
 |_=>.inl 0
noncomputable def EI:PV→M PV
 | .int i=>.ret (.int i)
 | .str x=>.ret (.str x)
 |_=>.fail
noncomputable def t4 (ks:List Key) (k:Key):Bool:=ks.any fun k'=>decide (k'=k)
noncomputable def dk (zs:List PV):List Key:=zs.foldl (fun ks z=>if t4 ks (keyOf z)=true then ks else ks++[keyOf z]) []
theorem yZ (zs:List PV) (z:PV):dk (zs++[z])=if t4 (dk zs) (keyOf z)=true then dk zs else dk zs++[keyOf z]:=by unfold dk;rw[List.foldl_append];rfl
theorem qx: ∀ (zs:List PV) (ks:List Key),(zs.foldl (fun ks z=>if t4 ks (keyOf z)=true then ks else ks++[keyOf z]) ks).length≤ks.length+zs.length
 |[],ks=>by simp
 |z::zs,ks=>by
  rw[List.foldl_cons]
  have h:=qx zs (if t4 ks (keyOf z)=true then ks else ks++[keyOf z])
  have:(if t4 ks (keyOf z)=true then ks else ks++[keyOf z]).length≤ks.length+1:=by split<;>simp
  simp only[LX]
  lia
theorem Hv (zs:List PV):(dk zs).length≤zs.length:=by have:=qx zs [];simpa[dk] using this
theorem La (zs:List PV) (z:PV):(fun k'=>t4 (dk zs) k'||decide (k'=keyOf z))=fun k'=>t4 (dk (zs++[z])) k':=by
 funext k'
 rw[yZ]
 by_cases h:t4 (dk zs) (keyOf z)=true
 ·rw[Mz h]
  by_cases e:k'=keyOf z
  ·subst e;simp[h]
  ·simp[e]
 ·rw[MA h]
  unfold t4
  rw[List.any_append]
  by_cases e:k'=keyOf z
  ·subst e;simp
  ·have e': ¬ keyOf z=k':=fun z=>e z.symm
   simp[e,e']
theorem K9 (zs:List PV) (z:PV):(if t4 (dk zs) (keyOf z)=true then(dk zs).length else(dk zs).length+1)=(dk (zs++[z])).length:=by
 rw[yZ]
 by_cases h:t4 (dk zs) (keyOf z)=true
 ·rw[Mz h,Mz h]
 ·rw[MA h,MA h];simp
theorem EH {B:Addr} {O:Addr→Prop} {H:Hp} {z:PV} {x:V} {α:Type} {f:PV→M α} {n:Nat} {R:α→Nat→Prop} (r:Rep B O H z x) (w:((EI z).bind f).wp n R):x=kV (keyOf z)∧(f z).wp n R:=by
 cases r<;>first|exact⟨rfl,w⟩|exact w.elim
noncomputable def Ca (js:List (Option Nat)) (mi:af→M (List PV)) (bd:PV→af→M af) (tt:af→M Bool) (te:af→M PV):af→M (List PV):=fun ρ=>(mi ρ).bind fun l=>if l.length≤4000 then vv bd tt (fun ρ=>(te ρ).bind EI) l (gp js ρ) else .fail
noncomputable def Bg.Im (G:Bg φ) (D:Addr) (hD:D≠G.B):Bg φ where
 B:=G.B
 dP:=fun p=>G.dP p∨p=D
 ok:=fun H n=>G.ok H n∧∃ o,H D=some o
 pB:=.inl G.pB
 keep:=fun H H' n k h=>⟨G.keep H H' n (fun p o z=>k p o (z.imp .inl id)) h.1,by obtain⟨o,e⟩:=h.2;exact⟨o,k D _ (.inl (.inr rfl)) e⟩⟩
 tp:=fun e he=>.inl (G.tp e he)
 tab:=fun H n h=>G.tab H n h.1
 wG:=fun H H' n h h1 h2=>⟨G.wG H H' n h.1 h1 h2,by
  obtain⟨o,e⟩:=h.2
  by_cases z:D∈φ.tabs.map (·.1)
  ·obtain⟨q,hq,e3⟩:=LW.mp z
   obtain⟨ps,e2,_⟩:=h1 q hq
   exact⟨_,e3▸e2⟩
  ·exact⟨o,h2 D _ z e⟩⟩
 C0:=fun H n p h z=>by
  rcases z with z|z
  ·exact G.C0 H n p h.1 z
  ·subst z;exact h.2
 dr:=fun H n m Q E h h0 h1 q=>G.dr H n m Q E h.1 h0 h1 fun d H' d0 d1 e o=>q d H' d0 d1 e ⟨o,by
  obtain⟨u,e2⟩:=h.2
  exact(e D u hD e2).there⟩
end
end
section
variable {X:Cx} {pins:List (Addr×Obj)} {σ:St} {H:Hp} {s:Shared} {h':Heap}
theorem Inv.Dv {t':Nat} {wr:List Addr} {T:Addr} {o:HO} (I:Inv X pins σ H s) (hf: ∀ b∈wr,eQ X pins H b) (k: ∀ b u,b∉wr→s.heap.get? b=some u→h'.get? b=some u) (hT:s.heap.objs.size≤T)
  (new:dz X.prog X.w (upd H T o) h' T o):Inv X pins σ (upd H T o) {s with heap:=h',toks:=t'}:=by
 have nT:H T=none:=I.bE.fresh hT
 have neT: ∀ b u,s.heap.get? b=some u→b≠T:=fun b u e z=>absurd (L9 (L1 e) (z▸hT)) (Nat.lt_irrefl _)
 have neH: ∀ b u,H b=some u→b≠T:=fun b u e z=>by rw[z,nT] at e;cases e
 have nw: ∀ b u,H b=some u→b∉wr:=fun b u e z=>by rw[(hf b z).1] at e;cases e
 refine I.step (g':=s.gens) (d':=s.drawn) (ch:=wr) (fun b hb=>⟨(hf b hb).2.2.2.1,(hf b hb).2.1,(hf b hb).2.2.2.2.1,(hf b hb).2.2.2.2.2⟩) (fun b u _ _ hc e _=>k b u hc e) (fun b u _ _ hc e _=>⟨u.slots,k b u hc e⟩)
  (fun b u _ e n=>by rw[ao (neT b u e)];exact n) (fun b u hc e=>⟨u,k b u hc e⟩) (fun b xs e=>by rw[ao (neH b _ e)];exact e) (fun b ob u e=>by rw[ao (neH b _ e)];exact e) (fun b ps e=>⟨#[],by rw[ao (neH b _ e),e];simp⟩) (fun m hm=>?_) (fun b u e=>?_) I.bare
 ·obtain⟨ob,es,ep,ho,r⟩:=hm
  exact⟨ob,es,ep,k _ ob (fun z=>(hf _ z).2.1 rfl) ho,r⟩
 ·by_cases hb:b=T
  ·subst hb;rw[az] at e;cases e;exact new
  ·rw[ao hb] at e
   refine(I.bE b u e).pM (fun c v hc q=>k c v ?_ q) (fun c q=>by rw[ao (neH c _ q)];exact q) fun c xs q=>by rw[ao (neH c _ q)];exact q
   rcases hc with z|z
   ·rw[z];exact nw b u e
   ·exact nw c _ z
theorem Inv.Dw {t':Nat} {wr:List Addr} (I:Inv X pins σ H s) (hf: ∀ b∈wr,eQ X pins H b) (k: ∀ b u,b∉wr→s.heap.get? b=some u→h'.get? b=some u):Inv X pins σ H {s with heap:=h',toks:=t'}:=by
 have nw: ∀ b u,H b=some u→b∉wr:=fun b u e z=>by rw[(hf b z).1] at e;cases e
 refine I.step (g':=s.gens) (d':=s.drawn) (ch:=wr) (fun b hb=>⟨(hf b hb).2.2.2.1,(hf b hb).2.1,(hf b hb).2.2.2.2.1,(hf b hb).2.2.2.2.2⟩) (fun b u _ _ hc e _=>k b u hc e) (fun b u _ _ hc e _=>⟨u.slots,k b u hc e⟩)
  (fun b u _ e n=>n) (fun b u hc e=>⟨u,k b u hc e⟩) (fun b xs e=>e) (fun b ob u e=>e) (fun b ps e=>⟨#[],by rw[e];simp⟩) (fun m hm=>?_) (fun b u e=>?_) I.bare
 ·obtain⟨ob,es,ep,ho,r⟩:=hm
  exact⟨ob,es,ep,k _ ob (fun z=>(hf _ z).2.1 rfl) ho,r⟩
 ·refine(I.bE b u e).pM (fun c v hc q=>k c v ?_ q) (fun c q=>q) fun c xs q=>q
  rcases hc with z|z
  ·rw[z];exact nw b u e
  ·exact nw c _ z
end
noncomputable def FY (K:Frag) (a:Addr):It:=
 ⟨fun i H=> ∃ xs x,cQ K H a xs∧xs[i]?=some x,fun i H y H'=> ∃ T,y= .ref T∧H T=none∧∀ xs x,cQ K H a xs→xs[i]?=some x→H'=upd H T (.tup [.int i,x]),fun i H=> ∃ xs,cQ K H a xs∧xs.length≤i⟩
theorem D9 {P:Program} {w:World} {H:Hp} {h:Heap} {T:Addr} {x y:V} {u v:Value} (hT:h.get? T=some {cls:=.type "tuple",data:=.seq #[u,v]}) (ru:RelV x u) (rv:RelV y v):dz P w H h T (.tup [x,y]):=
 ⟨by show 2≤sizeLine;decide,[u,v],.cons ru (.cons rv .nil),_,hT,rfl,_,rfl⟩
theorem zu {P:Program} {w:World} {K:Frag} {elts:List Expr} {kk:Nat} {pos:Pos} (a e it:Addr) (hne:e≠it):Turn P w K (.Tuple elts kk pos) (FY K a) [e,it] e (fun i h=>(∃ old,IsEnum h e it i old)∧h.IsListIter it a i) where
 mem:=by simp
 obj:=fun i h st b hb=>by
  obtain⟨⟨old,he⟩,o,ho,hc,hd⟩:=st
  have hb':b=e∨b=it:=by simpa using hb
  rcases hb' with rfl|rfl
  ·exact⟨_,he,fun v z=>by cases z⟩
  ·exact⟨o,ho,fun v z=>by rw[hd] at z;cases z⟩
 keep:=fun i h h' st k=>by
  obtain⟨⟨old,he⟩,o,ho,hc,hd⟩:=st
  exact⟨⟨old,k e (by simp) _ he⟩,o,k it (by simp) _ ho,hc,hd⟩
 item:=by
  intro X hP hw hK hc i pins s σ H E I hf st hg
  subst hP hw hK
  obtain⟨xs,x,hq,hx⟩:=hg
  obtain⟨its,rv,p,hz⟩:=I.list hq
  obtain⟨u,hu,ru⟩:=rv.get hx
  obtain⟨⟨old,he⟩,hit⟩:=st
  refine wpAny_pyNext_enum_item he hit p.isList (x:=u) (by simpa using hu) hne fun h1 ho hit1 hT hsz k1=>?_
  refine⟨_,rfl,wpAny_letOwnedTupleGo_enum (s:={s with heap:=h1,toks:=s.toks+1}) ho fun h2 he2 s2=>?_⟩
  have lt: ∀ b o,s.heap.get? b=some o→b≠s.heap.objs.size:=fun b o q=>Mg (L1 q)
  have neT:s.heap.objs.size≠e:=fun z=>lt e _ he z.symm
  have hT2:h2.get? s.heap.objs.size=some {cls:=.type "tuple",data:=.seq #[.int i s.toks,u]}:=(s2.2 _ neT).trans hT
  have I2:=I.Dv (t':=s.toks+1) (h':=h2) (wr:=[e,it]) (T:=s.heap.objs.size) (o:=.tup [.int i,x]) hf (fun b o hb q=>by
   have hb':b≠e∧b≠it:=by simpa using hb
   exact(s2.2 b hb'.1).trans (k1 b o hb'.1 hb'.2 q)) (LQ _) (D9 hT2 ⟨_,rfl⟩ ru)
  refine⟨.ref s.heap.objs.size,_,I2,rfl,⟨_,rfl,I.bE.fresh (LQ _),fun ys y hy hyx=>?_⟩,⟨⟨_,by simpa using he2⟩,hit1.at fun o q=>(s2.2 it hne.symm).trans q⟩,fun b hb=>?_⟩
  ·rw[I.vq hy hq,hx] at hyx
   cases hyx
   rfl
  ·have hlt:b≠s.heap.objs.size:=by
    have hb':b=e∨b=it:=by simpa using hb
    rcases hb' with rfl|rfl
    ·exact fun z=>neT z.symm
    ·obtain⟨o,ho',_⟩:=hit
     exact lt _ _ ho'
   rw[ao hlt]
   exact(hf b hb).1
 done:=by
  intro X hP hw hK hc i pins s σ H E I hf st hg
  subst hP hw hK
  obtain⟨xs,hq,hx⟩:=hg
  obtain⟨its,rv,p,hz⟩:=I.list hq
  have hl:=rv.length
  obtain⟨⟨old,he⟩,hit⟩:=st
  refine wpAny_pyNext_enum_end (I.ok.hd hc) he hit p.isList (by simp;lia) fun h1 k1=>⟨rfl,I.Dw (t':=s.toks) hf fun b o hb q=>k1 b o (fun z=>hb (by simp[z])) q⟩
 self:=fun _ _ _ _ _ st h=>by
  obtain⟨⟨old,he⟩,_⟩:=st
  exact wpAny_pyIter_enum he h
noncomputable def LF (a b:Addr):It:=
 ⟨fun i H=> ∃ xs ys x y,H a=some (.tup xs)∧H b=some (.tup ys)∧xs[i]?=some x∧ys[i]?=some y,fun i H r H'=> ∃ T,r= .ref T∧H T=none∧∀ xs ys x y,H a=some (.tup xs)→H b=some (.tup ys)→xs[i]?=some x→ys[i]?=some y→H'=upd H T (.tup [x,y]),fun i H=> ∃ xs ys,H a=some (.tup xs)∧H b=some (.tup ys)∧(xs.length≤i∨ys.length≤i)⟩
section
variable {X:Cx} {e e2:Expr} {t1 t2:TE} {elts:List Expr} {kk:Nat} {tpos pos p:Pos} {x:Str}
noncomputable def yP (K:Frag) (ta:TA):TI:=fun σ H R=>ta σ H fun vs H1=> ∃ a xs,vs=[.ref a]∧cQ K H1 a xs∧R (FY K a) H1
theorem EX {pins:List (Addr×Obj)} {σ:St} {H:Hp} {s:Shared} {R:It→Hp→Prop} {a:Addr} {xs:List V} (I:Inv X pins σ H s) (ha:cQ X.K H a xs) (q:R (FY X.K a) H):
  wpAny (model X.prog X.w) X.A (call (.type "enumerate") [.ref a]) (fun v s1=>wpAny (model X.prog X.w) X.A (pyIter v) (Ke X pins σ (.Tuple elts kk tpos) R) X.xe s1) X.xe s:=by
 obtain⟨its,rv,p1,hz⟩:=I.list ha
 refine call_enumerate_list p1.isList fun h1 he hit hsz k1=>?_
 have I1:Inv X pins σ H {s with heap:=h1}:=I.kept (t':=s.toks) k1
 refine wpAny_pyIter_enum (s:={s with heap:=h1}) he ?_
 refine⟨_,[s.heap.objs.size+1,s.heap.objs.size],_,FY X.K a,H,rfl,I1,zu a _ _ (Nat.succ_ne_self _),⟨⟨_,he⟩,hit⟩,fun c hc=>?_,q⟩
 have hle:s.heap.objs.size≤c:=by
  rcases LU.mp hc with h|hc
  ·rw[h];exact Nat.le_succ _
  ·rw[Mf.mp hc];exact LQ _
 exact I.rj hle (I.bE.fresh hle)
theorem yA (hg:Gl X x) (hm:X.mg x=none) (hv:bootBuiltins x=some (.type "enumerate")) {ta:TA} (ha:PA X [e] ta) (hn:x≠"__name__":=by decide) (hdb:(x==("__debug__":Str))=false:=by decide)
  (he:starEach [e] X.env=(false,eval e X.env)::starEach [] X.env:=by rfl) (hpl:(backTo pos (starEach [] X.env)).any (·.1)=false:=by rfl):PI X (.Tuple elts kk tpos) (.Call (.Name x p) [e] [] pos) (yP X.K ta):=by
 intro pins s σ H R I h
 refine wpAny_Call_Name_kw (lQ I hg hm hv ?_ hn hdb)
 refine PyProof.Rows.callWith_type1 (bN (ha pos pins s σ H _ I h) fun us s1 ⟨vs,H1,I1,r1,q1⟩=>?_) he hpl
 obtain⟨a,xs,rfl,h1,q⟩:=q1
 obtain⟨u,rfl,ru⟩:=r1.one
 cases ru
 exact EX I1 h1 q
end
section
variable {φ:fA}
noncomputable def Kn (l1 l2:List PV):List PV:=List.zipWith (fun x y=>PV.tup [x,y]) l1 l2
inductive LG (G:Bg φ) (O:Addr→Prop) (H:Hp):List PV→It→Prop where
 |zip {a b:Addr} {xs ys:List V} {l1 l2:List PV} (na: ¬ O a) (ha:H a=some (.tup xs)) (ra:a9 G.B O H l1 xs) (nb: ¬ O b) (hb:H b=some (.tup ys)) (rb:a9 G.B O H l2 ys):LG G O H (Kn l1 l2) (LF a b)
end
section
variable {φ:fA}
section
variable {X:Cx} {e:Expr}
def Bf (a b c:Int):Prop:=0 < c∧c < 1000000000∧-1000000000000 < a∧a < 1000000000000∧-1000000000000 < b∧b < 1000000000000
end
end
section
variable {φ:fA}
instance (a b c:Int):Decidable (Bf a b c):=by unfold Bf;infer_instance
end
theorem nQ {i j:Int} (h0:0≤j) (h1:j < 2 ^ 63):ou i j:=by
 have e:(2:Int) ^ 63=9223372036854775808:=by decide
 have e2:(2:Int) ^ 64=18446744073709551616:=by decide
 rw[e] at h1
 exact .inr ⟨by rw[e2];lia,by rw[e2];lia⟩
theorem jB {i j:Int} (h0:0≤i) (h1:i < 2 ^ 63):ou i j:=by
 have e:(2:Int) ^ 63=9223372036854775808:=by decide
 have e2:(2:Int) ^ 64=18446744073709551616:=by decide
 rw[e] at h1
 exact .inl ⟨by rw[e2];lia,by rw[e2];lia⟩
theorem ng (x:Int) (ns:List Int):lW ((x::ns).map V.int) 0=some (.int x):=(zf (j:=0) rfl:lW ((x::ns).map V.int) ((0:Nat):Int)=some (.int x))
theorem Ln (x:Int) (ns:List Int):uu ((x::ns).map V.int).length 0=some 0:=by
 simp only[uu,LS,LX]
 rw[Mz (Int.le_refl 0),Mz (by lia)]
 rfl
theorem C4 (ns:List Int):mX (ns.map V.int) none (some 63)=(ns.take 63).map V.int:=by
 unfold mX
 rw[HT.my]
 have e:HT.dR (ns.map V.int).length (ns.map V.int).length (some 63)=min 63 (ns.map V.int).length:=HT.o7 _ _ 63
 rw[e,List.drop_zero,Nat.sub_zero,LK,←List.map_take]
 congr 1
 rw[List.take_eq_take_iff]
 lia
theorem CH {K:Frag} {a:Addr} {xs:List V} {g:TG} {tb:TS} {D:Ends} {σ:St} {H:Hp} (Pv:Nat→L2.St→Hp→Prop) (h0:Pv 0 σ H) (hl: ∀ i σ H,i≤xs.length→Pv i σ H→cQ K H a xs)
  (hs: ∀ i x σ H T,xs[i]?=some x→H T=none→Pv i σ H→g (.ref T) σ (upd H T (.tup [.int i,x])) fun σ2 H2=>tb {D with nx:=Pv (i+1),ct:=Pv (i+1),bk:=D.nx} σ2 H2) (hd: ∀ σ H,Pv xs.length σ H→D.nx σ H):
  ∃ W:Nat→Nat→L2.St→Hp→Prop,(∃ m,W 0 m σ H)∧∀ i m σ H,W i m σ H→
   ((FY K a).stop i H∧D.nx σ H)∨((FY K a).go i H∧∃ N:L2.St→Hp→Prop,(∀ σ' H',N σ' H'→∃ m',m' < m∧W (i+1) m' σ' H')∧∀ x H',(FY K a).AG i H x H'→g x σ H' fun σ2 H2=>tb {D with nx:=N,ct:=N,bk:=D.nx} σ2 H2):=by
 refine⟨fun i m σ H=>m=xs.length - i∧i≤xs.length∧Pv i σ H,⟨xs.length,by simp,Me _,h0⟩,?_⟩
 rintro i m σ H ⟨rfl,hi,p⟩
 have q:=hl i σ H hi p
 by_cases hlt:i < xs.length
 ·refine .inr ⟨⟨xs,xs[i],q,by simp[hlt]⟩,Pv (i+1),fun σ' H' p'=>⟨xs.length - (i+1),by lia,rfl,hlt,p'⟩,fun x H' y=>?_⟩
  obtain⟨T,rfl,hT,y⟩:=y
  rw[y xs xs[i] q (by simp[hlt])]
  exact hs i _ σ H T (by simp[hlt]) hT p
 ·have e:i=xs.length:=by lia
  subst e
  exact .inl ⟨⟨xs,q,LQ _⟩,hd σ H p⟩
section
variable {X:Cx} {x:Str} {p pos tpos:Pos} {e:Expr} {elts:List Expr} {kk:Nat}
theorem BL {ta:TA} (hg:Gl X x) (hm:X.mg x=none) (hv:bootBuiltins x=some (.type "enumerate")) (ha:PA X [e] ta) (hn:x≠"__name__":=by decide) (hdb:(x==("__debug__":Str))=false:=by decide)
  (he:starEach [e] X.env=(false,eval e X.env)::starEach [] X.env:=by rfl) (hpl:(backTo pos (starEach [] X.env)).any (·.1)=false:=by rfl):PI X (.Tuple elts kk tpos) (.Call (.Name x p) [e] [] pos) (yP X.K ta):=yA hg hm hv ha hn hdb he hpl
end
theorem zB (t:SetTable) (n:Nat):(t.orStandIn n).led=t.led∧(t.plain=false→(t.orStandIn n).plain=false):=by
 unfold SetTable.orStandIn
 split
 ·exact⟨rfl,id⟩
 ·exact⟨rfl,fun _=>rfl⟩
theorem EC (t:SetTable) (es:Array (Int×Value)) (h:Int) (x:Value):(layNew t es h x).2.1.led=t.led∧(t.plain=false→(layNew t es h x).2.1.plain=false):=by
 unfold layNew
 split
 ·exact zB _ _
 ·exact⟨rfl,fun _=>rfl⟩
theorem zK (t:SetTable) (es:Array (Int×Value)) (n:Nat):(relayAll t es n).2.1.led=t.led∧(t.plain=false→(relayAll t es n).2.1.plain=false):=by
 unfold relayAll
 split
 ·rename_i t' order e
  have e':t'.led=t.led∧t'.plain=t.plain:=by
   unfold SetTable.relaid SetTable.laid at e
   cases hl:SetTable.layClean (SetTable.sizeAbove n - 1) (es.map (·.1)) with
   |none=>rw[hl] at e;cases e
   |some ow=>rw[hl] at e;cases e;exact⟨rfl,rfl⟩
  dsimp only
  split
  ·exact⟨e'.1,fun h=>e'.2.trans h⟩
  ·exact⟨rfl,fun _=>rfl⟩
 ·exact⟨rfl,fun _=>rfl⟩
noncomputable def meet (l:List Str) (z:Str):List Str:=if l.any (· ==z) then l else l++[z]
noncomputable def met (zs:List Str):List Str:=zs.foldl meet []
theorem bH:Slot "set_iterator" "__next__" "set_iterator.__next__":=by
 refine .of (owner:="set_iterator") (n:="__next__") ?_ (by decide +kernel) (by decide +kernel) (by decide +kernel) ?_ ?_
 ·rw[typeLookup_type,builtinLookup_eq_fast]
  kernel_rfl
 ·first|exact .inl (by decide +kernel)|exact .inr (by decide +kernel)
 ·rw[isSubtype_type]
  kernel_rfl
theorem fG:entryFor table "set_iterator.__next__"=some Builtin.«set_iterator.__next__»:=by
 first|exact entryFor_of_fast (by kernel_rfl)|exact entryFor_of_tree (by kernel_rfl)
theorem gg (a:Value):argsOk "set_iterator.__next__" ⟨[a],[]⟩:=by
 unfold argsOk
 kernel_rfl
theorem qw:entryFor table "set.__iter__"=some Builtin.«frozenset.__iter__»:=by
 exact entryFor_alias (id':="frozenset.__iter__") (by kernel_rfl) rfl (by decide +kernel) (by kernel_rfl)
noncomputable abbrev lB (first:Value) (i:Nat) (D:Addr) (n ep:Nat):Obj:={cls:=.type "set_iterator",data:=.fields #[first,.int i 0,.ref D,.int n 0,.int ep 0]}
section
variable {prog:Program} {w:World} {A:Around} {E:Value→Shared→Prop} {s:Shared} {I D T:Addr} {o:Obj} {es:Array (Int×Value)} {ep i slot nx:Nat} {t:SetTable} {x:Value} {Q:Option Value→Shared→Prop}
theorem uJ (hI:s.heap.get? I=some (lB (.int slot 0) i D es.size ep)) (hD:s.heap.get? D=some o) (hd:o.data= .set es ep t) (hf:t.fits es.size=true)
  (hN: ∀ {Q':Option (Value×Nat)→Shared→Prop} {E':Value→Shared→Prop},Q' (some (x,nx)) s→wpAny (model prog w) A.in1 (setNext D slot i ep) Q' E' s)
  (hQ: ∀ h',h'.get? I=some (lB (.int nx 0) (i+1) D es.size ep)→Heap.SameBut I s.heap h'→Q (some x) {s with heap:=h'}):wpAny (model prog w) A (pyNext (.ref I)) Q E s:=by
 have hT:s.TypeIs (.ref I) "set_iterator":=⟨_,hI,rfl⟩
 unfold pyNext
 refine LI (wpAny_attempt (wpAny_callSpecial?_slot (name:=Str.ofString "__next__") hT bH (wpAny_call_entry bH hT fG ?_ (gg _))))
 unfold Builtin.«set_iterator.__next__» slotArgs fieldsOf
 show wpAny _ _ (pure (Value.ref I,([]:List Value)) >>= _) _ _ s
 refine LI (LN ?_)
 show wpAny _ _ ((load I >>= _) >>= _) _ _ s
 refine LI (LI (wpAny_load hI (LN ?_)))
 show wpAny _ _ (setEntries D >>= _) _ _ s
 refine LI (PySem.wpAny_setEntries_of hD hd hf ?_)
 dsimp only
 rw[MA (by simp)]
 show wpAny _ _ (setNext D ((slot:Nat):Int).toNat ((i:Nat):Int).toNat ((ep:Nat):Int).toNat >>= _) _ _ s
 simp only[Int.toNat_natCast]
 refine LI (hN ?_)
 show wpAny _ _ (setField (.ref I) 0 (rawInt nx) >>= _) _ _ s
 refine LI (wpAny_setField_rec hI (by simp) fun h1 g1 b1=>?_)
 show wpAny _ _ (setField (.ref I) 1 (rawInt (i+1)) >>= _) _ _ _
 refine LI (wpAny_setField_rec g1 (by simp) fun h2 g2 b2=>?_)
 exact LN ⟨x,rfl,LN (hQ h2 g2 (b1.trans b2))⟩
theorem yn (hh:A.handled=none) (hI:s.heap.get? I=some (lB (.int slot 0) i D es.size ep)) (hD:s.heap.get? D=some o) (hd:o.data= .set es ep t) (hf:t.fits es.size=true)
  (hN: ∀ {Q':Option (Value×Nat)→Shared→Prop} {E':Value→Shared→Prop},Q' none s→wpAny (model prog w) A.in1 (setNext D slot i ep) Q' E' s)
  (hQ: ∀ h',Heap.ExtBut I s.heap h'→Q none {s with heap:=h'}):wpAny (model prog w) A (pyNext (.ref I)) Q E s:=by
 have hT:s.TypeIs (.ref I) "set_iterator":=⟨_,hI,rfl⟩
 unfold pyNext
 refine LI (wpAny_attempt (wpAny_callSpecial?_slot (name:=Str.ofString "__next__") hT bH (wpAny_call_entry bH hT fG ?_ (gg _))))
 unfold Builtin.«set_iterator.__next__» slotArgs fieldsOf
 show wpAny _ _ (pure (Value.ref I,([]:List Value)) >>= _) _ _ s
 refine LI (LN ?_)
 show wpAny _ _ ((load I >>= _) >>= _) _ _ s
 refine LI (LI (wpAny_load hI (LN ?_)))
 show wpAny _ _ (setEntries D >>= _) _ _ s
 refine LI (PySem.wpAny_setEntries_of hD hd hf ?_)
 dsimp only
 rw[MA (by simp)]
 show wpAny _ _ (setNext D ((slot:Nat):Int).toNat ((i:Nat):Int).toNat ((ep:Nat):Int).toNat >>= _) _ _ s
 simp only[Int.toNat_natCast]
 refine LI (hN ?_)
 show wpAny _ _ (setField (.ref I) 2 Value.none >>= _) _ _ s
 refine LI (wpAny_setField_rec hI (by simp) fun h1 g1 b1=>?_)
 show wpAny _ _ (newExc (.type "StopIteration") [] >>= _) _ _ _
 refine LI ?_
 simp only[newExc,newTuple]
 refine LI (wpAny_newObj_type ?_ (by size_fits))
 refine LI (m:=firstArgMember _ _) (wpAny_of_eq (a:=Value.none) (by first|rfl|(simp only[firstArgMember];rfl)) ?_)
 refine wpAny_newObj_type ?_ (by size_fits)
 simp only[raiseNew]
 refine LI (wpAny_handled ?_)
 rw[show A.in1.handled=none from hh]
 refine LI (LN (wpAny_throw ?_))
 refine LI (wpAny_isInstance (T:="StopIteration") (b:=true) ⟨_,LY _ rfl,rfl⟩ isSubtype_stop ?_)
 exact LN (hQ _ ((b1.extBut.push _).push _))
theorem zF {places:Array Value} {j m:Nat} {oT:Obj} (hI:s.heap.get? I=some (lB (.ref T) i D es.size ep)) (hD:s.heap.get? D=some o) (hd:o.data= .set es ep t) (hf:t.fits es.size=true) (hT0:s.heap.get? T=some oT) (hTd:oT.data= .seq places m) (hp:places[i]?=some (.int (j:Nat) 0)) (hx:es[j]?.map (·.2)=some x)
  (hQ: ∀ h',h'.get? I=some (lB (.ref T) (i+1) D es.size ep)→Heap.SameBut I s.heap h'→Q (some x) {s with heap:=h'}):wpAny (model prog w) A (pyNext (.ref I)) Q E s:=by
 have hT:s.TypeIs (.ref I) "set_iterator":=⟨_,hI,rfl⟩
 unfold pyNext
 refine LI (wpAny_attempt (wpAny_callSpecial?_slot (name:=Str.ofString "__next__") hT bH (wpAny_call_entry bH hT fG ?_ (gg _))))
 unfold Builtin.«set_iterator.__next__» slotArgs fieldsOf
 show wpAny _ _ (pure (Value.ref I,([]:List Value)) >>= _) _ _ s
 refine LI (LN ?_)
 show wpAny _ _ ((load I >>= _) >>= _) _ _ s
 refine LI (LI (wpAny_load hI (LN ?_)))
 show wpAny _ _ (setEntries D >>= _) _ _ s
 refine LI (PySem.wpAny_setEntries_of hD hd hf ?_)
 dsimp only
 rw[MA (by simp)]
 show wpAny _ _ (seqItems? (.ref T) >>= _) _ _ s
 refine LI (wpAny_seqItems hT0 hTd ?_)
 simp only[Int.toNat_natCast,hp]
 show wpAny _ _ (setNextDrawn D _ _ >>= _) _ _ s
 refine LI ?_
 unfold setNextDrawn
 refine LI (PySem.wpAny_setState_of hD hd hf ?_)
 cases hj:es[j]? with
 |none=>rw[hj] at hx;cases hx
 |some e=>
  rw[hj] at hx
  cases hx
  simp only[Int.toNat_natCast,bne_self_eq_false,Mt,if_false,hj]
  refine LN ?_
  show wpAny _ _ (setField (.ref I) 1 (rawInt (i+1)) >>= _) _ _ _
  refine LI (wpAny_setField_rec hI (by simp) fun h2 g2 b2=>?_)
  exact LN ⟨e.2,rfl,LN (hQ h2 g2 b2)⟩
theorem Bi {places:Array Value} {m:Nat} {oT:Obj} (hh:A.handled=none) (hI:s.heap.get? I=some (lB (.ref T) i D es.size ep)) (hD:s.heap.get? D=some o) (hd:o.data= .set es ep t) (hf:t.fits es.size=true) (hT0:s.heap.get? T=some oT) (hTd:oT.data= .seq places m) (hp:places[i]?=none)
  (hQ: ∀ h',Heap.ExtBut I s.heap h'→Q none {s with heap:=h'}):wpAny (model prog w) A (pyNext (.ref I)) Q E s:=by
 have hT:s.TypeIs (.ref I) "set_iterator":=⟨_,hI,rfl⟩
 unfold pyNext
 refine LI (wpAny_attempt (wpAny_callSpecial?_slot (name:=Str.ofString "__next__") hT bH (wpAny_call_entry bH hT fG ?_ (gg _))))
 unfold Builtin.«set_iterator.__next__» slotArgs fieldsOf
 show wpAny _ _ (pure (Value.ref I,([]:List Value)) >>= _) _ _ s
 refine LI (LN ?_)
 show wpAny _ _ ((load I >>= _) >>= _) _ _ s
 refine LI (LI (wpAny_load hI (LN ?_)))
 show wpAny _ _ (setEntries D >>= _) _ _ s
 refine LI (PySem.wpAny_setEntries_of hD hd hf ?_)
 dsimp only
 rw[MA (by simp)]
 show wpAny _ _ (seqItems? (.ref T) >>= _) _ _ s
 refine LI (wpAny_seqItems hT0 hTd ?_)
 simp only[Int.toNat_natCast,hp]
 show wpAny _ _ (setField (.ref I) 0 (rawInt 0) >>= _) _ _ s
 refine LI (wpAny_setField_rec hI (by simp) fun h0 g0 b0=>?_)
 show wpAny _ _ (setField (.ref I) 2 Value.none >>= _) _ _ _
 refine LI (wpAny_setField_rec g0 (by simp) fun h1 g1 b1=>?_)
 show wpAny _ _ (newExc (.type "StopIteration") [] >>= _) _ _ _
 refine LI ?_
 simp only[newExc,newTuple]
 refine LI (wpAny_newObj_type ?_ (by size_fits))
 refine LI (m:=firstArgMember _ _) (wpAny_of_eq (a:=Value.none) (by first|rfl|(simp only[firstArgMember];rfl)) ?_)
 refine wpAny_newObj_type ?_ (by size_fits)
 simp only[raiseNew]
 refine LI (wpAny_handled ?_)
 rw[show A.in1.handled=none from hh]
 refine LI (LN (wpAny_throw ?_))
 refine LI (wpAny_isInstance (T:="StopIteration") (b:=true) ⟨_,LY _ rfl,rfl⟩ isSubtype_stop ?_)
 exact LN (hQ _ (((b0.trans b1).extBut.push _).push _))
end
theorem lF:Slot "set_iterator" "__iter__" "set_iterator.__iter__":=by
 refine .of (owner:="set_iterator") (n:="__iter__") ?_ (by decide +kernel) (by decide +kernel) (by decide +kernel) ?_ ?_
 ·rw[typeLookup_type,builtinLookup_eq_fast]
  kernel_rfl
 ·first|exact .inl (by decide +kernel)|exact .inr (by decide +kernel)
 ·rw[isSubtype_type]
  kernel_rfl
theorem qv:entryFor table "set_iterator.__iter__"=some Builtin.«dict_keyiterator.__iter__»:=by
 exact entryFor_alias (id':="dict_keyiterator.__iter__") (by kernel_rfl) rfl (by decide +kernel) (by kernel_rfl)
theorem rn (a:Value):argsOk "set_iterator.__iter__" ⟨[a],[]⟩:=by
 unfold argsOk
 kernel_rfl
theorem lR {α:Type}: ∀ (l:List α) (i:Nat) (x:α),l[i]?=some x→(x::l.eraseIdx i).Perm l
 |[],i,x,h=>by simp at h
 |y::l,0,x,h=>by simp at h;subst h;exact .rfl
 |y::l,i+1,x,h=>by
  simp only[LZ] at h
  exact(List.Perm.swap y x _).trans ((lR l i x h).cons y)
theorem rN {α:Type} (next:Nat→Nat): ∀ (n k:Nat) (l:List α) (out:Array α),l.length=n→(pickOrder.go next n k l out).toList.Perm (out.toList++l)
 |0,k,l,out,h=>by
  have:l=[]:=Mp h
  subst this
  simp[pickOrder.go]
 |n+1,k,l,out,h=>by
  unfold pickOrder.go
  have hl:next k % l.length < l.length:=Nat.mod_lt _ (by lia)
  have e:l[next k % l.length]?=some l[next k % l.length]:=LH hl
  rw[e]
  dsimp only
  refine(rN next n (k+1) (l.eraseIdx (next k % l.length)) _ (by rw[List.length_eraseIdx];split<;>lia)).trans ?_
  rw[Array.toList_push,List.append_assoc]
  exact(lR l _ _ e).append_left _
section
variable {prog:Program} {w:World} {A:Around} {E:Value→Shared→Prop}
theorem Dr {n:Nat} {Q:Nat→Shared→Prop} {s:Shared} (hn:0 < n) (h: ∀ (j:Nat) d',j < n→Q j {s with drawn:=d'}):wpAny (model prog w) A (choose .order n) Q E s:=fun Γ p hΓ=>by
 unfold choose
 rw[Sem.wp_choose]
 exact⟨by lia,h _ _ (Nat.mod_lt _ hn)⟩
theorem sD {α:Type}: ∀ (n:Nat) (l:List α) (s:Shared) (Q:List α→Shared→Prop),l.length=n→(∀ (ys:List α) d',ys.Perm l→Q ys {s with drawn:=d'})→wpAny (model prog w) A (drawOrder n l) Q E s
 |0,l,s,Q,hl,h=>by
  have:l=[]:=Mp hl
  subst this
  exact LN (h [] s.drawn .rfl)
 |n+1,[],s,Q,hl,h=>by cases hl
 |n+1,y::l,s,Q,hl,h=>by
  unfold drawOrder
  refine LI (Dr (by simp) fun j d' hj=>?_)
  have e:(y::l)[j]?=some (y::l)[j]:=LH hj
  rw[e]
  dsimp only
  refine LI (sD n _ _ _ (by rw[List.length_eraseIdx];split<;>lia) fun ys d2 hp=>?_)
  exact LN (h _ d2 ((hp.cons _).trans (lR _ _ _ e)))
theorem pQ {s:Shared} {I D:Addr} {first:Value} {i n ep:Nat} {Q:Value→Shared→Prop} (hI:s.heap.get? I=some (lB first i D n ep)) (h:Q (.ref I) s):wpAny (model prog w) A (pyIter (.ref I)) Q E s:=by
 have hT:s.TypeIs (.ref I) "set_iterator":=⟨_,hI,rfl⟩
 refine wpAny_pyIter_slot hT lF (wpAny_call_entry lF hT qv ?_ (rn _))
 show wpAny _ _ (ret (.ref I)) _ _ s
 exact LN ⟨_,rfl,"set_iterator",_,hT,bH.lookup,h⟩
theorem Iq {I D T:Addr} {o oT:Obj} {es:Array (Int×Value)} {ep m:Nat} {t:SetTable} {ps:List Nat} (hh:A.handled=none) (hID:I≠D) (hIT:I≠T) (hd:o.data= .set es ep t) (hf:t.fits es.size=true) (hTd:oT.data= .seq (ps.map fun (j:Nat)=>rawInt j).toArray m) (hps: ∀ j∈ps,j < es.size):
  Walks prog w A I [I,D,T] [I] ps.length (fun i v=>(ps.map fun j=>(es[j]?.map (·.2)).getD .none)[i]?=some v) (fun i h=>h.get? I=some (lB (.ref T) i D es.size ep)∧h.get? D=some o∧h.get? T=some oT) where
 sub:=fun c hc=>by simp at hc;simp[hc]
 frame:=fun i h h' st k=>⟨k I (by simp) _ st.1,k D (by simp) _ st.2.1,k T (by simp) _ st.2.2⟩
 item:=fun i s Q E hi st hQ=>by
  have hj:=hps ps[i] (Mu hi)
  refine zF (x:=(es[ps[i]]).2) (j:=ps[i]) st.1 st.2.1 hd hf st.2.2 hTd ?_ ?_ fun h' g sb=>?_
  ·simp[LH hi,rawInt]
  ·rw[Md hj];rfl
  ·refine hQ _ h' s.toks ?_ ⟨g,(sb.2 D hID.symm).trans st.2.1,(sb.2 T hIT.symm).trans st.2.2⟩ fun c u hc e=>(sb.2 c fun z=>hc (by simp[z])).trans e
   simp[LH hi,Md hj]
 done:=fun s Q E st hQ=>by
  refine Bi hh st.1 st.2.1 hd hf st.2.2 hTd (by simp) fun h' eb=>?_
  exact hQ h' s.toks fun c u hc e=>eb c u (fun z=>hc (by simp[z])) e
 self:=fun i s Q E st hQ=>pQ st.1 hQ
end
section
variable {prog:Program} {w:World} {A:Around} {E:Value→Shared→Prop} {s:Shared} {I D:Addr} {o:Obj} {es:Array (Int×Value)} {ep:Nat} {t:SetTable}
theorem kR {Q:Bool→Shared→Prop} (h:Q (w.params.followText "set-order") s):wpAny (model prog w) A setsByText Q E s:=by
 unfold setsByText
 exact LI (wpAny_askSetting (LN h))
theorem nextT {slot i:Nat} (hb:w.params.followText "set-order"=true) (hD:s.heap.get? D=some o) (hd:o.data= .set es ep t) (hf:t.fits es.size=true) {Q:Option (Value×Nat)→Shared→Prop} (h:Q (((pickOrder (w.params.setOrder D ep) es)[i]?).map fun e=>(e.2,slot)) s):wpAny (model prog w) A (setNext D slot i ep) Q E s:=by
 unfold setNext
 refine LI (PySem.wpAny_setState_of hD hd hf ?_)
 dsimp only
 refine LI (kR ?_)
 rw[hb,Mz rfl,MA (by simp)]
 refine LI ?_
 unfold setWalk
 refine LI (PySem.wpAny_setState_of hD hd hf ?_)
 dsimp only
 refine LI (kR ?_)
 rw[hb,Mz rfl]
 refine LI (wpAny_askSetting (LN ?_))
 exact LN h
theorem rO (next:Nat→Nat) (es:Array (Int×Value)):(pickOrder next es).toList.Perm es.toList:=by
 have:=rN next es.size 0 es.toList #[] (by simp)
 simpa[pickOrder] using this
theorem nK (next:Nat→Nat) (es:Array (Int×Value)):(pickOrder next es).size=es.size:=by
 have:=(rO next es).length_eq
 simpa using this
theorem Io (hh:A.handled=none) (hID:I≠D) (hb:w.params.followText "set-order"=true) (hd:o.data= .set es ep t) (hf:t.fits es.size=true):
  Walks prog w A I [I,D] [I] es.size (fun i v=>((pickOrder (w.params.setOrder D ep) es).toList.map (·.2))[i]?=some v) (fun i h=>h.get? I=some (lB (.int (0:Nat) 0) i D es.size ep)∧h.get? D=some o) where
 sub:=fun c hc=>by simp at hc;simp[hc]
 frame:=fun i h h' st k=>⟨k I (by simp) _ st.1,k D (by simp) _ st.2⟩
 item:=fun i s Q E hi st hQ=>by
  have hz:=nK (w.params.setOrder D ep) es
  have e:(pickOrder (w.params.setOrder D ep) es)[i]?=some (pickOrder (w.params.setOrder D ep) es)[i]:=Md (by lia)
  refine uJ (x:=(pickOrder (w.params.setOrder D ep) es)[i].2) (nx:=0) st.1 st.2 hd hf (fun {Q' E'} h=>nextT hb st.2 hd hf (by rw[e];exact h)) fun h' g sb=>?_
  refine hQ _ h' s.toks ?_ ⟨g,(sb.2 D hID.symm).trans st.2⟩ fun c u hc e=>(sb.2 c fun z=>hc (by simp[z])).trans e
  rw[L5,Array.getElem?_toList,e]
  rfl
 done:=fun s Q E st hQ=>by
  have hz:=nK (w.params.setOrder D ep) es
  refine yn hh st.1 st.2 hd hf (fun {Q' E'} h=>nextT hb st.2 hd hf (by rw[Array.getElem?_eq_none (by lia)];exact h)) fun h' eb=>?_
  exact hQ h' s.toks fun c u hc e=>eb c u (fun z=>hc (by simp[z])) e
 self:=fun i s Q E st hQ=>pQ st.1 hQ
def FZ (prog:Program) (w:World) (A:Around) (es:Array (Int×Value)) (D I:Addr) (h:Heap) (z:Nat):Prop:=
 ∃ (out:List Value) (fp:List Addr) (Sx:Nat→Heap→Prop),out.Perm (es.toList.map (·.2))∧Walks prog w A I fp [I] out.length (fun i v=>out[i]?=some v) Sx∧Sx 0 h∧∀ c∈fp,c=D∨z≤c
end
noncomputable abbrev E4 (w:World):Bool:=w.params.followText "set-order"
theorem pR:typeLookup (.type "set") "__len__"=pure (some (.builtin "set.__len__")):=by
 rw[typeLookup_type,builtinLookup_eq_fast]
 kernel_rfl
theorem Inv.Js {X:Cx} {pins:List (Addr×Obj)} {σ:St} {H:Hp} {s:Shared} {h':Heap} {t':Nat} {d':Drawn} (I:Inv X pins σ H s) (k: ∀ b u,s.heap.get? b=some u→h'.get? b=some u):Inv X pins σ H {s with heap:=h',drawn:=d',toks:=t'}:=by
 refine I.step (g':=s.gens) (ch:=[]) (fun _ z=>nomatch z) (fun b u _ _ _ e _=>k b u e) (fun b u _ _ _ e _=>⟨u.slots,k b u e⟩) (fun b u _ e n=>n) (fun b u _ e=>⟨u,k b u e⟩) (fun b xs e=>e) (fun b ob u e=>e) (fun b ps e=>⟨#[],by rw[e];simp⟩) (fun m hm=>?_) (I.bE.kept k) I.bare
 obtain⟨ob,es,ep,ho,r⟩:=hm
 exact⟨ob,es,ep,k _ ob ho,r⟩
mutual
noncomputable def toD:PV→Option PyData
 | .aW=>some .none
 | .bl b=>some (.bool b)
 | .int i=>some (.int i)
 | .str x=>some (.str x)
 | .tup l=>(nu l).map .tuple
 | .lst l=>(nu l).map .list
 |_=>none
noncomputable def nu:List PV→Option (List PyData)
 |[]=>some []
 |y::l=>(toD y).bind fun d=>(nu l).map (d:: ·)
end
theorem nG {h:Heap}: ∀ (l:List PV) (xs:List V) (its:List Value) (ds:List PyData),l.length=xs.length→(∀ (i:Nat) (y:PV) (x:V),l[i]?=some y→xs[i]?=some x→∀ v d,RelV x v→toD y=some d→∃ as,Reads h v d as)→Vals xs its→nu l=some ds→∃ as,ReadsAll h its ds as
 |[],[],_,ds,_,_,.nil,e=>by
  simp only[nu] at e
  cases e
  exact⟨_,.nil⟩
 |y::l,x::xs,_,ds,hl,ih,.cons r rs,e=>by
  simp only[nu] at e
  cases e1:toD y with
  |none=>rw[e1] at e;cases e
  |some d=>
   rw[e1] at e
   cases e2:nu l with
   |none=>rw[e2] at e;cases e
   |some dl=>
    rw[e2] at e
    cases e
    obtain⟨as,r1⟩:=ih 0 y x rfl rfl _ d r e1
    obtain⟨bs,r2⟩:=nG l xs _ dl (by simpa using hl) (fun i y' x' hy hx=>ih (i+1) y' x' hy hx) rs e2
    exact⟨_,.cons r1 r2⟩
 |[],_::_,_,_,hl,_,_,_=>by cases hl
 |_::_,[],_,_,hl,_,_,_=>by cases hl
theorem Bo {P:Program} {w:World} {B:Addr} {O:Addr→Prop} {H:Hp} {h:Heap} (ok:kP P w H h) {y:PV} {x:V} (r:Rep B O H y x): ∀ v d,RelV x v→toD y=some d→∃ as,Reads h v d as:=by
 induction r with
 |aW=>
  intro v d rv e
  simp only[toD] at e
  cases e
  cases rv
  exact⟨_,.none⟩
 |bl b=>
  intro v d rv e
  simp only[toD] at e
  cases e
  cases rv
  exact⟨_,.bool b⟩
 |int i=>
  intro v d rv e
  simp only[toD] at e
  cases e
  obtain⟨t,rfl⟩:=rv
  exact⟨_,.int i t⟩
 |str z=>
  intro v d rv e
  simp only[toD] at e
  cases e
  obtain⟨t,rfl⟩:=rv
  exact⟨_,.str z t⟩
 |tup hO hp hl hr ih=>
  intro v d rv e
  simp only[toD] at e
  obtain⟨ds,e1,rfl⟩:=Ma.mp e
  cases rv
  obtain⟨_,its,rs,o,ho,hc,n,hd⟩:=ok _ _ hp
  obtain⟨as,ra⟩:=nG _ _ its ds hl ih rs e1
  exact⟨_,.tuple ho hc hd (by simpa using ra)⟩
 |lst hO hp hl hr ih=>
  intro v d rv e
  simp only[toD] at e
  obtain⟨ds,e1,rfl⟩:=Ma.mp e
  cases rv
  obtain⟨_,its,n,rs,ho⟩:=ok _ _ hp
  obtain⟨as,ra⟩:=nG _ _ its ds hl ih rs e1
  exact⟨_,.list ho rfl rfl (by simpa using ra)⟩
 |fz hO hp hk hr ih=>
  intro v d rv e
  simp only[toD] at e
  cases e
 |sX hO hp=>
  intro v d rv e
  simp only[toD] at e
  cases e
 |bQ=>
  intro v d rv e
  simp only[toD] at e
  cases e
section
variable {X:Cx}
def kl (d:PyData):Prop:=d.showable=true∧d.hasDict=false∧d.shown.length≤1000000∧d.depth≤40
def Gz:List V→Hp→VK→Prop:=fun xs H Q=> ∃ (B:Addr) (O:Addr→Prop) (l:List PV) (x:V) (d:PyData),xs=[x]∧Rep B O H (.tup l) x∧toD (.tup l)=some d∧kl d∧Q (.str d.shown) H
theorem xM (hg:X.A.guards=some []) (hu:X.A.units+64 < cLine):iy X (.builtin "repr") Gz:=by
 intro pins s σ H xs us Q I r h
 obtain⟨B,O,l,x,d,rfl,rp,hd,⟨h1,h2,h3,h4⟩,q⟩:=h
 obtain⟨u,rfl,rx⟩:=vals1 r
 obtain⟨as,rd⟩:=Bo I.bE rp u d rx hd
 simp only[toD] at hd
 obtain⟨ds,e1,rfl⟩:=Ma.mp hd
 have hz:(PyData.tuple ds).shown.length≤sizeLine:=by rw[Mq];lia
 have rd0:=rd
 cases rd with
 |tuple g1 g2 g3 g4=>
  rename_i a o vs n
  have hz':(tupleText (PyData.shownAll ds)).length≤sizeLine:=by simpa only[PyData.shown] using hz
  obtain⟨bs,hb,hk⟩:=ReprAllK.of_readsAll (prog:=X.prog) (w:=X.w) g4 (by simpa[PyData.showable] using h1) (fun hx=>absurd hx (by simpa[PyData.hasDict] using h2)) (fun t ht=>L6 (tupleText_mem_le ht) hz')
  have hna:a∉bs:=not_mem_of_deeper rd0 (by simp only[PyData.depth];lia) hb
  simp only[PyData.depth] at h4
  refine call_repr_slot (by lia) ⟨o,g1,g2⟩ PySem.F.slot_tuple_repr ?_
  refine call_tuple_reprK (h₀:=s.heap) g1 g2 g3 hna hk (g:=[]) (by first|exact hg|simpa[Around.in1] using hg) (fun b _=>Clear.nil b) (by show X.A.units+1+_ < cLine;lia) (fun _ _ e=>e) (fun h' u tk k=>⟨_,_,rfl,?_⟩) hz'
  exact⟨.str _,H,I.kept k,⟨_,rfl⟩,by simpa only[PyData.shown] using q⟩
end
instance (d:PyData):Decidable (kl d):=by unfold kl;infer_instance
section
open PySem.W (KasT kas_rev kas_asc kas_desc kas_tail3 kas_descPart kas_count kas_place kas_bin kas_sort)
section
variable (r:Nat→Int)
noncomputable def runK {α:Type}:KasT α→α
 | .ret a=>a
 | .ask i j k=>runK (k (decide (r i < r j)))
theorem run_bind {α β:Type} (f:α→KasT β): ∀ t:KasT α,runK r (t.bind f)=runK r (f (runK r t))
 | .ret a=>rfl
 | .ask i j k=>run_bind f (k (decide (r i < r j)))
theorem yr {α:Type} {c:Prop} [Decidable c] (a b:KasT α):runK r (if c then a else b)=if c then runK r a else runK r b:=by split<;>rfl
noncomputable def kg (p:Array Nat) (k:Nat):Int:=r (p.getD k 0)
def wx (p:Array Nat) (m:Nat):Prop:= ∀ i j,i < j→j < m→kg r p i < kg r p j
def Dn (p:Array Nat):Prop:= ∀ i j,i < p.size→j < p.size→i≠j→kg r p i≠kg r p j
variable {r}
theorem AR {p:Array Nat} {n:Nat} (h1:1≤n) (h:wx r p n) (h':kg r p (n - 1) < kg r p n):wx r p (n+1):=fun i j hij hj=>by
 by_cases e:j=n
 ·subst e
  by_cases e2:i=j - 1
  ·subst e2;exact h'
  ·exact Int.lt_trans (h i (j - 1) (by lia) (by lia)) h'
 ·exact h i j hij (by lia)
theorem xR {p:Array Nat} (u:Dn r p): ∀ (f n:Nat),1≤n→n+f≤p.size→wx r p n→∃ m,runK r (kas_asc p f n)=m∧n≤m∧m≤n+f∧wx r p m∧(m < n+f→kg r p m < kg r p (m - 1))
 |0,n,h1,hz,h=>⟨n,rfl,by lia,by lia,h,fun z=>by lia⟩
 |f+1,n,h1,hz,h=>by
  unfold kas_asc
  show ∃ m,runK r (if decide (r (p.getD n 0) < r (p.getD (n - 1) 0))=true then KasT.ret n else kas_asc p f (n+1))=m∧_
  by_cases c:r (p.getD n 0) < r (p.getD (n - 1) 0)
  ·rw[Mz (by simpa using c)]
   exact⟨n,rfl,by lia,by lia,h,fun _=>c⟩
  ·rw[MA (by simpa using c)]
   have ne:=u (n - 1) n (by lia) (by lia) (by lia)
   have lt:kg r p (n - 1) < kg r p n:=by
    have: ¬ kg r p n < kg r p (n - 1):=c
    lia
   obtain⟨m,e,a1,a2,a3,a4⟩:=xR u f (n+1) (by lia) (by lia) (AR h1 h lt)
   exact⟨m,e,by lia,by lia,a3,fun z=>a4 (by lia)⟩
def JV (r:Nat→Int) (p:Array Nat) (m:Nat):Prop:= ∀ i j,i < j→j < m→kg r p j < kg r p i
theorem vR {p:Array Nat} {n:Nat} (h1:1≤n) (h:JV r p n) (h':kg r p n < kg r p (n - 1)):JV r p (n+1):=fun i j hij hj=>by
 by_cases e:j=n
 ·subst e
  by_cases e2:i=j - 1
  ·subst e2;exact h'
  ·exact Int.lt_trans h' (h i (j - 1) (by lia) (by lia))
 ·exact h i j hij (by lia)
theorem y0 {p:Array Nat} (u:Dn r p): ∀ (f n:Nat),1≤n→n+f≤p.size→JV r p n→∃ m,runK r (kas_desc f p n 0)=(p,m,0)∧n≤m∧m≤n+f∧JV r p m
 |0,n,h1,hz,h=>⟨n,rfl,by lia,by lia,h⟩
 |f+1,n,h1,hz,h=>by
  unfold kas_desc
  by_cases c:r (p.getD n 0) < r (p.getD (n - 1) 0)
  ·obtain⟨m,e,a1,a2,a3⟩:=y0 u f (n+1) (by lia) (by lia) (vR h1 h c)
   refine⟨m,?_,by lia,by lia,a3⟩
   show runK r (if decide (r (p.getD n 0) < r (p.getD (n - 1) 0))=true then _ else _)=_
   rw[Mz (by simpa using c),MA (by lia)]
   exact e
  ·have ne:=u (n - 1) n (by lia) (by lia) (by lia)
   have lt:r (p.getD (n - 1) 0) < r (p.getD n 0):=by
    have n1: ¬ kg r p n < kg r p (n - 1):=c
    have n2:kg r p (n - 1) < kg r p n:=by lia
    exact n2
   refine⟨n,?_,by lia,by lia,h⟩
   show runK r (if decide (r (p.getD n 0) < r (p.getD (n - 1) 0))=true then _ else _)=_
   rw[MA (by simpa using c)]
   show runK r (if decide (r (p.getD (n - 1) 0) < r (p.getD n 0))=true then _ else _)=_
   rw[Mz (by simpa using lt)]
   rfl
theorem Gy {p:Array Nat} {m k:Nat} (hm:m≤p.size):(kas_rev p 0 m).getD k 0=if k < m then p.getD (m - 1 - k) 0 else p.getD k 0:=by
 have e:=getElem?_mirror_all (xs:=p) (i:=0) (j:=m) hm k
 unfold kas_rev
 rw[L8,e]
 by_cases c:k < m
 ·rw[Mz ⟨Me _,c⟩,Mz c,L8]
  congr 2
  lia
 ·rw[MA (fun z=>c z.2),MA c,L8]
theorem tf {p:Array Nat} {m:Nat} (hm:m≤p.size) (k:Nat):kg r (kas_rev p 0 m) k=if k < m then kg r p (m - 1 - k) else kg r p k:=by
 unfold kg
 rw[Gy hm]
 by_cases c:k < m
 ·rw[Mz c,Mz c]
 ·rw[MA c,MA c]
theorem yv {p:Array Nat} {m:Nat} (hm:m≤p.size) (u:Dn r p):Dn r (kas_rev p 0 m):=fun i j hi hj ne=>by
 have hz:(kas_rev p 0 m).size=p.size:=mirror_size _ _ _ _
 rw[hz] at hi hj
 rw[tf hm,tf hm]
 split<;>split
 ·exact u _ _ (by lia) (by lia) (by lia)
 ·exact u _ _ (by lia) (by lia) (by lia)
 ·exact u _ _ (by lia) (by lia) (by lia)
 ·exact u _ _ hi hj ne
theorem DP {p:Array Nat} {m:Nat} (hm:m≤p.size) (h:JV r p m):wx r (kas_rev p 0 m) m:=fun i j hij hj=>by
 rw[tf hm,tf hm,Mz (by lia),Mz hj]
 exact h (m - 1 - j) (m - 1 - i) (by lia) (by lia)
theorem count_is {p:Array Nat} (u:Dn r p) (h2:1≤p.size): ∃ m p',runK r (kas_count p.size p)=(m,p')∧1≤m∧m≤p.size∧p'.size=p.size∧p'.Perm p∧Dn r p'∧wx r p' m:=by
 unfold kas_count
 rw[run_bind]
 obtain⟨n,e,a1,a2,a3,a4⟩:=xR u (p.size - 1) 1 (by lia) (by lia) (fun i j hij hj=>by lia)
 rw[e]
 by_cases c1:n=p.size
 ·rw[Mz (by simpa using c1)]
  exact⟨n,p,rfl,a1,by lia,rfl,.refl _,u,a3⟩
 ·rw[MA (by simpa using c1)]
  by_cases c2:n > 1
  ·rw[Mz c2]
   have lt:r (p.getD 0 0) < r (p.getD (n - 1) 0):=a3 0 (n - 1) (by lia) (by lia)
   refine⟨n,p,?_,a1,by lia,rfl,.refl _,u,a3⟩
   show runK r (if decide (r (p.getD 0 0) < r (p.getD (n - 1) 0))=true then _ else _)=_
   rw[Mz (by simpa using lt)]
   rfl
  ·rw[MA c2]
   have en:n=1:=by lia
   subst en
   have lt:=a4 (by lia)
   unfold kas_descPart
   rw[run_bind]
   obtain⟨m,e2,b1,b2,b3⟩:=y0 u (p.size - (1+1)) (1+1) (by lia) (by lia) (vR (LQ 1) (fun i j hij hj=>by lia) lt)
   rw[e2]
   rw[MA (by show ¬ (0 > 0);lia)]
   unfold kas_tail3
   rw[run_bind]
   have hz:(kas_rev p 0 m).size=p.size:=mirror_size _ _ _ _
   obtain⟨m',e3,d1,d2,d3,d4⟩:=xR (yv (m:=m) (by lia) u) (p.size - m) m (by lia) (by rw[hz];lia) (DP (by lia) b3)
   rw[e3]
   exact⟨m',kas_rev p 0 m,rfl,by lia,by lia,hz,mirror_perm _ _ _ _,yv (by lia) u,d3⟩
theorem pV {p:Array Nat} {k:Nat} (u:Dn r p) (hk:k < p.size) (h:wx r p k): ∀ (f l q:Nat),q≤l+f→q≤k→l≤q→(∀ i,i < l→kg r p i < kg r p k)→(∀ i,q≤i→i < k→kg r p k < kg r p i)→∃ m,runK r (kas_place p k f l q)=m∧m≤k∧(∀ i,i < m→kg r p i < kg r p k)∧∀ i,m≤i→i < k→kg r p k < kg r p i
 |0,l,q,hf,hq,hl,lo,hi=>⟨l,rfl,by lia,lo,fun i h1 h2=>hi i (by lia) h2⟩
 |f+1,l,q,hf,hq,hl,lo,hi=>by
  unfold kas_place
  rw[yr]
  by_cases c:l ≥ q
  ·rw[Mz c]
   exact⟨l,rfl,by lia,lo,fun i h1 h2=>hi i (by lia) h2⟩
  ·rw[MA c]
   show ∃ m,runK r (if decide (r (p.getD k 0) < r (p.getD ((l+q) / 2) 0))=true then _ else _)=m∧_
   have hmid:(l+q) / 2 < q:=by lia
   by_cases d:r (p.getD k 0) < r (p.getD ((l+q) / 2) 0)
   ·rw[Mz (by simpa using d)]
    refine pV u hk h f l ((l+q) / 2) (by lia) (by lia) (by lia) lo fun i h1 h2=>?_
    by_cases e:i=(l+q) / 2
    ·subst e;exact d
    ·exact Int.lt_trans d (h _ i (by lia) h2)
   ·rw[MA (by simpa using d)]
    have ne:=u ((l+q) / 2) k (by lia) hk (by lia)
    have lt:kg r p ((l+q) / 2) < kg r p k:=by
     have d': ¬ kg r p k < kg r p ((l+q) / 2):=d
     lia
    refine pV u hk h f ((l+q) / 2+1) q (by lia) hq (by lia) (fun i h1=>?_) hi
    by_cases e:i=(l+q) / 2
    ·subst e;exact lt
    ·exact Int.lt_trans (h i _ (by lia) (by lia)) lt
theorem HA {p:Array Nat} {k l i:Nat} (hk:k < p.size) (hl:l≤k):kg r (bubble p k (k - l)) i=if i=l then kg r p k else if l < i∧i≤k then kg r p (i - 1) else kg r p i:=by
 have e:=getElem?_bubble (xs:=p) hk (k - l) (by lia) i
 unfold kg
 rw[L8,e,show k - (k - l)=l by lia]
 by_cases c1:i=l
 ·rw[Mz c1,Mz c1,L8]
 ·rw[MA c1,MA c1]
  by_cases c2:l < i∧i≤k
  ·rw[Mz c2,Mz c2,L8]
  ·rw[MA c2,MA c2,L8]
theorem C8: ∀ (f:Nat) (p:Array Nat) (k:Nat),k+f=p.size→Dn r p→wx r p k→∃ p',runK r (kas_bin f p k)=p'∧p'.size=p.size∧p'.Perm p∧wx r p' p.size
 |0,p,k,hz,u,h=>⟨p,rfl,rfl,.refl _,by rw[←hz];exact h⟩
 |f+1,p,k,hz,u,h=>by
  unfold kas_bin
  rw[run_bind]
  obtain⟨l,e,a1,a2,a3⟩:=pV u (show k < p.size by lia) h k 0 k (by lia) (LQ _) (Me _) (fun i hi=>by lia) (fun i h1 h2=>by lia)
  rw[e]
  have hb:(bubble p k (k - l)).size=p.size:=bubble_size _ _ _
  have at_:=fun i=>HA (r:=r) (p:=p) (k:=k) (l:=l) (i:=i) (by lia) a1
  have u':Dn r (bubble p k (k - l)):=fun i j hi hj ne=>by
   rw[hb] at hi hj
   rw[at_ i,at_ j]
   repeat' split
   all_goals first|(exfalso;lia)|exact u _ _ (by lia) (by lia) (by lia)
  have h':wx r (bubble p k (k - l)) (k+1):=fun i j hij hj=>by
   rw[at_ i,at_ j]
   repeat' split
   all_goals first|(exfalso;lia)|exact a2 _ (by lia)|exact a3 _ (by lia) (by lia)|exact h _ _ (by lia) (by lia)
  obtain⟨p',e',b1,b2,b3⟩:=C8 f (bubble p k (k - l)) (k+1) (by rw[hb];lia) u' h'
  exact⟨p',e',b1.trans hb,b2.trans (bubble_perm _ _ _),by rw[hb] at b3;exact b3⟩
theorem DF {n:Nat} (hn:1≤n) (u: ∀ i j,i < n→j < n→i≠j→r i≠r j): ∃ p,runK r (kas_sort n)=p∧p.size=n∧p.Perm (List.toArray (List.range n))∧wx r p n:=by
 have hz:(List.toArray (List.range n)).size=n:=by simp
 have u0:Dn r (List.toArray (List.range n)):=fun i j hi hj ne=>by
  rw[hz] at hi hj
  unfold kg
  have e: ∀ k,k < n→(List.toArray (List.range n)).getD k 0=k:=fun k hk=>by
   rw[L8]
   simp[hk]
  rw[e i hi,e j hj]
  exact u i j hi hj ne
 unfold kas_sort
 rw[run_bind]
 obtain⟨m,p',e,a1,a2,a3,a4,a5,a6⟩:=count_is u0 (by rw[hz];exact hn)
 rw[hz] at e a2 a3
 rw[e]
 dsimp only
 rw[yr]
 by_cases c:m < n
 ·rw[Mz c,Nat.max_eq_left a1]
  obtain⟨p2,e2,b1,b2,b3⟩:=C8 (n - m) p' m (by lia) a5 a6
  rw[a3] at b1 b3
  exact⟨p2,e2,b1,b2.trans a4,b3⟩
 ·rw[MA c]
  have:m=n:=by lia
  subst this
  exact⟨p',rfl,a3,a4,a6⟩
end
end
def Dq (h:Heap) (mg:Str→Option Value):Prop:= ∃ bm ob,mg "__builtins__"=some (.ref bm)∧bm≠builtinsNs∧h.get? bm=some ob∧ob.cls= .type "module"∧ob.dict=some builtinsNs∧ob.data= .plain
noncomputable abbrev vO:Obj:={cls:=.none,data:=.fields #[]}
theorem Am {P:Program} {w:World} {K:Frag} {mg mb:Str→Option Value} {CX:AF} {k:Nat} {fa a:Addr} {tbs:List Addr} {fd:FuncData} {x:Str} {sp:Sp} {s:Shared} {vs:List Value} {ns:List Int}
  (KX:K.In s.heap) (hns:s.heap.Ns mainGlobals mg) (hbn:s.heap.Ns builtinsNs mb) (hbb: ∀ x:Str,x≠"__name__"→mb x=bootBuiltins x) (hlim:s.heap.NoLimit) (hbm:Dq s.heap mg) (hg:s.gens= #[])
  (ha:s.heap.get? a=some {cls:=.type "list",data:=.seq vs.toArray}) (hi:IntsAre vs ns) (hl:ns.length≤sizeLine) (hr:eV k callerA)
  (ht: ∀ tb∈tbs,isCodeTable s.heap tb∧s.heap.get? tb=some vO∧K.lookup tb=none)
  (F: ∀ base:Heap,K.In base→base.Ns mainGlobals mg→Dq base mg→bL P w K mg base CX k fa fd [x] sp) (hbind: ∀ (s:Shared) (u:Value),BindsTo s fd ⟨[u],[]⟩ [(x,u)])
  (hsp: ∀ H:Hp,(∀ tb∈tbs,H tb=some (.oV #[]))→cQ K H a (ns.map V.int)→sp [.ref a] H (fun v _=>v= .bl true) fun _ _ _=>False)
  (hCX: ∀ H e s',CX [] H s (fun _ _ _=>False) e s'→False):
  codeAny (model P w) callerA (.call (.ref fa) ⟨[.ref a],[]⟩) (fun r s'=>r= .ok (.ret (.bool true))∧OldK s.heap s'.heap∧s'.os=s.os∧AllBare s'.gens) s:=by
 have hta:a∉tbs:=fun z=>by
  have gt:=(ht a z).2.1
  rw[ha] at gt
  cases gt
 let so:HO:=.h8 {cls:=.type "list",data:=.seq vs.toArray} (.lst (ns.map V.int))
 let H:Hp:=fun b=>if b∈tbs then some (.oV #[]) else if b=a∧K.lookup a=none then some so else none
 have Ht: ∀ tb∈tbs,H tb=some (.oV #[]):=fun tb z=>Mz z
 have cases_: ∀ b u,H b=some u→(b∈tbs∧u= .oV #[])∨(b=a∧K.lookup a=none∧u=so):=fun b u e=>by
  by_cases c1:b∈tbs
  ·rw[Ht b c1] at e
   cases e
   exact .inl ⟨c1,rfl⟩
  ·by_cases c2:b=a∧K.lookup a=none
   ·rw[show H b=some so from(MA c1).trans (Mz c2)] at e
    cases e
    exact .inr ⟨c2.1,c2.2,rfl⟩
   ·rw[show H b=none from(MA c1).trans (MA c2)] at e
    cases e
 have bE:kP P w H s.heap:=fun b u e=>by
  rcases cases_ b u e with⟨z,rfl⟩|⟨rfl,_,rfl⟩
  ·exact(ht b z).2.1
  ·exact⟨ha,by rw[LK];exact hl,vs,_,kT hi,ha⟩
 have free': ∀ {b:Addr} {o:Obj},s.heap.get? b=some o→o≠vO→o≠{cls:=.type "list",data:=.seq vs.toArray}→H b=none:=fun {b o} e n1 n2=>by
  cases q:H b with
  |none=>rfl
  |some u=>
   rcases cases_ b u q with⟨z,_⟩|⟨rfl,_,_⟩
   ·rw[(ht b z).2.1] at e;cases e;exact(n1 rfl).elim
   ·rw[ha] at e;cases e;exact(n2 rfl).elim
 have free: ∀ {b:Addr} {o:Obj} {es:Array DictEntry} {ep:Nat},s.heap.get? b=some o→o.data= .dict es ep→H b=none:=fun {b o es ep} e d=>free' e (fun z=>by rw[z] at d;cases d) (fun z=>by rw[z] at d;cases d)
 have nsK: ∀ {b:Addr} {m:Str→Option Value},s.heap.Ns b m→(t6 s.heap H).Ns b m:=fun {b m} ⟨o,es,ep,e,d,r⟩=>⟨o,es,ep,qi e (free e d),d,r⟩
 have hKb:K.In (t6 s.heap H):=fun b o e=>qi (KX b o e) (by
  cases q:H b with
  |none=>rfl
  |some u=>
   rcases cases_ b u q with⟨z,_⟩|⟨rfl,hk,_⟩
   ·rw[(ht b z).2.2] at e;cases e
   ·rw[hk] at e;cases e)
 have hBI:Dq (t6 s.heap H) mg:=by
  obtain⟨bm,ob,b1,b2,b3,b4,b5,b6⟩:=hbm
  exact⟨bm,ob,b1,b2,qi b3 (free' b3 (fun z=>by rw[z] at b6;cases b6) (fun z=>by rw[z] at b6;cases b6)),b4,b5,b6⟩
 have md:Mod K mg (t6 s.heap H):=⟨hKb,nsK hns,⟨mb,nsK hbn,hbb⟩,let ⟨mc,h1,h2⟩:=hlim;⟨mc,nsK h1,h2⟩⟩
 have e0:AD P w K mg (t6 s.heap H) callerA [] s H:=⟨rfl,md,fun b o e=>Ek e,Nat.le_of_eq (Al _ _),trivial,fun b hb=>(nomatch (show b∈([]:List Addr) from hb)),bE,.of_eq hg⟩
 have sq:cQ K H a (ns.map V.int):=by
  cases hk:K.lookup a with
  |some o=>
   have e:=KX a o hk
   rw[ha] at e
   cases e
   exact .inr ⟨_,vs.toArray,_,hk,rfl,rfl,rfl,by rw[LO,hi.length];exact hl,by simpa using kT hi⟩
  |none=>exact .inl (.inr ⟨_,(MA hta).trans (Mz ⟨rfl,hk⟩)⟩)
 refine codeAny_mono ((F _ hKb (nsK hns) hBI).run callerA [] s H ⟨[.ref a],[]⟩ [.ref a] [.ref a] _ _ hr e0 (hbind s (.ref a)) (.cons rfl .nil) (hsp H Ht sq)) fun r s' h=>?_
 match r,h with
 | .error e,h=>exact(hCX H e s' h).elim
 | .ok (.ret u),h=>
  obtain⟨v,H',os,bare,un,hok',r',q⟩:=h
  obtain rfl:v= .bl true:=q
  obtain rfl:u=Value.bool true:=r'
  have kept: ∀ b o,b∉tbs→s.heap.get? b=some o→s'.heap.get? b=some o:=fun b o nb e=>by
   cases qb:H b with
   |none=>exact un.keep b o e qb (fun z=>nomatch (show b∈([]:List Addr) from z)) (fun z=>nomatch z)
   |some u=>
    rcases cases_ b u qb with⟨z,_⟩|⟨rfl,_,rfl⟩
    ·exact absurd z nb
    ·obtain⟨e1,_⟩:=bE b _ qb
     obtain⟨e2,_⟩:=hok' b _ (un.mP b _ _ qb)
     rw[e] at e1
     cases e1
     exact e2
  have grown: ∀ b∈tbs,∃ more,s'.heap.get? b=some {cls:=.none,data:=.fields (#[]++more)}:=fun b z=>by
   obtain⟨more,et⟩:=un.qO b #[] (Ht b z)
   exact⟨more,hok' b _ et⟩
  refine⟨rfl,⟨fun b o e=>?_,fun b o e=>?_⟩,os,bare⟩
  ·by_cases nb:b∈tbs
   ·obtain⟨more,gt'⟩:=grown b nb
    rw[(ht b nb).2.1] at e
    cases e
    exact .inr (.inl ⟨(ht b nb).1,rfl,#[],more,rfl,gt'⟩)
   ·exact .inl (kept b o nb e)
  ·by_cases nb:b∈tbs
   ·obtain⟨more,gt'⟩:=grown b nb
    exact⟨_,gt'⟩
   ·exact⟨o,kept b o nb e⟩
theorem zq {l:PySem.W.OpenLaw} {n k:Nat} {q:Program} {loose:List Str} {XP:(Str→Option Value)→Heap→Prop} {YP:World→Heap→Prop} {d:DefRec} {K:Params→Frag} {CX:World→AF} {sp:World→List Addr→Sp} {x:Str}
  (hn:l.most=some n) (hn2:n≤sizeLine) (hdf:d.params.defaults=[]) (hr:eV k callerA)
  (hY: ∀ (w:World) (h:Heap),YP w h→(K w.params).In h)
  (F: ∀ (w:World) (mg:Str→Option Value) (fa:Addr) (h:Heap),(K w.params).In h→h.Ns mainGlobals mg→mg d.name=some (.ref fa)→
   ∃ (fd:FuncData) (ts:List (Str×Addr×Addr)),(∀ e∈ts,PySem.W.tabIn (K w.params) e.1=some e.2∧(K w.params).lookup e.2.2=none∧((recsOf q).find? fun r=>r.name==e.1).isSome=true)∧
    (∀ (s:Shared) (u:Value),BindsTo s fd ⟨[u],[]⟩ [(x,u)])∧
    ∀ base:Heap,(K w.params).In base→base.Ns mainGlobals mg→Dq base mg→bL l.prog w (K w.params) mg base (CX w) k fa fd [x] (sp w (ts.map (·.2.2))))
  (hsp: ∀ (w:World) (H:Hp) (a:Addr) (ns:List Int) (tbs:List Addr),ns.length≤n→(∀ tb∈tbs,H tb=some (.oV #[]))→cQ (K w.params) H a (ns.map V.int)→sp w tbs [.ref a] H (fun v _=>v= .bl true) fun _ _ _=>False)
  (hCX: ∀ (w:World) (H:Hp) (s:Shared) (e:Value) (s':Shared),CX w [] H s (fun _ _ _=>False) e s'→False):
  PySem.W.WalkO q loose XP YP l.row.toRowW d [] (fun f vs=>PySem.call f vs):=by
 refine Att.we hn hdf fun w s₀ s₁ mg mb fa o pm cd doc a vs ns G Y ho hd hcd hmg hobj hints hlen hg=>?_
 have KX:=hY w _ Y
 obtain⟨fd,ts,hts,hb,hF⟩:=F w mg fa _ KX G.T.g hmg
 refine Am (tbs:=ts.map (·.2.2)) KX G.T.g G.T.b G.T.builtins G.T.nolimit ?_ hg hobj hints (L6 hlen hn2) hr (fun tb z=>?_) hF hb (fun H hO hS=>hsp w H a ns _ hlen hO hS) fun H e s'=>hCX w H s₁ e s'
 ·obtain⟨bm,ob,b1,b2,b3,b4,b5,b6⟩:=G.T.bmain
  exact⟨bm,ob,b1,b2,b3,b4,b5,b6⟩
 ·obtain⟨e,he,rfl⟩:=LW.mp z
  obtain⟨h1,h2,h3⟩:=hts e he
  obtain⟨d',h3⟩:=Option.isSome_iff_exists.mp h3
  obtain⟨g1,g2⟩:=PySem.W.tab_of G.T KX h3 h1
  exact⟨(g1.tab g2).isCodeTable,g2,h2⟩
section
open PySem.W (KasT kas_rev kas_asc kas_desc kas_tail3 kas_descPart kas_count kas_place kas_bin kas_sort)
def kO (N:Nat) {α:Type} (V:α→Prop):KasT α→Prop
 | .ret a=>V a
 | .ask i j k=>i < N∧j < N∧∀ b,kO N V (k b)
theorem kO.bind {N:Nat} {α β:Type} {V:α→Prop} {W:β→Prop} {f:α→KasT β}: ∀ {t:KasT α},kO N V t→(∀ a,V a→kO N W (f a))→kO N W (t.bind f)
 | .ret a,h,k=>k a h
 | .ask i j g,h,k=>⟨h.1,h.2.1,fun b=>kO.bind (h.2.2 b) k⟩
theorem kO.ite {N:Nat} {α:Type} {V:α→Prop} {c:Prop} [Decidable c] {a b:KasT α} (h1:kO N V a) (h2:kO N V b):kO N V (if c then a else b):=by
 by_cases h:c
 ·rw[Mz h];exact h1
 ·rw[MA h];exact h2
def Bd (N:Nat) (p:Array Nat):Prop:=0 < N∧∀ x∈p.toList,x < N
theorem Bd.at {N:Nat} {p:Array Nat} (h:Bd N p) (k:Nat):p.getD k 0 < N:=by
 rw[L8]
 cases e:p[k]? with
 |none=>exact h.1
 |some x=>exact h.2 x (Array.mem_toList_iff.mpr (Array.mem_of_getElem? e))
theorem Bd.perm {N:Nat} {p q:Array Nat} (h:Bd N p) (pm:q.Perm p):Bd N q:=⟨h.1,fun x hx=>h.2 x ((Array.perm_iff_toList_perm.mp pm).mem_iff.mp hx)⟩
theorem Bd.rev {N:Nat} {p:Array Nat} (h:Bd N p) (i j:Nat):Bd N (kas_rev p i j):=h.perm (mirror_perm _ _ _ _)
section
variable {N:Nat}
theorem xS {p:Array Nat} (h:Bd N p): ∀ f n,kO N (fun _=>True) (kas_asc p f n)
 |0,_=>trivial
 |f+1,n=>⟨h.at _,h.at _,fun b=>kO.ite trivial (xS h f (n+1))⟩
theorem pF: ∀ (f:Nat) {p:Array Nat} (n q:Nat),Bd N p→kO N (fun r=>Bd N r.1) (kas_desc f p n q)
 |0,_,_,_,h=>h
 |f+1,p,n,q,h=>⟨h.at _,h.at _,fun b=>kO.ite (kO.ite (pF f _ _ (h.rev _ _)) (pF f _ _ h)) ⟨h.at _,h.at _,fun d=>kO.ite h (pF f _ _ h)⟩⟩
theorem uy {p:Array Nat} (h:Bd N p) (n m:Nat):kO N (fun r=>Bd N r.2) (kas_tail3 n m p):=kO.bind (xS (h.rev _ _) _ _) fun a _=>h.rev _ _
theorem oK {p:Array Nat} (h:Bd N p) (n m:Nat):kO N (fun r=>Bd N r.2) (kas_descPart n m p):=kO.bind (pF _ _ _ h) fun r hr=>kO.ite (uy (hr.rev _ _) _ _) (uy hr _ _)
theorem C5 {p:Array Nat} (h:Bd N p) (m:Nat):kO N (fun r=>Bd N r.2) (kas_count m p):=
 kO.bind (xS h _ _) fun n _=>kO.ite h (kO.ite ⟨h.at _,h.at _,fun c=>kO.ite h (oK (h.rev _ _) _ _)⟩ (oK h _ _))
theorem pW {p:Array Nat} (h:Bd N p) (k:Nat): ∀ f l r,kO N (fun _=>True) (kas_place p k f l r)
 |0,_,_=>trivial
 |f+1,l,r=>by
  unfold kas_place
  exact kO.ite trivial ⟨h.at _,h.at _,fun c=>kO.ite (pW h k f _ _) (pW h k f _ _)⟩
theorem C9: ∀ (f:Nat) {p:Array Nat} (k:Nat),Bd N p→kO N (Bd N) (kas_bin f p k)
 |0,_,_,h=>h
 |f+1,p,k,h=>kO.bind (pW h _ _ _ _) fun l _=>C9 f (k+1) (h.perm (bubble_perm _ _ _))
theorem DG (hN:0 < N):kO N (Bd N) (kas_sort N):=by
 have h:Bd N (List.toArray (List.range N)):=⟨hN,fun x hx=>by simpa using hx⟩
 exact kO.bind (C5 h _) fun r hr=>kO.ite (C9 _ _ hr) hr
theorem wp_run {α:Type} {V:α→Prop} {r:Nat→Int} {cmp:Nat→Nat→(Bool→Shared→Prop)→Shared→Prop} {Q:α→Shared→Prop} {s:Shared} (hc: ∀ i j C,i < N→j < N→C (decide (r i < r j)) s→cmp i j C s): ∀ (t:KasT α),kO N V t→Q (runK r t) s→t.kasWp cmp Q s
 | .ret a,_,h=>h
 | .ask i j k,hi,h=>hc i j _ hi.1 hi.2.1 (wp_run hc (k (decide (r i < r j))) (hi.2.2 _) h)
end
theorem Hd {prog:Program} {w:World} {A:Around} {E:Value→Shared→Prop} {s:Shared} {Q:Bool→Shared→Prop} {x y:Addr} {ox oy:Obj} {nx ny:Nat} {a b c d:Int} {ta tb tc td:Tok} (hx:s.heap.get? x=some ox) (dx:ox.data= .seq #[.int a ta,.int b tb] nx) (hy:s.heap.get? y=some oy) (dy:oy.data= .seq #[.int c tc,.int d td] ny)
  (hb:0≤b∧b < 1000000) (hd:0≤d∧d < 1000000) (h:Q (decide (a * 1000000+b < c * 1000000+d)) s):wpAny (model prog w) A (keyLt' (tuples' true) (.ref x) (.ref y)) Q E s:=by
 refine PySem.W.kat_lt hx dx hy dy ?_
 show PySem.W.KatLex prog w A true false Q [(.int a ta,.int c tc),(.int b tb,.int d td)] 0 s
 refine PySem.W.kat_cons (wpAny_eqBool_int ?_)
 by_cases e1:a=c
 ·subst e1
  have z:(a==a)=true:=by simp
  rw[z]
  refine PySem.W.kat_yes (PySem.W.kat_cons (wpAny_eqBool_int ?_))
  by_cases e2:b=d
  ·subst e2
   have z:(b==b)=true:=by simp
   rw[z]
   refine PySem.W.kat_yes (PySem.W.kat_nil ?_)
   have q:decide (a * 1000000+b < a * 1000000+b)=false:=by simp
   rw[q] at h
   exact h
  ·have z:(b==d)=false:=by simpa using e2
   rw[z]
   refine PySem.W.kat_no ?_
   show wpAny (model prog w) A (oneLt' false (.int b tb) (.int d td)) Q _ s
   refine PySem.W.kat_one _ _ ?_
   have q:decide (a * 1000000+b < a * 1000000+d)=decide (b < d):=decide_eq_decide.mpr ⟨fun z=>by lia,fun z=>by lia⟩
   rw[q] at h
   exact lt_int h
 ·have z:(a==c)=false:=by simpa using e1
  rw[z]
  refine PySem.W.kat_no ?_
  show wpAny (model prog w) A (oneLt' true (.int a ta) (.int c tc)) Q _ s
  refine oneLt_int ?_
  have q:decide (a * 1000000+b < c * 1000000+d)=decide (a < c):=decide_eq_decide.mpr ⟨fun z=>by lia,fun z=>by lia⟩
  rw[q] at h
  exact h
end
section
open PySem.W (kla_fn kla_obj CodeHd tabObj)
theorem EG {CX:AF} {P:Program} {w:World} {K:Frag} {mg:Str→Option Value} {base:Heap} {f c:Addr} {name qual:Str} {params:Arguments} {body:Expr} {scope:Scope} {pm ctv:Value} {oc:Obj} {fs:Array Value} {tq:Tok} {N ps:List Str} {k:Nat}
  {A:Around} {outer:List Env} {s:Shared} {H:Hp} {args:Args} {us:List Value} {vs:List V} {Q:VK} {E:XK} {tE:TE}
  (S:aI N ps scope) (hr:eV (k+1) A) (e0:AD P w K mg base A outer s H) (hf:s.heap.get? f=some (kla_obj name qual params body scope [] pm c ctv))
  (hc:s.heap.get? c=some oc) (hoc:oc.data= .fields fs) (hfs:fs[1]?=some (.str qual tq))
  (hb:BindsTo s (kla_fn name qual params body scope [] pm (.ref c) ctv) args (ps.zip us)) (hl:vs.length=ps.length) (r:Vals vs us)
  (hbody:PE (jO CX P w K mg base N qual scope f (.ref c) A outer s H E) body tE) (hq:tE (start N vs) H Q):
  codeAny (model P w) A (.call (.ref f) args) (CR CX outer P w H s Q E) s:=by
 have lim:s.heap.NoLimit:=e0.mod.nolimit.keeps fun b o e=>(e0.bs b o e).1
 have hkind: ∀ y∈ps.zip us,scope.names.lookup y.1=some .local∨(scope.names.lookup y.1=some .cell∧((cellsFrom (s.heap.objs.size+1) scope.names []).lookup y.1).isSome=true):=fun hq0 hy=>by
  obtain⟨n,v⟩:=hq0
  rcases S.par n (List.of_mem_zip hy).1 with q|q
  ·exact .inl q
  ·exact .inr ⟨q,PySem.W.cellsFrom_some _ _ _ (.inl q)⟩
 refine PySem.W.kla_callFunE hr.depth hf rfl S.co S.gen rfl ⟨c,oc,fs,tq,rfl,hc,hoc,hfs⟩ (hb _ _ _ _ ?_)
 refine wpAny_newFunctionEnv_cells S.kind hkind fun env he s1 x=>?_
 subst he
 refine⟨lim.keeps x.toInCall.keep,PySem.W.kla_codeExpr ?_⟩
 have I:Inv (jO CX P w K mg base N qual scope f (.ref c) A outer s H E) [] (start N vs) H s1:=r6 S hr.hd e0 hl r x
 refine wpAny_mono (hbody [] s1 (start N vs) H _ I hq) (fun u s' hs=>?_) fun e s' hs=>hs
 obtain⟨v,H',J,rv,q⟩:=hs
 exact⟨v,H',J.os,J.bare,J.base,J.bE,rv,q⟩
theorem vy {X:Cx} {A:Around} {pins:List (Addr×Obj)} {σ:St} {f c:Addr} {name qual:Str} {params:Arguments} {body:Expr} {scope:Scope} {pm ctv:Value} {oc:Obj} {fs:Array Value} {tq:Tok} {N ps:List Str} {k:Nat}
  {s:Shared} {H:Hp} {us:List Value} {vs:List V} {Q:VK} {tE:TE}
  (S:aI N ps scope) (hr:eV (k+1) A) (hA:A.frames=X.A.frames) (I:Inv X pins σ H s) (hf:s.heap.get? f=some (kla_obj name qual params body scope [] pm c ctv))
  (hc:s.heap.get? c=some oc) (hoc:oc.data= .fields fs) (hfs:fs[1]?=some (.str qual tq))
  (hb:BindsTo s (kla_fn name qual params body scope [] pm (.ref c) ctv) ⟨us,[]⟩ (ps.zip us)) (hl:vs.length=ps.length) (r:Vals vs us)
  (hbody:PE (jO fS X.prog X.w X.K X.mg X.base N qual scope f (.ref c) A X.stack s H E0).tU body tE) (hq:tE (start N vs) H Q):
  wpAny (model X.prog X.w) A (call (.ref f) us) (EP X pins σ Q) (fun _ _=>False) s:=by
 have e0:AD X.prog X.w X.K X.mg X.base A X.stack s H:=⟨hA.trans I.uc.frames,I.uc.mod,I.uc.bs,I.uc.Dm,I.uc.nX,I.uc.FO,I.uc.bE,I.uc.bare⟩
 refine wpAny_call (codeAny_mono (EG S hr e0 hf hc hoc hfs hb hl r hbody.tU hq) fun r s' h=>?_)
 cases r with
 |error e=>exact h
 |ok fl=>
  cases fl with
  |ret u=>exact I.after h
  |next=>exact False.elim h
  |brk=>exact False.elim h
  |cont=>exact False.elim h
end
section
open PySem.W (kas_sort kas_ask KatTups)
theorem Inv.K2 {X:Cx} {pins:List (Addr×Obj)} {σ:St} {H:Hp} {s:Shared} {h':Heap} {D:Addr} {o:HO} {t':Nat} (I:Inv X pins σ H s) (fp:eQ X pins H D) (k: ∀ b u,b≠D→s.heap.get? b=some u→h'.get? b=some u) (new:dz X.prog X.w (upd H D o) h' D o):
  Inv X pins σ (upd H D o) {s with heap:=h',toks:=t'}:=by
 obtain⟨hn,hL,hF,h1,h2,h3⟩:=fp
 have nD: ∀ b u,H b=some u→b≠D:=fun b u e z=>by rw[z,hn] at e;cases e
 refine I.step (g':=s.gens) (d':=s.drawn) (ch:=[D]) (fun b hb=>?_) (fun b u _ _ hc e _=>k b u (fun z=>hc (by simp[z])) e) (fun b u _ _ hc e _=>⟨u.slots,k b u (fun z=>hc (by simp[z])) e⟩) (fun b u hc _ n=>by rw[ao (fun z=>hc (by simp[z]))];exact n)
  (fun b u hc e=>⟨u,k b u (fun z=>hc (by simp[z])) e⟩) (fun b xs e=>by rw[ao (nD b _ e)];exact e) (fun b ob u e=>by rw[ao (nD b _ e)];exact e) (fun b ps e=>⟨#[],by rw[ao (nD b _ e),e];simp⟩) (fun m hm=>?_) (fun b u e=>?_) I.bare
 ·have e:b=D:=by simpa using hb
  subst e
  exact⟨h1,hL,h2,h3⟩
 ·obtain⟨ob,es,ep,ho,r⟩:=hm
  exact⟨ob,es,ep,k _ ob (Ne.symm hL) ho,r⟩
 ·by_cases z:b=D
  ·subst z
   rw[az] at e
   cases e
   exact new
  ·rw[ao z] at e
   refine(I.bE b u e).pM (fun c v hc q=>k c v ?_ q) (fun c q=>?_) fun c xs q=>?_
   ·rcases hc with y|y
    ·rw[y];exact z
    ·exact nD c _ y
   ·rw[ao (nD c _ q)];exact q
   ·rw[ao (nD c _ q)];exact q
noncomputable def rk (kf:Nat→Int×Int) (i:Nat):Int:=(kf i).1 * 1000000+(kf i).2
theorem rA: ∀ {Ts:List Addr} {us:List Value},Vals (Ts.map V.ref) us→us=Ts.map Value.ref
 |[],us,h=>by cases h;rfl
 |T::Ts,us,h=>by
  cases h with
  |cons r t=>cases r;rw[rA t];rfl
theorem mB {P:Program} {w:World} {H:Hp} {h:Heap} {T:Addr} {a b:Int} (hk:kP P w H h) (e:H T=some (.tup [.int a,.int b])): ∃ o n ta tb,h.get? T=some o∧o.cls= .type "tuple"∧o.data= .seq #[.int a ta,.int b tb] n:=by
 obtain⟨_,its,rv,o,ho,hc,n,hd⟩:=hk T _ e
 cases rv with
 |cons r1 t=>
  cases t with
  |cons r2 t=>
   cases t
   obtain⟨ta,rfl⟩:=r1
   obtain⟨tb,rfl⟩:=r2
   exact⟨o,n,ta,tb,ho,hc,hd⟩
theorem xZ {h:Heap}: ∀ (Ts:List Addr),(∀ T∈Ts,∃ o n a b ta tb,h.get? T=some o∧o.cls= .type "tuple"∧o.data= .seq #[.int a ta,.int b tb] n)→∃ fs,KatTups h (Ts.map Value.ref) fs∧fs.length=Ts.length∧∀ v∈fs,∃ i t,v=Value.int i t
 |[],_=>⟨[],PySem.W.KatTups.nil,rfl,fun v hv=>nomatch hv⟩
 |T::Ts,k=>by
  obtain⟨o,n,a,b,ta,tb,h1,h2,h3⟩:=k T LJ
  obtain⟨fs,g1,g2,g3⟩:=xZ Ts fun T' h'=>k T' (LM _ h')
  refine⟨.int a ta::fs,PySem.W.KatTups.cons h1 h2 h3 rfl g1,by simp[g2],fun v hv=>?_⟩
  rcases LU.mp hv with rfl|hv
  ·exact⟨a,ta,rfl⟩
  ·exact g3 v hv
section
variable {X:Cx} {A:Around} {E:Value→Shared→Prop} {pins:List (Addr×Obj)} {σ:St} {H:Hp} {s:Shared} {f D:Addr} {its:List Value} {xs:List V} {kf:Nat→Int×Int} {P:PySem.Fin→Shared→Prop}
theorem rH {kS:Addr} {Ts:List Addr} {e1:Nat} {st:SortSt} {p:Array Nat} {H1:Hp} (I:Inv X ((D,seqObj "list" #[] e1)::pins) σ H1 s) (fp:eQ X pins H1 D) (hk:H1 kS=some (.lst (Ts.map V.ref))) (rv:Vals xs its) (h64:xs.length < 64) (hTs:Ts.length=xs.length)
  (hz:p.size=xs.length) (har:(arrOf st).map (·.2)=List.toArray (p.toList.map fun i=>its.getD i Value.none)) (hin: ∀ i∈p.toList,i < xs.length) (hf:failedOf st=none)
  (h: ∀ s',Inv X pins σ (upd (upd H1 kS (.lst [])) D (.lst (p.toList.map fun i=>xs.getD i .aW))) s'→P (.done (.ret .none)) s'):
  wpAny (model X.prog X.w) A (ksk_tail D false e1 (.ref kS) st) P E s:=by
 obtain⟨_,its',n',r1,r2,ho⟩:=I.lD hk
 have hl:=rv.length
 unfold ksk_tail
 try dsimp only
 rw[har]
 refine LI (listUpdate_at ho rfl ?_ (by rw[LO,Mq];simp at r2;lia) (Me _))
 have I1:=I.Ac (t':=s.toks) (f:=fun _=>(#[]:Array Value)) (its':=[]) (ys:=[]) hk ho rfl .nil (Me _)
 have hD:=(I1.pin _ (L4 _ LJ)).1
 refine LI (wpAny_letGo ?_)
 refine LI (seqEpoch_at hD rfl ?_)
 refine LI (listUpdate_at hD rfl ?_ (Me _) (by simp only[Mt,if_false,LO,LK,Mn];rw[hz,Mq];lia))
 rw[hf]
 simp only[bne_self_eq_false,Mt,if_false]
 have neD:kS≠D:=fun z=>by rw[z,fp.1] at hk;cases hk
 have fp1:eQ X pins (upd H1 kS (.lst [])) D:=⟨by rw[ao (Ne.symm neD)];exact fp.1,fp.2⟩
 have I2:Inv X pins σ (upd H1 kS (.lst [])) {s with heap:=s.heap.update kS (Obj.mapSeq fun _=>(#[]:Array Value))}:=I1.kX fun q hq=>I1.pin q (L4 _ (LM _ hq))
 refine LN (h _ (I2.K2 (t':=s.toks) fp1 (fun b u hb e=>(Heap.get?_update_other _ _ (Ne.symm hb)).trans e) ?_))
 have g:=get?_update_seq hD fun _=>List.toArray (p.toList.map fun i=>its.getD i Value.none)
 refine⟨by rw[LK,Mn,hz,Mq];lia,p.toList.map fun i=>its.getD i Value.none,_,?_,g⟩
 have go: ∀ l:List Nat,(∀ i∈l,i < xs.length)→Vals (l.map fun i=>xs.getD i V.aW) (l.map fun i=>its.getD i Value.none):=fun l=>by
  induction l with
  |nil=>intro _;exact .nil
  |cons i l ih=>
   intro hl'
   refine .cons ?_ (ih fun j hj=>hl' j (LM _ hj))
   have hi:=hl' i LJ
   obtain⟨u,hu,ru⟩:=rv.get (LH hi)
   show RelV (xs.getD i V.aW) (its.getD i Value.none)
   rw[L3,L3,hu,LH hi]
   exact ru
 exact go _ hin
theorem wM {n0:Nat} (I:Inv X pins σ H s) (fp:eQ X pins H D) (ho:s.heap.get? D=some (seqObj "list" its.toArray n0)) (rv:Vals xs its) (h64:xs.length < 64)
  (hkey: ∀ (pins':List (Addr×Obj)) (H1:Hp) (s1:Shared) (i:Nat) (u:Value),its[i]?=some u→gq H H1→Inv X pins' σ H1 s1→wpAny (model X.prog X.w) A (call (.ref f) [u]) (EP X pins' σ fun v H2=> ∃ T,v= .ref T∧H1 T=none∧H2=upd H1 T (.tup [.int (kf i).1,.int (kf i).2])) (fun _ _=>False) s1)
  (hb: ∀ i,i < xs.length→0≤(kf i).2∧(kf i).2 < 1000000) (hne: ∀ i j,i < xs.length→j < xs.length→i≠j→rk kf i≠rk kf j)
  (h: ∀ (H':Hp) (p:Array Nat) (s':Shared),Inv X pins σ H' s'→H' D=some (.lst (p.toList.map fun i=>xs.getD i .aW))→gq H H'→p.size=xs.length→p.Perm (List.toArray (List.range xs.length))→wx (rk kf) p xs.length→P (.done (.ret .none)) s'):
  wpAny (model X.prog X.w) A (Builtin.«list.sort» ⟨[.ref D],[(Str.ofString "key",.ref f)]⟩) P E s:=by
 have hl:=rv.length
 have hzL:its.length≤sizeLine:=by rw[Mq];lia
 rw[ksk_t1]
 unfold ksk_tree
 refine LI (listItems_at ho rfl ?_)
 refine LI (listUpdate_at ho rfl ?_ (by rw[LO];exact hzL) (Me _))
 obtain⟨e1,ho1⟩: ∃ e1,(s.heap.update D (Obj.mapSeq fun _=>(#[]:Array Value))).get? D=some (seqObj "list" #[] e1):=⟨_,get?_update_seq ho fun _=> #[]⟩
 refine LI (seqEpoch_at ho1 rfl ?_)
 refine LI (wpAny_newTuple ?_ hzL)
 refine LI (wpAny_newList ?_ (Me _))
 refine wpAny_holding ?_
 have I1:Inv X pins σ H {s with heap:=s.heap.update D (Obj.mapSeq fun _=>(#[]:Array Value))}:=I.turned (t':=s.toks) (fun b u hb' e=>(Heap.get?_update_other _ _ (Ne.symm hb')).trans e) fp.1 fp.2.1 fp.2.2.2.1 fp.2.2.2.2.1 fp.2.2.2.2.2
 have I2:Inv X ((D,seqObj "list" #[] e1)::pins) σ H {s with heap:=s.heap.update D (Obj.mapSeq fun _=>(#[]:Array Value))}:=I1.kX fun q hq=>by
  rcases LU.mp hq with rfl|hq
  ·exact⟨ho1,fp.1,fp.2.1,fp.2.2.1,fun v z=>by cases z⟩
  ·exact I1.pin q (L4 _ hq)
 have I3:Inv X ((D,seqObj "list" #[] e1)::pins) σ H {s with heap:=(s.heap.update D (Obj.mapSeq fun _=>(#[]:Array Value))).push (seqObj "tuple" its.toArray 0)}:=I2.kept (t':=s.toks) fun b u e=>LL _ e
 have hkn:H ((s.heap.update D (Obj.mapSeq fun _=>(#[]:Array Value))).push (seqObj "tuple" its.toArray 0)).objs.size=none:=I3.fresh
 have I4:=I3.Cj (t':=s.toks) (ys:=[]) (its:=[]) .nil (Me _)
 generalize hks:((s.heap.update D (Obj.mapSeq fun _=>(#[]:Array Value))).push (seqObj "tuple" its.toArray 0)).objs.size=kS at *
 have hDk: ∀ (H1:Hp),H1 D=none→H1 kS≠none→kS≠D:=fun H1 a b z=>b (z▸a)
 unfold ksk_rest
 refine LI (wpAny_rule ?_)
 rw[List.forIn_toArray]
 refine LI (ksk_fold (fun i s'=> ∃ (Hi:Hp) (Ts:List Addr),Inv X ((D,seqObj "list" #[] e1)::pins) σ Hi s'∧Hi kS=some (.lst (Ts.map V.ref))∧Ts.length=i∧(∀ j T,Ts[j]?=some T→Hi T=some (.tup [.int (kf j).1,.int (kf j).2]))∧gq H Hi) its 0 _ ?_ (fun j x s' hx hJ=>?_) fun s' hJ=>?_)
 ·refine⟨_,[],I4,az,rfl,fun j T e=>by simp at e,fun b o e=>?_⟩
  rw[ao (aQ e hkn)]
  exact e
 ·obtain⟨Hi,Ts,J,hk,hT,tt,sm⟩:=hJ
  rw[Nat.zero_add] at hT
  refine LI (wpAny_attempt (wpAny_mono (hkey _ Hi s' j x hx sm J) (fun k s'' hk'=>?_) fun _ _ hF=>hF.elim))
  obtain⟨v,H2,J2,rk',T,rfl,hTn,rfl⟩:=hk'
  cases rk'
  have nT:kS≠T:=aQ hk hTn
  have hk2:upd Hi T (.tup [.int (kf j).1,.int (kf j).2]) kS=some (.lst (Ts.map V.ref)):=by rw[ao nT];exact hk
  obtain⟨_,its',n',r1,r2,hob⟩:=J2.lD hk2
  have hjl:j < its.length:=(LP.mp hx).1
  have hs':its'.length=j:=by rw[←r2,LK,hT]
  try dsimp only
  refine LI (listUpdate_at hob rfl ?_ (by rw[LO,Mq];lia) (L6 (Nat.le_of_eq (Array.size_push ..)) (by rw[LO,Mq];lia)))
  have J3:=J2.Ac (t':=s''.toks) (f:=(·.push (Value.ref T))) (its':=its'++[.ref T]) (ys:=Ts.map V.ref++[.ref T]) hk2 hob (by simp) (r1.append (show Vals [V.ref T] [Value.ref T] from .cons rfl .nil)) (by rw[Mc,LK,List.length_singleton,Mq];lia)
  refine LN ⟨rfl,_,Ts++[T],J3,by rw[az];simp,by simp[hT],fun i T' e=>?_,fun b o e=>?_⟩
  ·by_cases c:i < Ts.length
   ·rw[Mr c] at e
    have g:=tt i T' e
    have n1:T'≠kS:=fun z=>by rw[z,hk] at g;cases g
    rw[ao n1,ao (aQ g hTn)]
    exact g
   ·rw[List.getElem?_append_right (by lia)] at e
    have hi:i=Ts.length:=by
     by_cases z:i - Ts.length=0
     ·lia
     ·rw[List.getElem?_eq_none (by simp;lia)] at e;cases e
    subst hi
    simp at e
    subst e
    rw[ao (Ne.symm nT),az,hT]
  ·have g:=sm b o e
   have n1:b≠kS:=aQ e hkn
   rw[ao n1,ao (aQ g hTn)]
   exact g
 ·obtain⟨Hi,Ts,J,hk,hT,tt,sm⟩:=hJ
  rw[Nat.zero_add] at hT
  have hTx:Ts.length=xs.length:=by lia
  obtain⟨_,its',n',r1,r2,hob⟩:=J.lD hk
  have hks':=rA r1
  subst hks'
  have fpD:eQ X pins Hi D:=⟨(J.pin _ (L4 _ LJ)).2.1,fp.2⟩
  have hkD:kS≠D:=fun z=>by rw[z,fpD.1] at hk;cases hk
  have fin: ∀ (p:Array Nat) (s'':Shared),p.size=xs.length→p.Perm (List.toArray (List.range xs.length))→wx (rk kf) p xs.length→Inv X pins σ (upd (upd Hi kS (.lst [])) D (.lst (p.toList.map fun i=>xs.getD i .aW))) s''→P (.done (.ret .none)) s'':=fun p s'' hz hp hu J'=>by
   refine h _ p s'' J' az (fun b o e=>?_) hz hp hu
   rw[ao (aQ e fp.1),ao (aQ e hkn)]
   exact sm b o e
  have inP: ∀ p:Array Nat,p.Perm (List.toArray (List.range xs.length))→∀ i∈p.toList,i < xs.length:=fun p hp i hi=>by
   have:=(Array.perm_iff_toList_perm.mp hp).mem_iff.mp hi
   simpa using this
  have hkl:(Ts.map Value.ref).length=its.length:=by simp[hT]
  try dsimp only
  refine LI (listItems_at hob rfl ?_)
  unfold ksk_end
  try dsimp only
  simp only[Mt,if_false]
  by_cases h2:its.toArray.size < 2
  ·rw[Mz h2,Mz h2]
   refine LI (LN ?_)
   rw[StateT.run_pure]
   refine LI (LN ?_)
   try dsimp only
   rw[LO] at h2
   have hz:(List.toArray (List.range xs.length)).size=xs.length:=by simp
   refine rH (p:=List.toArray (List.range xs.length)) J fpD hk rv h64 hTx hz ?_ (inP _ (Array.Perm.refl _)) rfl fun s'' J'=>fin _ s'' hz (Array.Perm.refl _) (fun i j hij hj=>by lia) J'
   have hmap:=PySem.W.kat_snds (ks:=Ts.map Value.ref) (vs:=its) hkl (st:=SortSt.mk' general' ((Ts.map Value.ref).toArray.zip its.toArray) #[] 7 none) (p:=List.toArray (List.range xs.length)) (by
    have e:=PySem.W.kas_range ((Ts.map Value.ref).toArray.zip its.toArray)
    rw[show ((Ts.map Value.ref).toArray.zip its.toArray).size=xs.length by simp[hT];lia] at e
    exact e.symm)
   exact hmap
  ·rw[MA h2,MA h2]
   rw[LO] at h2
   obtain⟨fs,kt,hfl,hfi⟩:=xZ (h:=s'.heap) Ts fun T hT'=>by
    obtain⟨i,hi,e⟩:=List.getElem_of_mem hT'
    obtain⟨o,n,ta,tb,g1,g2,g3⟩:=mB J.bE (tt i T (LP.mpr ⟨hi,e⟩))
    exact⟨o,n,_,_,ta,tb,g1,g2,g3⟩
   refine LI (PySem.W.kat_kind (T:=Value.type "int") kt (by lia) (fun v hv=>?_) rfl ?_)
   ·obtain⟨i,t,rfl⟩:=hfi v hv
    exact PySem.W.Looks.now
   ·obtain⟨p,ep,hz,hp,hu⟩:=DF (r:=rk kf) (n:=xs.length) (by lia) hne
    refine LI (wpAny_mono (PySem.W.kat_run (vs:=its) (ks:=Ts.map Value.ref) (Q:=fun st' s''=> ∃ p':Array Nat,arrOf st'=p'.map (PySem.W.kas_item ((Ts.map Value.ref).toArray.zip its.toArray))∧failedOf st'=none∧p'=p∧s''=s') (G:=fun p' s''=>p'=p∧s''=s')
     hkl (by lia) (by lia) (fun p' st' s'' a1 a2 a3 a4=>⟨p',a2,a3,a4.1,a4.2⟩) ?_) ?_ fun _ _ e=>e)
    ·rw[show its.length=xs.length from hl.symm]
     refine wp_run (N:=xs.length) (V:=Bd xs.length) (r:=rk kf) (fun i j C hi hj hC=>?_) _ (DG (by lia)) ⟨ep,rfl⟩
     have hi':i < Ts.length:=by lia
     have hj':j < Ts.length:=by lia
     obtain⟨oi,ni,ai,bi,g1,g2,g3⟩:=mB J.bE (tt i _ (LH hi'))
     obtain⟨oj,nj,aj,bj,k1,k2,k3⟩:=mB J.bE (tt j _ (LH hj'))
     unfold PySem.W.kas_ask
     rw[L3,L3,L5,L5,LH hi',LH hj']
     exact Hd g1 g3 k1 k3 (hb i hi) (hb j hj) hC
    ·rintro⟨⟨⟩,st'⟩ s'' ⟨p',har,hf,rfl,rfl⟩
     try dsimp only
     exact rH J fpD hk rv h64 hTx hz (PySem.W.kat_snds hkl har) (inP _ hp) hf fun s3 J'=>fin _ s3 hz hp hu J'
end
end
section
open PySem.W (kla_fn kla_obj CodeHd tabObj)
theorem sT {X:Cx} {pins:List (Addr×Obj)} {σ:St} {H:Hp} {s:Shared} {f l:Addr} {T:String} {o:Obj} {n0:Nat} {its:List Value} {xs:List V} {kf:Nat→Int×Int} {Q:VK}
  (I:Inv X pins σ H s) (hT:T="list"∨T="tuple") (ho:s.heap.get? l=some o) (hc:o.cls= .type T) (hd:o.data= .seq its.toArray n0) (rv:Vals xs its) (h64:xs.length < 64)
  (hkey: ∀ (pins':List (Addr×Obj)) (H1:Hp) (s1:Shared) (i:Nat) (u:Value),its[i]?=some u→gq H H1→Inv X pins' σ H1 s1→wpAny (model X.prog X.w) X.A.in1.in1 (call (.ref f) [u]) (EP X pins' σ fun v H2=> ∃ T,v= .ref T∧H1 T=none∧H2=upd H1 T (.tup [.int (kf i).1,.int (kf i).2])) (fun _ _=>False) s1)
  (hb: ∀ i,i < xs.length→0≤(kf i).2∧(kf i).2 < 1000000) (hne: ∀ i j,i < xs.length→j < xs.length→i≠j→rk kf i≠rk kf j)
  (hq: ∀ (D:Addr) (H':Hp) (p:Array Nat),H D=none→H' D=some (.lst (p.toList.map fun i=>xs.getD i .aW))→gq H H'→p.size=xs.length→p.Perm (List.toArray (List.range xs.length))→wx (rk kf) p xs.length→Q (.ref D) H'):
  wpAny (model X.prog X.w) X.A (call (.builtin "sorted") [.ref l] [(Str.ofString "key",.ref f)]) (EP X pins σ Q) X.xe s:=by
 have hl:=rv.length
 refine call_function_entry_kw kind_sorted plain_sorted entry_sorted (ksk_s1 _ _) ?_
 unfold Builtin.«sorted»
 refine LI (m:=checkCount "sorted" 1 1 _) (LN ?_)
 refine LI (wpAny_collect_seq l hT ho hc hd (fun h1 kp=>?_) (by rw[LO,Mq];lia))
 have I1:Inv X pins σ H {s with heap:=h1}:=I.kept (t':=s.toks) kp
 have fr:H h1.objs.size=none:=I1.fresh
 have fp:eQ X pins H h1.objs.size:=I1.rj (LQ _) fr
 refine LI (wpAny_newList ?_ (by show its.length≤_;rw[Mq];lia))
 have I2:Inv X pins σ H {s with heap:=h1.push (seqObj "list" its.toArray 0)}:=I1.kept (t':=s.toks) fun b u e=>LL _ e
 have hoL:(h1.push (seqObj "list" its.toArray 0)).get? h1.objs.size=some (seqObj "list" its.toArray 0):=LY _ rfl
 refine LI (wpAny_holding (wpAny_call_entry_kw slot_list_sort ⟨_,hoL,rfl⟩ entry_list_sort ?body (ksk_l1 _ _)))
 case body=>
  show wpAny (model X.prog X.w) X.A.in1.in1 (Builtin.«list.sort» ⟨[.ref h1.objs.size],[(Str.ofString "key",.ref f)]⟩) _ _ {s with heap:=h1.push (seqObj "list" its.toArray 0)}
  refine wM I2 fp hoL rv h64 hkey hb hne fun H' p s' J e1 sm hz hp hu=>⟨_,rfl,LN ⟨_,rfl,.ref h1.objs.size,H',J,rfl,hq _ H' p fr e1 sm hz hp hu⟩⟩
theorem xT {pos:Pos} {a b:Int} {c cv:Value} (l:List Value) (h:TriplesOk l) (hn:codeAmong pos (l++[rawInt a,rawInt b,c])=some cv):codeAmong pos l=some cv∨cv=c:=by
 fun_induction TriplesOk l with
 |case1=>
  simp[codeAmong,rawInt] at hn
  exact .inr hn.2.symm
 |case2 a' t b' u x rest ih=>
  simp only[List.cons_append,codeAmong] at hn ⊢
  split at hn
  ·rename_i hc
   rw[Mz hc]
   exact .inl hn
  ·rename_i hc
   rw[MA hc]
   exact ih h hn
 |case3 l h1 h2=>exact h.elim
theorem vx {X:Cx} {pins:List (Addr×Obj)} {σ:St} {H:Hp} {s:Shared} {c P:Addr} {params:Arguments} {body:Expr} {scope:Scope} {pos:Pos} {E:Value→Shared→Prop} {Q:Value→Shared→Prop}
  (I:Inv X pins σ H s) (hB:Dq X.base X.mg) (hcode:X.env.code= .ref c) (hC:CodeHd X.base c P) (tab:TabAt H (P,X.env.qual++"<lambda>")) (hcl:closureFor scope X.env=pure []) (hdef:defaultsOf params X.env=([],[]))
  (h: ∀ (f c':Addr) (oc:Obj) (fs:Array Value) (tq:Tok) (pm ctv:Value) (H':Hp) (s':Shared),Inv X pins σ H' s'→H f=none→H' f=some (.h8 (kla_obj "<lambda>" (X.env.qual++"<lambda>") params body scope [] pm c' ctv) (.own f))→H' c'=some (.h8 oc (.own c'))→oc.data= .fields fs→fs[1]?=some (.str (X.env.qual++"<lambda>") tq)→
   TabAt H' (P,X.env.qual++"<lambda>")→(∀ b o,b≠P→H b=some o→H' b=some o)→Q (.ref f) s'):
  wpAny (model X.prog X.w) X.A (eval (.Lambda params body scope pos) X.env) Q E s:=by
 obtain⟨ps,hP,ht,hrow⟩:=tab
 have gP:s.heap.get? P=some (tabObj ps):=I.bE P _ hP
 obtain⟨bm,ob,b1,b2,b3,b4,b5,b6⟩:=hB
 have hg:s.heap.Ns mainGlobals X.mg:=I.mod.glob.keeps I.bk
 have hgP:mainGlobals≠P:=fun q=>by
  obtain⟨o,es,ep,e,hd,_⟩:=hg
  rw[q,gP] at e;cases e;cases hd
 have hbP:bm≠P:=fun q=>by
  have e:=I.bk _ _ b3
  rw[q,gP] at e;cases e;cases b4
 have hbG:bm≠mainGlobals:=fun q=>by
  obtain⟨o,es,ep,e,hd,_⟩:=I.mod.glob
  rw[q,e] at b3;cases b3;rw[hd] at b6;cases b6
 have hBA:s.heap.BuiltinsAt X.mg P:=⟨bm,ob,b1,b2,hbG,hbP,I.bk _ _ b3,b4,b5,b6⟩
 refine PySem.W.kla_eval hdef ?_
 cases hf:codeAmong pos ps.toList with
 |none=>
  refine PySem.W.kla_makeFunction (mg:=X.mg) hcl I.ok.glob hg hcode (hC.keeps I.bk) gP ht hf hgP hBA fun c' ctv h' tk hx hge hlt hrec htb=>?_
  obtain⟨c2,oc,fs,tq,e2,hoc,hfd,hfs⟩:=hrec
  cases e2
  generalize hko:kla_obj "<lambda>" (X.env.qual++"<lambda>") params body scope [] ((X.mg "__name__").getD .none) c' ctv=ko
  have hkf:ko.isFreed=false:=by rw[←hko];rfl
  have hcn:H c'=none:=I.bE.fresh hge
  have hfn:H h'.objs.size=none:=I.bE.fresh (L6 hge (Nat.le_of_lt hlt))
  have ncP:c'≠P:=fun z=>by rw[z,hP] at hcn;cases hcn
  have nfP:h'.objs.size≠P:=fun z=>by rw[z,hP] at hfn;cases hfn
  have nfc:h'.objs.size≠c':=Nat.ne_of_gt hlt
  let H':Hp:=upd (upd (upd H P (.oV (ps++ #[rawInt pos.line,rawInt pos.col,.ref c']))) c' (.h8 oc (.own c'))) h'.objs.size (.h8 ko (.own h'.objs.size))
  have at_f:H' h'.objs.size=some (.h8 ko (.own h'.objs.size)):=az
  have at_c:H' c'=some (.h8 oc (.own c')):=by
   show upd _ _ _ c'=_
   rw[ao (Ne.symm nfc),az]
  have at_P:H' P=some (.oV (ps++ #[rawInt pos.line,rawInt pos.col,.ref c'])):=by
   show upd _ _ _ P=_
   rw[ao (Ne.symm nfP),ao (Ne.symm ncP),az]
  have at_o: ∀ b,b≠h'.objs.size→b≠c'→b≠P→H' b=H b:=fun b n1 n2 n3=>by
   show upd _ _ _ b=_
   rw[ao n1,ao n2,ao n3]
  have keepH: ∀ b o,b≠P→H b=some o→H' b=some o:=fun b o nb e=>by
   rw[at_o b (aQ e hfn) (aQ e hcn) nb]
   exact e
  have kp: ∀ b o,b≠P→s.heap.get? b=some o→(h'.push ko).get? b=some o:=fun b o nb e=>LL _ (hx b o nb e)
  have tbP:(h'.push ko).get? P=some (tabObj (ps++ #[rawInt pos.line,rawInt pos.col,.ref c'])):=LL _ htb
  have un:Un X.fs [] H H' s.heap (h'.push ko):=by
   have nP: ∀ b,H b=none→b≠P:=fun b n z=>by rw[z,hP] at n;cases n
   refine⟨fun b o e n _ _=>kp b o (nP b n) e,fun b o e n _ _=>⟨o.slots,kp b o (nP b n) e⟩,fun b o e n _=>?_,fun b o e _=>?_,fun b xs e=>keepH b _ (fun z=>by rw[z,hP] at e;cases e) e,fun b ob u e=>keepH b _ (fun z=>by rw[z,hP] at e;cases e) e,fun b qs e=>?_⟩
   ·have lt:=L1 e
    rw[at_o b (Mg (L9 lt (L6 hge (Nat.le_of_lt hlt)))) (Mg (L9 lt hge)) (nP b n)]
    exact n
   ·by_cases z:b=P
    ·exact⟨_,z▸tbP⟩
    ·exact⟨o,kp b o z e⟩
   ·by_cases z:b=P
    ·subst z
     rw[hP] at e
     cases e
     exact⟨_,at_P⟩
    ·exact⟨#[],by rw[keepH b _ z e];simp⟩
  have bE:kP X.prog X.w H' (h'.push ko):=fun b u e=>by
   by_cases n1:b=h'.objs.size
   ·subst n1
    rw[at_f] at e
    cases e
    exact⟨LY _ hkf,_,LY _ hkf⟩
   ·by_cases n2:b=c'
    ·subst n2
     rw[at_c] at e
     cases e
     exact⟨LL _ hoc,_,LL _ hoc⟩
    ·by_cases n3:b=P
     ·subst n3
      rw[at_P] at e
      cases e
      exact tbP
     ·rw[at_o b n1 n2 n3] at e
      refine(I.bE b u e).pM (fun d v hd q=>kp d v ?_ q) (fun d q=>keepH d _ (fun z=>by rw[z,hP] at q;cases q) q) fun d xs q=>keepH d _ (fun z=>by rw[z,hP] at q;cases q) q
      rcases hd with z|z
      ·rw[z];exact n3
      ·exact fun y=>by rw[y,hP] at z;cases z
  subst hko
  refine h h'.objs.size c' oc fs tq _ ctv H' _ (I.un (t':=tk) un bE) hfn at_f at_c hfd hfs ⟨_,at_P,?_,fun pos' cv e=>?_⟩ keepH
  ·rw[Array.toList_append]
   exact TriplesOk_snoc _ _ _ _ ht
  ·rw[Array.toList_append] at e
   rcases xT _ ht e with e|rfl
   ·obtain⟨c3,o3,f3,t3,rfl,g1,g2,g3⟩:=hrow pos' cv e
    exact⟨c3,o3,f3,t3,rfl,keepH _ _ (fun z=>by rw[z,hP] at g1;cases g1) g1,g2,g3⟩
   ·exact⟨c',oc,fs,tq,rfl,at_c,hfd,hfs⟩
 |some cv=>
  obtain⟨c',oc,fs,tq,rfl,g1,hfd,hfs⟩:=hrow pos cv hf
  refine PySem.W.kla_makeFunctionHit (mg:=X.mg) hcl I.ok.glob hg hcode (hC.keeps I.bk) gP ht hf hBA fun ctv h' tk hk hsz=>?_
  have hfn:H h'.objs.size=none:=I.bE.fresh hsz
  have nf: ∀ b u,H b=some u→b≠h'.objs.size:=fun b u e=>aQ e hfn
  have J:=I.laid (t':=tk) (h':=h'.push (kla_obj "<lambda>" (X.env.qual++"<lambda>") params body scope [] ((X.mg "__name__").getD .none) c' ctv)) (a:=h'.objs.size) (o:=.h8 (kla_obj "<lambda>" (X.env.qual++"<lambda>") params body scope [] ((X.mg "__name__").getD .none) c' ctv) (.own h'.objs.size))
   (fun b u e=>LL _ (hk b u e)) hsz ⟨LY _ rfl,_,LY _ rfl⟩
  refine h h'.objs.size c' oc fs tq _ ctv _ _ J hfn az (by rw[ao (nf _ _ g1)];exact g1) hfd hfs ⟨ps,by rw[ao (nf _ _ hP)];exact hP,ht,fun pos' cv e=>?_⟩ fun b o _ e=>by rw[ao (nf _ _ e)];exact e
  obtain⟨c3,o3,f3,t3,rfl,k1,k2,k3⟩:=hrow pos' cv e
  exact⟨c3,o3,f3,t3,rfl,by rw[ao (nf _ _ k1)];exact k1,k2,k3⟩
end
section
open PySem.W (kla_fn kla_obj CodeHd tabObj)
def FW (e:Addr×Str) (N:List Str) (tE:TE) (Q:VK) (x:V) (H1:Hp):Prop:= ∃ (l:Addr) (xs:List V) (kf:Nat→Int×Int),x= .ref l∧(H1 l=some (.lst xs)∨H1 l=some (.tup xs))∧xs.length < 64∧TabAt H1 e∧
 (∀ i x,xs[i]?=some x→∀ H2,(∀ b o,b≠e.1→H1 b=some o→H2 b=some o)→tE (start N [x]) H2 fun v H3=> ∃ T,v= .ref T∧H2 T=none∧H3=upd H2 T (.tup [.int (kf i).1,.int (kf i).2]))∧
 (∀ i,i < xs.length→0≤(kf i).2∧(kf i).2 < 1000000)∧(∀ i j,i < xs.length→j < xs.length→i≠j→rk kf i≠rk kf j)∧
 ∀ (D:Addr) (H':Hp) (p:Array Nat),H1 D=none→H' D=some (.lst (p.toList.map fun i=>xs.getD i .aW))→(∀ b o,b≠e.1→H1 b=some o→H' b=some o)→TabAt H' e→p.size=xs.length→p.Perm (List.toArray (List.range xs.length))→wx (rk kf) p xs.length→Q (.ref D) H'
noncomputable def A3 (e:Addr×Str) (N:List Str) (tE ta:TE):TE:=fun σ H Q=>ta σ H (FW e N tE Q)
def HL (e:Addr×Str) (N:List Str) (tE:TE) (Q:VK):List V→Hp→Prop
 |[x],H1=>FW e N tE Q x H1
 |_,_=>False
theorem BP {X:Cx} {k:Nat} {c P:Addr} {params:Arguments} {body e:Expr} {scope:Scope} {lpos kpos pos p:Pos} {N:List Str} {y:Str} {tE ta:TE}
  (hr:eV (k+3) X.A) (hB:Dq X.base X.mg) (hcode:X.env.code= .ref c) (hC:CodeHd X.base c P) (hcl:closureFor scope X.env=pure []) (hdef:defaultsOf params X.env=([],[])) (S:aI N [y] scope)
  (hbind: ∀ (s:Shared) (pm:Value) (c:Addr) (ctv u:Value),BindsTo s (kla_fn "<lambda>" (X.env.qual++"<lambda>") params body scope [] pm (.ref c) ctv) ⟨[u],[]⟩ [(y,u)])
  (hbody: ∀ (f c:Addr) (A:Around) (s:Shared) (H:Hp),PE (jO fS X.prog X.w X.K X.mg X.base N (X.env.qual++"<lambda>") scope f (.ref c) A X.stack s H E0).tU body tE)
  (hg:Gl X "sorted") (hm:X.mg "sorted"=none) (ha:PE X e ta) (hs:starEach [e] X.env=(false,eval e X.env)::starEach [] X.env:=by rfl):
  PE X (.Call (.Name "sorted" p) [e] [⟨some (Str.ofString "key"),.Lambda params body scope lpos,kpos⟩] pos) (A3 (P,X.env.qual++"<lambda>") N tE ta):=by
 intro pins s σ H Q I h
 refine wpAny_Call_Name_kw (lQ I hg hm boot_sorted ?_)
 have hpa:=dS ha gA hs
 refine callWith_kw (bN (hpa pos pins s σ H (HL (P,X.env.qual++"<lambda>") N tE Q) I h) fun us s1 hu=>?_) (by rw[hs];rfl) (by rw[hs];rfl)
 obtain⟨vs,H1,I1,r,q⟩:=hu
 match vs,r,q with
 |[x],r,q=>
 obtain⟨u,rfl,rx⟩:=vals1 r
 obtain⟨l,xs,kf,rfl,hl,h64,tab,hk,hb,hne,q⟩:=q
 cases rx
 refine kws_cons (vx I1 hB hcode hC tab hcl hdef fun f c' oc fs tq pm ctv H' s' J hfn at_f at_c hfd hfs tab' keepH=>kws_nil ?_)
 show wpAny (model X.prog X.w) X.A (call (.builtin "sorted") [.ref l] [(Str.ofString "key",.ref f)]) (EP X pins σ Q) X.xe s'
 have nl:l≠P:=fun z=>by
  obtain⟨ps,hP,_⟩:=tab
  have hP:H1 P=some (.oV ps):=hP
  rw[z,hP] at hl
  rcases hl with z|z<;>cases z
 have src: ∃ T o n0 its,(T="list"∨T="tuple")∧s'.heap.get? l=some o∧o.cls= .type T∧o.data= .seq (List.toArray its) n0∧Vals xs its:=by
  rcases hl with hl|hl
  ·obtain⟨_,its,n,rv,ho⟩:=J.bE l _ (keepH l _ nl hl)
   exact⟨"list",_,n,its,.inl rfl,ho,rfl,rfl,rv⟩
  ·obtain⟨_,its,rv,o,ho,hc,n,hd⟩:=J.bE l _ (keepH l _ nl hl)
   exact⟨"tuple",o,n,its,.inr rfl,ho,hc,hd,rv⟩
 obtain⟨T,o,n0,its,hT,ho,hc,hd,rv⟩:=src
 refine sT J hT ho hc hd rv h64 (fun pins' H2 s2 i u hu sm J2=>?_) hb hne fun D H3 p' hD e1 sm hz hp hu=>?_
 ·have hi:i < xs.length:=by rw[rv.length];exact(LP.mp hu).1
  obtain⟨u',hu',ru⟩:=rv.get (LH hi)
  rw[hu] at hu'
  cases hu'
  exact vy S hr.in1.in1 rfl J2 (J2.bE f _ (sm _ _ at_f)).1 (J2.bE c' _ (sm _ _ at_c)).1 hfd hfs (hbind s2 pm c' ctv u) rfl (show Vals [xs[i]] [u] from .cons ru .nil) (hbody f c' _ s2 H2)
   (hk i _ (LH hi) H2 fun b o nb e=>sm b o (keepH b o nb e))
 ·refine q D H3 p' ?_ e1 (fun b o nb e=>sm b o (keepH b o nb e)) (tab'.keep (fun ps e=>sm _ _ e) fun b ob u e=>sm _ _ e) hz hp hu
  cases e:H1 D with
  |none=>rfl
  |some o=>
   by_cases z:D=P
   ·obtain⟨ps,hP,_⟩:=tab'
    have hP:H' P=some (.oV ps):=hP
    rw[z,hP] at hD
    cases hD
   ·rw[keepH D o z e] at hD
    cases hD
noncomputable def A4 (K:Frag) (i j:Int):TE:=Iu (mm (Dx (DS K) (oW 0) (tC (.int i))) (mm (Dx (DS K) (oW 0) (tC (.int j))) wJ))
theorem uz {K:Frag} {i j a b:Int} {N:List Str} {H:Hp} {p:Addr} {ys:List V} (h:H p=some (.tup ys)) (hi:lW ys i=some (.int a)) (hj:lW ys j=some (.int b)):
  A4 K i j (start N [.ref p]) H fun v H3=> ∃ T,v= .ref T∧H T=none∧H3=upd H T (.tup [.int a,.int b]):=by
 have e0:(start N [V.ref p])[0]?=some (some (.ref p)):=kU rfl
 exact⟨_,e0,p,ys,i,_,rfl,rfl,fM.of h,hi,_,e0,p,ys,j,_,rfl,rfl,fM.of h,hj,by show 2≤sizeLine;rw[Mq];lia,fun T hT=>⟨T,rfl,hT,rfl⟩⟩
noncomputable def kF:PV→Option (Int×Int)
 | .tup l=>match (l[2]?:Option PV),(l[1]?:Option PV) with
  |some (PV.int m),some (PV.int n)=>some (m,n)
  |_,_=>none
 |_=>none
noncomputable def wt (y:PV):Int×Int:=(kF y).getD (0,0)
noncomputable def lM (y:PV):Int:=(wt y).1 * 1000000+(wt y).2
theorem rV {y:PV} {k:Int×Int} (h:kF y=some k): ∃ l,y= .tup l∧l[2]?=some (.int k.1)∧l[1]?=some (.int k.2):=by
 cases y with
 |tup l=>
  simp only[kF] at h
  split at h
  ·rename_i m n e1 e2
   cases h
   exact⟨l,rfl,e1,e2⟩
  ·cases h
 |_=>cases h
noncomputable def Ak (y:PV):List PV→List PV
 |[]=>[y]
 |z::l=>if lM y < lM z then y::z::l else z::Ak y l
noncomputable def bp:List PV→List PV
 |[]=>[]
 |y::l=>Ak y (bp l)
noncomputable def Dk (y:PV):Bool:=match kF y with
 |some k=>decide (0≤k.2)&&decide (k.2 < 1000000)
 |none=>false
noncomputable def Ia (l:List PV):Bool:=decide (l.length < 64)&&l.all Dk&&decide (l.map lM).Nodup
theorem pj {y:PV} (h:Dk y=true): ∃ k,kF y=some k∧0≤k.2∧k.2 < 1000000:=by
 unfold Dk at h
 cases e:kF y with
 |none=>rw[e] at h;cases h
 |some k=>
  rw[e] at h
  simp only[Mo,decide_eq_true_eq] at h
  exact⟨k,rfl,h.1,h.2⟩
theorem nV (y:PV): ∀ l,(Ak y l).Perm (y::l)
 |[]=>.refl _
 |z::l=>by
  unfold Ak
  split
  ·exact .refl _
  ·exact((nV y l).cons z).trans (.swap _ _ _)
theorem fk: ∀ l,(bp l).Perm l
 |[]=>.refl _
 |y::l=>(nV y _).trans ((fk l).cons y)
abbrev Ik (a b:PV):Prop:=lM a < lM b
theorem yN (y:PV): ∀ l,l.Pairwise Ik→(∀ z∈l,lM y≠lM z)→(Ak y l).Pairwise Ik
 |[],_,_=>List.pairwise_singleton _ _
 |z::l,h,n=>by
  have h':=MC.mp h
  unfold Ak
  split
  ·rename_i c
   refine MC.mpr ⟨fun x hx=>?_,h⟩
   rcases LU.mp hx with rfl|hx
   ·exact c
   ·exact Int.lt_trans c (h'.1 x hx)
  ·rename_i c
   have nz:=n z LJ
   refine MC.mpr ⟨fun x hx=>?_,yN y l h'.2 fun x hx=>n x (LM _ hx)⟩
   rcases LU.mp ((nV y l).mem_iff.mp hx) with rfl|hx
   ·show lM z < lM x
    lia
   ·exact h'.1 x hx
theorem pC: ∀ l,(l.map lM).Nodup→(bp l).Pairwise Ik
 |[],_=>.nil
 |y::l,h=>by
  rw[LS,List.nodup_cons] at h
  refine yN y _ (pC l h.2) fun z hz e=>h.1 ?_
  rw[e]
  exact Mh ((fk l).mem_iff.mp hz)
theorem AS: ∀ (l m:List PV),l.Pairwise Ik→m.Pairwise Ik→l.Perm m→l=m
 |[],m,_,_,p=>(List.nil_perm.mp p).symm
 |a::l,[],_,_,p=>absurd p.length_eq (by simp)
 |a::l,b::m,h1,h2,p=>by
  have h1':=MC.mp h1
  have h2':=MC.mp h2
  have ea:a=b:=by
   rcases LU.mp (p.mem_iff.mp LJ) with e|ha
   ·exact e
   rcases LU.mp (p.mem_iff.mpr LJ) with e|hb
   ·exact e.symm
   have x1:lM a < lM b:=h1'.1 b hb
   have x2:lM b < lM a:=h2'.1 a ha
   lia
  subst ea
  rw[AS l m h1'.2 h2'.2 (List.perm_cons a |>.mp p)]
theorem yK {l m:List PV} (nd:(l.map lM).Nodup) (p:m.Perm l) (u:m.Pairwise Ik):bp l=m:=AS _ _ (pC l nd) u ((fk l).trans p.symm)
theorem B2 {l:List PV} {p:Array Nat} {kf:Nat→Int×Int} (nd:(l.map lM).Nodup) (hk: ∀ i,i < l.length→kf i=wt (l.getD i .aW)) (hz:p.size=l.length) (hp:p.Perm (List.toArray (List.range l.length))) (hu:wx (rk kf) p l.length):bp l=p.toList.map fun i=>l.getD i .aW:=by
 have hpl:p.toList.Perm (List.range l.length):=Array.perm_iff_toList_perm.mp hp
 have hlt: ∀ i∈p.toList,i < l.length:=fun i hi=>by
  have:=hpl.mem_iff.mp hi
  simpa using this
 refine yK nd ?_ ?_
 ·have e:(List.range l.length).map (fun i=>l.getD i .aW)=l:=by
   apply List.ext_getElem?
   intro i
   rw[L5]
   by_cases hi:i < l.length
   ·rw[List.getElem?_range hi,LH hi]
    simp[hi]
   ·rw[List.getElem?_eq_none (by simpa using hi),List.getElem?_eq_none (by simpa using hi)]
    rfl
  rw[←e]
  have:=hpl.map fun i=>l.getD i .aW
  rw[e] at this ⊢
  exact this
 ·rw[List.pairwise_map,List.pairwise_iff_getElem]
  intro i j hi hj hij
  have hj':j < l.length:=by rw[Mn,hz] at hj;exact hj
  have x:=hu i j hij hj'
  unfold kg rk at x
  have gi:p.getD i 0=p.toList[i]:=by
   rw[L8,Md (by rw[hz];lia)]
   rfl
  have gj:p.getD j 0=p.toList[j]:=by
   rw[L8,Md (by rw[hz];lia)]
   rfl
  rw[gi,gj,hk _ (hlt _ (Mu hi)),hk _ (hlt _ (Mu hj))] at x
  exact x
end
section
variable {φ:fA}
noncomputable def yp:PV→Option (List PV)
 | .lst l=>some l
 | .tup l=>some l
 |_=>none
noncomputable def rK (y:PV):M (List PV):=match yp y with
 |some l=>if Ia l then .ret (bp l) else .fail
 |none=>.fail
theorem zC {y:PV} {n:Nat} {R:List PV→Nat→Prop} (w:(rK y).wp n R): ∃ l,yp y=some l∧l.length < 64∧(∀ z∈l,Dk z=true)∧(l.map lM).Nodup∧R (bp l) n:=by
 unfold rK at w
 cases e:yp y with
 |none=>rw[e] at w;exact w.elim
 |some l=>
  rw[e] at w
  dsimp only at w
  by_cases c:Ia l=true
  ·rw[Mz c] at w
   unfold Ia at c
   simp only[Mo,decide_eq_true_eq,List.all_eq_true] at c
   exact⟨l,rfl,c.1.1,c.1.2,c.2,w⟩
  ·rw[MA c] at w;exact w.elim
theorem DM {G:Bg φ} {O:Addr→Prop} {H:Hp} {y:PV} {x:V} {l:List PV} (r:cz G O H y x) (e:yp y=some l): ∃ p xs,x= .ref p∧(H p=some (.lst xs)∨H p=some (.tup xs))∧a9 G.B O H l xs:=by
 cases y with
 |lst l'=>
  cases e
  obtain⟨p,xs,rfl,h,r⟩:=r.gG
  exact⟨p,xs,rfl,.inl h,r⟩
 |tup l'=>
  cases e
  obtain⟨p,xs,rfl,h,r⟩:=r.kh
  exact⟨p,xs,rfl,.inr h,r⟩
 |_=>cases e
theorem kN {α:Type} {l:List α} {k:Nat} {x:α} (h:l[k]?=some x):lW l (k:Int)=some x:=by
 have hk:k < l.length:=(LP.mp h).1
 unfold lW uu
 rw[Mz (by lia),Mz (by lia)]
 show l[((k:Nat):Int).toNat]?=_
 rw[Int.toNat_natCast]
 exact h
theorem CS {X:Cx} {e:Expr} {tb:Addr×Str} {N:List Str} {me:af→M PV} (hin:tb∈φ.tabs) (hun: ∀ q∈φ.tabs,q.1=tb.1→q=tb) (h:BE X e (A3 tb N (A4 X.K 2 1) (rD φ me))):EF φ X e (fun ρ=>(me ρ).bind rK):=BE.mono h fun σ H Q hq0=>by
 obtain⟨G,O,ρ,n,R,s,w,q⟩:=hq0
 rw[M.wp_bind] at w
 refine⟨G,O,ρ,n,_,s,w,fun y x H1 n1 e1 ok1 r1 w1=>?_⟩
 obtain⟨l,hl,h64,bE,nd,hR⟩:=zC w1
 obtain⟨p,xs,rfl,hp,rs⟩:=DM r1 hl
 have s1:=s.ext e1 ok1
 have tab:=G.tab H1 n1 ok1 tb hin
 have hlen:l.length=xs.length:=rs.1
 have pO:O tb.1:=s.pr _ (G.tp tb hin)
 obtain⟨ps,hP,_⟩:=id tab
 refine⟨p,xs,fun i=>wt (l.getD i .aW),rfl,hp,by lia,tab,fun i x hx H2 k2=>?_,fun i hi=>?_,fun i j hi hj ne=>?_,fun D H' p' hD hD' kp tab' hz hpm hu=>?_⟩
 ·obtain⟨y,hy,ry⟩:=rs.at' hx
  obtain⟨k,ek,b0,b1⟩:=pj (bE y (List.mem_of_getElem? hy))
  obtain⟨l',rfl,g2,g1⟩:=rV ek
  obtain⟨q',ys,rfl,hq',r'⟩:=(cz.full ry:cz G O H1 _ _).kh
  obtain⟨v2,hv2,rv2⟩:=r'.at g2
  obtain⟨v1,hv1,rv1⟩:=r'.at g1
  cases rv2
  cases rv1
  have ekk:wt (l.getD i .aW)=k:=by
   rw[L3,hy]
   show (kF _).getD _=k
   rw[Option.getD_some,ek]
   rfl
  dsimp only
  rw[ekk]
  exact uz (k2 _ _ (fun z=>by rw[z,hP] at hq';cases hq') hq') (kN hv2) (kN hv1)
 ·have hi':i < l.length:=by lia
  obtain⟨k,ek,b0,b1⟩:=pj (bE _ (Mu hi'))
  have ekk:wt (l.getD i .aW)=k:=by
   rw[L3,LH hi']
   show (kF _).getD _=k
   rw[Option.getD_some,ek]
   rfl
  dsimp only
  rw[ekk]
  exact⟨b0,b1⟩
 ·have hi':i < l.length:=by lia
  have hj':j < l.length:=by lia
  intro z
  have e1: ∀ k,(hk:k < l.length)→rk (fun i=>wt (l.getD i .aW)) k=(l.map lM)[k]'(by simpa using hk):=fun k hk=>by
   rw[List.getElem_map]
   unfold rk lM
   dsimp only
   rw[L3,LH hk]
   rfl
  rw[e1 i hi',e1 j hj'] at z
  have pw:=List.pairwise_iff_getElem.mp nd
  rcases Nat.lt_or_gt_of_ne ne with c|c
  ·exact pw i j (by simpa using hi') (by simpa using hj') c z
  ·exact pw j i (by simpa using hj') (by simpa using hi') c z.symm
 ·have kp1: ∀ b o,¬ O b→H1 b=some o→H' b=some o:=fun b o nb eb=>kp b o (fun z=>nb (z▸pO)) eb
  have ext:Ext G.B H1 H':=fun b o nb eb=>by
   by_cases z:b=tb.1
   ·obtain⟨qs,hQ,_⟩:=tab'
    rw[z,hP] at eb
    cases eb
    exact⟨qs,z▸hQ⟩
   ·exact .of (kp b o z eb)
  have ok':G.ok H' n1:=G.wG H1 H' n1 ok1 (fun q' hq'=>by
   by_cases z:q'.1=tb.1
   ·rw[hun q' hq' z]
    exact tab'
   ·exact(G.tab H1 n1 ok1 q' hq').keep (fun qs eq=>kp _ _ z eq) fun b ob u eq=>kp b _ (fun y=>by rw[y,hP] at eq;cases eq) eq) fun b o nb eb=>kp b o (fun z=>nb (LW.mpr ⟨tb,hin,z.symm⟩)) eb
  have ei:=B2 (p:=p') nd (kf:=fun i=>wt (l.getD i .aW)) (fun i _=>rfl) (by lia) (by rw[hlen];exact hpm) (by rw[hlen];exact hu)
  have hlt: ∀ i∈p'.toList,i < l.length:=fun i hi=>by
   have:=(Array.perm_iff_toList_perm.mp hpm).mem_iff.mp hi
   simp at this
   lia
  refine q (bp l) D _ H' n1 (e1.trans ext) ok' (jz e1 ok1 hD) hD' ?_ hR
  rw[ei]
  have go:a9 G.B O H1 (p'.toList.map fun i=>l.getD i .aW) (p'.toList.map fun i=>xs.getD i .aW):=by
   refine⟨by simp,fun i y x a b=>?_⟩
   rw[L5] at a b
   cases c:p'.toList[i]? with
   |none=>rw[c] at a;cases a
   |some j=>
    rw[c] at a b
    cases a
    cases b
    have hj:=hlt j (List.mem_of_getElem? c)
    obtain⟨x,hx,rx⟩:=rs.at (LH hj)
    show Rep G.B O H1 (l.getD j .aW) (xs.getD j .aW)
    rw[L3,L3,hx,LH hj]
    exact rx
  exact go.keep (O':=fun q=>O q∨q=D) (H':=H') fun b o nb eb=>⟨kp1 b o nb eb,fun z=>by
   rcases z with z|z
   ·exact nb z
   ·rw[z,hD] at eb;cases eb⟩
end
set_option genInjectivity false in
structure AA (K:Frag) (x qual:Str) (st:Stmt) (f:Addr) (fd:FuncData) (c tb:Addr):Prop where
 ex: ∃ (oc:Value) (od:Option Addr) (kV doc pm:Value) (an:Option Addr) (ct:Value) (osl:Array (Option Value)),
  fd=fnOf x qual (aR st) (aw st) (ae st) .none kV doc pm an (.ref c) ct∧K.lookup f=some ⟨oc,od,.func fd,osl⟩∧codeIn K (.ref c) qual=true
 hd:PySem.W.codeHdIn K c tb=true
section
variable {φ:fA} {P:Program} {w:World} {K:Frag} {mg:Str→Option Value} {base:Heap}
theorem AA.ok {x qual:Str} {st:Stmt} {f c tb:Addr} {fd:FuncData} {N ps:List Str} {k:Nat} {sp:Sp} (F:AA K x qual st f fd c tb) (S:aI N ps (ae st)) (len: ∀ vs H Q E,sp vs H Q E→vs.length=ps.length)
  (hbody: ∀ (A:Around) (outer:List Env) (s:Shared) (H:Hp) (vs:List V) (Q:VK) (E:XK),eV k (A.deeper (envOfC qual (ae st) s.heap.objs.size f (.ref c)))→sp vs H Q E→
   ∃ t,wy (jO fS P w K mg base N qual (ae st) f (.ref c) A outer s H E).tU (aw st) t∧t {nx:=fun _ H'=>Q .aW H',rt:=Q} (start N vs) H):bL P w K mg base fS (k+1) f fd ps sp:=by
 obtain⟨oc,od,kV,doc,pm,an,ct,osl,rfl,lk,hcd⟩:=F.ex
 refine FQ lk hcd S len fun A outer s H vs Q E hr hsp=>?_
 obtain⟨t,h,q⟩:=hbody A outer s H vs Q E hr hsp
 exact⟨t,h.tU,q⟩
theorem ER {x qual:Str} {st:Stmt} {f c tb:Addr} {fd:FuncData} {N ps:List Str} {k:Nat} {m:af→M Fl} (F:AA K x qual st f fd c tb) (S:aI N ps (ae st)) (hN:ps.length≤N.length)
  (hb: ∀ (A:Around) (outer:List Env) (s:Shared) (H:Hp) (E:XK),eV k (A.deeper (envOfC qual (ae st) s.heap.objs.size f (.ref c)))→Fh φ (jO fS P w K mg base N qual (ae st) f (.ref c) A outer s H E).tU (aw st) m):
  bL P w K mg base fS (k+1) f fd ps (jq φ (j7 ps.length N.length m)):=by
 refine F.ok S (fun vs H Q E h=>?_) (fun A outer s H vs Q E hr h=>⟨_,(hb A outer s H E hr).out,?_⟩)
 ·obtain⟨G,O,l,n,R,_,_,_,r,w,_⟩:=h
  unfold j7 at w
  by_cases hc:l.length=ps.length
  ·rw[←r.1,hc]
  ·rw[MA hc] at w;exact w.elim
 ·obtain⟨G,O,l,n,R,pr,dm,ok,r,w,q⟩:=h
  unfold j7 at w
  by_cases hc:l.length=ps.length
  ·rw[Mz hc,M.wp_bind] at w
   refine⟨G,O,H,O,jo N.length l,n,⟨⟨⟨?_,fun i e he=>?_⟩,ok,pr,dm⟩,pr,fun p h=>h,Ext.refl _ _,fun p h=>.inl h,dm,fun i p h=>?_,fun i j p h=>?_⟩,M.wp_mono w fun f n' h=>?_⟩
   ·unfold start jo;simp[r.1]
   ·unfold jo at he
    by_cases hi:i < l.length
    ·rw[Mr (by simpa using hi),L5,LH hi] at he
     cases he
     obtain⟨x,hx,rr⟩:=r.at (LH hi)
     exact⟨x,by rw[kU hx];rfl,rr⟩
    ·rw[List.getElem?_append_right (by simpa using hi),List.getElem?_replicate] at he
     split at he
     ·cases he;trivial
     ·cases he
   all_goals try (
    obtain⟨t,h1,h2,_⟩:=h
    exfalso
    unfold jo at h1
    by_cases hi:i < l.length
    ·rw[Mr (by simpa using hi),L5,LH hi] at h1
     cases h1;cases h2
    ·rw[List.getElem?_append_right (by simpa using hi),List.getElem?_replicate] at h1
     split at h1
     ·cases h1;cases h2
     ·cases h1)
   cases f with
   |nx ρ=>exact fun O' σ' H' s'=>q .aW .aW H' n' s'.ext s'.es.ok .aW h
   |rt y=>exact fun x' H' e' ok' r'=>q y x' H' n' e' ok' r' h
   |bk ρ=>exact h.elim
   |ct ρ=>exact h.elim
  ·rw[MA hc] at w;exact w.elim
theorem CI {x qual:Str} {st:Stmt} {f c tb:Addr} {fd:FuncData} {N ps:List Str} {k:Nat} {m:af→M Fl} {body:List Stmt} {sc:Scope} {Ff:List PV→M PV} (hF:Ff=j7 ps.length N.length m) (F:AA K x qual st f fd c tb) (S:aI N ps (ae st)) (hN:ps.length≤N.length) (eb:aw st=body) (es:ae st=sc)
  (hb: ∀ (A:Around) (outer:List Env) (s:Shared) (H:Hp) (E:XK),eV k (A.deeper (envOfC qual sc s.heap.objs.size f (.ref c)))→Fh φ (jO fS P w K mg base N qual sc f (.ref c) A outer s H E).tU body m):
  bL P w K mg base fS (k+1) f fd ps (jq φ Ff):=by
 subst hF eb es
 exact ER F S hN hb
end
noncomputable def nC (K:Frag) (tbs:List Addr):Sp:=fun vs H Q _=> ∃ (a:Addr) (ns:List Int),vs=[.ref a]∧cQ K H a (ns.map V.int)∧ns.length≤63∧(∀ tb∈tbs,H tb=some (.oV #[]))∧∀ H',Q (.bl true) H'
def uq (c dp:Nat) (y:PV):Prop:= ∃ d:PyData,toD y=some d∧d.showable=true∧d.hasDict=false∧d.shown.length≤c∧d.depth≤dp
theorem uq.mono {c c' dp dp':Nat} {y:PV} (h:uq c dp y) (hc:c≤c') (hd:dp≤dp'):uq c' dp' y:=by
 obtain⟨d,h1,h2,h3,h4,h5⟩:=h
 exact⟨d,h1,h2,h3,L6 h4 hc,L6 h5 hd⟩
theorem DI {i:Int} (h:i.natAbs < 10 ^ 61):uq 62 0 (.int i):=by
 refine⟨.int i,by simp only[toD],?_,by simp only[PyData.hasDict],?_,by simp only[PyData.depth];lia⟩
 ·simp only[PyData.showable,decide_eq_true_eq]
  by_cases z:i.natAbs=0
  ·rw[z];decide
  ·rw[Nat.log2_lt z]
   exact L9 h (by decide +kernel)
 ·simp only[PyData.shown]
  have:=int_text_length_le10 (k:=61) (by decide) h
  show (Str.ofString (toString i)).length≤62
  rw[PySem.ofString_length]
  lia
theorem DH {x:Str} {k:Nat} (h:x.length≤k) (hc: ∀ c∈x.cps.toList,c < 16 ^ 8):uq (10 * k+2) 0 (.str x):=by
 refine⟨.str x,by simp only[toD],by simp only[PyData.showable],by simp only[PyData.hasDict],?_,by simp only[PyData.depth];lia⟩
 simp only[PyData.shown]
 have:=PySem.StrLaws.reprText_len x hc
 lia
theorem IG {c dp:Nat}: ∀ (l:List PV),(∀ z∈l,uq c dp z)→∃ ds,nu l=some ds∧ds.length=l.length∧PyData.showableAll ds=true∧PyData.hasDictAll ds=false∧(∀ t∈PyData.shownAll ds,t.length≤c)∧(PyData.shownAll ds).length=l.length∧PyData.depthAll ds≤dp
 |[],_=>⟨[],by simp only[nu],rfl,by simp only[PyData.showableAll],by simp only[PyData.hasDictAll],(by simp only[PyData.shownAll];exact fun t h=>absurd h LV),(by simp only[PyData.shownAll,List.length_nil]),(by simp only[PyData.depthAll];lia)⟩
 |y::l,h=>by
  obtain⟨d,h1,h2,h3,h4,h5⟩:=h y LJ
  obtain⟨ds,g1,g2,g3,g4,g5,g6,g7⟩:=IG l fun z hz=>h z (LM _ hz)
  refine⟨d::ds,by simp only[nu,h1,g1,Option.bind_some,Option.map_some],by simp[g2],by simp only[PyData.showableAll,h2,g3,Bool.and_self],by simp only[PyData.hasDictAll,h3,g4,Bool.or_self],?_,by simp only[PyData.shownAll,LX,g6],by simp only[PyData.depthAll];lia⟩
  simp only[PyData.shownAll]
  intro t ht
  rcases LU.mp ht with rfl|ht
  ·exact h4
  ·exact g5 t ht
theorem join_le {c:Nat}: ∀ (ts:List Str),(∀ t∈ts,t.length≤c)→(Str.join ", " ts).length≤ts.length * (c+2)
 |[],_=>by show (0:Nat)≤_;lia
 |[x],h=>by
  have:=h x LJ
  show x.length≤1 * (c+2)
  lia
 |x::y::r,h=>by
  have ih:=join_le (y::r) fun t ht=>h t (LM _ ht)
  have hx:=h x LJ
  show (x++", "++Str.join ", " (y::r)).length≤_
  have e2:((", ":String):Str).length=2:=rfl
  rw[strLen_append,strLen_append,e2,LX,Nat.succ_mul]
  lia
theorem o5 {c dp n:Nat} {l:List PV} (h: ∀ z∈l,uq c dp z) (hl:l.length≤n):uq (n * (c+2)+3) (dp+1) (.tup l):=by
 obtain⟨ds,g1,g2,g3,g4,g5,g6,g7⟩:=IG l h
 refine⟨.tuple ds,by simp only[toD,g1,Option.map_some],by simp only[PyData.showable,g3],by simp only[PyData.hasDict,g4],?_,by simp only[PyData.depth];lia⟩
 simp only[PyData.shown]
 have hj:=join_le _ g5
 rw[g6] at hj
 have hm:l.length * (c+2)≤n * (c+2):=Nat.mul_le_mul_right _ hl
 unfold tupleText
 rw[strLen_append,strLen_append]
 have e1:(("(":String):Str).length=1:=rfl
 have e2:((if(PyData.shownAll ds).length==1 then ",)" else ")":String):Str).length≤2:=by
  by_cases z:((PyData.shownAll ds).length==1)=true
  ·rw[Mz z];decide
  ·rw[MA z];decide
 lia
theorem qq {f:PV→PV→Option Bool}: ∀ (l:List PV),(∀ z∈l,f z z=some true)→eqs f l l=some true
 |[],_=>rfl
 |y::l,h=>by
  simp only[eqs,h y LJ,qq l fun z hz=>h z (LM _ hz),Option.bind_some,Bool.and_self]
theorem pL: ∀ {l:List PV} {ds:List PyData},nu l=some ds→∀ z∈l,∃ d,toD z=some d∧d.depth≤PyData.depthAll ds
 |[],ds,e,z,hz=>nomatch hz
 |y::l,ds,e,z,hz=>by
  simp only[nu] at e
  cases e1:toD y with
  |none=>rw[e1] at e;cases e
  |some d=>
   rw[e1] at e
   cases e2:nu l with
   |none=>rw[e2] at e;cases e
   |some dl=>
    rw[e2] at e
    cases e
    simp only[PyData.depthAll]
    rcases LU.mp hz with rfl|hz
    ·exact⟨d,e1,by lia⟩
    ·obtain⟨d',h1,h2⟩:=pL e2 z hz
     exact⟨d',h1,by lia⟩
theorem eq_self: ∀ (k:Nat) (y:PV) (d:PyData),toD y=some d→d.depth < k→sy k y y=some true
 |0,_,_,_,h=>absurd h (by lia)
 |k+1,y,d,e,h=>by
  cases y with
  |tup l=>
   simp only[toD] at e
   obtain⟨ds,e1,rfl⟩:=Ma.mp e
   simp only[PyData.depth] at h
   simp only[sy]
   refine qq l fun z hz=>?_
   obtain⟨d',h1,h2⟩:=pL e1 z hz
   exact eq_self k z d' h1 (by lia)
  |lst l=>
   simp only[toD] at e
   obtain⟨ds,e1,rfl⟩:=Ma.mp e
   simp only[PyData.depth] at h
   simp only[sy]
   refine qq l fun z hz=>?_
   obtain⟨d',h1,h2⟩:=pL e1 z hz
   exact eq_self k z d' h1 (by lia)
  |aW=>rfl
  |bl b=>cases b<;>rfl
  |int i=>simp[sy,bo,toV,sx,d9]
  |str x=>simp[sy,bo,toV,sx,d9]
  |fz l=>simp only[toD] at e;cases e
  |sX l=>simp only[toD] at e;cases e
  |bQ=>simp only[toD] at e;cases e
noncomputable def JU (K:Frag) (a:Addr) (xs:List V):It:=⟨fun i H=>cQ K H a xs∧i < xs.length,fun i H x H'=>H'=H∧xs.reverse[i]?=some x,fun i H=>cQ K H a xs∧i=xs.length⟩
theorem A0 {P:Program} {w:World} {K:Frag} {tg:Expr} (a it:Addr) (xs:List V):Turn P w K tg (JU K a xs) [it] it (fun i h=>h.IsRevIter it a ((xs.length:Int) - 1 - i)) where
 mem:=by simp
 obj:=fun i h st b hb=>by
  have e:b=it:=by simpa using hb
  subst e
  obtain⟨o,e,c,d⟩:=st
  exact⟨o,e,fun v z=>by rw[d] at z;cases z⟩
 keep:=fun i h h' st k=>st.at fun o e=>k it (by simp) o e
 item:=by
  intro X hP hw hK hc i pins s σ H E I hf st hg
  subst hP hw hK
  obtain⟨hq,hi⟩:=hg
  obtain⟨its,rv,p,hz⟩:=I.list hq
  have hl:=rv.length
  obtain⟨u,hu,ru⟩:=rv.get (LH (show xs.length - 1 - i < xs.length by lia))
  obtain⟨f0,f1,f2,f3,f4,f5⟩:=hf it (by simp)
  have ei:(xs.length:Int) - 1 - i=((xs.length - 1 - i:Nat):Int):=by lia
  have st2:=st
  rw[ei] at st2
  refine wpAny_pyNext_rev_item st2 p.isList (x:=u) (by simpa using hu) fun h' st' sb=>?_
  have I1:Inv X pins σ H {s with heap:=h'}:=I.turned (t':=s.toks) (fun b o hb e=>(sb.2 b hb).trans e) f0 f1 f3 f4 f5
  have e2:((xs.length - 1 - i:Nat):Int) - 1=(xs.length:Int) - 1 - ((i+1:Nat):Int):=by lia
  rw[e2] at st'
  obtain⟨o,e,c,d⟩:=id st'
  refine⟨u,rfl,sg (s:={s with heap:=h'}) e c d (by decide) ⟨_,H,I1,ru,⟨rfl,?_⟩,st',fun b hb=>(hf b hb).1⟩⟩
  rw[List.getElem?_reverse hi]
  exact LH _
 done:=by
  intro X hP hw hK hc i pins s σ H E I hf st hg
  subst hP hw hK
  obtain⟨hq,rfl⟩:=hg
  obtain⟨f0,f1,f2,f3,f4,f5⟩:=hf it (by simp)
  rw[show (xs.length:Int) - 1 - (xs.length:Int)= -1 by lia] at st
  exact wpAny_pyNext_rev_end (I.ok.hd hc) st fun h' eb=>⟨rfl,I.turned (t':=s.toks) (fun b o hb e=>eb b o hb e) f0 f1 f3 f4 f5⟩
 self:=fun _ _ _ _ _ st h=>wpAny_pyIter_revIter st h
noncomputable def K1 (K:Frag) (ta:TA):TI:=fun σ H R=>ta σ H fun vs H1=> ∃ a xs,vs=[.ref a]∧cQ K H1 a xs∧R (JU K a xs) H1
section
variable {X:Cx} {x:Str} {p pos:Pos} {e tg:Expr}
theorem GK {ta:TA} (hg:Gl X x) (hm:X.mg x=none) (hv:bootBuiltins x=some (.type "reversed")) (ha:PA X [e] ta) (hn:x≠"__name__":=by decide) (hdb:(x==("__debug__":Str))=false:=by decide)
  (he:starEach [e] X.env=(false,eval e X.env)::starEach [] X.env:=by rfl) (hpl:(backTo pos (starEach [] X.env)).any (·.1)=false:=by rfl):PI X tg (.Call (.Name x p) [e] [] pos) (K1 X.K ta):=by
 intro pins s σ H R I h
 refine wpAny_Call_Name_kw (lQ I hg hm hv ?_ hn hdb)
 refine PyProof.Rows.callWith_type1 (bN (ha pos pins s σ H _ I h) fun us s1 ⟨vs,H1,I1,r1,q1⟩=>?_) he hpl
 obtain⟨a,xs,rfl,hq,q⟩:=q1
 obtain⟨u,rfl,ru⟩:=r1.one
 cases ru
 obtain⟨its,rv,p,hz⟩:=I1.list hq
 have hl:=rv.length
 refine call_reversed_list p.isList ?_
 have I2:Inv X pins σ H1 {s1 with heap:=s1.heap.push (revObj a ((its.toArray.size:Int) - 1))}:=I1.kept (t':=s1.toks) fun b o e=>LL _ e
 have ez:((its.toArray.size:Nat):Int) - 1=(xs.length:Int) - 1 - ((0:Nat):Int):=by rw[LO];lia
 have st:(s1.heap.push (revObj a ((its.toArray.size:Int) - 1))).IsRevIter s1.heap.objs.size a ((xs.length:Int) - 1 - ((0:Nat):Int)):=by
  rw[←ez]
  exact⟨_,LY _ rfl,rfl,rfl⟩
 refine wpAny_pyIter_revIter st ?_
 refine⟨s1.heap.objs.size,[s1.heap.objs.size],_,_,H1,rfl,I2,A0 a _ xs,st,fun b hb=>?_,q⟩
 have e:b=s1.heap.objs.size:=by simpa using hb
 subst e
 exact I1.rj (LQ _) (I1.bE.fresh (LQ _))
end
theorem EO {K:Frag} {a:Addr} {xs:List V} {g:TG} {tb:TS} {D:Ends} {σ:St} {H:Hp} (Pv:Nat→L2.St→Hp→Prop) (h0:Pv 0 σ H) (hl: ∀ i σ H,i≤xs.length→Pv i σ H→cQ K H a xs)
  (hs: ∀ i x σ H,x∈xs→i < xs.length→Pv i σ H→g x σ H fun σ2 H2=>tb {D with nx:=Pv (i+1),ct:=Pv (i+1),bk:=D.nx} σ2 H2) (hd: ∀ σ H,Pv xs.length σ H→D.nx σ H):
  ∃ W:Nat→Nat→L2.St→Hp→Prop,(∃ m,W 0 m σ H)∧∀ i m σ H,W i m σ H→
   ((JU K a xs).stop i H∧D.nx σ H)∨((JU K a xs).go i H∧∃ N:L2.St→Hp→Prop,(∀ σ' H',N σ' H'→∃ m',m' < m∧W (i+1) m' σ' H')∧∀ x H',(JU K a xs).AG i H x H'→g x σ H' fun σ2 H2=>tb {D with nx:=N,ct:=N,bk:=D.nx} σ2 H2):=by
 refine⟨fun i m σ H=>m=xs.length - i∧i≤xs.length∧Pv i σ H,⟨xs.length,by simp,Me _,h0⟩,?_⟩
 rintro i m σ H ⟨rfl,hi,p⟩
 have q:=hl i σ H hi p
 by_cases hlt:i < xs.length
 ·refine .inr ⟨⟨q,hlt⟩,Pv (i+1),fun σ' H' p'=>⟨xs.length - (i+1),by lia,rfl,hlt,p'⟩,fun x H' y=>?_⟩
  obtain⟨rfl,y⟩:=y
  exact hs i x σ _ (List.mem_reverse.mp (List.mem_of_getElem? y)) hlt p
 ·have e:i=xs.length:=by lia
  subst e
  exact .inl ⟨⟨q,rfl⟩,hd σ H p⟩
set_option genInjectivity false in
structure JN (H:Hp) (a:Addr) (n:Nat):Prop where
 ex: ∃ (d sd k:Int),H a=some (.lst [.int d,.int sd,.int k])∧0≤d∧0≤sd∧sd < 2305843009213693951∧0≤k∧k≤n
noncomputable def Bc:Sp:=fun vs H Q _=> ∃ (a:Addr) (n:Nat) (m:Int),vs=[.ref a,.int m]∧JN H a n∧n < 1000000∧0 < m∧m < 1073741824∧
 ∀ (d:Int) (o:HO),0≤d→d < m→JN (upd H a o) a (n+1)→Q (.int d) (upd H a o)
noncomputable def sS (K:Frag):Sp:=fun vs H Q _=> ∃ (a:Addr) (ns:List Int),vs=[.ref a]∧cQ K H a (ns.map V.int)∧ns.length≤63∧∀ (b:Addr) (H':Hp),gq H H'→JN H' b 0→Q (.ref b) H'
noncomputable abbrev xA (K:Frag) (tabs:List (Addr×Str)):fA:=⟨K,Bc,tabs⟩
noncomputable def rM (K:Frag) (tabs:List (Addr×Str)) (a:Addr):Bg (xA K tabs) where
 B:=a
 dP:=fun p=>p=a∨p∈tabs.map (·.1)
 ok:=fun H n=>(∃ k,k+n≤1000000∧JN H a k)∧∀ e∈tabs,TabAt H e
 pB:=.inl rfl
 keep:=fun H H' n k h=>by
  obtain⟨⟨j,hj,b⟩,ht⟩:=h
  obtain⟨d,sd,k',h1,r⟩:=b.ex
  exact⟨⟨j,hj,d,sd,k',k a _ (.inl (.inl rfl)) h1,r⟩,fun e he=>(ht e he).keep (fun ps z=>k _ _ (.inl (.inr (Mh he))) z) fun b ob u z=>k _ _ (.inr trivial) z⟩
 tp:=fun e he=>.inr (Mh he)
 tab:=fun H n h=>h.2
 wG:=fun H H' n h h1 h2=>by
  obtain⟨⟨j,hj,b⟩,ht⟩:=h
  obtain⟨d,sd,k',g1,r⟩:=b.ex
  have no:a∉tabs.map (·.1):=fun z=>by
   obtain⟨e',he',z2⟩:=LW.mp z
   obtain⟨ps,e2,_⟩:=ht e' he'
   rw[z2,g1] at e2;cases e2
  exact⟨⟨j,hj,d,sd,k',h2 a _ no g1,r⟩,h1⟩
 C0:=fun H n p h z=>by
  obtain⟨⟨j,hj,b⟩,ht⟩:=h
  obtain⟨d,sd,k',g1,r⟩:=b.ex
  rcases z with rfl|z
  ·exact⟨_,g1⟩
  ·obtain⟨e',he',rfl⟩:=LW.mp z
   obtain⟨ps,e3,_⟩:=ht e' he'
   exact⟨_,e3⟩
 dr:=fun H n m Q E ok h0 h1 q=>by
  obtain⟨⟨k,hk,b⟩,ht⟩:=ok
  obtain⟨_,_,_,e1,_⟩:=id b.ex
  exact⟨a,k,m,rfl,b,by lia,h0,h1,fun d o d0 d1 b'=>q d _ d0 d1 (fun p u np hp=>.of (by rw[ao np];exact hp)) ⟨⟨k+1,by lia,b'⟩,fun e he=>(ht e he).keep (fun ps z=>by rw[ao (B9 z e1 (by intro y;cases y))];exact z) fun b ob u z=>by rw[ao (B9 z e1 (by intro y;cases y))];exact z⟩⟩
theorem ED {tabs:List (Addr×Str)} {P:Program} {w:World} {K:Frag} {mg:Str→Option Value} {base:Heap} {x qual:Str} {st s0:Stmt} {f:Addr} {fd:FuncData} {N:List Str} {k b:Nat} {m:af→M Fl} {rest:List Stmt} {sc:Scope} (F:Fj K x qual st f fd) (S:aI N ["_law_script"] (ae st)) (eb:aw st=s0::rest) (es:ae st=sc)
  (h0: ∀ (cdv:Value) (A:Around) (outer:List Env) (s:Shared) (H:Hp) (E:XK),eV k (A.deeper (envOfC qual sc s.heap.objs.size f cdv))→BS (jO fS P w K mg base N qual sc f cdv A outer s H E).tU s0 (lA (uA (sS K) [] E0 (mm (oW 0) wJ)) (gn b)))
  (hb: ∀ (cdv:Value) (A:Around) (outer:List Env) (s:Shared) (H:Hp) (E:XK),eV k (A.deeper (envOfC qual sc s.heap.objs.size f cdv))→Fh (xA K tabs) (jO fS P w K mg base N qual sc f cdv A outer s H E).tU rest m)
  (hm:(m ((List.replicate N.length un).set b (.val .bQ))).wp 1000000 fun f _=>f= .rt (.bl true)) (h1:0 < N.length) (hb1:b < N.length) (hb0:b≠0):
  bL P w K mg base fS (k+1) f fd ["_law_script"] (nC K (tabs.map (·.1))):=by
 subst es
 refine F.ok S (fun vs H Q E h=>by obtain⟨a,ns,rfl,_⟩:=h;rfl) (fun cdv A outer s H vs Q E hr h=>?_)
 rw[eb]
 refine⟨_,dJ (h0 cdv A outer s H E hr).out (hb cdv A outer s H E hr).out,?_⟩
 obtain⟨a,ns,rfl,hS,h63,ht,q⟩:=h
 refine⟨.ref a,?_,a,ns,rfl,hS,h63,fun b' H' sm bQ=>?_⟩
 ·exact kU (N:=N) rfl
 ·have hl:(start N [V.ref a]).length=N.length:=by
   unfold start
   simp only[Mc,LK,List.length_replicate,LX,List.length_nil]
   lia
  have u9:(rM K tabs b').ok H' 1000000:=⟨⟨0,by lia,bQ⟩,fun e he=>⟨#[],sm _ _ (ht _ (Mh he)),trivial,fun pos cv z=>nomatch z⟩⟩
  have no: ∀ i p,¬ fN ((List.replicate N.length un).set b (.val .bQ)) ((start N [V.ref a]).set b (some (V.ref b'))) i p:=fun i p hh=>by
   obtain⟨t,g1,g2,_⟩:=hh
   by_cases e:b=i
   ·subst e
    rw[MB (by simpa using hb1)] at g1
    cases g1;cases g2
   ·rw[Mj e,List.getElem?_replicate] at g1
    split at g1
    ·cases g1;cases g2
    ·cases g1
  refine⟨rM K tabs b',(rM K tabs b').dP,H',(rM K tabs b').dP,_,1000000,⟨⟨⟨by simp[hl],fun i e he=>?_⟩,u9,fun p z=>z,fun p z=>(rM K tabs b').C0 H' 1000000 p u9 z⟩,fun p z=>z,fun p z=>z,Ext.refl _ _,fun p z=>.inl z,fun p z=>(rM K tabs b').C0 H' 1000000 p u9 z,fun i p hh=>(no i p hh).elim,fun i j p hh=>(no i p hh).elim⟩,M.wp_mono hm fun f n' hf=>?_⟩
  ·by_cases e1:b=i
   ·subst e1
    rw[MB (by simpa using hb1)] at he
    cases he
    rw[MB (by lia)]
    exact⟨_,rfl,.bQ⟩
   ·rw[Mj e1,List.getElem?_replicate] at he
    split at he
    ·cases he;trivial
    ·cases he
  ·subst hf
   intro x' H2 _ _ r2
   cases r2
   exact q H2
end L2
namespace HT
open L2
open L2.Ent (val un)
theorem Bq (A:Around) (s:Shared) (a:Int) (t:Tok) (c:Int) (u:Tok) (prog:Program) (w:World) (E:Value→Shared→Prop) (Q:Value→Shared→Prop) (h:Q (.bool (decide (c < a))) s):
  wpAny (model prog w) A (richCompare .Gt (.int a t) (.int c u)) Q E s:=(gt_int h:wpAny (model prog w) A (compareOp .Gt (.int a t) (.int c u)) Q E s)
section
open PySem.SeqAt
open PySem.AutoSeq1 (wpAny_loadPart')
open PySem.MeetsSeq PySem.MeetsSeq2 PySem.MeetsSeq3
theorem qN (l b:Addr) (items items2:Array Value) (n n2:Nat) (dd dd2:Option Addr) (sl sl2:Array (Option Value)) (ns ms:List Int) (hi:IntsAre items.toList ns) (hj:IntsAre items2.toList ms):
  Meets (Builtin.«tuple.__gt__» ⟨[.ref l,.ref b],[]⟩)
   (fun _ R s=>s.heap.get? l=some {cls:=.type "tuple",dict:=dd,data:=.seq items n,slots:=sl}∧s.heap.get? b=some {cls:=.type "tuple",dict:=dd2,data:=.seq items2 n2,slots:=sl2}∧
    R (.ok (.ret (.bool (lexLt ms ns)))) s):=
 .of_wp fun prog w A R s h=>by
  obtain⟨hp,g,d,tk,os⟩:=s;obtain⟨hl,hb,h⟩:=h
  have f2:=AutoSeq1.sub_tuple_tuple
  have z1:items.size=ns.length:=by rw[←hi.length];simp
  have z2:items2.size=ms.length:=by rw[←hj.length];simp
  wp_walk using wpAny_loadPart' hl,wpAny_loadPart' hb,wpAny_forIn_list _ (fun rest b s'=>b.1=none∧s'=⟨hp,g,d,tk,os⟩∧∃ (vs ws:List Value) (ns' ms':List Int),rest=vs.zip ws∧
   IntsAre vs ns'∧IntsAre ws ms'∧ns'.length+items2.size=ms'.length+items.size∧R (.ok (.ret (.bool (lexLt ms' ns')))) ⟨hp,g,d,tk,os⟩) _
  case turn=>
   rintro⟨y,x⟩ rest b s' ⟨hb',rfl,vs,ws,ns',ms',hz,hvi,hwi,hlen,hR⟩
   cases hvi with
   |nil=>rw[List.zip_nil_left] at hz;cases hz
   |cons a t hvi'=>
    cases hwi with
    |nil=>rw[List.zip_nil_right] at hz;cases hz
    |cons c u hwi'=>
     rw[List.zip_cons_cons] at hz
     injection hz with hyx hrest
     injection hyx with hy hx
     subst hy hx
     rw[lP] at hR
     simp only[LX] at hlen
     obtain⟨e,he,hiff⟩:=CM A.in1 ⟨hp,g,d,tk,os⟩ a t c u
     refine LI (he prog w _ _ ?_)
     cases e with
     |true=>
      rw[Mz (hiff.mp rfl).symm] at hR
      wp_walk
      exact⟨rfl,rfl,_,_,_,_,hrest,hvi',hwi',by lia,hR⟩
     |false=>
      rw[MA (fun q=>absurd (hiff.mpr q.symm) Bool.false_ne_true)] at hR
      have hri:=Bq A.in1 ⟨hp,g,d,tk,os⟩ a t c u prog w
      wp_walk using hri
      exact⟨_,rfl,by simpa using hR⟩
  case fin=>
   rintro⟨b1,b2⟩ s' ⟨hb',rfl,vs,ws,ns',ms',hz,hvi,hwi,hlen,hR⟩
   simp only at hb'
   subst hb'
   have hv:lexLt ms' ns'=decide (items2.size < items.size):=by
    cases hvi with
    |nil=>
     cases hwi with
     |nil=>
      simp only[List.length_nil] at hlen
      rw[lJ]
      exact(Mb (by lia)).symm
     |cons c u hw=>
      simp only[List.length_nil,LX] at hlen
      rw[p9]
      exact(Mb (by lia)).symm
    |cons a t hv=>
     cases hwi with
     |nil=>
      simp only[List.length_nil,LX] at hlen
      rw[p8]
      exact(decide_eq_true (by lia)).symm
     |cons c u hw=>
      rw[List.zip_cons_cons] at hz
      cases hz
   rw[hv] at hR
   wp_walk
   exact⟨_,rfl,by simpa[Builtin.Tuple.tupleCompareSizes] using hR⟩
  case h=>
   exact⟨rfl,rfl,items.toList,items2.toList,ns,ms,rfl,hi,hj,by lia,h⟩
end
section
variable {prog:Program} {w:World} {A:Around} {E:Value→Shared→Prop} {s:Shared}
theorem xu {l b:Addr} {items items2:Array Value} {ns ms:List Int} {Q:Value→Shared→Prop} (hl:IsTup s.heap l items) (hb:IsTup s.heap b items2) (hi:IntsAre items.toList ns) (hj:IntsAre items2.toList ms)
  (hu:A.units < cLine) (h:Q (.bool (lexLt ms ns)) s):wpAny (model prog w) A (compareOp .Gt (.ref l) (.ref b)) Q E s:=by
 obtain⟨⟨cls,dd,data,sl⟩,ho,hc,n,hd⟩:=id hl
 obtain⟨⟨cls2,dd2,data2,sl2⟩,ho2,hc2,n2,hd2⟩:=id hb
 simp only at hc hd hc2 hd2
 subst hc hd hc2 hd2
 exact richCompare_meets_room (op:=.Gt) ⟨_,ho,rfl⟩ ⟨_,ho2,rfl⟩ PySem.F.slot_tuple_gt PySem.F.entry_tuple_gt (PySem.F.args_tuple_gt_2 _ _) (qN l b items items2 n n2 dd dd2 sl sl2 ns ms hi hj)
  ⟨ho,ho2,show Value.bool (lexLt ms ns)≠Value.notImplemented∧Q (.bool (lexLt ms ns)) s from⟨(fun x=>nomatch x),h⟩⟩ hu
end
end HT
namespace L2
section
open PySem.W (kla_fn kla_obj CodeHd tabObj)
def Bt:List V→Hp→VK→Prop:=fun xs H Q=> ∃ (B:Addr) (O:Addr→Prop) (y:PV) (x:V) (d:PyData),xs=[x]∧Rep B O H y x∧(∀ l,y≠.lst l)∧toD y=some d∧kl d∧Q (.str d.shown) H
theorem qA {X:Cx} (hg:X.A.guards=some []) (hu:X.A.units+64 < cLine):iy X (.builtin "repr") Bt:=by
 intro pins s σ H xs us Q I r h
 obtain⟨B,O,y,x,d,rfl,rp,nl,hd,hs,q⟩:=h
 cases y with
 |tup l=>exact xM hg hu pins s σ H [x] us Q I r ⟨B,O,l,x,d,rfl,rp,hd,hs,q⟩
 |lst l=>exact absurd rfl (nl l)
 |aW=>
  obtain⟨u,rfl,rx⟩:=vals1 r
  cases rp
  cases rx
  simp only[toD] at hd
  cases hd
  exact PySem.P.repr_of_none ⟨.str _,H,I.tok _,⟨_,rfl⟩,by simpa only[PyData.shown] using q⟩
 |bl b=>
  obtain⟨u,rfl,rx⟩:=vals1 r
  cases rp
  cases rx
  simp only[toD] at hd
  cases hd
  exact PySem.P.repr_of_bool ⟨.str _,H,I.tok _,⟨_,rfl⟩,by simpa only[PyData.shown] using q⟩
 |int i=>
  obtain⟨u,rfl,rx⟩:=vals1 r
  cases rp
  obtain⟨t,rfl⟩:=rx
  simp only[toD] at hd
  cases hd
  exact PySem.P.repr_of_int (by simpa only[PyData.showable,decide_eq_true_eq] using hs.1) ⟨.str _,H,I.tok _,⟨_,rfl⟩,by simpa only[PyData.shown] using q⟩
 |str z=>
  obtain⟨u,rfl,rx⟩:=vals1 r
  cases rp
  obtain⟨t,rfl⟩:=rx
  simp only[toD] at hd
  cases hd
  have h3:=hs.2.2.1
  simp only[PyData.shown] at h3
  exact PySem.P.repr_of_str ⟨.str _,H,I.tok _,⟨_,rfl⟩,by simpa only[PyData.shown] using q⟩ (by rw[Mq];lia)
 |fz l=>simp only[toD] at hd;cases hd
 |sX l=>simp only[toD] at hd;cases hd
 |bQ=>simp only[toD] at hd;cases hd
noncomputable def Jj:PV→Bool
 | .lst _=>false
 |_=>true
noncomputable def oB:List PV→M PV
 |[y]=>if Jj y then(M.cY (toD y)).bind fun d=>if kl d then .ret (.str d.shown) else .fail else .fail
 |_=>.fail
theorem vW:oU Bt oB:=fun φ G O H n R Q l xs pr dm ok r w q=>by
 match l,r,w with
 |[y],r,w=>
  obtain⟨x,rfl,r1⟩:=r.one
  unfold oB at w
  dsimp only at w
  by_cases c:Jj y=true
  ·rw[Mz c] at w
   cases e:toD y with
   |none=>rw[e] at w;exact w.elim
   |some d=>
    rw[e] at w
    have w':(if kl d then M.ret (PV.str d.shown) else .fail).wp n R:=w
    by_cases hs:kl d
    ·rw[Mz hs] at w'
     cases r1 with
     |full h=>exact⟨G.B,O,y,x,d,rfl,h,(fun l z=>by rw[z] at c;cases c),e,hs,q.sc ok (.str _) w'⟩
     |top np h r=>cases c
     |wH np h r=>simp only[toD] at e;cases e
    ·rw[MA hs] at w';exact w'.elim
  ·rw[MA c] at w;exact w.elim
theorem Bn {c dp:Nat} {y:PV} (h:uq c dp y) (hl:Jj y=true) (hc:c≤1000000) (hd:dp≤40): ∃ t:Str,oB [y]= .ret (.str t):=by
 obtain⟨d,h1,h2,h3,h4,h5⟩:=h
 refine⟨d.shown,?_⟩
 unfold oB
 dsimp only
 rw[Mz hl,h1]
 show (if kl d then M.ret (PV.str d.shown) else .fail)=_
 rw[Mz ⟨h2,h3,by lia,by lia⟩]
noncomputable def bi (kf:Nat→Int×Int):Nat→Option Nat
 |0=>none
 |j+1=>match bi kf j with
  |none=>some j
  |some b=>if rk kf b < rk kf j then some j else some b
theorem v9 {kf:Nat→Int×Int}: ∀ {j b:Nat},bi kf j=some b→b < j
 |0,b,h=>by cases h
 |j+1,b,h=>by
  unfold bi at h
  cases e:bi kf j with
  |none=>rw[e] at h;cases h;lia
  |some c=>
   rw[e] at h
   dsimp only at h
   have:=v9 e
   by_cases z:rk kf c < rk kf j
   ·rw[Mz z] at h;cases h;lia
   ·rw[MA z] at h;cases h;lia
theorem zd {kf:Nat→Int×Int}: ∀ {j:Nat},0 < j→∃ b,bi kf j=some b
 |j+1,_=>by
  unfold bi
  cases e:bi kf j with
  |none=>exact⟨_,rfl⟩
  |some c=>
   dsimp only
   by_cases z:rk kf c < rk kf j
   ·exact⟨_,Mz z⟩
   ·exact⟨_,MA z⟩
theorem Cc (a v u:Value):argsOk "max" ⟨[a],[(Str.ofString "key",v),(Str.ofString "default",u)]⟩:=by unfold argsOk;kernel_rfl
theorem IJ {m n m' n':Int} (h0:0≤n) (h1:n < 1000000) (h0':0≤n') (h1':n' < 1000000):HT.lexLt [m,n] [m',n']=decide (m * 1000000+n < m' * 1000000+n'):=by
 rw[HT.lP,HT.lP,HT.lJ]
 by_cases c:m=m'
 ·subst c
  rw[Mz rfl]
  by_cases d:n=n'
  ·subst d
   rw[Mz rfl]
   simp
  ·rw[MA d]
   exact decide_eq_decide.mpr ⟨fun z=>by lia,fun z=>by lia⟩
 ·rw[MA c]
  exact decide_eq_decide.mpr ⟨fun z=>by lia,fun z=>by lia⟩
section
variable {X:Cx} {pins:List (Addr×Obj)} {σ:St} {H:Hp} {s:Shared} {f l It S:Addr} {its:List Value} {xs:List V} {kf:Nat→Int×Int} {R:Result→Shared→Prop}
noncomputable def FU (xs:List V):Option (Nat×Addr)→List V
 |none=>[]
 |some (b,T)=>[xs.getD b .aW,.ref T]
theorem Cb (hh:X.A.handled=none) (hu:X.A.units+64 < cLine) (hl:H l=some (.lst xs)) (rvl:xs.length < 100000) (nl:H It=none) (hSn:H S=none) (hIS:It≠S)
  (hkey: ∀ (pins':List (Addr×Obj)) (H1:Hp) (s1:Shared) (i:Nat) (x:V) (u:Value),xs[i]?=some x→RelV x u→gq H H1→Inv X pins' σ H1 s1→wpAny (model X.prog X.w) X.A.in1 (call (.ref f) [u]) (EP X pins' σ fun v H2=> ∃ T,v= .ref T∧H1 T=none∧H2=upd H1 T (.tup [.int (kf i).1,.int (kf i).2])) (fun _ _=>False) s1)
  (hb: ∀ i,i < xs.length→0≤(kf i).2∧(kf i).2 < 1000000)
  (hR: ∀ (H':Hp) (s':Shared) (v:V) (u:Value),Inv X pins σ H' s'→gq H H'→RelV v u→v=(match bi kf xs.length with|none=>.aW|some b=>xs.getD b .aW)→R (.ok (.ret u)) s'):
  ∀ (r j:Nat) (H1:Hp) (s1:Shared) (o:Option (Nat×Addr)),xs.length - j=r→j≤xs.length→Inv X pins σ H1 s1→eQ X pins H1 It→gq H H1→s1.heap.IsListIter It l j→H1 S=some (.lst (FU xs o))→o.map (·.1)=bi kf j→(∀ b T,o=some (b,T)→H1 T=some (.tup [.int (kf b).1,.int (kf b).2]))→
   codeAny (model X.prog X.w) X.A (.builtin "max.loop" ⟨[.ref It,.ref f,.ref S],[(Str.ofString "default",.none)]⟩) R s1:=by
 have hname:(toString "max"++toString ".loop":String)="max.loop":=by decide
 intro r
 induction r with
 |zero=>
  intro j H1 s1 o hr hj I fp sm st hS ho hT
  have ej:j=xs.length:=by lia
  subst ej
  obtain⟨_,its,n,r1,r2,gS⟩:=I.lD hS
  obtain⟨_,itl,nl',r3,r4,gl⟩:=I.lD (sm _ _ hl)
  obtain⟨f0,f1,f2,f3,f4,f5⟩:=fp
  refine codeAny_builtin PySem.F.entry_max_loop ?_
  rw[Around.under_plainId PySem.F.plain_max_loop _]
  show wpAny _ X.A.in1 (seqItems? (.ref S) >>= _) _ _ _
  refine LI (wpAny_seqItems gS rfl ?_)
  show wpAny _ X.A.in1 (tryCatch (pyNext (.ref It)) _ >>= _) _ _ _
  refine LI (wpAny_tryCatch (wpAny_pyNext_list_end (A:=X.A.in1) hh st (items:=itl.toArray) ⟨_,gl,rfl,nl',rfl⟩ (by simp;lia) fun h' eb=>?_))
  have I1:Inv X pins σ H1 {s1 with heap:=h'}:=I.turned (t':=s1.toks) (fun b o hb e=>eb b o hb e) f0 f1 f3 f4 f5
  cases o with
  |none=>
   have e0:its=[]:=by
    cases r1;rfl
   subst e0
   have eb0:bi kf xs.length=none:=ho.symm
   show wpAny _ X.A.in1 (rule _ >>= _) _ _ _
   refine LI (wpAny_rule (LN ?_))
   exact hR H1 _ .aW .none I1 sm rfl (by rw[eb0])
  |some p=>
   obtain⟨b,T⟩:=p
   have eb0:bi kf xs.length=some b:=ho.symm
   obtain⟨_,its2,n2,q1,q2,gS2⟩:=I1.lD hS
   have gSe:h'.get? S=some {cls:=.type "list",data:=.seq its.toArray n}:=eb S _ (Ne.symm hIS) gS
   cases r1 with
   |cons ra rest=>
    cases rest with
    |cons rb rest=>
     cases rest
     cases rb
     rename_i u
     show wpAny _ X.A.in1 (updateSeq S (fun _=> #[]) >>= _) _ _ _
     refine LI ?_
     refine wpAny_updateSeq gSe rfl (LI (wpAny_letGo (LN ?_)))
     have I2:=I1.Ac (t':=s1.toks) (f:=fun _=>(#[]:Array Value)) (its':=[]) (ys:=[]) hS gSe rfl .nil (Me _)
     refine hR _ _ _ u I2 (fun b' o' e=>?_) ra (by rw[eb0])
     rw[ao (aQ e hSn)]
     exact sm _ _ e
 |succ r ih=>
  intro j H1 s1 o hr hj I fp sm st hS ho hT
  have hlt:j < xs.length:=by lia
  obtain⟨_,its,n,r1,r2,gS⟩:=I.lD hS
  obtain⟨_,itl,nl',r3,r4,gl⟩:=I.lD (sm _ _ hl)
  obtain⟨f0,f1,f2,f3,f4,f5⟩:=id fp
  obtain⟨u,hu',ru⟩:=r3.get (LH hlt)
  refine codeAny_builtin PySem.F.entry_max_loop ?_
  rw[Around.under_plainId PySem.F.plain_max_loop _]
  show wpAny _ X.A.in1 (seqItems? (.ref S) >>= _) _ _ _
  refine LI (wpAny_seqItems gS rfl ?_)
  show wpAny _ X.A.in1 (tryCatch (pyNext (.ref It)) _ >>= _) _ _ _
  refine LI (wpAny_tryCatch (wpAny_pyNext_list_item (A:=X.A.in1) st (items:=itl.toArray) ⟨_,gl,rfl,nl',rfl⟩ (x:=u) (by simpa using hu') fun h' st' sb=>?_))
  have I1:Inv X pins σ H1 {s1 with heap:=h'}:=I.turned (t':=s1.toks) (fun b o hb e=>(sb.2 b hb).trans e) f0 f1 f3 f4 f5
  obtain⟨oI,gI,cI,dI⟩:=id st'
  have I2:Inv X ((It,oI)::pins) σ H1 {s1 with heap:=h'}:=I1.kX fun q hq=>by
   rcases LU.mp hq with rfl|hq
   ·exact⟨gI,f0,f1,f2,fun v z=>by rw[dI] at z;cases z⟩
   ·exact I1.pin q (L4 _ hq)
  show wpAny _ X.A.in1 (tryCatch (holding [u] (call (.ref f) [u])) _ >>= _) _ _ _
  refine LI (wpAny_tryCatch (wpAny_holding (wpAny_mono (hkey _ H1 _ j _ u (LH hlt) ru sm I2) (fun kv s2 he=>?_) fun _ _ hF=>hF.elim)))
  obtain⟨v,H2,J2,rk',T,rfl,hTn,rfl⟩:=he
  cases rk'
  have st2:s2.heap.IsListIter It l (j+1):=⟨oI,(J2.pin _ (L4 _ LJ)).1,cI,dI⟩
  have J3:Inv X pins σ (upd H1 T (.tup [.int (kf j).1,.int (kf j).2])) s2:=J2.kX fun q hq=>J2.pin q (L4 _ (LM _ hq))
  have hTS:S≠T:=aQ hS hTn
  have hS2:upd H1 T (.tup [.int (kf j).1,.int (kf j).2]) S=some (.lst (FU xs o)):=by rw[ao hTS];exact hS
  have sm2:gq H (upd H1 T (.tup [.int (kf j).1,.int (kf j).2])):=fun b' o' e=>by
   rw[ao (aQ (sm _ _ e) hTn)]
   exact sm _ _ e
  have fp2:eQ X pins (upd H1 T (.tup [.int (kf j).1,.int (kf j).2])) It:=⟨(J2.pin _ (L4 _ LJ)).2.1,f1,f2,f3,f4,f5⟩
  obtain⟨_,itS,nS,q1,q2,gS2⟩:=J3.lD hS2
  have new:bi kf (j+1)=some j→codeAny (model X.prog X.w) X.A (.builtin "max.loop" ⟨[.ref It,.ref f,.ref S],[(Str.ofString "default",.none)]⟩) R {s2 with heap:=s2.heap.update S (Obj.mapSeq fun _=> #[u,.ref T])}:=fun eb=>by
   have I4:=J3.Ac (t':=s2.toks) (f:=fun _=> #[u,.ref T]) (its':=[u,.ref T]) (ys:=[xs.getD j .aW,.ref T]) hS2 gS2 rfl (.cons (by rw[L3,LH hlt];exact ru) (.cons rfl .nil)) (by show 2≤sizeLine;rw[Mq];lia)
   refine ih (j+1) _ _ (some (j,T)) (by lia) hlt I4 ⟨by rw[ao hIS];exact fp2.1,fp2.2⟩ (fun b' o' e=>?_) ?_ az eb.symm (fun b' T' e=>?_)
   ·rw[ao (aQ e hSn)]
    exact sm2 _ _ e
   ·obtain⟨o',g',c',d'⟩:=st2
    exact⟨o',(Heap.get?_update_other _ _ (Ne.symm hIS)).trans g',c',d'⟩
   ·cases e
    rw[ao (Ne.symm hTS),az]
  cases o with
  |none=>
   have e0:its=[]:=by
    cases r1;rfl
   subst e0
   have eb0:bi kf j=none:=ho.symm
   show wpAny _ X.A.in1 (updateSeq S (fun _=> #[u,.ref T]) >>= _) _ _ _
   refine LI ?_
   refine wpAny_updateSeq gS2 rfl ?_
   rw[hname]
   exact LN ⟨plainId_quiet PySem.F.plain_max_loop _,new (by unfold bi;rw[eb0])⟩
  |some p=>
   obtain⟨b,T'⟩:=p
   have eb0:bi kf j=some b:=ho.symm
   have hbj:=v9 eb0
   have hT':=hT b T' rfl
   have hT2:upd H1 T (.tup [.int (kf j).1,.int (kf j).2]) T'=some (.tup [.int (kf b).1,.int (kf b).2]):=by rw[ao (aQ hT' hTn)];exact hT'
   cases r1 with
   |cons ra rest=>
    cases rest with
    |cons rb rest=>
     cases rest
     cases rb
     rename_i ub
     show wpAny _ X.A.in1 (tryCatch (holding [u,.ref T] (richCompare .Gt (.ref T) (.ref T') >>= _)) _ >>= _) _ _ _
     obtain⟨oa,na,ta,tb',ga,ca,da⟩:=mB J3.bE (show upd H1 T (.tup [.int (kf j).1,.int (kf j).2]) T=_ from az)
     obtain⟨oc,nc,tc,td,gc,cc,dc⟩:=mB J3.bE hT2
     refine LI (wpAny_tryCatch (wpAny_holding (LI (HT.xu (A:=X.A.in1) (ns:=[(kf j).1,(kf j).2]) (ms:=[(kf b).1,(kf b).2]) ⟨oa,ga,ca,na,da⟩ ⟨oc,gc,cc,nc,dc⟩ (.cons _ _ (.cons _ _ .nil)) (.cons _ _ (.cons _ _ .nil)) (by show X.A.units+1 < cLine;lia) ?_))))
     rw[IJ (hb b (by lia)).1 (hb b (by lia)).2 (hb j hlt).1 (hb j hlt).2]
     refine LI (wpAny_holding (wpAny_truthy_bool ?_))
     refine LI (wpAny_letGo (LN ?_))
     by_cases c:rk kf b < rk kf j
     ·have c':(kf b).1 * 1000000+(kf b).2 < (kf j).1 * 1000000+(kf j).2:=c
      simp only[c',decide_true,if_true]
      refine LI ?_
      refine wpAny_updateSeq gS2 rfl (LI (wpAny_letGo ?_))
      rw[hname]
      exact LN ⟨plainId_quiet PySem.F.plain_max_loop _,new (by unfold bi;rw[eb0];exact Mz c)⟩
     ·have c': ¬ (kf b).1 * 1000000+(kf b).2 < (kf j).1 * 1000000+(kf j).2:=c
      simp only[c',decide_false,Mt,if_false]
      refine LI (wpAny_letGo ?_)
      rw[hname]
      exact LN ⟨plainId_quiet PySem.F.plain_max_loop _,ih (j+1) _ _ (some (b,T')) (by lia) hlt J3 fp2 sm2 st2 hS2 (by unfold bi;rw[eb0];exact(MA c).symm) (fun b' T'' e=>by cases e;exact hT2)⟩
end
end
section
open PySem.W (kla_fn kla_obj CodeHd tabObj)
variable {φ:fA}
noncomputable abbrev G6 (kf:Nat→Int×Int) (xs:List V):V:=match bi kf xs.length with|none=>.aW|some b=>xs.getD b .aW
theorem Aa {X:Cx} {pins:List (Addr×Obj)} {σ:St} {H:Hp} {s:Shared} {f l:Addr} {xs:List V} {kf:Nat→Int×Int} {Q:VK}
  (I:Inv X pins σ H s) (hh:X.A.handled=none) (hu:X.A.units+64 < cLine) (hl:H l=some (.lst xs)) (rvl:xs.length < 100000)
  (hkey: ∀ (pins':List (Addr×Obj)) (H1:Hp) (s1:Shared) (i:Nat) (x:V) (u:Value),xs[i]?=some x→RelV x u→gq H H1→Inv X pins' σ H1 s1→wpAny (model X.prog X.w) X.A.in1 (call (.ref f) [u]) (EP X pins' σ fun v H2=> ∃ T,v= .ref T∧H1 T=none∧H2=upd H1 T (.tup [.int (kf i).1,.int (kf i).2])) (fun _ _=>False) s1)
  (hb: ∀ i,i < xs.length→0≤(kf i).2∧(kf i).2 < 1000000)
  (hq: ∀ H':Hp,gq H H'→Q (G6 kf xs) H'):
  wpAny (model X.prog X.w) X.A (call (.builtin "max") [.ref l] [(Str.ofString "key",.ref f),(Str.ofString "default",.none)]) (EP X pins σ Q) X.xe s:=by
 have hname:(toString "max"++toString ".loop":String)="max.loop":=by decide
 obtain⟨_,its,n,r1,r2,gl⟩:=I.lD hl
 refine kmk_tree PySem.F.kind_max PySem.F.plain_max PySem.F.entry_max (Cc _ _ _) ?_
 show wpAny _ X.A.in1 (Builtin.Builtins.bindParams "max" ["key","default"] 0 ⟨[],[(Str.ofString "key",.ref f),(Str.ofString "default",.none)]⟩ >>= _) _ _ s
 refine LI (wpAny_of_eq (show Builtin.Builtins.bindParams "max" ["key","default"] 0 ⟨[],[(Str.ofString "key",.ref f),(Str.ofString "default",.none)]⟩=pure [some (.ref f),some .none] from rfl) ?_)
 refine LI (LN ?_)
 refine LI (wpAny_pyIter_list (items:=its.toArray) ⟨_,gl,rfl,n,rfl⟩ ?_)
 have I1:Inv X pins σ H {s with heap:=s.heap.push {cls:=.type "list_iterator",data:=.fields #[.ref l,.int 0 0]}}:=I.kept (t':=s.toks) fun b o e=>LL _ e
 have nI:H s.heap.objs.size=none:=I.bE.fresh (LQ _)
 have fpI:eQ X pins H s.heap.objs.size:=I.rj (LQ _) nI
 refine LI (wpAny_newList ?_ (Me _))
 have nS:H (s.heap.push {cls:=.type "list_iterator",data:=.fields #[.ref l,.int 0 0]}).objs.size=none:=I1.fresh
 have I2:=I1.Cj (t':=s.toks) (ys:=[]) (its:=[]) .nil (Me _)
 have hne:s.heap.objs.size≠(s.heap.push {cls:=.type "list_iterator",data:=.fields #[.ref l,.int 0 0]}).objs.size:=by rw[size_push'];lia
 have gI:((s.heap.push {cls:=.type "list_iterator",data:=.fields #[.ref l,.int 0 0]}).push {cls:=.type "list",data:=.seq ([]:List Value).toArray}).IsListIter s.heap.objs.size l 0:=⟨_,LL _ (LY _ rfl),rfl,rfl⟩
 rw[hname]
 refine LN ⟨plainId_quiet PySem.F.plain_max_loop _,?_⟩
 refine Cb (H:=H) hh hu hl rvl nI nS hne hkey hb (fun H' s' v u J sm rv ev=>⟨v,H',J,rv,ev▸hq H' sm⟩) _ 0 _ _ none rfl (Me _) I2 ⟨by rw[ao hne];exact nI,fpI.2⟩ (fun b o e=>?_) gI az rfl (fun b T e=>by cases e)
 rw[ao (aQ e nS)]
 exact e
def JS (e:Addr×Str) (N:List Str) (tE:TE) (Q:VK) (x:V) (H1:Hp):Prop:= ∃ (l:Addr) (xs:List V) (kf:Nat→Int×Int),x= .ref l∧H1 l=some (.lst xs)∧xs.length < 100000∧TabAt H1 e∧
 (∀ i x,xs[i]?=some x→∀ H2,(∀ b o,b≠e.1→H1 b=some o→H2 b=some o)→tE (start N [x]) H2 fun v H3=> ∃ T,v= .ref T∧H2 T=none∧H3=upd H2 T (.tup [.int (kf i).1,.int (kf i).2]))∧
 (∀ i,i < xs.length→0≤(kf i).2∧(kf i).2 < 1000000)∧
 ∀ H':Hp,(∀ b o,b≠e.1→H1 b=some o→H' b=some o)→TabAt H' e→Q (G6 kf xs) H'
noncomputable def Fs (e:Addr×Str) (N:List Str) (tE ta:TE):TE:=fun σ H Q=>ta σ H (JS e N tE Q)
def JR (e:Addr×Str) (N:List Str) (tE:TE) (Q:VK):List V→Hp→Prop
 |[x],H1=>JS e N tE Q x H1
 |_,_=>False
theorem D2 {X:Cx} {k:Nat} {c P:Addr} {params:Arguments} {body e:Expr} {scope:Scope} {lpos kpos dpos npos pos p:Pos} {nk:Nat} {N:List Str} {y:Str} {tE ta:TE}
  (hr:eV (k+3) X.A) (hB:Dq X.base X.mg) (hcode:X.env.code= .ref c) (hC:CodeHd X.base c P) (hcl:closureFor scope X.env=pure []) (hdef:defaultsOf params X.env=([],[])) (S:aI N [y] scope)
  (hbind: ∀ (s:Shared) (pm:Value) (c:Addr) (ctv u:Value),BindsTo s (kla_fn "<lambda>" (X.env.qual++"<lambda>") params body scope [] pm (.ref c) ctv) ⟨[u],[]⟩ [(y,u)])
  (hbody: ∀ (f c:Addr) (A:Around) (s:Shared) (H:Hp),PE (jO fS X.prog X.w X.K X.mg X.base N (X.env.qual++"<lambda>") scope f (.ref c) A X.stack s H E0).tU body tE)
  (hg:Gl X "max") (hm:X.mg "max"=none) (ha:PE X e ta) (hs:starEach [e] X.env=(false,eval e X.env)::starEach [] X.env:=by rfl):
  PE X (.Call (.Name "max" p) [e] [⟨some (Str.ofString "key"),.Lambda params body scope lpos,kpos⟩,⟨some (Str.ofString "default"),.Constant .none nk npos,dpos⟩] pos) (Fs (P,X.env.qual++"<lambda>") N tE ta):=by
 intro pins s σ H Q I h
 refine wpAny_Call_Name_kw (lQ I hg hm boot_max ?_)
 have hpa:=dS ha gA hs
 refine callWith_kw (bN (hpa pos pins s σ H (JR (P,X.env.qual++"<lambda>") N tE Q) I h) fun us s1 hu=>?_) (by rw[hs];rfl) (by rw[hs];rfl)
 obtain⟨vs,H1,I1,r,q⟩:=hu
 match vs,r,q with
 |[x],r,q=>
 obtain⟨u,rfl,rx⟩:=vals1 r
 obtain⟨l,xs,kf,rfl,hl,hz,tab,hk,hb,q⟩:=q
 cases rx
 refine kws_cons (vx I1 hB hcode hC tab hcl hdef fun f c' oc fs tq pm ctv H' s' J hfn at_f at_c hfd hfs tab' keepH=>kws_cons (Constant_none (kws_nil ?_)))
 show wpAny (model X.prog X.w) X.A (call (.builtin "max") [.ref l] [(Str.ofString "key",.ref f),(Str.ofString "default",.none)]) (EP X pins σ Q) X.xe s'
 have nl:l≠P:=fun z=>by
  obtain⟨ps,hP,_⟩:=tab
  have hP:H1 P=some (.oV ps):=hP
  rw[z,hP] at hl
  cases hl
 refine Aa J hr.hd hr.units (keepH l _ nl hl) hz (fun pins' H2 s2 i x u hx ru sm J2=>?_) hb fun H3 sm=>?_
 ·exact vy S hr.in1 rfl J2 (J2.bE f _ (sm _ _ at_f)).1 (J2.bE c' _ (sm _ _ at_c)).1 hfd hfs (hbind s2 pm c' ctv u) rfl (show Vals [x] [u] from .cons ru .nil) (hbody f c' _ s2 H2)
   (hk i _ hx H2 fun b o nb e=>sm b o (keepH b o nb e))
 ·exact q H3 (fun b o nb e=>sm b o (keepH b o nb e)) (tab'.keep (fun ps e=>sm _ _ e) fun b ob u e=>sm _ _ e)
noncomputable def j4:List PV→Option PV:=fun l=>(bi (fun i=>wt (l.getD i .aW)) l.length).map fun b=>l.getD b .aW
noncomputable def Ab (y:PV):M PV:=match y with
 | .lst l=>if decide (l.length < 100000)&&l.all Dk then .ret ((j4 l).getD .aW) else .fail
 |_=>.fail
theorem Cd {y:PV} {n:Nat} {R:PV→Nat→Prop} (w:(Ab y).wp n R): ∃ l,y= .lst l∧l.length < 100000∧(∀ z∈l,Dk z=true)∧R ((j4 l).getD .aW) n:=by
 unfold Ab at w
 cases y with
 |lst l=>
  dsimp only at w
  by_cases c:(decide (l.length < 100000)&&l.all Dk)=true
  ·rw[Mz c] at w
   simp only[Mo,decide_eq_true_eq,List.all_eq_true] at c
   exact⟨l,rfl,c.1,c.2,w⟩
  ·rw[MA c] at w;exact w.elim
 |_=>exact w.elim
theorem EU {X:Cx} {e:Expr} {tb:Addr×Str} {N:List Str} {me:af→M PV} (hin:tb∈φ.tabs) (hun: ∀ q∈φ.tabs,q.1=tb.1→q=tb) (h:BE X e (Fs tb N (A4 X.K 2 1) (rD φ me))):EV φ X e (fun ρ=>(me ρ).bind Ab):=BE.mono h fun σ H Q hq0=>by
 obtain⟨G,O,ρ,n,R,s,w,q⟩:=hq0
 rw[M.wp_bind] at w
 refine⟨G,O,ρ,n,_,s,w,fun y x H1 n1 e1 ok1 r1 w1=>?_⟩
 obtain⟨l,rfl,hz,bE,hR⟩:=Cd w1
 obtain⟨p,xs,rfl,hp,rs⟩:=r1.gG
 have tab:=G.tab H1 n1 ok1 tb hin
 have hlen:l.length=xs.length:=rs.1
 have pO:O tb.1:=s.pr _ (G.tp tb hin)
 obtain⟨ps,hP,_⟩:=id tab
 refine⟨p,xs,fun i=>wt (l.getD i .aW),rfl,hp,by lia,tab,fun i x hx H2 k2=>?_,fun i hi=>?_,fun H' kp tab'=>?_⟩
 ·obtain⟨y,hy,ry⟩:=rs.at' hx
  obtain⟨k,ek,b0,b1⟩:=pj (bE y (List.mem_of_getElem? hy))
  obtain⟨l',rfl,g2,g1⟩:=rV ek
  obtain⟨q',ys,rfl,hq',r'⟩:=(cz.full ry:cz G O H1 _ _).kh
  obtain⟨v2,hv2,rv2⟩:=r'.at g2
  obtain⟨v1,hv1,rv1⟩:=r'.at g1
  cases rv2
  cases rv1
  have ekk:wt (l.getD i .aW)=k:=by
   rw[L3,hy]
   show (kF _).getD _=k
   rw[Option.getD_some,ek]
   rfl
  dsimp only
  rw[ekk]
  exact uz (k2 _ _ (fun z=>by rw[z,hP] at hq';cases hq') hq') (kN hv2) (kN hv1)
 ·have hi':i < l.length:=by lia
  obtain⟨k,ek,b0,b1⟩:=pj (bE _ (Mu hi'))
  have ekk:wt (l.getD i .aW)=k:=by
   rw[L3,LH hi']
   show (kF _).getD _=k
   rw[Option.getD_some,ek]
   rfl
  dsimp only
  rw[ekk]
  exact⟨b0,b1⟩
 ·have ext:Ext G.B H1 H':=fun b o nb eb=>by
   by_cases z:b=tb.1
   ·obtain⟨qs,hQ,_⟩:=tab'
    rw[z,hP] at eb
    cases eb
    exact⟨qs,z▸hQ⟩
   ·exact .of (kp b o z eb)
  have ok':G.ok H' n1:=G.wG H1 H' n1 ok1 (fun q' hq'=>by
   by_cases z:q'.1=tb.1
   ·rw[hun q' hq' z]
    exact tab'
   ·exact(G.tab H1 n1 ok1 q' hq').keep (fun qs eq=>kp _ _ z eq) fun b ob u eq=>kp b _ (fun y=>by rw[y,hP] at eq;cases eq) eq) fun b o nb eb=>kp b o (fun z=>nb (LW.mpr ⟨tb,hin,z.symm⟩)) eb
  refine q _ _ H' n1 (e1.trans ext) ok' ?_ hR
  unfold j4 G6
  rw[←hlen]
  cases eb:bi (fun i=>wt (l.getD i .aW)) l.length with
  |none=>exact .aW
  |some b=>
   have hbl:=v9 eb
   obtain⟨x,hx,rx⟩:=rs.at (LH hbl)
   show Rep G.B O H' (l.getD b .aW) (xs.getD b .aW)
   rw[L3,L3,hx,LH hbl]
   exact rx.ext (s.pr _ G.pB) ext
end
section
variable {X:Cx} {pins:List (Addr×Obj)} {σ:St} {H:Hp} {s:Shared} {d:Addr} {o:Obj} {ks:List (Key×V)}
theorem Cw {P:Program} {w:World} {h:Heap} {u u':HO} (x:kP P w H h) (e:H d=some u) (no: ∀ y,u≠.own y) (nt: ∀ xs,u≠.tup xs) (new:dz P w H h d u'):kP P w (upd H d u') h:=fun b v q=>by
 have ho: ∀ y c,H c=some (.own y)→upd H d u' c=some (.own y):=fun y c g=>by
  rw[ao (fun z=>by subst z;rw[e] at g;exact no y (MD g))];exact g
 have ht: ∀ c xs,H c=some (.tup xs)→upd H d u' c=some (.tup xs):=fun c xs g=>by
  rw[ao (fun z=>by subst z;rw[e] at g;exact nt xs (MD g))];exact g
 by_cases hb:b=d
 ·subst hb
  rw[az] at q;cases q
  exact new.pM (fun _ _ _ g=>g) (fun c g=>ho _ c g) ht
 ·rw[ao hb] at q
  exact(x b v q).pM (fun _ _ _ g=>g) (fun c g=>ho _ c g) ht
theorem Inv.swap {u u':HO} (I:Inv X pins σ H s) (e:H d=some u) (no: ∀ y,u≠.own y) (nt: ∀ xs,u≠.tup xs) (nb: ∀ ps,u≠.oV ps) (nf: ∀ ob v,X.H₀ d=some (.h8 ob v)→u'= .h8 ob v) (new:dz X.prog X.w H s.heap d u'):Inv X pins σ (upd H d u') s:=by
 have nn: ∀ b,H b=none→upd H d u' b=none:=fun b g=>by
  rw[ao (fun z=>by subst z;rw[e] at g;cases g)];exact g
 refine⟨I.ok,I.os,I.bare,⟨I.base.keep,I.base.slot,fun b o q n hx=>nn b (I.base.free b o q n hx),I.base.there,fun b xs q=>?_,fun b ob v q=>?_,fun b ps q=>?_⟩,I.loc,I.cell,nn _ I.free,fun x c q=>nn _ (I.kG x c q),fun p hp=>?_,Cw I.bE e no nt new,I.len⟩
 ·have g:=I.base.sO b xs q
  rw[ao (fun z=>by subst z;rw[e] at g;exact nt xs (MD g))];exact g
 ·by_cases hb:b=d
  ·subst hb
   rw[az,nf ob v q]
  ·rw[ao hb];exact I.base.mP b ob v q
 ·obtain⟨more,g⟩:=I.base.qO b ps q
  exact⟨more,by rw[ao (fun z=>by subst z;rw[e] at g;exact nb _ (MD g))];exact g⟩
 ·obtain⟨a1,a2,a3⟩:=I.pin p hp
  exact⟨a1,nn _ a2,a3⟩
def Ih (X:Cx) (d:Addr) (o:Obj) (ks:List (Key×V)) (u:HO):Prop:=(u= .dK ks∧∀ ob v,X.H₀ d≠some (.h8 ob v))∨u= .h8 o (.dK ks)
theorem Inv.KW (I:Inv X pins σ H s) (r:Rd H d (.dK ks)): ∃ o u,s.heap.get? d=some o∧H d=some u∧Ih X d o ks u∧Inv X pins σ (upd H d (.h8 o (.dK ks))) s:=by
 rcases r with e|⟨o,e⟩
 ·obtain⟨_,_,vs,_,o,es,ep,g,_⟩:=I.bE d _ e
  refine⟨o,_,g,e,.inl ⟨rfl,fun ob v q=>?_⟩,I.swap e (fun _ z=>nomatch z) (fun _ z=>nomatch z) (fun _ z=>nomatch z) (fun ob v q=>?_) ⟨g,I.bE d _ e⟩⟩
  ·have:=I.base.mP d ob v q;rw[e] at this;cases this
  ·have:=I.base.mP d ob v q;rw[e] at this;cases this
 ·obtain⟨g,_⟩:=I.bE d _ e
  refine⟨o,_,g,e,.inr rfl,I.swap e (fun _ z=>nomatch z) (fun _ z=>nomatch z) (fun _ z=>nomatch z) (fun ob v q=>?_) (I.bE d _ e)⟩
  have:=I.base.mP d ob v q;rw[e] at this;exact MD this
theorem Inv.sQ {u:HO} (I:Inv X pins σ H s) (e:H d=some (.h8 o (.dK ks))) (w:Ih X d o ks u):Inv X pins σ (upd H d u) s:=by
 rcases w with⟨rfl,nf⟩|rfl
 ·exact I.swap e (fun _ z=>nomatch z) (fun _ z=>nomatch z) (fun _ z=>nomatch z) (fun ob v q=>absurd q (nf ob v)) (I.bE d _ e).2
 ·exact I.swap e (fun _ z=>nomatch z) (fun _ z=>nomatch z) (fun _ z=>nomatch z) (fun ob v q=>by have:=I.base.mP d ob v q;rw[e] at this;exact MD this) (I.bE d _ e)
def sP (X:Cx) (P:Hp→Prop) (H:Hp):Prop:= ∃ d o ks u,H d=some (.h8 o (.dK ks))∧Ih X d o ks u∧P (upd H d u)
noncomputable def Ends.sQ (X:Cx) (D:Ends):Ends:=⟨fun σ H=>sP X (D.nx σ) H,fun v H=>sP X (D.rt v) H,fun σ H=>sP X (D.bk σ) H,fun σ H=>sP X (D.ct σ) H⟩
theorem DX {st:Stmt} {t:TS} (h:PS X st t):PS X st (fun D σ H=>t (D.sQ X) σ H):=fun pins s σ H D I q=>by
 refine bN (h pins s σ H (D.sQ X) I q) fun f s1 q1=>?_
 cases f with
 |next=>obtain⟨σ',H',I',d,o,ks,u,e,w,p⟩:=q1;exact⟨σ',_,I'.sQ e w,p⟩
 |brk=>obtain⟨σ',H',I',d,o,ks,u,e,w,p⟩:=q1;exact⟨σ',_,I'.sQ e w,p⟩
 |cont=>obtain⟨σ',H',I',d,o,ks,u,e,w,p⟩:=q1;exact⟨σ',_,I'.sQ e w,p⟩
 |ret v=>obtain⟨x,σ',H',I',r,d,o,ks,u,e,w,p⟩:=q1;exact⟨x,σ',_,I'.sQ e w,r,p⟩
theorem Jt {P:Program} {w:World} {k:Key} {u:Value} (h:(bC P w).is k u=true):RelV (kV k) u:=by
 rw[xo] at h
 rcases bP h with⟨i,t,rfl,rfl⟩|⟨x,t,rfl,rfl⟩
 ·exact⟨t,rfl⟩
 ·exact⟨t,rfl⟩
noncomputable def Ls (d:Addr) (o:Obj) (ks:List (Key×V)):It:=
 ⟨fun i H=>H d=some (.h8 o (.dK ks))∧i < ks.length,fun i H x H'=>H'=H∧∃ k,(ks.map (·.1))[i]?=some k∧x=kV k,fun i H=>H d=some (.h8 o (.dK ks))∧ks.length≤i⟩
theorem KV.at {kvs:List (Key×V)} {vs:List (Key×Value)} (r:KV kvs vs) (i:Nat) (h:i < kvs.length): ∃ k v,vs[i]?=some (k,v)∧(kvs.map (·.1))[i]?=some k:=by
 have hl:=r.length
 refine⟨(vs[i]'(by lia)).1,(vs[i]'(by lia)).2,by rw[LH],?_⟩
 rw[KV.keys r,L5,LH (by lia)]
 rfl
theorem zw {P:Program} {w:World} {K:Frag} {tg:Expr} {vs:List (Key×Value)} {es:Array DictEntry} {ep:Nat} (d it:Addr) (o:Obj) (ks:List (Key×V)) (r:KV ks vs) (ho:o.ExactDict∧o.data= .dict es ep∧KeysOf (bC P w) es∧Pairs (bC P w) es.toList vs∧(vs.map (·.1)).Nodup):
  Turn P w K tg (Ls d o ks) [it] it (fun i h=>h.IsKeyIter it d i vs.length ep) where
 mem:=by simp
 obj:=fun i h st b hb=>by
  have e:b=it:=by simpa using hb
  subst e
  obtain⟨o,e,c,d⟩:=st
  exact⟨o,e,fun v z=>by rw[d] at z;cases z⟩
 keep:=fun i h h' st k=>st.at fun o e=>k it (by simp) o e
 item:=by
  intro X hP hw hK hc i pins s σ H E I hf st hg
  subst hP hw hK
  obtain⟨e,hi⟩:=hg
  obtain⟨g,_⟩:=I.bE d _ e
  obtain⟨f0,f1,f2,f3,f4,f5⟩:=hf it (by simp)
  obtain⟨k,v,hk,hk'⟩:=r.at i hi
  refine wpAny_pyNext_dict_item (knd:=bC X.prog X.w) st ⟨o,es,g,ho⟩ hk fun key h' ik st' sb=>?_
  have I1:Inv X pins σ H {s with heap:=h'}:=I.turned (t':=s.toks) (fun b o hb e=>(sb.2 b hb).trans e) f0 f1 f3 f4 f5
  obtain⟨o',e',c',d'⟩:=id st'
  exact⟨key,rfl,sg (s:={s with heap:=h'}) e' c' d' (by decide) ⟨kV k,H,I1,Jt ik,⟨rfl,k,hk',rfl⟩,st',fun b hb=>(hf b hb).1⟩⟩
 done:=by
  intro X hP hw hK hc i pins s σ H E I hf st hg
  subst hP hw hK
  obtain⟨e,hi⟩:=hg
  obtain⟨g,_⟩:=I.bE d _ e
  obtain⟨f0,f1,f2,f3,f4,f5⟩:=hf it (by simp)
  have hl:=r.length
  exact wpAny_pyNext_dict_end (knd:=bC X.prog X.w) (I.ok.hd hc) st ⟨o,es,g,ho⟩ (List.getElem?_eq_none_iff.mpr (by lia)) fun h' eb=>⟨rfl,I.turned (t':=s.toks) (fun b o hb e=>eb b o hb e) f0 f1 f3 f4 f5⟩
 self:=fun _ _ _ _ _ st h=>wpAny_pyIter_keyiter st h
noncomputable def Cv (X:Cx) (td:TE):TI:=fun σ H R=>td σ H fun x H1=> ∃ d ks,x= .ref d∧Rd H1 d (.dK ks)∧∀ o u,H1 d=some u→Ih X d o ks u→R (Ls d o ks) (upd H1 d (.h8 o (.dK ks)))
theorem D1 {l:Expr} {tg:Expr} {td:TE} (hl:PE X l td):PI X tg l (Cv X td):=by
 intro pins s σ H R I h
 refine bN (hl pins s σ H _ I h) fun v s1 ⟨x,H1,I1,r1,q1⟩=>?_
 obtain⟨a,ks,e,hq,q⟩:=q1
 subst e
 cases r1
 obtain⟨o,u,g,eu,wu,I2⟩:=I1.KW hq
 obtain⟨_,hs,vs,r,ob,es,ep,g',rest⟩:=hq.ok I1.bE
 rw[g] at g';cases g'
 refine wpAny_pyIter_dict (knd:=bC X.prog X.w) (kvs:=vs) (ep:=ep) hs ⟨o,es,g,rest⟩ ?_
 refine⟨s1.heap.objs.size,[s1.heap.objs.size],_,_,_,rfl,I2.kept (t':=s1.toks) fun b o e=>LL _ e,zw a _ o ks r rest,⟨_,LY _ rfl,rfl,rfl⟩,fun b hb=>?_,q o u eu wu⟩
 have e:b=s1.heap.objs.size:=by simpa using hb
 subst e
 exact I2.rj (LQ _) (I2.bE.fresh (LQ _))
end
section
variable {φ:fA} {G:Bg φ} {O0 O:Addr→Prop} {H0 H H':Hp} {σ:St} {ρ:af} {n n':Nat}
theorem SI.Ky (s:SI G O0 H0 O H σ ρ n) (k:Nat) {l:List (Key×PV)} {p:Addr} {xs:List (Key×V)} (x:Ext G.B H H') (ok:G.ok H' n') (hp:H p=none) (hp':H' p=some (.dK xs)) (r:br G.B (fun q=>O q∨q=p) H' l xs):
  SI G O0 H0 (fun q=>O q∨q=p) H' (σ.set k (some (.ref p))) (ρ.set k (.bT l)) n':=by
 have nO: ¬ O p:=fun z=>by obtain⟨o,g⟩:=s.es.dm p z;rw[hp] at g;cases g
 have np: ¬ G.dP p:=fun z=>nO (s.es.pr p z)
 have h0:H0 p=none:=by
  cases e:H0 p with
  |none=>rfl
  |some o=>obtain⟨_,this⟩:=(s.ext p o (fun z=>np (z▸G.pB)) e).there;rw[hp] at this;cases this
 have hB:O G.B:=s.es.B
 have gw: ∀ q,(O q∨q=p)→O q∨H q=none:=fun q z=>by
  rcases z with z|z
  ·exact .inl z
  ·subst z;exact .inr hp
 have s':=s.es.ext x ok
 have es:ES G (fun q=>O q∨q=p) H' σ ρ n':=by
  refine⟨⟨s.es.er.1,fun i e he=>?_⟩,ok,fun q z=>.inl (s.es.pr q z),fun q z=>?_⟩
  ·have r1:=s.es.er.2 i e he
   cases e with
   |un=>trivial
   |val y=>obtain⟨v,hv,rr⟩:=r1;exact⟨v,hv,(rr.grow gw).ext (.inl hB) x⟩
   |own t=>
    obtain⟨q,ys,hv,hq,nq,hh,rr⟩:=r1
    exact⟨q,ys,hv,.inl hq,nq,x q _ (fun z=>nq (z▸G.pB)) hh,(rr.grow gw).ext (.inl hB) x⟩
   |bT t=>
    obtain⟨q,ys,hv,hq,nq,hh,rr⟩:=r1
    exact⟨q,ys,hv,.inl hq,nq,x q _ (fun z=>nq (z▸G.pB)) hh,⟨rr.1,fun i a b c d=>((rr.2 i a b c d).grow gw).ext (.inl hB) x⟩⟩
  ·rcases z with z|z
   ·exact s'.dm q z
   ·subst z;exact⟨_,hp'⟩
 have ow: ∀ i q,fN (ρ.set k (.bT l)) (σ.set k (some (.ref p))) i q→(i=k∧q=p)∨(i≠k∧fN ρ σ i q):=fun i q h=>by
  obtain⟨t,h1,h2,h3⟩:=h
  by_cases hk:k=i
  ·subst hk
   rw[List.getElem?_set] at h3
   split at h3
   ·split at h3
    ·cases h3;exact .inl ⟨rfl,rfl⟩
    ·cases h3
   ·rename_i hh;exact absurd rfl hh
  ·rw[Mj hk] at h1 h3
   exact .inr ⟨fun z=>hk z.symm,t,h1,h2,h3⟩
 refine⟨es.set k (t:=.bT l) ⟨p,xs,rfl,.inr rfl,np,hp',r⟩,s.p0,fun q z=>.inl (s.sub q z),s.ext.trans x,fun q z=>?_,s.d0,fun i q h=>?_,fun i j q h h'=>?_⟩
 ·rcases z with z|z
  ·exact s.gr q z
  ·subst z;exact .inr h0
 ·rcases ow i q h with⟨_,rfl⟩|⟨_,h⟩
  ·exact h0
  ·exact s.fr i q h
 ·rcases ow i q h with⟨rfl,rfl⟩|⟨n1,h1⟩
  ·rcases ow j q h' with⟨rfl,_⟩|⟨n2,h2⟩
   ·rfl
   ·obtain⟨_,_,o,g⟩:=gQ s.es h2;rw[hp] at g;cases g
  ·rcases ow j q h' with⟨rfl,rfl⟩|⟨n2,h2⟩
   ·obtain⟨_,_,o,g⟩:=gQ s.es h1;rw[hp] at g;cases g
   ·exact s.dj i j q h1 h2
theorem SI.putD (s:SI G O0 H0 O H σ ρ n) {k:Nat} {l l':List (Key×PV)} {p:Addr} {xs':List (Key×V)} (hk:ρ[k]?=some (.bT l)) (hp:σ[k]?=some (some (.ref p))) (r:br G.B O H l' xs'):SI G O0 H0 O (upd H p (.dK xs')) σ (ρ.set k (.bT l')) n:=by
 have ho:fN ρ σ k p:=⟨_,hk,rfl,hp⟩
 obtain⟨hO,np,o,hh⟩:=gQ s.es ho
 have Jk:=uV s.es ho hh
 have kp: ∀ q u,¬ O q→H q=some u→upd H p (.dK xs') q=some u∧¬ O q:=fun q u nq hq=>⟨by
  have hne:q≠p:=fun z=>nq (z▸hO)
  rw[ao hne];exact hq,nq⟩
 have ow: ∀ i q,fN (ρ.set k (.bT l')) σ i q→fN ρ σ i q:=fun i q h=>by
  obtain⟨t,h1,h2,h3⟩:=h
  by_cases e:k=i
  ·subst e;exact⟨_,hk,rfl,h3⟩
  ·rw[Mj e] at h1;exact⟨t,h1,h2,h3⟩
 refine⟨⟨⟨by simp[s.es.er.1],fun i e he=>?_⟩,G.keep H _ _ (fun q u hq hu=>by
   have hne:q≠p:=fun z=>by
    rcases hq with hq|hq
    ·exact np (z▸hq)
    ·rw[z,hh] at hu;cases hu;exact Jk hq
   rw[ao hne];exact hu) s.es.ok,s.es.pr,fun q hq=>?_⟩,s.p0,s.sub,fun q u nb hq=>?_,s.gr,s.d0,fun i q h=>s.fr i q (ow i q h),fun i j q h h'=>s.dj i j q (ow i q h) (ow j q h')⟩
 ·by_cases e1:k=i
  ·subst e1
   have hl:k < ρ.length:=(LP.mp hk).1
   rw[MB hl] at he
   cases he
   rw[hp]
   exact⟨p,xs',rfl,hO,np,az,r.keep kp⟩
  ·rw[Mj e1] at he
   have r1:=s.es.er.2 i e he
   cases e with
   |un=>trivial
   |val y=>obtain⟨v,hv,rr⟩:=r1;exact⟨v,hv,rr.keep kp⟩
   |own t=>
    obtain⟨q,ys,hv,hq,nq,hh',rr⟩:=r1
    have hne:q≠p:=fun z=>by
     subst z
     exact e1 (s.dj k i q ho ⟨_,he,rfl,fB s.es.er he hv⟩)
    exact⟨q,ys,hv,hq,nq,by rw[ao hne];exact hh',rr.keep kp⟩
   |bT t=>
    obtain⟨q,ys,hv,hq,nq,hh',rr⟩:=r1
    have hne:q≠p:=fun z=>by
     subst z
     exact e1 (s.dj k i q ho ⟨_,he,rfl,fB s.es.er he hv⟩)
    exact⟨q,ys,hv,hq,nq,by rw[ao hne];exact hh',rr.keep kp⟩
 ·by_cases e1:q=p
  ·subst e1;exact⟨_,az⟩
  ·obtain⟨u,g⟩:=s.es.dm q hq;exact⟨u,by rw[ao e1];exact g⟩
 ·have hne:q≠p:=fun z=>by subst z;rw[s.fr k q ho] at hq;cases hq
  exact(s.ext q u nb hq).to fun v e=>.of (by rw[ao hne];exact e)
end
noncomputable def lz (l:List (Key×PV)) (k:Key):Option PV:=(l.find? fun kv=>decide (kv.1=k)).map (·.2)
noncomputable def qT (l:List (Key×PV)) (k:Key) (y:PV):List (Key×PV):=
 if(l.any fun kv=>decide (kv.1=k))=true then l.map (fun kv=>if kv.1=k then(kv.1,y) else kv) else l++[(k,y)]
noncomputable def Ag:Key→PV
 | .inl i=>.int i
 | .inr x=>.str x
noncomputable def rg:PV→Option Key
 | .int i=>some (.inl i)
 | .str x=>some (.inr x)
 |_=>none
section
variable {B:Addr} {O:Addr→Prop} {H:Hp}
theorem br.nil:br B O H [] []:=⟨rfl,fun i y x a=>by simp at a⟩
theorem br.cons {y:Key×PV} {x:Key×V} {l:List (Key×PV)} {ks:List (Key×V)} (e:y.1=x.1) (r:Rep B O H y.2 x.2) (t:br B O H l ks):br B O H (y::l) (x::ks):=by
 refine⟨by simp[e,t.1],fun i a b h1 h2=>?_⟩
 cases i with
 |zero=>simp at h1 h2;subst h1 h2;exact r
 |succ i=>simp at h1 h2;exact t.2 i a b h1 h2
theorem br.inv {l:List (Key×PV)} {ks:List (Key×V)} (r:br B O H l ks):(l=[]∧ks=[])∨∃ y l' x ks',l=y::l'∧ks=x::ks'∧y.1=x.1∧Rep B O H y.2 x.2∧br B O H l' ks':=by
 cases l with
 |nil=>exact .inl ⟨rfl,by have:=r.1;simpa using this.symm⟩
 |cons y l=>
  cases ks with
  |nil=>have:=r.1;simp at this
  |cons x ks=>
   have h:=r.1
   simp only[LS,List.cons.injEq] at h
   exact .inr ⟨y,l,x,ks,rfl,rfl,h.1,r.2 0 y x rfl rfl,h.2,fun i a b h1 h2=>r.2 (i+1) a b (by simpa using h1) (by simpa using h2)⟩
theorem br.val (k:Key): ∀ {l:List (Key×PV)} {ks:List (Key×V)},br B O H l ks→(lz l k=none∧mj ks k=none)∨∃ y x,lz l k=some y∧mj ks k=some x∧Rep B O H y x
 |[],ks,r=>by
  rcases r.inv with⟨_,rfl⟩|⟨_,_,_,_,e,_⟩
  ·exact .inl ⟨rfl,rfl⟩
  ·cases e
 |y::l,ks,r=>by
  rcases r.inv with⟨e,_⟩|⟨y',l',x,ks',e,rfl,ek,ry,rt⟩
  ·cases e
  ·cases e
   by_cases c:y.1=k
   ·refine .inr ⟨y.2,x.2,by simp[lz,c],?_,ry⟩
    exact lZ (ek.symm.trans c)
   ·have c': ¬ x.1=k:=fun z=>c (ek.trans z)
    rw[mf c']
    have e1:lz (y::l) k=lz l k:=by simp[lz,List.find?_cons,c]
    rw[e1]
    exact br.val k rt
theorem br.any (k:Key) {l:List (Key×PV)} {ks:List (Key×V)} (r:br B O H l ks):(l.any fun kv=>decide (kv.1=k))=ks.any fun kv=>decide (kv.1=k):=by
 have e1:(l.any fun kv=>decide (kv.1=k))=(l.map (·.1)).any fun z=>decide (z=k):=by rw[List.any_map];rfl
 have e2:(ks.any fun kv=>decide (kv.1=k))=(ks.map (·.1)).any fun z=>decide (z=k):=by rw[List.any_map];rfl
 rw[e1,e2,r.1]
theorem br.snoc {k:Key} {y:PV} {x:V} (rx:Rep B O H y x): ∀ {l:List (Key×PV)} {ks:List (Key×V)},br B O H l ks→br B O H (l++[(k,y)]) (ks++[(k,x)])
 |[],ks,r=>by
  rcases r.inv with⟨_,rfl⟩|⟨_,_,_,_,e,_⟩
  ·exact br.cons (y:=(k,y)) (x:=(k,x)) rfl rx br.nil
  ·cases e
 |z::l,ks,r=>by
  rcases r.inv with⟨e,_⟩|⟨y',l',x',ks',e,rfl,ek,ry,rt⟩
  ·cases e
  ·cases e
   exact br.cons ek ry (br.snoc rx rt)
theorem br.wQ {k:Key} {y:PV} {x:V} (rx:Rep B O H y x): ∀ {l:List (Key×PV)} {ks:List (Key×V)},br B O H l ks→br B O H (l.map fun kv=>if kv.1=k then(kv.1,y) else kv) (ks.map fun kv=>if kv.1=k then(kv.1,x) else kv)
 |[],ks,r=>by
  rcases r.inv with⟨_,rfl⟩|⟨_,_,_,_,e,_⟩
  ·exact br.nil
  ·cases e
 |z::l,ks,r=>by
  rcases r.inv with⟨e,_⟩|⟨y',l',x',ks',e,rfl,ek,ry,rt⟩
  ·cases e
  ·cases e
   rw[LS,LS]
   by_cases c:z.1=k
   ·rw[Mz c,Mz (ek.symm.trans c)]
    exact br.cons ek rx (br.wQ rx rt)
   ·rw[MA c,MA (fun q=>c (ek.trans q))]
    exact br.cons ek ry (br.wQ rx rt)
theorem br.put {k:Key} {y:PV} {x:V} {l:List (Key×PV)} {ks:List (Key×V)} (r:br B O H l ks) (rx:Rep B O H y x):br B O H (qT l k y) (putK ks k x):=by
 unfold qT putK
 rw[r.any k]
 split
 ·exact r.wQ rx
 ·exact r.snoc rx
theorem Cs (k:Key):Rep B O H (Ag k) (kV k):=by
 cases k with
 |inl i=>exact .int i
 |inr x=>exact .str x
end
theorem qc {φ:fA} {G:Bg φ} {O:Addr→Prop} {H:Hp} {y:PV} {x:V} {k:Key} (r:cz G O H y x) (e:rg y=some k):x=kV k:=by
 cases y<;>first|cases e|skip
 ·rw[r.cT];rfl
 ·rw[r.iz];rfl
theorem br.len {B:Addr} {O:Addr→Prop} {H:Hp} {l:List (Key×PV)} {ks:List (Key×V)} (r:br B O H l ks):l.length=ks.length:=by simpa using congrArg List.length r.1
section
variable {φ:fA} {X:Cx} {e o i a b:Expr} {pos:Pos} {md mk mv:af→M PV}
noncomputable def sE:PV→PV→M PV
 | .fz l,y=>(M.cY (rg y)).bind fun k=>M.cY (lz l k)
 |_,_=>.fail
theorem tT {α:Type} {o:Option α} {n:Nat} {R:α→Nat→Prop} (w:(M.cY o).wp n R): ∃ y,o=some y∧R y n:=by
 cases o with
 |none=>exact w.elim
 |some y=>exact⟨y,rfl,w⟩
theorem EW (h:BE X e (Ft (rD φ md) (rD φ mk))):EV φ X e (ab sE md mk):=BE.mono h fun σ H Q hq0=>by
 obtain⟨G,O,ρ,n,R,s,w,q⟩:=hq0
 unfold ab at w
 rw[M.wp_bind] at w
 refine⟨G,O,ρ,n,_,s,w,fun y x H1 n1 e1 ok1 r1 w1=>?_⟩
 have s1:=s.ext e1 ok1
 rw[M.wp_bind] at w1
 refine⟨G,O,ρ,n1,_,s1,w1,fun z x' H2 n2 e2 ok2 r2 w2=>?_⟩
 cases y<;>first|exact w2.elim|skip
 rename_i l
 unfold sE at w2
 rw[M.wp_bind] at w2
 obtain⟨k,ek,w2⟩:=tT w2
 obtain⟨v,ev,w2⟩:=tT w2
 obtain⟨p,ks,rfl,hd,rr⟩:=(r1.ext s.B e2).y1
 rcases rr.val k with⟨z1,_⟩|⟨v',xv,z1,z2,rv⟩
 ·rw[z1] at ev;cases ev
 ·rw[z1] at ev;cases ev
  exact⟨p,xv,rfl,.inl ⟨ks,k,hd,qc r2 ek,z2.symm⟩,q _ _ _ _ (e1.trans e2) ok2 rv w2⟩
noncomputable def qy (neg:Bool):PV→PV→M PV
 |y,.fz l=>(M.cY (rg y)).bind fun k=>.ret (.bl ((lz l k).isSome !=neg))
 |_,_=>.fail
theorem vU {neg:Bool} {σ:St} {H:Hp} {Q:VK} (h:rC φ (ab (qy neg) mk md) σ H Q):rD φ mk σ H fun y H1=>rD φ md σ H1 fun x H2=> ∃ a o,x= .ref a∧AE H2 a y o∧Q (.bl (o.isSome !=neg)) H2:=by
 obtain⟨G,O,ρ,n,R,s,w,q⟩:=h
 unfold ab at w
 rw[M.wp_bind] at w
 refine⟨G,O,ρ,n,_,s,w,fun z x' H1 n1 e1 ok1 r1 w1=>?_⟩
 have s1:=s.ext e1 ok1
 rw[M.wp_bind] at w1
 refine⟨G,O,ρ,n1,_,s1,w1,fun y x H2 n2 e2 ok2 r2 w2=>?_⟩
 cases y<;>first|(simp only[qy] at w2;exact w2.elim)|skip
 rename_i l
 have w2':((M.cY (rg z)).bind fun k=>M.ret (.bl ((lz l k).isSome !=neg)):M PV).wp n2 R:=by cases z<;>exact w2
 rw[M.wp_bind] at w2'
 obtain⟨k,ek,w2'⟩:=tT w2'
 obtain⟨p,ks,rfl,hd,rr⟩:=r2.y1
 refine⟨p,mj ks k,rfl,.inl ⟨ks,k,hd,qc (r1.ext s.B e2) ek,rfl⟩,q _ _ _ _ (e1.trans e2) ok2 (.bl _) ?_⟩
 have e3:(mj ks k).isSome=(lz l k).isSome:=by
  rcases rr.val k with⟨z1,z2⟩|⟨_,_,z1,z2,_⟩<;>simp[z1,z2]
 rw[e3]
 exact w2'
theorem HF (hu:X.A.units+1 < cLine) (hk:EB φ X a mk) (hd:EB φ X b md) (hm:behindInMarks .In b=false):EV φ X (.Compare a [.In] [b] pos) (ab (qy false) mk md):=
 BE.mono ⟨GP (BU hu hk.out hd.out) hm⟩ fun σ H Q h=>by
  obtain h:=vU h
  unfold Gn
  simpa only[Bool.bne_false] using h
theorem Gf (hu:X.A.units+1 < cLine) (hk:EB φ X a mk) (hd:EB φ X b md) (hm:behindInMarks .In b=false):TV φ X (.Compare a [.In] [b] pos) (bf (ab (qy false) mk md)):=
 BT.mono ⟨GH (BU hu hk.out hd.out) hm⟩ (um fun σ H Q h=>by
  obtain h:=vU h
  unfold Gn
  simpa only[Bool.bne_false] using h)
theorem E9 (hu:X.A.units+1 < cLine) (ho:EB φ X o md) (hi:EB φ X i mk) (hs:HN i):EV φ X (.Subscript o i pos) (ab sE md mk):=EW ⟨D3 hu ho.out hi.out hs⟩
end
section
variable {φ:fA} {X:Cx} {st:Stmt}
noncomputable def BY (k:Nat):af→M Fl:=fun ρ=>.ret (.nx (ρ.set k (.bT [])))
theorem yd {k:Nat} (h:BS X st (lA A5 (gn k))):SV φ X st (BY k):=BS.mono h fun D σ H ⟨G,O0,H0,O,ρ,n,s,w⟩ p hp=>
 w _ _ _ (s.Ky k (Ext.new hp _) (Bg.new s.es.ok hp _) hp az br.nil)
noncomputable def oJ (k:Nat) (mk mv:af→M PV):af→M Fl:=fun ρ=>(mv ρ).bind fun y=>match ρ[k]? with|some (.bT l)=>(mk ρ).bind fun z=>(M.cY (rg z)).bind fun key=>if l.length < 100000 then .ret (.nx (ρ.set k (.bT (qT l key y)))) else .fail|_=>.fail
theorem yc {k:Nat} {mk mv:af→M PV} (h:BS X st (Bl (oW k) (rD φ mk) (rC φ mv))):SV φ X st (oJ k mk mv):=BS.mono h fun D σ H hq0=>by
 obtain⟨G,O0,H0,O,ρ,n,s,w⟩:=hq0
 unfold oJ at w
 rw[M.wp_bind] at w
 refine⟨G,O,ρ,n,_,s.es,w,fun y x H1 n1 e1 ok1 r1 w1=>?_⟩
 have s1:=s.to e1 ok1
 cases hk:ρ[k]? with
 |none=>simp only[hk] at w1;exact w1.elim
 |some t=>
  cases t with
  |bT l=>
   simp only[hk] at w1
   obtain⟨p,xs,hx,hO,np,hh,rr⟩:=s1.es.er.2 k _ hk
   have hs:=fB s.es.er hk hx
   have npB:p≠G.B:=fun z=>np (z▸G.pB)
   rw[M.wp_bind] at w1
   refine⟨_,hs,G,O,ρ,n1,_,s1.es,w1,fun i x2 H2 n2 e2 ok2 r2 w2=>?_⟩
   rw[M.wp_bind] at w2
   obtain⟨key,ek,w2⟩:=tT w2
   by_cases c:l.length < 100000
   ·rw[Mz c] at w2
    have s2:=s1.to e2 ok2
    have hh2:H2 p=some (.dK xs):=e2 p _ npB hh
    refine⟨p,_,rfl,.inl ⟨xs,key,hh2,qc r2 ek,?_,rfl⟩,w2 O _ _ (s2.putD hk hs ((rr.ext s.es.B e2).put (r1.ext s.es.B e2)))⟩
    rw[←rr.len,Mq];lia
   ·rw[MA c] at w2;exact w2.elim
  |_=>simp only[hk] at w1;exact w1.elim
theorem za {o i value:Expr} {pos pos':Pos} {td ty tv:TE} (hu:X.A.units+1 < cLine) (ho:BE X o td) (hi:BE X i ty) (hv:BE X value tv) (hs:swapsWith value (some (.Subscript o i pos')) pos.line X.env=pure false:=by rfl):
  BS X (.Assign [.Subscript o i pos'] value pos) (Bl td ty tv):=⟨DZ hu ho.out hi.out hv.out hs⟩
end
def DK (ks:List (Key×V)) (u:HO):Prop:=u= .dK ks∨∃ o,u= .h8 o (.dK ks)
theorem DK.rd {H:Hp} {p:Addr} {ks:List (Key×V)} {u:HO} (h:DK ks u) (e:H p=some u):Rd H p (.dK ks):=by
 rcases h with rfl|⟨o,rfl⟩
 ·exact .inl e
 ·exact .inr ⟨o,e⟩
theorem DK.Jk {ks:List (Key×V)} {u:HO} (h:DK ks u): ¬ HP u:=by
 rcases h with rfl|⟨o,rfl⟩<;>exact id
section
variable {B:Addr} {O:Addr→Prop} {H:Hp} {p:Addr} {ks:List (Key×V)} {u u':HO}
theorem Rep.jc {y:PV} {x:V} (r:Rep B O H y x) (e:H p=some u) (d:DK ks u) (d':DK ks u'):Rep B O (upd H p u') y x:=by
 have ne: ∀ q v,H q=some v→¬ DK ks v→upd H p u' q=some v:=fun q v g nd=>by
  rw[ao (fun z=>by subst z;rw[e] at g;cases g;exact nd d)];exact g
 induction r with
 |aW=>exact .aW
 |bl b=>exact .bl b
 |int i=>exact .int i
 |str x=>exact .str x
 |tup hO h hl hr ih=>exact .tup hO (ne _ _ h (fun z=>by rcases z with z|⟨_,z⟩<;>cases z)) hl ih
 |lst hO h hl hr ih=>exact .lst hO (ne _ _ h (fun z=>by rcases z with z|⟨_,z⟩<;>cases z)) hl ih
 |sX hO h=>
  obtain⟨o,h⟩:=h
  exact .sX hO ⟨o,ne _ _ h (fun z=>by rcases z with z|⟨_,z⟩<;>cases z)⟩
 | @fz q ks' l hO h hl hr ih=>
  by_cases c:q=p
  ·subst c
   obtain rfl:=Bp h (d.rd e)
   exact .fz hO (d'.rd az) hl ih
  ·refine .fz hO ?_ hl ih
   rcases h with h|⟨o,h⟩
   ·exact .inl (by rw[ao c];exact h)
   ·exact .inr ⟨o,by rw[ao c];exact h⟩
 |bQ=>exact .bQ
theorem mM {O0 O:Addr→Prop} {q:Addr} (h:q≠p):hide O0 O (upd H p u') q=hide O0 O H q:=by
 unfold hide
 by_cases c:O q∧¬ O0 q
 ·rw[Mz c,Mz c]
 ·rw[MA c,MA c,ao h]
end
section
variable {φ:fA} {G:Bg φ} {O0 O O':Addr→Prop} {H Ha Hx:Hp} {σ:St} {ρ:af} {n:Nat} {p:Addr} {ks:List (Key×V)} {u u':HO}
theorem Ext.jc (nO: ¬ O p) (x:Ext G.B (hide O0 O Ha) Hx):Ext G.B (hide O0 O (upd Ha p u')) (upd Hx p u'):=fun q v nb h=>by
 by_cases c:q=p
 ·subst c
  rw[ij (fun z=>nO z.1),az] at h
  cases h
  exact .of az
 ·rw[mM c] at h
  exact(x q v nb h).to fun v e=>.of (by rw[ao c];exact e)
theorem Bg.jc (ok:G.ok Hx n) (np: ¬ G.dP p) (e:Hx p=some u) (d:DK ks u):G.ok (upd Hx p u') n:=G.keep Hx _ _ (fun q v hq hv=>by
 have hne:q≠p:=fun z=>by
  rcases hq with hq|hq
  ·exact np (z▸hq)
  ·rw[z,e] at hv;cases hv;exact d.Jk hq
 rw[ao hne];exact hv) ok
theorem SI.jc (s:SI G O0 (hide O0 O Ha) O' Hx σ ρ n) (nO: ¬ O p) (nO': ¬ O' p) (e:Hx p=some u) (d:DK ks u) (d':DK ks u'):SI G O0 (hide O0 O (upd Ha p u')) O' (upd Hx p u') σ ρ n:=by
 have np: ¬ G.dP p:=fun z=>nO' (s.es.pr p z)
 have ne: ∀ q,O' q→q≠p:=fun q h z=>nO' (z▸h)
 refine⟨⟨⟨s.es.er.1,fun i t ht=>?_⟩,Bg.jc s.es.ok np e d,s.es.pr,fun q hq=>?_⟩,s.p0,s.sub,Ext.jc nO s.ext,fun q hq=>?_,fun q hq=>?_,fun i q h=>?_,s.dj⟩
 ·have r1:=s.es.er.2 i t ht
  cases t with
  |un=>trivial
  |val y=>obtain⟨v,hv,rr⟩:=r1;exact⟨v,hv,rr.jc e d d'⟩
  |own t=>
   obtain⟨q,ys,hv,hq,nq,hh,rr⟩:=r1
   exact⟨q,ys,hv,hq,nq,by rw[ao (ne q hq)];exact hh,rr.1,fun i a b c f=>(rr.2 i a b c f).jc e d d'⟩
  |bT t=>
   obtain⟨q,ys,hv,hq,nq,hh,rr⟩:=r1
   exact⟨q,ys,hv,hq,nq,by rw[ao (ne q hq)];exact hh,rr.1,fun i a b c f=>(rr.2 i a b c f).jc e d d'⟩
 ·obtain⟨v,g⟩:=s.es.dm q hq
  exact⟨v,by rw[ao (ne q hq)];exact g⟩
 ·rw[mM (ne q hq)];exact s.gr q hq
 ·rw[mM (ne q (s.sub q hq))];exact s.d0 q hq
 ·rw[mM (ne q (gQ s.es h).1)];exact s.fr i q h
end
section
variable {φ:fA} {X:Cx} {st:Stmt}
noncomputable def vz:PV→M (List PV)
 | .fz l=>.ret (l.map fun kv=>Ag kv.1)
 |_=>.fail
theorem Gd {H:Hp} {p:Addr} {u:HO} (e:H p=some u):upd H p u=H:=by
 funext q
 by_cases c:q=p
 ·subst c;rw[az,e]
 ·rw[ao c]
theorem Ih.dk {d:Addr} {o:Obj} {ks:List (Key×V)} {u:HO} (h:Ih X d o ks u):DK ks u:=by
 rcases h with⟨rfl,_⟩|rfl
 ·exact .inl rfl
 ·exact .inr ⟨o,rfl⟩
theorem DB {mi:af→M PV} {bd:PV→af→M af} {mb:af→M Fl} (h:BS X st (fun D σ H=>zy (Cv X (rC φ mi)) (J0 φ bd) (Fp φ mb) (D.sQ X) σ H)):SV φ X st (bF (fun ρ=>(mi ρ).bind vz) bd mb):=BS.mono h fun D σ H hq0=>by
 obtain⟨G,O0,H0,O,ρ,n,s,w⟩:=hq0
 unfold bF at w
 rw[M.bind_assoc,M.wp_bind] at w
 refine⟨G,O,ρ,n,_,s.es,w,fun y x H1 n1 e1 ok1 r1 w1=>?_⟩
 cases y<;>first|exact w1.elim|skip
 rename_i l0
 obtain⟨l,hl⟩: ∃ l,l=l0.map fun kv=>Ag kv.1:=⟨_,rfl⟩
 replace w1:(cV bd mb l ρ).wp n1 (fun f n'=>o4 G O0 H0 D n' f):=by rw[hl];exact w1
 cases r1 with
 | @fz p ks _ hO hd hk hr=>
 refine⟨p,ks,rfl,hd,fun o u eu wu=>?_⟩
 have s1:=s.to e1 ok1
 have sf:SI G O0 (hide O0 O (upd H1 p (.h8 o (.dK ks)))) O (upd H1 p (.h8 o (.dK ks))) σ ρ n1:=s1.now.jc hO hO eu wu.dk (.inr ⟨o,rfl⟩)
 have nB:p≠G.B:=fun z=>hO (z▸s.es.B)
 have hlen:l.length=ks.length:=by rw[hl,LK];simpa using congrArg List.length hk
 have hid: ∀ q:Addr,hide O0 O (upd (upd H1 p (.h8 o (.dK ks))) p u) q=hide O0 O H1 q:=fun q=>by rw[Du,Gd eu]
 have hid':hide O0 O (upd (upd H1 p (.h8 o (.dK ks))) p u)=hide O0 O H1:=funext hid
 have hpf:hide O0 O (upd H1 p (.h8 o (.dK ks))) p=some (.h8 o (.dK ks)):=by rw[ij (fun z=>hO z.1)];exact az
 have at_: ∀ {H3:Hp},Ext G.B (hide O0 O (upd H1 p (.h8 o (.dK ks)))) H3→H3 p=some (.h8 o (.dK ks)):=fun x=>x p _ nB hpf
 have nO': ∀ {O':Addr→Prop} {H':Hp} {σ':St} {ρ':af} {n':Nat},SI G O0 (hide O0 O (upd H1 p (.h8 o (.dK ks)))) O' H' σ' ρ' n'→¬ O' p:=fun x z=>by
  rcases x.gr p z with g|g
  ·exact hO (s.sub p g)
  ·rw[hpf] at g;cases g
 have thw: ∀ {O':Addr→Prop} {H':Hp} {σ':St} {ρ':af} {n':Nat},SI G O0 (hide O0 O (upd H1 p (.h8 o (.dK ks)))) O' H' σ' ρ' n'→SI G O0 H0 O' (upd H' p u) σ' ρ' n':=fun x=>by
  have q:=x.jc hO (nO' x) (at_ x.ext) (.inr ⟨o,rfl⟩) wu.dk
  rw[hid'] at q
  exact s1.back q
 refine⟨fun i m σ' H'=>m=l.length - i∧i≤l.length∧∃ (O':Addr→Prop) (ρ':af) (n':Nat),SI G O0 (hide O0 O (upd H1 p (.h8 o (.dK ks)))) O' H' σ' ρ' n'∧(cV bd mb (l.drop i) ρ').wp n' (fun f n'=>o4 G O0 H0 D n' f),
  ⟨l.length,by simp,Me _,O,ρ,n1,sf,by simpa using w1⟩,?_⟩
 rintro i m σ' H' ⟨rfl,hi,O',ρ',n',s',w'⟩
 have hp':=at_ s'.ext
 by_cases hlt:i < l.length
 ·have hdrop:l.drop i=l[i]::l.drop (i+1):=List.drop_eq_getElem_cons hlt
  rw[hdrop] at w'
  unfold cV at w'
  refine .inr ⟨⟨hp',by lia⟩,fun σ2 H2=> ∃ (O':Addr→Prop) (ρ':af) (n':Nat),SI G O0 (hide O0 O (upd H1 p (.h8 o (.dK ks)))) O' H2 σ2 ρ' n'∧(cV bd mb (l.drop (i+1)) ρ').wp n' (fun f n'=>o4 G O0 H0 D n' f),fun σ2 H2 hh=>⟨l.length - (i+1),by lia,rfl,hlt,hh⟩,fun x H2 yl=>?_⟩
  obtain⟨eH,k,ek,rfl⟩:=yl
  subst eH
  have elk:l[i]=Ag k:=by
   have g:l[i]?=some (Ag k):=by
    have g0:(l0.map fun x=>x.1)[i]?=some k:=by rw[hk];exact ek
    rw[L5] at g0
    rw[hl,L5]
    cases c:l0[i]? with
    |none=>rw[c] at g0;cases g0
    |some z=>
     rw[c] at g0
     have g1:z.1=k:=MD g0
     show some (Ag z.1)=_
     rw[g1]
   rw[LH hlt] at g
   exact MD g
  rw[M.wp_bind] at w'
  refine⟨G,O0,_,O',ρ',n',_,l[i],s',by rw[elk];exact Cs k,w',fun σ2 ρ2 n2 s2 w2=>?_⟩
  rw[M.wp_bind] at w2
  refine⟨G,O0,_,O',ρ2,n2,s2,M.wp_mono w2 fun f n3 w3=>?_⟩
  cases f with
  |nx ρ3=>exact fun O3 σ3 H3 s3=>⟨O3,ρ3,n3,s3,w3⟩
  |ct ρ3=>exact fun O3 σ3 H3 s3=>⟨O3,ρ3,n3,s3,w3⟩
  |bk ρ3=>exact fun O3 σ3 H3 s3=>⟨p,o,ks,u,at_ s3.ext,wu,w3 O3 σ3 _ (thw s3)⟩
  |rt y=>exact fun x3 H3 e3 ok3 r3=>⟨p,o,ks,u,at_ e3,wu,w3 x3 _ (by
    have q:=Ext.jc (u':=u) hO e3
    rw[hid'] at q
    exact s1.base.trans q) (Bg.jc ok3 (fun z=>hO (s.es.pr p z)) (at_ e3) (.inr ⟨o,rfl⟩)) (r3.jc (at_ e3) (.inr ⟨o,rfl⟩) wu.dk)⟩
 ·have e:i=l.length:=by lia
  subst e
  rw[List.drop_length] at w'
  exact .inl ⟨⟨hp',by lia⟩,p,o,ks,u,hp',wu,w' O' σ' _ (thw s')⟩
theorem E5 {tg iter:Expr} {body:List Stmt} {td:TE} {g:TG} {tb:TS} {pos:Pos} (hp:PassesOwn (model X.prog X.w) X.A X.env X.xe) (hc:X.calm=true) (hi:BE X iter td) (hg:BG X tg g) (hb:Dj X body tb)
  (hs: ∀ x,foldedSetIterable iter X.env x=pure x:=by intro _;rfl):BS X (.For tg iter body [] pos) (fun D σ H=>zy (Cv X td) g tb (D.sQ X) σ H):=⟨DX (tw hp hc (D1 hi.out) hg.out hb.out hs)⟩
end
section
open AutoSeq1 (wpAny_loadPart')
noncomputable def Lh (K:Frag) (a:Addr):It:=
 ⟨fun i H=> ∃ xs x,fM K H a xs∧xs[i]?=some x,fun i H y H'=> ∃ T,y= .ref T∧H T=none∧∀ xs x,fM K H a xs→xs[i]?=some x→H'=upd H T (.tup [.int i,x]),fun i H=> ∃ xs,fM K H a xs∧xs.length≤i⟩
end
section
variable {φ:fA}
noncomputable def mS (l:List PV):List PV:=l.mapIdx fun i x=>PV.tup [.int i,x]
inductive Fi (K:Frag) (G:Bg φ) (O:Addr→Prop) (H:Hp):List PV→It→Prop where
 |Jy {a:Addr} {xs:List V} {l:List PV} (na: ¬ O a) (ha:H a=some (.lst xs)) (ra:a9 G.B O H l xs):Fi K G O H (mS l) (FY K a)
 |Kb {a:Addr} {xs:List V} {l:List PV} (na: ¬ O a) (ha:H a=some (.tup xs)) (ra:a9 G.B O H l xs):Fi K G O H (mS l) (Lh K a)
theorem vN {l:List PV} {i:Nat} {y:PV} (h:(mS l)[i]?=some y): ∃ u,l[i]?=some u∧y= .tup [.int i,u]:=by
 unfold mS at h
 rw[List.getElem?_mapIdx] at h
 cases e:l[i]? with
 |none=>rw[e] at h;cases h
 |some u=>rw[e] at h;exact⟨u,rfl,(MD h).symm⟩
theorem sC (l:List PV):(mS l).length=l.length:=by simp[mS]
theorem Fi.go {K:Frag} {G:Bg φ} {O:Addr→Prop} {H:Hp} {l:List PV} {J:It} (t:Fi K G O H l J) {i:Nat} {y:PV} (hi:l[i]?=some y):J.go i H∧∀ x H2,J.AG i H x H2→∃ T us vs,x= .ref T∧H T=none∧H2=upd H T (.tup vs)∧y= .tup us∧a9 G.B O H us vs:=by
 cases t with
 | @Jy a xs l1 na ha ra=>
  obtain⟨u,e1,rfl⟩:=vN hi
  obtain⟨x1,hx1,r1⟩:=ra.at e1
  refine⟨⟨xs,x1,cQ.of ha,hx1⟩,fun x H2 z=>?_⟩
  obtain⟨T,rfl,hT,q⟩:=z
  exact⟨T,[.int i,u],[.int i,x1],rfl,hT,q xs x1 (cQ.of ha) hx1,rfl,.cons (.int _) (.cons r1 .nil)⟩
 | @Kb a xs l1 na ha ra=>
  obtain⟨u,e1,rfl⟩:=vN hi
  obtain⟨x1,hx1,r1⟩:=ra.at e1
  refine⟨⟨xs,x1,fM.of ha,hx1⟩,fun x H2 z=>?_⟩
  obtain⟨T,rfl,hT,q⟩:=z
  exact⟨T,[.int i,u],[.int i,x1],rfl,hT,q xs x1 (fM.of ha) hx1,rfl,.cons (.int _) (.cons r1 .nil)⟩
theorem Fi.stop {K:Frag} {G:Bg φ} {O:Addr→Prop} {H:Hp} {l:List PV} {J:It} (t:Fi K G O H l J):J.stop l.length H:=by
 cases t with
 | @Jy a xs l1 na ha ra=>exact⟨xs,cQ.of ha,by rw[sC,ra.1];exact LQ _⟩
 | @Kb a xs l1 na ha ra=>exact⟨xs,fM.of ha,by rw[sC,ra.1];exact LQ _⟩
section
variable {G:Bg φ} {O0 O:Addr→Prop} {H0 H:Hp} {σ:St} {ρ:af} {n n':Nat}
theorem SI.Ip {K:Frag} {H1:Hp} {O':Addr→Prop} {σ':St} {ρ':af} {l:List PV} {J:It} (s:SI G O0 H0 O H σ ρ n) (x:SI G O0 (hide O0 O H) O' H1 σ' ρ' n') (it:Fi K G O H l J):Fi K G O' H1 l J:=by
 have k: ∀ p o,¬ O p→H p=some o→iW H1 p o∧¬ O' p:=fun p o np hp=>by
  have e:hide O0 O H p=some o:=by rw[ij (fun z=>np z.1)];exact hp
  refine⟨x.ext p o (fun z=>np (z▸s.es.B)) e,fun z=>?_⟩
  rcases x.gr p z with w|w
  ·exact np (s.sub p w)
  ·rw[w] at e;cases e
 cases it with
 |Jy na ha ra=>exact .Jy (k _ _ na ha).2 (k _ _ na ha).1 (ra.gH k)
 |Kb na ha ra=>exact .Kb (k _ _ na ha).2 (k _ _ na ha).1 (ra.gH k)
end
noncomputable def Li (φ:fA) (K:Frag) (m:af→M (List PV)):TI:=fun σ H Q=> ∃ (G:Bg φ) (O:Addr→Prop) (ρ:af) (n:Nat) (R:List PV→Nat→Prop),ES G O H σ ρ n∧(m ρ).wp n R∧
 ∀ (l:List PV) (J:It) (H':Hp) (n':Nat),Ext G.B H H'→G.ok H' n'→Fi K G O H' l J→R l n'→Q J H'
section
variable {X:Cx} {st:Stmt} {e e2:Expr} {p pos tpos:Pos} {elts:List Expr} {kk:Nat}
noncomputable def CQ:List PV→M (List PV)
 |[.lst l]=>.ret (mS l)
 |_=>.fail
theorem CP {l:List PV} {n:Nat} {R:List PV→Nat→Prop} (w:(CQ l).wp n R): ∃ l1,l=[.lst l1]:=by
 unfold CQ at w
 split at w
 ·exact⟨_,rfl⟩
 ·exact w.elim
theorem HD {ta:TA} (hg:Gl X "enumerate") (hm:X.mg "enumerate"=none) (ha:BA X [e] ta)
  (he:starEach [e] X.env=(false,eval e X.env)::starEach [] X.env:=by rfl) (hpl:(backTo pos (starEach [] X.env)).any (·.1)=false:=by rfl):BI X (.Tuple elts kk tpos) (.Call (.Name "enumerate" p) [e] [] pos) (yP X.K ta):=⟨yA hg hm PyProof.Rows.boot_enumerate ha.out (by decide) (by decide) he hpl⟩
theorem K0 {tg iter:Expr} {ml:af→M (List PV)} (h:BI X tg iter (yP X.K (J1 φ ml))):BI X tg iter (Li φ X.K fun ρ=>(ml ρ).bind CQ):=BI.mono h fun σ H Q hq0=>by
 obtain⟨G,O,ρ,n,R,s,w,q⟩:=hq0
 rw[M.wp_bind] at w
 refine⟨G,O,ρ,n,_,s,w,fun l xs H1 n1 e1 ok1 r1 w1=>?_⟩
 obtain⟨l1,rfl⟩:=CP w1
 obtain⟨x1,t1,rfl,a1,r2⟩:=r1.cons_inv
 rw[r2.nil_inv]
 cases a1 with
 |lst na ha la ra=>exact⟨_,_,rfl,cQ.of ha,q _ _ _ _ e1 ok1 (.Jy na ha ⟨la,ra⟩) w1⟩
theorem DA {mi:af→M (List PV)} {bd:PV→af→M af} {mb:af→M Fl} (h:BS X st (zy (Li φ X.K mi) (J0 φ bd) (Fp φ mb))):SV φ X st (bF mi bd mb):=BS.mono h fun D σ H hq0=>by
 obtain⟨G,O0,H0,O,ρ,n,s,w⟩:=hq0
 unfold bF at w
 rw[M.wp_bind] at w
 refine⟨G,O,ρ,n,_,s.es,w,fun l J H1 n1 e1 ok1 it w1=>?_⟩
 have s1:=s.to e1 ok1
 refine⟨fun i m σ' H'=>m=l.length - i∧i≤l.length∧∃ (O':Addr→Prop) (ρ':af) (n':Nat),SI G O0 (hide O0 O H1) O' H' σ' ρ' n'∧(cV bd mb (l.drop i) ρ').wp n' (fun f n'=>o4 G O0 H0 D n' f),
  ⟨l.length,by simp,Me _,O,ρ,n1,s1.now,by simpa using w1⟩,?_⟩
 rintro i m σ' H' ⟨rfl,hi,O',ρ',n',s',w'⟩
 have it':=s1.Ip s' it
 by_cases hlt:i < l.length
 ·have hget:l[i]?=some l[i]:=LH hlt
  have hdrop:l.drop i=l[i]::l.drop (i+1):=List.drop_eq_getElem_cons hlt
  rw[hdrop] at w'
  unfold cV at w'
  obtain⟨g1,g2⟩:=it'.go hget
  refine .inr ⟨g1,fun σ2 H2=> ∃ (O':Addr→Prop) (ρ':af) (n':Nat),SI G O0 (hide O0 O H1) O' H2 σ2 ρ' n'∧(cV bd mb (l.drop (i+1)) ρ').wp n' (fun f n'=>o4 G O0 H0 D n' f),fun σ2 H2 hh=>⟨l.length - (i+1),by lia,rfl,hlt,hh⟩,fun x H2 yl=>?_⟩
  obtain⟨T,us,vs,rfl,hT,rfl,ey,rr⟩:=g2 x H2 yl
  have ex:Ext G.B H' (upd H' T (.tup vs)):=Ext.new hT _
  have nT: ¬ O' T:=fun z=>by obtain⟨o,g⟩:=s'.es.dm T z;rw[hT] at g;cases g
  have rx:Rep G.B O' (upd H' T (.tup vs)) l[i] (.ref T):=by
   rw[ey]
   exact .tup nT az rr.1 (rr.ext s'.es.B ex).2
  rw[M.wp_bind] at w'
  refine⟨G,O0,_,O',ρ',n',_,l[i],s'.to ex (Bg.new s'.es.ok hT _),rx,w',fun σ2 ρ2 n2 s2 w2=>?_⟩
  rw[M.wp_bind] at w2
  refine⟨G,O0,_,O',ρ2,n2,s2,M.wp_mono w2 fun f n3 w3=>?_⟩
  cases f with
  |nx ρ3=>exact fun O3 σ3 H3 s3=>⟨O3,ρ3,n3,s3,w3⟩
  |ct ρ3=>exact fun O3 σ3 H3 s3=>⟨O3,ρ3,n3,s3,w3⟩
  |bk ρ3=>exact fun O3 σ3 H3 s3=>w3 O3 σ3 H3 (s1.back s3)
  |rt y=>exact fun x3 H3 e3 ok3 r3=>w3 x3 H3 (s1.base.trans e3) ok3 r3
 ·have e:i=l.length:=by lia
  subst e
  rw[List.drop_length] at w'
  exact .inl ⟨it'.stop,w' O' σ' H' (s1.back s')⟩
end
end
abbrev h7 (xs:Array Nat):Prop:=xs.toList.Pairwise (· < ·)
theorem h7.lt {xs:Array Nat} (h:h7 xs) {i j a b:Nat} (hij:i < j) (ha:xs[i]?=some a) (hb:xs[j]?=some b):a < b:=by
 obtain⟨hi,rfl⟩:=Array.getElem?_eq_some_iff.mp ha
 obtain⟨hj,rfl⟩:=Array.getElem?_eq_some_iff.mp hb
 have:=List.pairwise_iff_getElem.mp h i j (by simpa using hi) (by simpa using hj) hij
 simpa using this
theorem qF {xs:Array Nat} {j:Nat} (h:h7 xs): ∀ (fuel lo hi:Nat),lo≤hi→hi≤xs.size→hi - lo≤fuel→(∀ i a,i < lo→xs[i]?=some a→a < j)→(∀ i a,hi≤i→xs[i]?=some a→j≤a)→
  SetTable.below.go xs j fuel lo hi≤xs.size∧(∀ i a,i < SetTable.below.go xs j fuel lo hi→xs[i]?=some a→a < j)∧∀ i a,SetTable.below.go xs j fuel lo hi≤i→xs[i]?=some a→j≤a
 |0,lo,hi,h1,h2,h3,h4,h5=>by
  have:lo=hi:=by lia
  subst this
  exact⟨h2,h4,h5⟩
 |fuel+1,lo,hi,h1,h2,h3,h4,h5=>by
  unfold SetTable.below.go
  by_cases c:lo < hi
  ·rw[Mz c]
   have hm:(lo+hi) / 2 < hi:=by lia
   have hm2:lo≤(lo+hi) / 2:=by lia
   have e:xs[(lo+hi) / 2]?=some xs[(lo+hi) / 2]:=Md (by lia)
   have eg:xs.getD ((lo+hi) / 2) j=xs[(lo+hi) / 2]:=by
    rw[L8,e]
    rfl
   dsimp only
   rw[eg]
   by_cases d:xs[(lo+hi) / 2] < j
   ·rw[Mz d]
    refine qF h fuel _ hi (by lia) h2 (by lia) (fun i a hi' ha=>?_) h5
    by_cases ei:i=(lo+hi) / 2
    ·subst ei;rw[e] at ha;cases ha;exact d
    ·exact Nat.lt_trans (h.lt (by lia) ha e) d
   ·rw[MA d]
    refine qF h fuel lo _ hm2 (by lia) (by lia) h4 (fun i a hi' ha=>?_)
    by_cases ei:i=(lo+hi) / 2
    ·subst ei;rw[e] at ha;cases ha;lia
    ·have:=h.lt (by lia:(lo+hi) / 2 < i) e ha
     lia
  ·rw[MA c]
   have:lo=hi:=by lia
   subst this
   exact⟨h2,h4,h5⟩
theorem wb {xs:Array Nat} (h:h7 xs) (j:Nat):SetTable.below xs j≤xs.size∧(∀ i a,i < SetTable.below xs j→xs[i]?=some a→a < j)∧∀ i a,SetTable.below xs j≤i→xs[i]?=some a→j≤a:=
 qF h _ 0 _ (Me _) (LQ _) (by lia) (fun i a hi=>absurd hi (Nat.not_lt_zero _)) fun i a hi ha=>by
  rw[Array.getElem?_eq_none hi] at ha;cases ha
theorem qG {xs:Array Nat} (h:h7 xs) {j p:Nat} (hp:p≤xs.size) (h1: ∀ i a,i < p→xs[i]?=some a→a < j) (h2: ∀ i a,p≤i→xs[i]?=some a→j≤a):SetTable.below xs j=p:=by
 obtain⟨b0,b1,b2⟩:=wb h j
 rcases Nat.lt_trichotomy (SetTable.below xs j) p with c|c|c
 ·have e:xs[SetTable.below xs j]?=some xs[SetTable.below xs j]:=Md (by lia)
  have:=h1 _ _ c e
  have:=b2 _ _ (LQ _) e
  lia
 ·exact c
 ·have e:xs[p]?=some xs[p]:=Md (by lia)
  have:=b1 _ _ c e
  have:=h2 _ _ (LQ _) e
  lia
theorem vD {α:Type} (xs:Array α) (p:Nat) (x:α):(SetTable.insertAt xs p x).toList=xs.toList.take p++x::xs.toList.drop p:=by
 unfold SetTable.insertAt
 simp[Array.toList_append,Array.toList_push]
 exact List.take_of_length_le (by simp)
theorem Bw {t:SetTable} {j:Nat} (h:h7 t.place) (hj:j∉t.place.toList):h7 (t.put j).1.place:=by
 obtain⟨b0,b1,b2⟩:=wb h j
 show (SetTable.insertAt t.place (SetTable.below t.place j) j).toList.Pairwise _
 rw[vD,List.pairwise_append]
 have tk: ∀ a∈t.place.toList.take (SetTable.below t.place j),a < j:=fun a ha=>by
  obtain⟨i,hi,e⟩:=List.getElem_of_mem ha
  have hi':i < SetTable.below t.place j:=by simp at hi;lia
  refine b1 i a hi' ?_
  rw[←e]
  simp at hi ⊢
 have dr: ∀ a∈t.place.toList.drop (SetTable.below t.place j),j < a:=fun a ha=>by
  obtain⟨i,hi,e⟩:=List.getElem_of_mem ha
  have h1:t.place[SetTable.below t.place j+i]?=some a:=by
   rw[←e]
   simp at hi ⊢
  have h2:=b2 _ a (by lia) h1
  have h3:a∈t.place.toList:=List.mem_of_mem_drop ha
  rcases Nat.lt_or_eq_of_le h2 with c|c
  ·exact c
  ·exact absurd (c▸h3) hj
 refine⟨h.sublist (List.take_sublist _ _),MC.mpr ⟨dr,h.sublist (List.drop_sublist _ _)⟩,fun a ha b hb=>?_⟩
 rcases LU.mp hb with rfl|hb
 ·exact tk a ha
 ·exact Nat.lt_trans (tk a ha) (dr b hb)
theorem ym {t:SetTable} {j:Nat} (h:h7 t.place) (hs: ∀ i,t.slot j≠.live i):j∉t.place.toList:=fun hj=>by
 obtain⟨i,hi,e⟩:=List.getElem_of_mem hj
 have e':t.place[i]?=some j:=by
  rw[←e]
  simp at hi ⊢
 have hb:SetTable.below t.place j=i:=qG h (by simp at hi;lia) (fun k a hk ha=>h.lt hk ha e') fun k a hk ha=>by
  rcases Nat.lt_or_eq_of_le hk with c|c
  ·exact Nat.le_of_lt (h.lt c e' ha)
  ·subst c;rw[e'] at ha;cases ha;exact LQ _
 refine hs i ?_
 unfold SetTable.slot
 rw[hb]
 dsimp only
 rw[e']
 simp
theorem pU {t:SetTable} {hashAt:Nat→Int} {h:Int}: ∀ (fuel:Nat) (p:SetTable.Probe) (j:Nat) (d:Option Nat),(∀ k,p.dummy=some k→t.slot k= .dummy)→SetTable.probe.go t hashAt h fuel p=some (.empty j d)→t.slot j= .empty∧∀ k,d=some k→t.slot k= .dummy
 |0,p,j,d,hd,e=>by unfold SetTable.probe.go at e;cases e
 |fuel+1,p,j,d,hd,e=>by
  have ad: ∀ q:SetTable.Probe,(t.advance q).dummy=q.dummy:=fun q=>by
   unfold SetTable.advance
   split<;>rfl
  unfold SetTable.probe.go at e
  split at e
  ·rename_i c
   cases e
   exact⟨c,hd⟩
  ·rename_i c
   refine pU fuel _ j d (fun k hk=>?_) e
   rw[ad] at hk
   cases hk
   exact c
  ·rename_i i c
   split at e
   ·cases e
   ·refine pU fuel _ j d (fun k hk=>?_) e
    rw[ad] at hk
    exact hd k hk
theorem EN {t:SetTable} {h:Int} {j:Nat} {b:Bool} (hr:h7 t.place) (e:t.freeSlot h=some (j,b)):j∉t.place.toList:=by
 unfold SetTable.freeSlot at e
 split at e
 ·rename_i j' d c
  cases e
  obtain⟨h1,h2⟩:=pU _ _ _ _ (fun k hk=>by cases hk) c
  cases d with
  |none=>exact ym hr fun i z=>by have z':t.slot j'= .live i:=z;rw[h1] at z';cases z'
  |some k=>exact ym hr fun i z=>by have z':t.slot k= .live i:=z;rw[h2 k rfl] at z';cases z'
 ·cases e
theorem jv (n:Nat):h7 (Array.range n):=by
 show (Array.range n).toList.Pairwise _
 rw[Array.toList_range]
 exact List.pairwise_lt_range
theorem wL {t:SetTable} {n:Nat} (h:h7 t.place):h7 (t.orStandIn n).place:=by
 unfold SetTable.orStandIn
 split
 ·exact h
 ·exact jv n
theorem Cm {t:SetTable} {es:Array (Int×Value)} {h:Int} {x:Value} (hr:h7 t.place):h7 (layNew t es h x).2.1.place:=by
 unfold layNew
 split
 ·rename_i slot wd e
  exact wL (Bw hr (EN hr e))
 ·exact jv _
theorem wR (t:SetTable) (es:Array (Int×Value)) (n:Nat):h7 (relayAll t es n).2.1.place:=by
 unfold relayAll
 split
 ·rename_i t' order e
  have r':h7 t'.place:=by
   unfold SetTable.relaid SetTable.laid at e
   cases hl:SetTable.layClean (SetTable.sizeAbove n - 1) (es.map (·.1)) with
   |none=>rw[hl] at e;cases e
   |some ow=>
    rw[hl] at e
    cases e
    show List.Pairwise _ _
    rw[List.pairwise_map,List.pairwise_filterMap]
    refine List.pairwise_lt_range.imp fun {a b} hab p hp q hq=>?_
    obtain⟨_,_,rfl⟩:=Ma.mp hp
    obtain⟨_,_,rfl⟩:=Ma.mp hq
    exact hab
  dsimp only
  split
  ·exact r'
  ·exact jv _
 ·exact jv _
def oo (h:Heap) (a:Addr) (b:Bool):Prop:= ∃ o es ep t,h.get? a=some o∧o.data= .set es ep t∧t.led=b∧h7 t.place
theorem oo.at {h h':Heap} {a:Addr} {b:Bool} (x:oo h a b) (k: ∀ o,h.get? a=some o→h'.get? a=some o):oo h' a b:=by
 obtain⟨o,es,ep,t,ho,r⟩:=x
 exact⟨o,es,ep,t,k o ho,r⟩
section
variable {prog:Program} {w:World} {A:Around} {E:Value→Shared→Prop} {s:Shared} {K:Type} [DecidableEq K] {knd:PySem.KeyKind prog w K}
theorem rF {h:Heap} {a:Addr} {o:Obj} {es es':Array (Int×Value)} {ep:Nat} {t t':SetTable} {S':K→Bool} {b:Bool} (ho:h.get? a=some o) (hex:o.ExactSet) (hd:o.data= .set es ep t) (hel:PySem.ElemsOf knd es'.toList) (hmem: ∀ k,S' k=true↔∃ e∈es'.toList,knd.is k e.2=true) (hb:es'.size < PySem.scanBound) (hf:t'.fits es'.size=true) (hl:t'.led=b) (hp:h7 t'.place):
  (h.update a (Obj.putSet es' t')).SetOf knd a S' es'.size∧oo (h.update a (Obj.putSet es' t')) a b:=by
 obtain⟨h1,h2⟩:=PySem.SetOf_store (knd:=knd) ho hex hd hel hmem hb hf
 exact⟨h2,_,es',ep+1,t',h1,rfl,hl,hp⟩
theorem Fd {a:Addr} {S:K→Bool} {n:Nat} {k:K} {x:Value} {b:Bool} {Q:Bool→Shared→Prop} (hkey:knd.is k x=true) (hsc:x.scannable=true) (hS:s.heap.SetOf knd a S n) (hL:oo s.heap a b) (hroom:n+1 < PySem.scanBound)
  (h: ∀ h',Heap.SameBut a s.heap h'→h'.SetOf knd a (fun k'=>S k'||decide (k'=k)) (if S k then n else n+1)→oo h' a b→Q (!S k) {s with heap:=h'}):
  wpAny (model prog w) A (setAddHashed a x (knd.hash k)) Q E s:=by
 have hS0:=hS
 obtain⟨o,es,ep,t,ho,hex,hd,hel,hmem,hb,hf,hn⟩:=hS
 obtain⟨o',es',ep',t',ho',hd',led,pl⟩:=id hL
 rw[ho] at ho'
 cases ho'
 rw[hd] at hd'
 cases hd'
 unfold setAddHashed setAddHashedIn
 refine wpAny_holding (LI (PySem.wpAny_setState_of ho hd hf ?_))
 dsimp only
 rw[PySem.byScan_of hsc hb hel]
 simp only[↓reduceIte]
 unfold setAddByScan
 refine LI (LI (wpAny_rule (LI (PySem.wpAny_setScan_of hkey ho hd hf hel ?_))))
 cases hr:List.findIdx? (fun e=>knd.is k e.2) es.toList with
 |some j=>
  dsimp only
  obtain⟨hj,hpj,_⟩:=List.findIdx?_eq_some_iff_getElem.mp hr
  have hSk:S k=true:=(hmem k).mpr ⟨_,Mu hj,hpj⟩
  refine LN (LN ?_)
  have q:=h s.heap (Heap.SameBut.refl a s.heap)
  rw[hSk] at q
  refine q ⟨o,es,ep,t,ho,hex,hd,hel,fun k'=>?_,hb,hf,hn⟩ hL
  rw[Bool.or_eq_true,decide_eq_true_eq,←hmem k']
  exact⟨fun z=>z.elim id fun e=>e▸hSk,.inl⟩
 |none=>
  dsimp only
  have hSk:S k=false:=by
   cases hk:S k with
   |false=>rfl
   |true=>
    obtain⟨e,he,hp⟩:=(hmem k).mp hk
    have z:=List.findIdx?_eq_none_iff.mp hr e he
    rw[hp] at z
    cases z
  have gw: ∀ (g:Bool) {s₁:Shared} {Q':Unit→Shared→Prop},Q' () s₁→wpAny (model prog w) A (match g with|true=>rule "set.scan.the-table-gave-way"|false=>pure ()) Q' E s₁:=fun g s₁ Q' hq=>by
   cases g
   ·exact LN hq
   ·exact wpAny_rule hq
  have l1:=layNew_perm t es (knd.hash k) x
  have l2:=layNew_fits t es (knd.hash k) x
  have l3:=EC t es (knd.hash k) x
  have l4:=Cm (es:=es) (h:=knd.hash k) (x:=x) pl
  generalize layNew t es (knd.hash k) x=L at l1 l2 l3 l4 ⊢
  obtain⟨es1,t1,wasDummy,gave⟩:=L
  dsimp only at l1 l2 l3 l4 ⊢
  rw[Array.toList_push] at l1
  have z1:es1.size=n+1:=by
   rw[←Mn,l1.length_eq,Mc,Mn,hn]
   rfl
  have hel1:PySem.ElemsOf knd es1.toList:=(hel.push hkey hsc).perm l1
  have hmem1:=PySem.mem_push_iff hkey hmem l1
  have q: ∀ h',Heap.SameBut a s.heap h'→h'.SetOf knd a (fun k'=>S k'||decide (k'=k)) (n+1)→oo h' a b→Q true {s with heap:=h'}:=fun h' c1 c2 c3=>by
   have q:=h h' c1
   rw[hSk] at q
   exact q c2 c3
  refine LI (gw _ ?_)
  have fin: ∀ t2:SetTable,t2.fits es1.size=true→t2.led=b→h7 t2.place→wpAny (model prog w) A (do
    storeSet a es1 t2
    if(!wasDummy&&t2.tooFull)=true then do
      (match (relayAll t2 es1 (SetTable.grown es1.size)).2.2 with|true=>rule "set.scan.the-table-gave-way"|false=>pure ())
      storeSet a (relayAll t2 es1 (SetTable.grown es1.size)).1 (relayAll t2 es1 (SetTable.grown es1.size)).2.1
      pure (some true)
     else pure (some true)) (fun r s'=>wpAny (model prog w) A (match r with|some added=>pure added|none=>setAddHashedIn a x (knd.hash k) 99999) Q E s') E s:=fun t2 f2 led2 pl2=>by
   refine LI (PySem.wpAny_storeSet_of ho hd ?_ (PySem.fits_of_scanBound (by lia)))
   obtain⟨c1,c2⟩:=rF (knd:=knd) (b:=b) ho hex hd hel1 hmem1 (by lia) f2 led2 pl2
   obtain⟨c3,_⟩:=PySem.SetOf_store (knd:=knd) ho hex hd hel1 hmem1 (by lia) f2
   have c4:=Heap.SameBut.update s.heap a (Obj.putSet es1 t2)
   split
   ·have r1:=relayAll_perm t2 es1 (SetTable.grown es1.size)
    have r2:=relayAll_fits t2 es1 (SetTable.grown es1.size)
    have r3:=zK t2 es1 (SetTable.grown es1.size)
    have r4:=wR t2 es1 (SetTable.grown es1.size)
    generalize relayAll t2 es1 (SetTable.grown es1.size)=Rl at r1 r2 r3 r4 ⊢
    obtain⟨es2,t3,gave2⟩:=Rl
    dsimp only at r1 r2 r3 r4 ⊢
    have z2:es2.size=n+1:=by rw[←Mn,r1.length_eq,Mn,z1]
    refine LI (gw _ ?_)
    refine LI (PySem.wpAny_storeSet_of c3 rfl ?_ (PySem.fits_of_scanBound (by lia)))
    obtain⟨d1,d2⟩:=rF (knd:=knd) (b:=b) c3 hex rfl (hel1.perm r1) (fun k'=>(hmem1 k').trans ⟨fun ⟨e,he,q⟩=>⟨e,r1.mem_iff.mpr he,q⟩,fun ⟨e,he,q⟩=>⟨e,r1.mem_iff.mp he,q⟩⟩) (by lia) r2 (r3.1.trans led2) r4
    rw[z2] at d1
    exact LN (LN (q _ (c4.trans (Heap.SameBut.update _ a _)) d1 d2))
   ·rw[z1] at c1
    exact LN (LN (q _ c4 c1 c2))
  cases hp:t1.plain with
  |true=>
   simp only[if_true]
   refine LI ?_
   rw[PySem.hashByValue_scannable 8 hsc]
   cases PySem.plainKind x with
   |true=>exact LN (fin t1 l2 (l3.1.trans led) l4)
   |false=>exact LN (fin {t1 with plain:=false} (PySem.SetTable.fits_plain_off l2) (l3.1.trans led) l4)
  |false=>
   simp only[Mt,if_false]
   refine LI (LN ?_)
   simp only[↓reduceIte]
   exact fin t1 l2 (l3.1.trans led) l4
theorem Dg {a:Addr} {S:K→Bool} {n:Nat} {k:K} {key:Value} {b:Bool} {Q:Value→Shared→Prop} (hkey:knd.is k key=true) (hsc:key.scannable=true) (hS:s.heap.SetOf knd a S n) (hL:oo s.heap a b) (hroom:n+1 < PySem.scanBound)
  (h: ∀ h',Heap.SameBut a s.heap h'→h'.SetOf knd a (fun k'=>S k'||decide (k'=k)) (if S k then n else n+1)→oo h' a b→Q .none {s with heap:=h',toks:=s.toks+1}):
  wpAny (model prog w) A (call (.builtin "set.add") [.ref a,key]) Q E s:=by
 refine wpAny_call_entry PySem.F.slot_set_add hS.typeIs PySem.F.entry_set_add ?_ (PySem.F.args_set_add_2 _ _)
 unfold Builtin.«set.add» Builtin.Frozenset.oneOther
 simp only[List.isEmpty_nil,bind_assoc]
 unfold Builtin.Frozenset.addrOf setAdd
 refine LI (LN ?_)
 try dsimp only
 refine LI (LN ?_)
 try dsimp only
 refine LI ?_
 refine wpAny_holding ?_
 refine LI (knd.pyHash hkey ?_)
 refine Fd (s:={s with toks:=s.toks+1}) hkey hsc hS hL hroom fun h' hsb hS' hL'=>?_
 show wpAny _ _ (ret Value.none) _ _ _
 exact LN ⟨_,rfl,h h' hsb hS' hL'⟩
theorem Em {Q:Value→Shared→Prop}
  (h:(s.heap.push {cls:=.type "set",dict:=none,data:=.set #[] 0 (.fresh 0 0 (!E4 w))}).SetOf knd s.heap.objs.size (fun _=>false) 0→oo (s.heap.push {cls:=.type "set",dict:=none,data:=.set #[] 0 (.fresh 0 0 (!E4 w))}) s.heap.objs.size (!E4 w)→
   Q (.ref s.heap.objs.size) {s with heap:=s.heap.push {cls:=.type "set",dict:=none,data:=.set #[] 0 (.fresh 0 0 (!E4 w))}}):
  wpAny (model prog w) A (newSet (.type "set")) Q E s:=by
 unfold newSet setsByText
 refine LI (LI (wpAny_askSetting (LN ?_)))
 dsimp only
 simp only[newObj]
 exact LI (wpAny_alloc (LN (h ⟨_,#[],0,_,LY _ rfl,⟨rfl,rfl,rfl⟩,rfl,fun e he=>by simp at he,fun k=>by simp,by decide,by rfl,rfl⟩ ⟨_,#[],0,_,LY _ rfl,rfl,rfl,.nil⟩)))
end
noncomputable def gk (P:Program) (w:World) (D:Addr) (S:Key→Bool) (n:Nat):HO:=.ext fun h=>h.SetOf (bC P w) D S n∧oo h D (!E4 w)
theorem sW {P:Program} {w:World} {H:Hp} {h:Heap} {D:Addr} {S:Key→Bool} {n:Nat} (hS:h.SetOf (bC P w) D S n) (hL:oo h D (!E4 w)):dz P w H h D (gk P w D S n):=by
 refine⟨⟨hS,hL⟩,?_,?_⟩
 ·obtain⟨o,es,ep,t,e,_⟩:=hS
  exact⟨o,e⟩
 ·rintro h1 h2 ⟨⟨o,es,ep,t,e,c⟩,l⟩ k
  exact⟨⟨o,es,ep,t,k _ e,c⟩,l.at fun o e=>k _ e⟩
theorem yo {P:Program} {w:World} {H:Hp} {h:Heap} {D:Addr} {S:Key→Bool} {n:Nat} (x:kP P w H h) (e:H D=some (gk P w D S n)):h.SetOf (bC P w) D S n∧oo h D (!E4 w):=(x D _ e).1
section
variable {X:Cx}
def IY (P:Program) (w:World):V→List V→Hp→VK→Prop:=fun x vs H Q=> ∃ (D:Addr) (k:Key) (S:Key→Bool) (n:Nat),x= .ref D∧vs=[kV k]∧H D=some (gk P w D S n)∧n+1 < PySem.scanBound∧Q .aW (upd H D (gk P w D (fun k'=>S k'||decide (k'=k)) (if S k=true then n else n+1)))
theorem Er:JQ X "set.add" (IY X.prog X.w):=by
 intro pins s σ H x vs v us Q I rx rv h
 obtain⟨D,k,S,n,rfl,rfl,hH,hn,q⟩:=h
 cases rx
 obtain⟨u,rfl,ru⟩:=rv.one
 obtain⟨hk,hs⟩:=DQ ru
 refine Dg (knd:=bC X.prog X.w) hk hs (yo I.bE hH).1 (yo I.bE hH).2 hn fun h' hsb hS' hL'=>?_
 refine⟨.aW,_,I.write (t':=s.toks+1) (x:=D) (e:=D) (o:=gk X.prog X.w D (fun k'=>S k'||decide (k'=k)) (if S k=true then n else n+1)) (by rw[hH];exact trivial) (.inl rfl) (fun b u hb hu=>(hsb.2 b hb).trans hu) (sW (P:=X.prog) (w:=X.w) (H:=H) hS' hL').2.1 (sW hS' hL'),rfl,q⟩
end
section
variable {X:Cx} {pins:List (Addr×Obj)} {σ:St} {H:Hp} {s:Shared} {scope:Scope} {N:List Str} {js:List (Option Nat)} {fp:List Addr}
def LC (P:Program) (w:World) (J:It) (D:Addr) (g:TG) (tt:TT) (te:TE) (Q:VK) (σ0:St) (H1:Hp):Prop:=
 ∃ W:Nat→Nat→St→Hp→Prop,(∃ m,W 0 m σ0 (upd H1 D (gk P w D (fun _=>false) 0)))∧∀ i m σ' H',W i m σ' H'→
  (J.stop i H'∧Q (.ref D) H')∨(J.go i H'∧∀ x H2,J.AG i H' x H2→g x σ' H2 fun σ2 H3=>tt σ2 H3 fun ok H4=>
   if ok=true then te σ2 H4 fun y H5=> ∃ (k:Key) (S:Key→Bool) (c:Nat),y=kV k∧H5 D=some (gk P w D S c)∧c+1 < PySem.scanBound∧∃ m',m' < m∧W (i+1) m' σ2 (upd H5 D (gk P w D (fun k'=>S k'||decide (k'=k)) (if S k=true then c else c+1)))
   else ∃ m',m' < m∧W (i+1) m' σ2 H4)
noncomputable def J4 (P:Program) (w:World) (js:List (Option Nat)) (wi:TI) (g:TG) (tt:TT) (te:TE):TE:=fun σ H Q=>wi σ H fun J H1=> ∀ D,H1 D=none→LC P w J D g tt te Q (iN js σ) H1
theorem DE {elt target iter:Expr} {ifs:List Expr} {pos:Pos} {g:TG} {tt:TT} {te:TE} {it:Addr} {tn:Nat→Heap→Prop} {J:It} {Q:VK} {R:Value→Addr→Result→Shared→Prop}
  (L:aS X scope N js) (hc:X.calm=true)
  (hg: ∀ s₀ H₀ ex pn,PG (jb X scope N s₀ H₀ ex pn) target g) (ht: ∀ s₀ H₀ ex pn,zk (jb X scope N s₀ H₀ ex pn) ifs tt) (he: ∀ s₀ H₀ ex pn,PE (jb X scope N s₀ H₀ ex pn) elt te)
  (I:Inv X pins σ H s) (T:Turn X.prog X.w X.K target J fp it tn) (st:tn 0 s.heap) (hf: ∀ b∈fp,eQ X pins H b)
  {D:Addr} {s3:Shared} {h₁:Heap} {tk:Nat} (I3:Inv X pins σ (upd H D (gk X.prog X.w D (fun _=>false) 0)) s3) (hDl: ∀ b o,s.heap.get? b=some o→b≠D) (k3: ∀ b o,s.heap.get? b=some o→s3.heap.get? b=some o)
  (hns₁:h₁.Ns s3.heap.objs.size (fun _=>none)) (kk: ∀ b o,s3.heap.get? b=some o→h₁.get? b=some o)
  (w: ∃ W:Nat→Nat→St→Hp→Prop,(∃ m,W 0 m (iN js σ) (upd H D (gk X.prog X.w D (fun _=>false) 0)))∧∀ i m σ' H',W i m σ' H'→
   (J.stop i H'∧Q (.ref D) H')∨(J.go i H'∧∀ x H2,J.AG i H' x H2→g x σ' H2 fun σ2 H3=>tt σ2 H3 fun ok H4=>
    if ok=true then te σ2 H4 fun y H5=> ∃ (k:Key) (S:Key→Bool) (c:Nat),y=kV k∧H5 D=some (gk X.prog X.w D S c)∧c+1 < PySem.scanBound∧∃ m',m' < m∧W (i+1) m' σ2 (upd H5 D (gk X.prog X.w D (fun k'=>S k'||decide (k'=k)) (if S k=true then c else c+1)))
    else ∃ m',m' < m∧W (i+1) m' σ2 H4))
  (hR: ∀ C s' H',Inv X pins σ H' s'→eQ X pins H' C→(∃ m,s'.heap.Ns C m)→Q (.ref D) H'→R (.ref D) C (.ok .next) s'):
  codeAny (model X.prog X.w) X.A (.compStart (.SetComp elt [⟨target,iter,ifs,0⟩] scope pos) 0 (.ref it) (.ref D) {newEnv scope s3.heap.objs.size X.env.globals (vZ scope.names X.env.cells) X.env.qual none .none (some X.env) builtinsNs with scope:=relabel scope X.env}) (R (.ref D) s3.heap.objs.size) {s3 with heap:=h₁,toks:=tk}:=by
 have obj:=T.obj 0 s.heap st
 have ho3: ∀ b∈fp,∃ o,s3.heap.get? b=some o:=fun b hb=>by obtain⟨o,e,_⟩:=obj b hb;exact⟨o,k3 b o e⟩
 have hf3: ∀ b∈fp,eQ X pins (upd H D (gk X.prog X.w D (fun _=>false) 0)) b:=fun b hb=>by
  refine⟨?_,(hf b hb).2⟩
  obtain⟨o,e,_⟩:=obj b hb
  rw[ao (hDl b o e)]
  exact(hf b hb).1
 have I4:Inv (jb X scope N s3 (upd H D (gk X.prog X.w D (fun _=>false) 0)) fp (X.pn++pins)) [] (iN js σ) (upd H D (gk X.prog X.w D (fun _=>false) 0)) {s3 with heap:=h₁,toks:=tk}:=
  L.start I3 hc hf3 ho3 hns₁ kk
 obtain⟨W,⟨m0,w0⟩,turn⟩:=w
 have st4:tn 0 h₁:=T.keep 0 _ _ st fun b _ o e=>kk b o (k3 b o e)
 generalize hX:jb X scope N s3 (upd H D (gk X.prog X.w D (fun _=>false) 0)) fp (X.pn++pins)=Y at I4
 have fpY: ∀ b∈fp,b≠Y.env.locals∧b∉Y.fs∧(b∈Y.ex∨Y.s₀.heap.objs.size≤b)∧(∀ x c,Y.env.cells.lookup x=some c→c≠b)∧∀ p∈Y.pn++[],p.1≠b:=fun b hb=>by
  rw[←hX]
  obtain⟨o,e⟩:=ho3 b hb
  refine⟨Mg (L1 e),fun z=>?_,.inl hb,fun x c h=>(hf b hb).2.2.2.2.1 x c (fH _ _ _ (fun _ _ e=>by simp at e) x c h),fun p hp=>(hf b hb).2.2.2.2.2 p (by simpa[jb] using hp)⟩
  rcases LU.mp (I3.nv b z) with q|q
  ·exact(hf b hb).2.1 q
  ·exact(hf b hb).2.2.1 q
 have loop:codeAny (model X.prog X.w) X.A (.compLoop (.SetComp elt [⟨target,iter,ifs,0⟩] scope pos) 0 (.ref it) (.ref D) Y.env) (R (.ref D) s3.heap.objs.size) {s3 with heap:=h₁,toks:=tk}:=by
  have pr:Y.prog=X.prog:=by rw[←hX];rfl
  have pw:Y.w=X.w:=by rw[←hX];rfl
  have pK:Y.K=X.K:=by rw[←hX];rfl
  have pA:Y.A=X.A:=by rw[←hX];rfl
  have pc:Y.calm=true:=by rw[←hX];rfl
  have px:Y.xe=fun _ _=>False:=by rw[←hX];rfl
  have stat: ∀ {H':Hp},(∀ b∈fp,H' b=none)→∀ b∈fp,eQ Y [] H' b:=fun hn b hb=>⟨hn b hb,fpY b hb⟩
  refine xH (fun n s'=> ∃ i σ' H',Inv Y [] σ' H' s'∧tn i s'.heap∧(∀ b∈fp,H' b=none)∧W i n σ' H') ?_ m0 ⟨0,_,_,I4,st4,fun b hb=>(hf3 b hb).1,w0⟩
  rintro n s5 ⟨i,σ5,H5,I5,st5,fr5,w5⟩
  have gY:PG Y target g:=by rw[←hX];exact hg _ _ _ _
  have tY:zk Y ifs tt:=by rw[←hX];exact ht _ _ _ _
  have eY:PE Y elt te:=by rw[←hX];exact he _ _ _ _
  unfold PG at gY;unfold zk at tY;unfold PE at eY
  rw[pr,pw,pA,px] at gY tY eY
  have ap:=Er (X:=Y)
  unfold JQ at ap
  rw[pr,pw,pA,px] at ap
  rcases turn i n σ5 H5 w5 with⟨stop,q⟩|⟨go,step⟩
  ·have d:=T.done Y pr pw pK pc i [] s5 σ5 H5 (fun _ _=>False) I5 (stat fr5) st5 stop
   rw[pA] at d
   refine bN d fun r s6 ⟨hr,I6⟩=>?_
   subst hr
   have I6':Inv (jb X scope N s3 (upd H D (gk X.prog X.w D (fun _=>false) 0)) fp (X.pn++pins)) [] σ5 H5 s6:=by rw[hX];exact I6
   obtain⟨a1,a2,a3⟩:=Ck I3 hf3 I6'
   exact hR _ s6 H5 a1 a2 a3 q
  ·have d:=T.item Y pr pw pK pc i [] s5 σ5 H5 (fun _ _=>False) I5 (stat fr5) st5 go
   rw[pA] at d
   refine bN d fun r s6 ⟨u,hr,h6⟩=>?_
   subst hr
   refine bN h6 fun _ s7 ⟨x,H7,I7,r7,y7,st7,fr7⟩=>?_
   have I7':=I7.pinned (stat fr7) (T.obj _ _ st7)
   refine bN (gY _ s7 σ5 H7 x u _ I7' r7 (step x H7 y7)) fun _ s8 ⟨σ8,H8,I8,q8⟩=>?_
   have again: ∀ {σ9:St} {H9:Hp} {s9:Shared},Inv Y ([]++nJ fp s7.heap) σ9 H9 s9→(∃ m',m' < n∧W (i+1) m' σ9 H9)→∃ m,m < n∧∃ i σ' H',Inv Y [] σ' H' s9∧tn i s9.heap∧(∀ b∈fp,H' b=none)∧W i m σ' H':=fun {σ9 H9 s9} I9 ⟨m',hm,w9⟩=>by
    refine⟨m',hm,i+1,σ9,H9,I9.kc,T.keep _ _ _ st7 fun b hb o e=>(I9.pin (b,o) (L4 _ (L4 _ (fV hb e)))).1,fun b hb=>?_,w9⟩
    obtain⟨o,e,d⟩:=T.obj _ _ st7 b hb
    exact(I9.pin (b,o) (L4 _ (L4 _ (fV hb e)))).2.1
   refine bN (tY _ s8 σ8 H8 _ I8 q8) fun ok s9 ⟨H9,I9,q9⟩=>?_
   cases ok with
   |false=>
    rw[MA (by decide)] at q9
    rw[MA (by decide)]
    exact again I9 q9
   |true=>
    rw[Mz rfl] at q9
    rw[Mz rfl]
    refine bN (eY _ s9 σ8 H9 _ I9 q9) fun v s10 ⟨y,H10,I10,r10,ky,S,c,eky,eys,lys,q10⟩=>?_
    refine bN (ap _ s10 σ8 H10 (.ref D) [y] (.ref D) [v] (fun _ H'=> ∃ m',m' < n∧W (i+1) m' σ8 H') I10 rfl (.cons r10 .nil) ⟨D,ky,S,c,rfl,by rw[eky],eys,lys,q10⟩) fun v2 s11 ⟨y2,H11,I11,_,q11⟩=>?_
    exact again I11 q11
 have ee:({newEnv scope s3.heap.objs.size X.env.globals (vZ scope.names X.env.cells) X.env.qual none .none (some X.env) builtinsNs with scope:=relabel scope X.env}:Env)=Y.env:=by rw[←hX];rfl
 rw[ee]
 exact zA loop (T.self _ 0 _ _ _ st4 loop)
theorem Bb {elt target iter:Expr} {ifs:List Expr} {pos:Pos} {g:TG} {tt:TT} {te:TE} {it:Addr} {tn:Nat→Heap→Prop} {J:It} {Q:VK} {E:Value→Shared→Prop} {R:Value→Addr→Result→Shared→Prop}
  (L:aS X scope N js) (hc:X.calm=true)
  (hg: ∀ s₀ H₀ ex pn,PG (jb X scope N s₀ H₀ ex pn) target g) (ht: ∀ s₀ H₀ ex pn,zk (jb X scope N s₀ H₀ ex pn) ifs tt) (he: ∀ s₀ H₀ ex pn,PE (jb X scope N s₀ H₀ ex pn) elt te)
  (I:Inv X pins σ H s) (T:Turn X.prog X.w X.K target J fp it tn) (st:tn 0 s.heap) (hf: ∀ b∈fp,eQ X pins H b)
  (w: ∀ D,H D=none→∃ W:Nat→Nat→St→Hp→Prop,(∃ m,W 0 m (iN js σ) (upd H D (gk X.prog X.w D (fun _=>false) 0)))∧∀ i m σ' H',W i m σ' H'→
   (J.stop i H'∧Q (.ref D) H')∨(J.go i H'∧∀ x H2,J.AG i H' x H2→g x σ' H2 fun σ2 H3=>tt σ2 H3 fun ok H4=>
    if ok=true then te σ2 H4 fun y H5=> ∃ (k:Key) (S:Key→Bool) (c:Nat),y=kV k∧H5 D=some (gk X.prog X.w D S c)∧c+1 < PySem.scanBound∧∃ m',m' < m∧W (i+1) m' σ2 (upd H5 D (gk X.prog X.w D (fun k'=>S k'||decide (k'=k)) (if S k=true then c else c+1)))
    else ∃ m',m' < m∧W (i+1) m' σ2 H4))
  (hR: ∀ D C s' H',Inv X pins σ H' s'→eQ X pins H' C→(∃ m,s'.heap.Ns C m)→Q (.ref D) H'→R (.ref D) C (.ok .next) s'):
  wpAny (model X.prog X.w) X.A (newSet (.type "set")) (fun acc s₃=>wpAny (model X.prog X.w) X.A (newFunctionEnv scope X.env.globals (vZ scope.names X.env.cells) [] X.env.qual none .none (some X.env)) (fun cenv s₄=>
   codeAny (model X.prog X.w) X.A (.compStart (.SetComp elt [⟨target,iter,ifs,0⟩] scope pos) 0 (.ref it) acc {cenv with scope:=relabel scope X.env}) (R acc cenv.locals) s₄) E s₃) E s:=by
 have hD:=I.fresh
 refine Em (knd:=bC X.prog X.w) fun hS hL=>?_
 have I3:Inv X pins σ (upd H s.heap.objs.size (gk X.prog X.w s.heap.objs.size (fun _=>false) 0)) {s with heap:=s.heap.push {cls:=.type "set",dict:=none,data:=.set #[] 0 (.fresh 0 0 (!E4 X.w))}}:=I.laid (t':=s.toks) (fun b o e=>LL _ e) (LQ _) (sW hS hL)
 refine wpAny_newFunctionEnv L.xn (by intro y hy;simp at hy) (fun h₁ hns₁ hsb₁=>?_) L.kind
 dsimp only at hns₁ hsb₁
 exact DE (Q:=Q) (R:=R) (s3:={s with heap:=s.heap.push {cls:=.type "set",dict:=none,data:=.set #[] 0 (.fresh 0 0 (!E4 X.w))}}) L hc hg ht he I T st hf I3 (fun b o e=>Mg (L1 e)) (fun b o e=>LL _ e) hns₁
  (fun b o e=>hsb₁.extBut b o (Mg (L1 e)) (LL _ e)) (w _ hD) (fun C=>hR _ C)
theorem Jb {elt target iter:Expr} {ifs:List Expr} {pos:Pos} {wi:TI} {g:TG} {tt:TT} {te:TE} (L:aS X scope N js) (hc:X.calm=true) (hi:PI X target iter wi)
  (hg: ∀ s₀ H₀ ex pn,PG (jb X scope N s₀ H₀ ex pn) target g) (ht: ∀ s₀ H₀ ex pn,zk (jb X scope N s₀ H₀ ex pn) ifs tt) (he: ∀ s₀ H₀ ex pn,PE (jb X scope N s₀ H₀ ex pn) elt te)
  (hs: ∀ x,foldedSetIterable iter X.env x=pure x:=by intro _;rfl):PE X (.SetComp elt [⟨target,iter,ifs,0⟩] scope pos) (J4 X.prog X.w js wi g tt te):=by
 intro pins s σ H Q I h
 rw[t9]
 refine wpAny_comprehension_free (use:=none) rfl hs (lS (L.EY I.ok)) L.kind L.names (bN (hi pins s σ H _ I h) fun v s1 h1=>bN h1 fun itv s2 h2=>?_)
 obtain⟨it,fp,tn,J,H2,e,I2,T,st2,f2,w⟩:=h2
 subst e
 refine Bb (Q:=Q) (R:=fun acc C=>compPost (model X.prog X.w) X.A X.xe none (EP X pins σ Q) acc C) L hc hg ht he I2 T st2 f2 w ?_
 intro D C s' H' I' f' ⟨m,hn⟩ q
 exact⟨m,hn,fun h' hs'=>⟨.ref D,H',I'.gone (m:=m) f' hs',rfl,q⟩⟩
end
section
variable {prog:Program} {w:World} {A:Around} {E:Value→Shared→Prop} {s:Shared} {I D:Addr} {o:Obj} {es:Array (Int×Value)} {ep:Nat} {t:SetTable}
theorem vg {slot i:Nat} (hb:w.params.followText "set-order"=false) (hD:s.heap.get? D=some o) (hd:o.data= .set es ep t) (hf:t.fits es.size=true) (hl:t.led=true) (hc:(!t.plain&&decide (es.size > 1))=false) {Q:Option (Value×Nat)→Shared→Prop}
  (h1: ∀ e j,es[SetTable.below t.place slot]?=some e→t.place[SetTable.below t.place slot]?=some j→Q (some (e.2,j+1)) s) (h2:es[SetTable.below t.place slot]?=none→Q none s):wpAny (model prog w) A (setNext D slot i ep) Q E s:=by
 unfold setNext
 refine LI (PySem.wpAny_setState_of hD hd hf ?_)
 dsimp only
 refine LI (kR ?_)
 rw[hb,MA (by simp)]
 refine wpAny_ite ?_
 split
 ·rename_i c
  have c':(!t.plain&&decide (es.size > 1))=true:=c
  rw[hc] at c'
  cases c'
 ·refine LI (wpAny_of_eq (a:=PUnit.unit) ?_ ?_)
  ·show (if(!t.led&&!es.isEmpty)=true then(unsupported "set:maker-not-led":Sem PUnit) else pure PUnit.unit)=pure PUnit.unit
   rw[hl]
   rfl
  ·refine LN ?_
   have z:t.place.size=es.size:=by
    unfold SetTable.fits at hf
    simp at hf
    exact hf.1
   cases e1:es[SetTable.below t.place slot]? with
   |none=>exact h2 e1
   |some e=>
    have lt:=(Array.getElem?_eq_some_iff.mp e1).1
    have e2:t.place[SetTable.below t.place slot]?=some (t.place[SetTable.below t.place slot]'(by lia)):=Md (by lia)
    have q:=h1 e _ e1 e2
    rw[e2]
    exact q
noncomputable def slotAt (pl:Array Nat):Nat→Nat
 |0=>0
 |i+1=>pl.getD i 0+1
theorem qE {pl:Array Nat} (h:h7 pl): ∀ {i:Nat},i≤pl.size→SetTable.below pl (slotAt pl i)=i
 |0,_=>qG h (Me _) (fun k a hk=>absurd hk (Nat.not_lt_zero _)) fun k a _ _=>Me _
 |i+1,hi=>by
  have e:pl[i]?=some pl[i]:=Md (by lia)
  have eg:slotAt pl (i+1)=pl[i]+1:=by
   show pl.getD i 0+1=_
   rw[L8,e]
   rfl
  rw[eg]
  refine qG h hi (fun k a hk ha=>?_) fun k a hk ha=>?_
  ·rcases Nat.lt_or_eq_of_le (Nat.le_of_lt_succ hk) with c|c
   ·exact Nat.lt_succ_of_lt (h.lt c ha e)
   ·subst c;rw[e] at ha;cases ha;exact Nat.lt_succ_self _
  ·exact h.lt (by lia) e ha
theorem AQ (hh:A.handled=none) (hID:I≠D) (hb:w.params.followText "set-order"=false) (hd:o.data= .set es ep t) (hf:t.fits es.size=true) (hl:t.led=true) (hc:(!t.plain&&decide (es.size > 1))=false) (hr:h7 t.place):
  Walks prog w A I [I,D] [I] es.size (fun i v=>(es.toList.map (·.2))[i]?=some v) (fun i h=>h.get? I=some (lB (.int (slotAt t.place i:Nat) 0) i D es.size ep)∧h.get? D=some o) where
 sub:=fun c hc=>by simp at hc;simp[hc]
 frame:=fun i h h' st k=>⟨k I (by simp) _ st.1,k D (by simp) _ st.2⟩
 item:=fun i s Q E hi st hQ=>by
  have z:t.place.size=es.size:=by
   unfold SetTable.fits at hf
   simp at hf
   exact hf.1
  have e1:es[i]?=some es[i]:=Md hi
  have e2:t.place[i]?=some (t.place[i]'(by lia)):=Md (by lia)
  have hbl:=qE hr (i:=i) (by lia)
  refine uJ (x:=es[i].2) (nx:=slotAt t.place (i+1)) st.1 st.2 hd hf (fun {Q' E'} h=>vg hb st.2 hd hf hl hc (fun e j he hj=>?_) fun he=>?_) fun h' g sb=>?_
  ·rw[hbl,e1] at he
   rw[hbl,e2] at hj
   cases he
   cases hj
   have eg:slotAt t.place (i+1)=t.place[i]'(by lia)+1:=by
    show t.place.getD i 0+1=_
    rw[L8,e2]
    rfl
   rw[eg] at h
   exact h
  ·rw[hbl,e1] at he
   cases he
  ·refine hQ _ h' s.toks ?_ ⟨g,(sb.2 D hID.symm).trans st.2⟩ fun c u hc e=>(sb.2 c fun z=>hc (by simp[z])).trans e
   rw[L5,Array.getElem?_toList,e1]
   rfl
 done:=fun s Q E st hQ=>by
  have z:t.place.size=es.size:=by
   unfold SetTable.fits at hf
   simp at hf
   exact hf.1
  have hbl:=qE hr (i:=es.size) (by lia)
  have en:es[es.size]?=none:=Array.getElem?_eq_none (LQ _)
  refine yn hh st.1 st.2 hd hf (fun {Q' E'} h=>vg hb st.2 hd hf hl hc (fun e j he hj=>?_) fun he=>h) fun h' eb=>?_
  ·rw[hbl,en] at he
   cases he
  ·exact hQ h' s.toks fun c u hc e=>eb c u (fun z=>hc (by simp[z])) e
 self:=fun i s Q E st hQ=>pQ st.1 hQ
theorem zG {A':Around} {Q:Value→Shared→Prop} (hh:A'.handled=none) (hex:o.ExactSet) (hD:s.heap.get? D=some o) (hd:o.data= .set es ep t) (hf:t.fits es.size=true) (hl:t.led=!w.params.followText "set-order") (hr:h7 t.place) (hz:es.size≤4096)
  (h: ∀ (I:Addr) (h':Heap) d',FZ prog w A' es D I h' s.heap.objs.size→(∀ b u,s.heap.get? b=some u→h'.get? b=some u)→h'.get? I≠none→s.heap.objs.size≤I→Q (.ref I) {s with heap:=h',drawn:=d'}):
  wpAny (model prog w) A (pyIter (.ref D)) Q E s:=by
 have hT:s.TypeIs (.ref D) "set":=⟨o,hD,hex.1⟩
 have ltD:D < s.heap.objs.size:=L1 hD
 refine wpAny_pyIter_slot hT PySem.F.slot_set_iter (wpAny_call_entry PySem.F.slot_set_iter hT qw ?_ (PySem.F.args_set_iter_1 _))
 unfold Builtin.«frozenset.__iter__» Builtin.Frozenset.slot0 slotArgs
 show wpAny _ _ ((pure (Value.ref D,([]:List Value)) >>= _) >>= _) _ _ s
 refine LI (LI (LN ?_))
 unfold Builtin.Frozenset.addrOf Builtin.Frozenset.sizeOf
 refine LN ?_
 refine LI (LI (PySem.wpAny_setEntries_of hD hd hf (LN ?_)))
 have fin: ∀ (first:Value) (h1:Heap) (d1:Drawn),h1.get? D=some o→(∀ b u,s.heap.get? b=some u→h1.get? b=some u)→s.heap.objs.size≤h1.objs.size→FZ prog w A' es D h1.objs.size (h1.push (lB first 0 D es.size ep)) s.heap.objs.size→
   wpAny (model prog w) A.in1 (setEpoch D >>= fun e=>newFields "set_iterator" [first,rawInt 0,Value.ref D,rawInt es.size,rawInt e] >>= fun v=>ret v) (fun fin s'=> ∃ v,fin=Fin.done (Flow.ret v)∧∃ T' r,s'.TypeIs v T'∧typeLookup (Value.type T') (Str.ofString "__next__")=pure (some r)∧Q v s') E {s with heap:=h1,drawn:=d1}:=fun first h1 d1 g1 k1 z1 fd=>by
  refine LI ?_
  unfold setEpoch
  refine LI (PySem.wpAny_setState_of g1 hd hf (LN ?_))
  refine LI (wpAny_newObj_type (LN ⟨_,rfl,"set_iterator",_,⟨_,LY _ rfl,rfl⟩,bH.lookup,?_⟩))
  refine h _ _ d1 fd (fun b u e=>LL _ (k1 b u e)) ?_ z1
  rw[LY _ rfl]
  simp
 have new: ∀ (first:Value) (h1:Heap),(h1.push (lB first 0 D es.size ep)).get? h1.objs.size=some (lB first 0 D es.size ep):=fun _ _=>LY _ rfl
 refine LI ?_
 unfold setDrawn
 refine LI (PySem.wpAny_setState_of hD hd hf ?_)
 dsimp only
 refine LI (kR (LN ?_))
 show wpAny _ _ (if(!w.params.followText "set-order"&&(!t.plain&&decide (es.size > 1)))=true then _ else _) _ _ s
 cases hb:w.params.followText "set-order" with
 |true=>
  rw[MA (by simp)]
  refine LI (LN ?_)
  refine fin (rawInt 0) s.heap s.drawn hD (fun _ _ e=>e) (LQ _) ⟨(pickOrder (w.params.setOrder D ep) es).toList.map (·.2),[s.heap.objs.size,D],fun i h=>h.get? s.heap.objs.size=some (lB (.int (0:Nat) 0) i D es.size ep)∧h.get? D=some o,(rO _ _).map _,?_,⟨new _ _,LL _ hD⟩,fun c hc=>?_⟩
  ·rw[LK,Mn,nK]
   exact Io hh (Nat.ne_of_gt ltD) hb hd hf
  ·simp only[LU,LV,or_false] at hc
   rcases hc with rfl|rfl
   ·exact .inr (LQ _)
   ·exact .inl rfl
 |false=>
  rw[hb] at hl
  cases hcc:(!t.plain&&decide (es.size > 1)) with
  |true=>
   have c:es.size > 1:=by simp at hcc;exact hcc.2
   rw[Mz (by simp)]
   refine LI (sD es.size _ s _ (by simp) fun ps d' pp=>?_)
   have zp:ps.length=es.size:=by rw[pp.length_eq,List.length_range]
   refine LI (wpAny_newTuple ?_ (by rw[LK,zp,Mq];lia))
   have gT:(s.heap.push {cls:=.type "tuple",data:=.seq (ps.map fun (i:Nat)=>rawInt i).toArray}).get? s.heap.objs.size=some {cls:=.type "tuple",data:=.seq (ps.map fun (i:Nat)=>rawInt i).toArray}:=LY _ rfl
   have z1:(s.heap.push {cls:=.type "tuple",data:=.seq (ps.map fun (i:Nat)=>rawInt i).toArray}).objs.size=s.heap.objs.size+1:=Heap.size_push ..
   refine fin (.ref s.heap.objs.size) _ d' (LL _ hD) (fun _ _ e=>LL _ e) (by rw[z1];exact Nat.le_succ _) ⟨ps.map fun j=>(es[j]?.map (·.2)).getD .none,[s.heap.objs.size+1,D,s.heap.objs.size],fun i h=>h.get? (s.heap.objs.size+1)=some (lB (.ref s.heap.objs.size) i D es.size ep)∧h.get? D=some o∧h.get? s.heap.objs.size=some {cls:=.type "tuple",data:=.seq (ps.map fun (i:Nat)=>rawInt i).toArray},?_,?_,⟨by rw[←z1];exact new _ _,LL _ (LL _ hD),LL _ gT⟩,fun c hc=>?_⟩
   ·refine(pp.map _).trans (List.Perm.of_eq ?_)
    apply List.ext_getElem
    ·simp
    ·intro i h1 h2
     have hi:i < es.size:=by simpa using h1
     simp[hi]
   ·rw[LK]
    rw[z1]
    exact Iq hh (Nat.ne_of_gt (Nat.lt_succ_of_lt ltD)) (Nat.ne_of_gt (Nat.lt_succ_self _)) hd hf rfl fun j hj=>by simpa using pp.mem_iff.mp hj
   ·simp only[LU,LV,or_false] at hc
    rcases hc with rfl|rfl|rfl
    ·exact .inr (Nat.le_succ _)
    ·exact .inl rfl
    ·exact .inr (LQ _)
  |false=>
   rw[MA (by simp)]
   refine LI (LN ?_)
   refine fin (rawInt 0) s.heap s.drawn hD (fun _ _ e=>e) (LQ _) ⟨es.toList.map (·.2),[s.heap.objs.size,D],fun i h=>h.get? s.heap.objs.size=some (lB (.int (slotAt t.place i:Nat) 0) i D es.size ep)∧h.get? D=some o,.rfl,?_,⟨new _ _,LL _ hD⟩,fun c hc=>?_⟩
   ·rw[LK,Mn]
    exact AQ hh (Nat.ne_of_gt ltD) hb hd hf hl hcc hr
   ·simp only[LU,LV,or_false] at hc
    rcases hc with rfl|rfl
    ·exact .inr (LQ _)
    ·exact .inl rfl
end
section
variable {prog:Program} {w:World} {A:Around} {E:Value→Shared→Prop} {s:Shared} {D:Addr} {o:Obj} {es:Array (Int×Value)} {ep:Nat} {t:SetTable}
theorem sV {Q:List Value→Shared→Prop} (hh:A.handled=none) (hex:o.ExactSet) (hD:s.heap.get? D=some o) (hd:o.data= .set es ep t) (hf:t.fits es.size=true) (hl:t.led=!w.params.followText "set-order") (hr:h7 t.place) (hz:es.size≤4096)
  (h: ∀ (out:List Value) (s':Shared),out.Perm (es.toList.map (·.2))→(∀ b u,s.heap.get? b=some u→s'.heap.get? b=some u)→s'.gens=s.gens→s'.os=s.os→s.toks≤s'.toks→Q out s'):
  wpAny (model prog w) A (collect (.ref D)) Q E s:=by
 have ltD:D < s.heap.objs.size:=L1 hD
 unfold collect
 refine LI (wpAny_runValue (codeAny_builtin PySem.F.entry_proto_collect ?_))
 rw[Around.under_plainId PySem.F.plain_proto_collect _]
 show wpAny _ A.in1 (newList [] >>= fun l=>again (.builtin "list.__iadd__" ⟨[l,.ref D],[]⟩)) _ _ s
 refine LI (wpAny_newObj_type (LN ⟨plainId_quiet PySem.F.plain_list_iadd _,codeAny_builtin PySem.F.entry_list_iadd ?_⟩))
 rw[Around.under_plainId PySem.F.plain_list_iadd _]
 show wpAny _ A.in1 (Builtin.List.listExtendWith (.ref s.heap.objs.size) (.ref D) (.ref s.heap.objs.size)) _ _ _
 unfold Builtin.List.listExtendWith
 have g0:(s.heap.push {cls:=.type "list",data:=.seq ([]:List Value).toArray}).get? s.heap.objs.size=some {cls:=.type "list",data:=.seq ([]:List Value).toArray}:=LY _ rfl
 have gD:(s.heap.push {cls:=.type "list",data:=.seq ([]:List Value).toArray}).get? D=some o:=LL _ hD
 generalize hh1:s.heap.push {cls:=.type "list",data:=.seq ([]:List Value).toArray}=h1 at g0 gD
 have k1: ∀ b u,s.heap.get? b=some u→h1.get? b=some u:=fun b u e=>hh1▸LL _ e
 have z1:h1.objs.size=s.heap.objs.size+1:=by rw[←hh1];exact Heap.size_push ..
 have hT:Shared.TypeIs {s with heap:=h1} (.ref D) "set":=⟨o,gD,hex.1⟩
 refine LI (wpAny_typeOf hT ?_)
 have c1:Builtin.List.listSameRef (.ref s.heap.objs.size) (.ref D)=false:=by simp[Builtin.List.listSameRef,Nat.ne_of_gt ltD]
 have c2:(Value.type "set"==Value.type "list")=false:=by decide
 have c3:(Value.type "set"==Value.type "tuple")=false:=by decide
 simp only[c1,c2,c3,Bool.or_false,Mt,if_false]
 refine LI (zG (s:={s with heap:=h1}) (A':=A.in1) (by simp[hh]) hex gD hd hf hl hr hz fun I h2 d' fd k2 hI zI=>?_)
 refine LI (wpAny_holding ?_)
 have hT2:Shared.TypeIs {s with heap:=h2,drawn:=d'} (.ref D) "set":=⟨o,k2 _ _ gD,hex.1⟩
 unfold Builtin.List.listLengthHint
 refine LI (wpAny_specialOf hT2 pR ?_)
 have sp:splitId "set.__len__"=some ("set","__len__"):=by first|rfl|decide +kernel
 dsimp only
 simp only[sp]
 refine LI (wpAny_isInstance hT2 sub_set_self ?_)
 simp only[Bool.not_true,Mt,if_false]
 refine wpAny_ite ?_
 rw[Mz (by decide +kernel)]
 refine LI (wpAny_typeOf hT2 (LN ?_))
 refine wpAny_ite ?_
 rw[Mz (by decide +kernel)]
 refine LI (wpAny_rule ?_)
 have g2:h2.get? s.heap.objs.size=some {cls:=.type "list",data:=.seq ([]:List Value).toArray}:=k2 _ _ g0
 refine LI ?_
 show wpAny _ A.in1 (updateSeq s.heap.objs.size (·.push .none) >>= fun _=>updateSeq s.heap.objs.size (·.pop)) _ _ _
 refine LI (wpAny_updateSeq g2 rfl ?_)
 have g3:=Heap.get?_update_self (Obj.mapSeq (·.push Value.none)) g2 rfl
 refine wpAny_updateSeq g3 rfl ?_
 have g4:=Heap.get?_update_self (Obj.mapSeq (·.pop)) g3 rfl
 have HY: ∀ b u,b≠s.heap.objs.size→h2.get? b=some u→((h2.update s.heap.objs.size (Obj.mapSeq (·.push Value.none))).update s.heap.objs.size (Obj.mapSeq (·.pop))).get? b=some u:=fun b u hb e=>(Heap.get?_update_other _ _ (Ne.symm hb)).trans ((Heap.get?_update_other _ _ (Ne.symm hb)).trans e)
 obtain⟨out,fp,Sx,pm,W,st,lf⟩:=fd
 have nf:s.heap.objs.size∉fp:=fun hm=>by
  rcases lf _ hm with e|e
  ·exact absurd e (Nat.ne_of_gt ltD)
  ·have e':h1.objs.size≤s.heap.objs.size:=e
   rw[z1] at e'
   exact absurd e' (Nat.not_succ_le_self _)
 refine LN ⟨plainId_quiet PySem.F.plain_extend_loop _,codeAny_extend_loopS W.toS (by rw[pm.length_eq,LK,Mn,Mq];lia) _ nf _ out.length 0 _ _ _ rfl (Me _) (W.frame 0 h2 _ st fun b hb u e=>HY b u (fun z=>nf (z▸hb)) e) g4 (ItemsOf.nil _) fun s' acc c' mv gS ia=>?_⟩
 show wpAny _ A (load s.heap.objs.size >>= _) _ _ s'
 refine LI (wpAny_load gS (LN ?_))
 have ea:acc.toList=out:=by
  apply List.ext_getElem?
  intro i
  by_cases hi:i < acc.size
  ·have e:=ia.2 i acc[i] (by simp[hi])
   rw[Array.getElem?_toList,e]
   simp[hi]
  ·rw[List.getElem?_eq_none (by simpa using hi),List.getElem?_eq_none (by have:=ia.1;lia)]
 rw[ea]
 refine h out s' pm (fun b u e=>?_) mv.gens mv.os mv.toks
 refine mv.heap b u ?_ (HY b u (Mg (L1 e)) (k2 _ _ (k1 _ _ e)))
 simp only[LU,LV,or_false,not_or]
 have lb:b < s.heap.objs.size:=L1 e
 refine⟨Mg lb,Mg (L9 lb (L6 (Nat.le_succ _) (L6 (Nat.le_of_eq z1.symm) zI)))⟩
end
section
variable {φ:fA}
noncomputable def wY (x:Int):List Int→List Int
 |[]=>[x]
 |y::l=>if y < x then y::wY x l else x::y::l
noncomputable def kj:List Int→List Int
 |[]=>[]
 |x::l=>wY x (kj l)
theorem nH (x:Int): ∀ l:List Int,(wY x l).Perm (x::l)
 |[]=>.rfl
 |y::l=>by
  unfold wY
  split
  ·exact((nH x l).cons y).trans (.swap x y l)
  ·exact .rfl
theorem jr: ∀ l:List Int,(kj l).Perm l
 |[]=>.rfl
 |x::l=>(nH x _).trans ((jr l).cons x)
theorem yz (x:Int): ∀ l:List Int,l.Pairwise (·≤·)→(wY x l).Pairwise (·≤·)
 |[],_=>by simp[wY]
 |y::l,h=>by
  obtain⟨h1,h2⟩:=MC.mp h
  unfold wY
  by_cases c:y < x
  ·rw[Mz c]
   refine MC.mpr ⟨fun z hz=>?_,yz x l h2⟩
   rcases LU.mp ((nH x l).mem_iff.mp hz) with rfl|hz
   ·exact Int.le_of_lt c
   ·exact h1 z hz
  ·rw[MA c]
   refine MC.mpr ⟨fun z hz=>?_,h⟩
   rcases LU.mp hz with rfl|hz
   ·lia
   ·exact Int.le_trans (by lia) (h1 z hz)
theorem pN: ∀ l:List Int,(kj l).Pairwise (·≤·)
 |[]=>.nil
 |x::l=>yz x _ (pN l)
theorem rJ: ∀ (l m:List Int),l.Pairwise (·≤·)→m.Pairwise (·≤·)→l.Perm m→l=m
 |[],m,_,_,p=>(List.nil_perm.mp p).symm
 |a::l,[],_,_,p=>absurd p.length_eq (by simp)
 |a::l,b::m,h1,h2,p=>by
  have ea:a=b:=by
   rcases LU.mp (p.mem_iff.mp LJ) with e|ha
   ·exact e
   rcases LU.mp (p.mem_iff.mpr LJ) with e|hb
   ·exact e.symm
   exact Int.le_antisymm (List.rel_of_pairwise_cons h1 hb) (List.rel_of_pairwise_cons h2 ha)
  subst ea
  rw[rJ l m (MC.mp h1).2 (MC.mp h2).2 (List.perm_cons a |>.mp p)]
theorem Be {zs ys:List Int} (p:ys.Perm zs) (h:ys.Pairwise (·≤·)):ys=kj zs:=rJ _ _ h (pN zs) (p.trans (jr zs).symm)
noncomputable def intOf:Value→Int
 | .int i _=>i
 |_=>0
theorem intsAre_map: ∀ (vs:List Value),(∀ v,v∈vs→∃ x t,v= .int x t)→IntsAre vs (vs.map intOf)
 |[],_=>.nil
 |v::vs,h=>by
  obtain⟨x,t,rfl⟩:=h v (LJ ..)
  exact .cons x t (intsAre_map vs fun u hu=>h u (LM _ hu))
theorem oC: ∀ (l m:List Int),l.Nodup→(∀ x∈l,x∈m)→m.length≤l.length→m.Perm l
 |[],m,_,_,h=>by
  have:m=[]:=Mp (Nat.le_zero.mp h)
  rw[this]
 |x::l,m,nd,hs,h=>by
  have hx:=hs x LJ
  have p1:=List.perm_cons_erase hx
  rw[List.nodup_cons] at nd
  refine p1.trans ((oC l (m.erase x) nd.2 (fun y hy=>?_) ?_).cons x)
  ·refine(List.mem_erase_of_ne ?_).mpr (hs y (LM _ hy))
   rintro rfl
   exact nd.1 hy
  ·rw[List.length_erase_of_mem hx]
   simp only[LX] at h
   lia
section
variable {prog:Program} {w:World} {A:Around} {E:Value→Shared→Prop} {s:Shared} {D:Addr} {o:Obj} {es:Array (Int×Value)} {ep:Nat} {t:SetTable}
theorem uL {Q:Value→Shared→Prop} (hh:A.handled=none) (hex:o.ExactSet) (hD:s.heap.get? D=some o) (hd:o.data= .set es ep t) (hf:t.fits es.size=true) (hl:t.led=!w.params.followText "set-order") (hr:h7 t.place) (hz:es.size < 64) (hs: ∀ v∈es.toList.map (·.2),∃ x u,v= .int x u)
  (h: ∀ (out:Array Value) (n:Nat) (ss:List Int) (s1:Shared) (h':Heap),IntsAre out.toList ss→ss.Perm ((es.toList.map (·.2)).map intOf)→ss.Pairwise (·≤·)→(∀ b u,s.heap.get? b=some u→s1.heap.get? b=some u)→s1.gens=s.gens→s1.os=s.os→(∀ b u,s1.heap.get? b=some u→h'.get? b=some u)→h'.get? s1.heap.objs.size=some (seqObj "list" out n)→Q (.ref s1.heap.objs.size) {s1 with heap:=h'}):
  wpAny (model prog w) A (call (.builtin "sorted") [.ref D]) Q E s:=by
 refine Calls.call_function_entry kind_sorted plain_sorted entry_sorted (args_sorted1 _) ?_
 unfold Builtin.«sorted»
 refine LI (m:=checkCount "sorted" 1 1 _) (LN ?_)
 refine LI (sV (by simp[hh]) hex hD hd hf hl hr (by lia) fun vs s1 pm k1 e1 e2 e3=>?_)
 have zv:vs.length < 64:=by rw[pm.length_eq,LK,Mn];exact hz
 have hv: ∀ v,v∈vs→∃ x u,v= .int x u:=fun v hv=>hs v (pm.mem_iff.mp hv)
 have hS:=intsAre_map vs hv
 refine LI (wpAny_newList ?_ (by show vs.length≤_;rw[Mq];lia))
 have hoL:(s1.heap.push (seqObj "list" vs.toArray 0)).get? s1.heap.objs.size=some (seqObj "list" vs.toArray 0):=LY _ rfl
 refine LI (wpAny_holding (wpAny_call_entry slot_list_sort ⟨_,hoL,rfl⟩ entry_list_sort (list_sort_tree hoL hS zv fun out ns' a1 a2 a3=>⟨_,rfl,?_⟩) (args_list_sort _)))
 refine LN ⟨_,rfl,?_⟩
 have ne: ∀ b u,s1.heap.get? b=some u→b≠s1.heap.objs.size:=fun b u e=>Mg (L1 e)
 obtain⟨n,g⟩:=sortedHeap_at (out:=out) hoL
 refine h _ _ ns' s1 _ a1 (a2.trans (pm.map _)) a3 k1 e1 e2 (fun b u e=>?_) g
 rw[sortedHeap_old (ne b u e) (by rw[size_push'];exact Nat.lt_succ_of_lt (L1 e))]
 exact LL _ e
end
theorem qd {i:Int} {v:Value} (h:mI (.inl i) v=true): ∃ t,v= .int i t:=by
 rcases bP h with⟨j,t,e,rfl⟩|⟨x,t,e,_⟩
 ·cases e;exact⟨t,rfl⟩
 ·cases e
section
variable {X:Cx} {e:Expr}
def wW (P:Program) (w:World):List V→Hp→VK→Prop:=fun xs H Q=> ∃ (D:Addr) (is:List Int),xs=[.ref D]∧H D=some (gk P w D (fun k=>t4 (is.map Sum.inl) k) is.length)∧is.Nodup∧is.length < 64∧∀ (ys:List Int) (p:Addr),ys.Perm is→ys.Pairwise (·≤·)→H p=none→Q (.ref p) (upd H p (.lst (ys.map V.int)))
theorem xK (hc:X.calm=true):iy X (.builtin "sorted") (wW X.prog X.w):=by
 intro pins s σ H xs us Q I r h
 obtain⟨D,is,rfl,hD,nd,n1,q⟩:=h
 obtain⟨u,rfl,rx⟩:=vals1 r
 cases rx
 obtain⟨⟨hS,hL⟩,_⟩:=I.bE D _ hD
 obtain⟨o,es,ep,t,ho,hex,hd,hel,hmem,hb,hf,hn⟩:=hS
 obtain⟨o',es',ep',t',ho',hd',led,pl⟩:=hL
 rw[ho] at ho'
 cases ho'
 rw[hd] at hd'
 cases hd'
 have num: ∀ e∈es.toList,∃ x u,e.2= .int x u∧x∈is:=fun e he=>by
  obtain⟨⟨k,hk,_⟩,_⟩:=hel e he
  have:=(hmem k).mpr ⟨e,he,hk⟩
  obtain⟨z,hz,e'⟩:=List.any_eq_true.mp this
  obtain⟨i,hi,rfl⟩:=LW.mp hz
  have ek:Sum.inl i=k:=of_decide_eq_true e'
  subst ek
  obtain⟨u,hu⟩:=qd hk
  exact⟨i,u,hu,hi⟩
 have cover:((es.toList.map (·.2)).map intOf).Perm is:=by
  refine oC _ _ nd (fun x hx=>?_) (by simp[hn])
  obtain⟨e,he,hk⟩:=(hmem (.inl x)).mp (List.any_eq_true.mpr ⟨Sum.inl x,Mh hx,by simp⟩)
  obtain⟨u,hu⟩:=qd hk
  refine LW.mpr ⟨e.2,LW.mpr ⟨e,he,rfl⟩,?_⟩
  rw[hu]
  rfl
 refine uL (I.ok.hd hc) hex ho hd hf led pl (by lia) (fun v hv=>?_) fun out n ss s1 h' c1 c2 c3 k1 e1 e2 k2 g=>?_
 ·obtain⟨e,he,rfl⟩:=LW.mp hv
  obtain⟨x,u,h1,_⟩:=num e he
  exact⟨x,u,h1⟩
 ·obtain⟨hp1,g1,d1,t1,os1⟩:=s1
  simp only at e1 e2
  subst e1 e2
  have I1:Inv X pins σ H {s with heap:=hp1,drawn:=d1,toks:=t1}:=I.Js k1
  have I2:=I1.laid (t':=t1) (h':=h') (a:=hp1.objs.size) (o:=.lst (ss.map V.int)) k2 (LQ _) ⟨by rw[LK,(c2.trans cover).length_eq,Mq];lia,out.toList,n,?_,?_⟩
  ·exact⟨.ref hp1.objs.size,_,I2,rfl,q ss _ (c2.trans cover) c3 (I1.bE.fresh (LQ _))⟩
  ·exact kT c1
  ·simpa using g
noncomputable def qa:List Key→Option (List Int)
 |[]=>some []
 | .inl i::l=>(qa l).map (i:: ·)
 | .inr _::_=>none
theorem vA: ∀ {l:List Key} {is:List Int},qa l=some is→l=is.map Sum.inl
 |[],is,e=>by cases e;rfl
 | .inl i::l,is,e=>by
  obtain⟨js,h,rfl⟩:=Ma.mp e
  rw[vA h]
  rfl
 | .inr _::_,is,e=>by cases e
noncomputable def sortI (zs:List PV):M (List PV):=(M.cY (qa (dk zs))).bind fun is=>if is.length < 64 then .ret ((kj is).map PV.int) else .fail
theorem vT (zs:List PV):(dk zs).Nodup:=by
 have: ∀ (zs:List PV) (ks:List Key),ks.Nodup→(zs.foldl (fun ks z=>if t4 ks (keyOf z)=true then ks else ks++[keyOf z]) ks).Nodup:=fun zs=>by
  induction zs with
  |nil=>exact fun ks h=>h
  |cons z zs ih=>
   intro ks h
   refine ih _ ?_
   dsimp only
   by_cases c:t4 ks (keyOf z)=true
   ·rw[Mz c];exact h
   ·rw[MA c,List.nodup_append]
    refine⟨h,by simp,fun a ha b hb=>?_⟩
    rw[Mf] at hb
    subst hb
    rintro rfl
    exact c (List.any_eq_true.mpr ⟨_,ha,by simp⟩)
 exact this zs [] List.nodup_nil
theorem zJ {B:Addr} {O:Addr→Prop} {H:Hp} (ys:List Int):a9 B O H (ys.map PV.int) (ys.map V.int):=by
 refine⟨by simp,fun i y x hy hx=>?_⟩
 rw[L5] at hy hx
 obtain⟨z,hz,rfl⟩:=Ma.mp hy
 rw[hz] at hx
 cases hx
 exact .int z
theorem zD {zs:List PV} {n:Nat} {R:List PV→Nat→Prop} (w:(sortI zs).wp n R): ∃ is,qa (dk zs)=some is∧is.length < 64∧R ((kj is).map PV.int) n:=by
 unfold sortI at w
 cases e:qa (dk zs) with
 |none=>rw[e] at w;exact w.elim
 |some is=>
  rw[e] at w
  have w':(if is.length < 64 then M.ret ((kj is).map PV.int) else .fail).wp n R:=w
  split at w'
  ·rename_i h
   exact⟨is,rfl,h,w'⟩
  ·exact w'.elim
theorem IF {K:Frag} {P:Program} {wd:World} {js:List (Option Nat)} {mi:af→M (List PV)} {bd:PV→af→M af} {tt:af→M Bool} {te:af→M PV}: ∀ σ H Q,HW φ (fun ρ=>(Ca js mi bd tt te ρ).bind sortI) σ H Q→J4 P wd js (Gh φ K false mi) (HV φ bd) (A2 φ tt) (rC φ te) σ H (fun x H'=>wW P wd [x] H' Q):=fun σ H Q hq0=>by
 obtain⟨G,O,ρ,n,R,s,w,q⟩:=hq0
 rw[M.wp_bind] at w
 unfold Ca at w
 rw[M.wp_bind] at w
 refine⟨G,O,ρ,n,_,s,w,fun l J H1 n1 e1 ok1 it w1=>fun D hD=>?_⟩
 by_cases hl:l.length≤4000
 case neg=>rw[MA hl] at w1;exact w1.elim
 rw[Mz hl] at w1
 have s1:=s.ext e1 ok1
 have nD: ¬ O D:=fun z=>by obtain⟨o,g⟩:=s1.dm D z;rw[hD] at g;cases g
 have pD: ¬ G.dP D:=fun z=>nD (s.pr _ z)
 have hBD:D≠G.B:=fun z=>pD (z▸G.pB)
 have hne: ∀ p o,H1 p=some o→p≠D:=fun p o hp z=>by subst z;rw[hD] at hp;cases hp
 let O':Addr→Prop:=fun p=>O p∨p=D
 let G':Bg φ:=G.Im D hBD
 have k0: ∀ p o,¬ O p→H1 p=some o→upd H1 D (gk P wd D (fun _=>false) 0) p=some o∧¬ O' p:=fun p o np hp=>⟨by rw[ao (hne p o hp)];exact hp,fun z=>by
  rcases z with z|z
  ·exact np z
  ·exact hne p o hp z⟩
 have kD: ∀ (H5:Hp) (o:HO) p u,¬ O' p→H5 p=some u→upd H5 D o p=some u∧¬ O' p:=fun H5 o p u np hp=>⟨by rw[ao (fun z=>np (.inr z))];exact hp,np⟩
 refine⟨fun i m σ' H'=>m=l.length - i∧i≤l.length∧∃ (zs:List PV) (ρ':af) (n':Nat),zs.length≤i∧H' D=some (gk P wd D (fun k=>t4 (dk zs) k) (dk zs).length)∧ES G' O' H' σ' ρ' n'∧Ext G.B H1 H'∧ir K G' O' false H' l J∧
  (vv bd tt (fun ρ=>(te ρ).bind EI) (l.drop i) ρ').wp n' (fun t k=>(sortI (zs++t)).wp k R),⟨l.length,by simp,Me _,[],gp js ρ,n1,LQ _,az,?_,Ext.new hD _,?_,?_⟩,?_⟩
 ·have er:=v7 s1.er js
  refine⟨⟨er.1,fun i e he=>?_⟩,⟨Bg.new ok1 hD _,_,az⟩,fun p z=>?_,fun p z=>?_⟩
  ·have r1:=er.2 i e he
   cases e with
   |un=>trivial
   |val y=>obtain⟨x,hx,rr⟩:=r1;exact⟨x,hx,rr.keep k0⟩
   |own t=>
    obtain⟨p,xs,hx,hp,np,hh,rr⟩:=r1
    exact⟨p,xs,hx,.inl hp,fun z=>by
     rcases z with z|z
     ·exact np z
     ·exact hne p _ hh z,by rw[ao (hne p _ hh)];exact hh,rr.keep k0⟩
   |bT t=>
    obtain⟨p,xs,hx,hp,np,hh,rr⟩:=r1
    exact⟨p,xs,hx,.inl hp,fun z=>by
     rcases z with z|z
     ·exact np z
     ·exact hne p _ hh z,by rw[ao (hne p _ hh)];exact hh,rr.keep k0⟩
  ·rcases z with z|z
   ·exact .inl (s.pr p z)
   ·exact .inr z
  ·rcases z with z|z
   ·obtain⟨o,g⟩:=s1.dm p z;exact⟨o,by rw[ao (hne p o g)];exact g⟩
   ·subst z;exact⟨_,az⟩
 ·cases it with
  |lst np hp h r=>
   exact .lst (fun z=>by
    rcases z with z|z
    ·exact np z
    ·exact hne _ _ h z) (fun z=>by cases z) (by rw[ao (hne _ _ h)];exact h) (r.keep k0)
  |tup hp h r=>exact .tup (k0 _ _ hp h).2 (k0 _ _ hp h).1 (r.keep k0)
  |txt z=>exact .txt z
  |wO lo n=>exact .wO lo n
 ·simpa using w1
 ·rintro i m σ' H' ⟨rfl,hi,zs,ρ',n',hy,hDy,s',ex,it',w'⟩
  by_cases hlt:i < l.length
  ·have hget:l[i]?=some l[i]:=LH hlt
   have hdrop:l.drop i=l[i]::l.drop (i+1):=List.drop_eq_getElem_cons hlt
   rw[hdrop] at w'
   unfold vv at w'
   obtain⟨g1,g2⟩:=it'.go hget
   refine .inr ⟨g1,fun x H2 yl=>?_⟩
   obtain⟨eH,rx⟩:=g2 x H2 yl
   subst eH
   rw[M.wp_bind] at w'
   refine⟨G',O',ρ',n',_,l[i],s',rx,w',fun σ2 ρ2 n2 s2 w2=>?_⟩
   rw[M.wp_bind] at w2
   refine⟨G',O',ρ2,n2,_,s2,w2,fun ok H4 n4 e4 ok4 w4=>?_⟩
   have D4:H4 D=some (gk P wd D (fun k=>t4 (dk zs) k) (dk zs).length):=e4 D _ hBD hDy
   have it4:ir K G' O' false H4 l J:=it'.gH (fun p o np hp=>⟨e4 p o (fun z=>np (.inl (z▸s.B))) hp,np⟩) (.inr fun p xs np hp=>e4 p _ (fun z=>np (z▸G'.pB)) hp) fun p z=>by cases z
   cases ok with
   |true=>
    simp only[if_true] at w4 ⊢
    rw[M.bind_assoc,M.wp_bind] at w4
    refine⟨G',O',ρ2,n4,_,s2.ext e4 ok4,w4,fun z x5 H5 n5 e5 ok5 r5 w5=>?_⟩
    have D5:H5 D=some (gk P wd D (fun k=>t4 (dk zs) k) (dk zs).length):=e5 D _ hBD D4
    obtain⟨ek,w5⟩:=EH r5 w5
    rw[M.wp_bind] at w5
    have s5:=s2.ext (e4.trans e5) ok5
    have it5:ir K G' O' false H5 l J:=it4.gH (fun p o np hp=>⟨e5 p o (fun z=>np (.inl (z▸s.B))) hp,np⟩) (.inr fun p xs np hp=>e5 p _ (fun z=>np (z▸G'.pB)) hp) fun p z=>by cases z
    have hdl:=Hv zs
    refine⟨keyOf z,_,_,ek,D5,by show _ < 4096;lia,l.length - (i+1),by lia,rfl,hlt,zs++[z],ρ2,n5,by simp;lia,by rw[az,La,K9],?_,?_,?_,?_⟩
    ·refine⟨⟨s5.er.1,fun j e he=>?_⟩,⟨G.keep H5 _ _ (fun p o hp hpo=>by
      have hpd:p≠D:=fun z=>by
       rcases hp with hp|hp
       ·exact pD (z▸hp)
       ·rw[z,D5] at hpo;cases hpo;exact hp
      rw[ao hpd];exact hpo) ok5.1,_,az⟩,s5.pr,fun p hp=>?_⟩
     ·have r1:=s5.er.2 j e he
      cases e with
      |un=>trivial
      |val y=>obtain⟨x,hx,rr⟩:=r1;exact⟨x,hx,rr.keep (kD H5 _)⟩
      |own t=>
       obtain⟨p,xs,hx,hp,np,hh,rr⟩:=r1
       exact⟨p,xs,hx,hp,np,by rw[ao (fun z=>np (.inr z))];exact hh,rr.keep (kD H5 _)⟩
      |bT t=>
       obtain⟨p,xs,hx,hp,np,hh,rr⟩:=r1
       exact⟨p,xs,hx,hp,np,by rw[ao (fun z=>np (.inr z))];exact hh,rr.keep (kD H5 _)⟩
     ·by_cases hpd:p=D
      ·subst hpd;exact⟨_,az⟩
      ·obtain⟨o,g⟩:=s5.dm p hp;exact⟨o,by rw[ao hpd];exact g⟩
    ·intro p o np hp
     exact((ex.trans (e4.trans e5)) p o np hp).to fun u e=>.of (by rw[ao (hne p o hp)];exact e)
    ·exact it5.keep (kD H5 _) (.inr fun p xs np hp=>by rw[ao (fun z=>np (.inr z))];exact hp) fun p z=>by cases z
    ·refine M.wp_mono w5 fun t k' hk=>?_
     have hk':(sortI (zs++z::t)).wp k' R:=hk
     simpa using hk'
   |false=>
    exact⟨l.length - (i+1),by lia,rfl,hlt,zs,ρ2,n4,by lia,D4,s2.ext e4 ok4,ex.trans e4,it4,w4⟩
  ·have e:i=l.length:=by lia
   subst e
   refine .inl ⟨it'.stop,?_⟩
   rw[List.drop_length] at w'
   have w2:(sortI (zs++[])).wp n' R:=w'
   rw[List.append_nil] at w2
   obtain⟨is,hk,h64,hR⟩:=zD w2
   have hk':=vA hk
   have nd:=vT zs
   rw[hk'] at hDy nd
   rw[LK] at hDy
   refine⟨D,is,rfl,hDy,?_,h64,fun ys p pm hs hp=>?_⟩
   ·exact List.Pairwise.of_map Sum.inl (fun a b h z=>h (by rw[z])) nd
   ·rw[Be pm hs]
    have e3:Ext G.B H' (upd H' p (.lst ((kj is).map V.int))):=Ext.new hp _
    have nb:H p=none:=jz (e1.trans ex) s'.ok.1 hp
    exact q _ p _ _ n' ((e1.trans ex).trans e3) (Bg.new s'.ok.1 hp _) nb az (zJ _) hR
theorem JH {pos:Pos} {elt target iter:Expr} {ifs:List Expr} {scope:Scope} {N:List Str} {js:List (Option Nat)} {wi:TI} {g:TG} {tt:TT} {te:TE} (L:aS X scope N js) (hc:X.calm=true) (hi:BI X target iter wi)
  (hg: ∀ s₀ H₀ ex pn,BG (jb X scope N s₀ H₀ ex pn) target g) (ht: ∀ s₀ H₀ ex pn,Ga (jb X scope N s₀ H₀ ex pn) ifs tt) (he: ∀ s₀ H₀ ex pn,BE (jb X scope N s₀ H₀ ex pn) elt te)
  (hs: ∀ x,foldedSetIterable iter X.env x=pure x:=by intro _;rfl):BE X (.SetComp elt [⟨target,iter,ifs,0⟩] scope pos) (J4 X.prog X.w js wi g tt te):=⟨Jb L hc hi.out (fun a b c d=>(hg a b c d).out) (fun a b c d=>(ht a b c d).out) (fun a b c d=>(he a b c d).out) hs⟩
theorem As {js:List (Option Nat)} {mi:af→M (List PV)} {bd:PV→af→M af} {tt:af→M Bool} {te:af→M PV} (h:BE X e (HX (wW X.prog X.w) (mm (J4 X.prog X.w js (Gh φ X.K false mi) (HV φ bd) (A2 φ tt) (rC φ te)) wJ))):EF φ X e (fun ρ=>(Ca js mi bd tt te ρ).bind sortI):=BE.mono h fun σ H Q hq=>IF σ H Q hq
end
end
section
variable {φ:fA}
theorem AW:typeOf (.builtin "list.extend")=pure (.type "method_descriptor"):=by show builtinType _=_;rw[builtinType_eq_fast];kernel_rfl
section
variable {X:Cx} {st:Stmt}
noncomputable def Jq:PV→M (List PV)
 | .lst l=>.ret l
 |_=>.fail
noncomputable def Ar (k:Nat) (m:af→M PV):af→M Fl:=fun ρ=>match ρ[k]? with|some (.own l)=>(m ρ).bind fun y=>(Jq y).bind fun zs=>if l.length+zs.length≤100000 then .ret (.nx (ρ.set k (.own (l++zs)))) else .fail|_=>.fail
theorem Gq {k:Nat} {m:af→M PV} (h:BS X st (yb (IA X.K "list" yw (oW k) (mm (rC φ m) wJ)))):SV φ X st (Ar k m):=BS.mono h fun D σ H hq=>by
 obtain⟨G,O0,H0,O,ρ,n,s,w⟩:=hq
 unfold Ar at w
 cases hk:ρ[k]? with
 |none=>simp only[hk] at w;exact w.elim
 |some t=>
  cases t with
  |own l=>
   simp only[hk] at w
   obtain⟨p,xs,hx,hO,np,hh,rr⟩:=s.es.er.2 k _ hk
   have hs:=fB s.es.er hk hx
   have npB:p≠G.B:=fun z=>np (z▸G.pB)
   rw[M.wp_bind] at w
   refine⟨_,hs,.inl ⟨rfl,xs,cQ.of hh⟩,G,O,ρ,n,_,s.es,w,fun y x H1 n1 e1 ok1 r1 w1=>?_⟩
   have hy: ∃ zs,y= .lst zs∧(if l.length+zs.length≤100000 then(M.ret (Fl.nx (ρ.set k (.own (l++zs))))) else M.fail).wp n1 fun f n'=>o4 G O0 H0 D n' f:=by
    cases y<;>first|exact⟨_,rfl,w1⟩|exact w1.elim
   obtain⟨zs,rfl,w2⟩:=hy
   obtain⟨b,ys,rfl,hb,e⟩:=(cz.full (G:=G) r1).gG
   by_cases hc:l.length+zs.length≤100000
   ·rw[Mz hc] at w2
    have s1:=s.to e1 ok1
    have big:=fX
    have e':=e.1
    refine⟨p,b,xs,ys,rfl,rfl,e1 p _ npB hh,hb,by rw[←rr.1,←e.1];lia,w2 O _ _ (s1.put hk hs ((rr.ext s.es.B e1).append e))⟩
   ·rw[MA hc] at w2;exact w2.elim
  |_=>simp only[hk] at w;exact w.elim
end
theorem vn {X:Cx} (i:Nat) {x:Str} {pos:Pos} (hN:X.N[i]?=some x:=by rfl) (hv:Ii X.env.scope x:=by first|exact Or.inl rfl|exact Or.inr (Or.inl rfl)|exact Or.inr (Or.inr rfl)) (hd:(x==("__debug__":Str))=false:=by decide) (hcd:(x==("__classdict__":Str))=false:=by decide):EV φ X (.Name x pos) (fun ρ=>av ρ i):=ET i (bv i hN hv hd hcd)
theorem vb {X:Cx} (i:Nat) {x:Str} {pos:Pos} (hN:X.N[i]?=some x:=by rfl) (hv:Ii X.env.scope x:=by first|exact Or.inl rfl|exact Or.inr (Or.inl rfl)|exact Or.inr (Or.inr rfl)) (hd:(x==("__debug__":Str))=false:=by decide) (hcd:(x==("__classdict__":Str))=false:=by decide):EB φ X (.Name x pos) (fun ρ=>av ρ i):=EV.b (vn i hN hv hd hcd)
theorem ib {X:Cx} {i:Int} {j:Nat} {pos:Pos}:EB φ X (.Constant (.int i) j pos) (fun _=>.ret (.int i)):=EV.b aV
theorem xi {X:Cx} {a b:Expr} {pos:Pos} {ma mb:af→M PV} (ha:EB φ X a ma) (hb:EB φ X b mb) (hs:ur b:=by exact fun _ _=>rfl):EV φ X (.Subscript a b pos) (ab aE ma mb):=Jw Hh Jg ha hb hs
section
variable {X:Cx}
theorem a1 {e0:Expr} {m0:af→M PV} (h0:EV φ X e0 m0) (s0:isStar e0=false:=by rfl):AV φ X [e0] (aa m0 (fun _=>.ret [])):=ah h0 (aA) s0
theorem a2 {e0:Expr} {e1:Expr} {m0:af→M PV} {m1:af→M PV} (h0:EV φ X e0 m0) (h1:EV φ X e1 m1) (s0:isStar e0=false:=by rfl) (s1:isStar e1=false:=by rfl):AV φ X [e0,e1] (aa m0 (aa m1 (fun _=>.ret []))):=ah h0 (ah h1 (aA) s1) s0
theorem a3 {e0:Expr} {e1:Expr} {e2:Expr} {m0:af→M PV} {m1:af→M PV} {m2:af→M PV} (h0:EV φ X e0 m0) (h1:EV φ X e1 m1) (h2:EV φ X e2 m2) (s0:isStar e0=false:=by rfl) (s1:isStar e1=false:=by rfl) (s2:isStar e2=false:=by rfl):AV φ X [e0,e1,e2] (aa m0 (aa m1 (aa m2 (fun _=>.ret [])))):=ah h0 (ah h1 (ah h2 (aA) s2) s1) s0
theorem a4 {e0:Expr} {e1:Expr} {e2:Expr} {e3:Expr} {m0:af→M PV} {m1:af→M PV} {m2:af→M PV} {m3:af→M PV} (h0:EV φ X e0 m0) (h1:EV φ X e1 m1) (h2:EV φ X e2 m2) (h3:EV φ X e3 m3) (s0:isStar e0=false:=by rfl) (s1:isStar e1=false:=by rfl) (s2:isStar e2=false:=by rfl) (s3:isStar e3=false:=by rfl):AV φ X [e0,e1,e2,e3] (aa m0 (aa m1 (aa m2 (aa m3 (fun _=>.ret []))))):=ah h0 (ah h1 (ah h2 (ah h3 (aA) s3) s2) s1) s0
theorem a5 {e0:Expr} {e1:Expr} {e2:Expr} {e3:Expr} {e4:Expr} {m0:af→M PV} {m1:af→M PV} {m2:af→M PV} {m3:af→M PV} {m4:af→M PV} (h0:EV φ X e0 m0) (h1:EV φ X e1 m1) (h2:EV φ X e2 m2) (h3:EV φ X e3 m3) (h4:EV φ X e4 m4) (s0:isStar e0=false:=by rfl) (s1:isStar e1=false:=by rfl) (s2:isStar e2=false:=by rfl) (s3:isStar e3=false:=by rfl) (s4:isStar e4=false:=by rfl):AV φ X [e0,e1,e2,e3,e4] (aa m0 (aa m1 (aa m2 (aa m3 (aa m4 (fun _=>.ret [])))))):=ah h0 (ah h1 (ah h2 (ah h3 (ah h4 (aA) s4) s3) s2) s1) s0
theorem a6 {e0:Expr} {e1:Expr} {e2:Expr} {e3:Expr} {e4:Expr} {e5:Expr} {m0:af→M PV} {m1:af→M PV} {m2:af→M PV} {m3:af→M PV} {m4:af→M PV} {m5:af→M PV} (h0:EV φ X e0 m0) (h1:EV φ X e1 m1) (h2:EV φ X e2 m2) (h3:EV φ X e3 m3) (h4:EV φ X e4 m4) (h5:EV φ X e5 m5) (s0:isStar e0=false:=by rfl) (s1:isStar e1=false:=by rfl) (s2:isStar e2=false:=by rfl) (s3:isStar e3=false:=by rfl) (s4:isStar e4=false:=by rfl) (s5:isStar e5=false:=by rfl):AV φ X [e0,e1,e2,e3,e4,e5] (aa m0 (aa m1 (aa m2 (aa m3 (aa m4 (aa m5 (fun _=>.ret []))))))):=ah h0 (ah h1 (ah h2 (ah h3 (ah h4 (ah h5 (aA) s5) s4) s3) s2) s1) s0
end
noncomputable abbrev gv (i:Nat):af→M PV:=fun ρ=>av ρ i
noncomputable abbrev gb (i:Nat):af→M PV:=fun ρ=>fW ρ i
noncomputable abbrev cI (i:Int):af→M PV:=fun _=>M.ret (.int i)
noncomputable abbrev cS (x:Str):af→M PV:=fun _=>M.ret (.str x)
noncomputable abbrev aN:af→M (List PV):=fun _=>M.ret []
end
end L2
namespace K13
open L2
open L2.Ent (val un)
noncomputable def top (i:Nat):Stmt:=PySem.Challenge.pw_homeslopes_k13_spans_moment_by_moment.main.body.getD i (.Pass ⟨0,0,0,0⟩)
noncomputable abbrev du:Stmt:=top 1
theorem gM:aI ["book","kind","name","t","found","page"] ["book","kind","name","t"] (ae du):=⟨rfl,rfl,rfl,by decide +kernel,rfl,by decide +kernel,by decide +kernel⟩
noncomputable abbrev fj:Stmt:=top 2
theorem pS:aI ["book","post","t","page"] ["book","post","t"] (ae fj):=⟨rfl,rfl,rfl,by decide +kernel,rfl,by decide +kernel,by decide +kernel⟩
noncomputable abbrev d5:Stmt:=top 3
theorem oz:aI ["book","w","t","page"] ["book","w","t"] (ae d5):=⟨rfl,rfl,rfl,by decide +kernel,rfl,by decide +kernel,by decide +kernel⟩
noncomputable abbrev df:Stmt:=top 4
theorem mw:aI ["book","w","t","page"] ["book","w","t"] (ae df):=⟨rfl,rfl,rfl,by decide +kernel,rfl,by decide +kernel,by decide +kernel⟩
noncomputable abbrev cG:Stmt:=top 6
theorem eW:aI ["book","rule","t","word","post","n","value"] ["book","rule","t"] (ae cG):=⟨rfl,rfl,rfl,by decide +kernel,rfl,by decide +kernel,by decide +kernel⟩
noncomputable abbrev cJ:Stmt:=top 7
theorem lG:aI ["book","way","n","t","m"] ["book","way","n","t"] (ae cJ):=⟨rfl,rfl,rfl,by decide +kernel,rfl,by decide +kernel,by decide +kernel⟩
noncomputable abbrev cg:Stmt:=top 8
theorem kq:aI ["book","way","rule","t","word"] ["book","way","rule","t"] (ae cg):=⟨rfl,rfl,rfl,by decide +kernel,rfl,by decide +kernel,by decide +kernel⟩
noncomputable abbrev bu:Stmt:=top 9
theorem jZ:aI ["book","way","t","rules"] ["book","way","t"] (ae bu):=⟨rfl,rfl,rfl,by decide +kernel,rfl,by decide +kernel,by decide +kernel⟩
noncomputable abbrev bX:Stmt:=top 10
theorem eX:aI ["asked","found","before","name"] ["asked"] (ae bX):=⟨rfl,rfl,rfl,by decide +kernel,rfl,by decide +kernel,by decide +kernel⟩
noncomputable abbrev cH:Stmt:=top 11
theorem fC:aI ["hill","book","t","asked","way","others","found"] ["hill","book","t"] (ae cH):=⟨rfl,rfl,rfl,by decide +kernel,rfl,by decide +kernel,by decide +kernel⟩
noncomputable abbrev bW:Stmt:=top 13
theorem qQ:aI ["book","w","rule"] ["book","w","rule"] (ae bW):=⟨rfl,rfl,rfl,by decide +kernel,rfl,by decide +kernel,by decide +kernel⟩
noncomputable abbrev gN:Stmt:=top 14
theorem mr:aI ["hill","book","found","page","rule"] ["hill","book"] (ae gN):=⟨rfl,rfl,rfl,by decide +kernel,rfl,by decide +kernel,by decide +kernel⟩
noncomputable abbrev cF:Stmt:=top 15
theorem sY:aI ["hill","book"] ["hill","book"] (ae cF):=⟨rfl,rfl,rfl,by decide +kernel,rfl,by decide +kernel,by decide +kernel⟩
noncomputable abbrev bO:Stmt:=top 16
theorem bS:aI ["parts","w","dark","found","begun","m","names"] ["parts","w","dark"] (ae bO):=⟨rfl,rfl,rfl,by decide +kernel,rfl,by decide +kernel,by decide +kernel⟩
noncomputable abbrev iD:Stmt:=top 17
theorem Bk:aI ["hill","book","w"] ["hill","book","w"] (ae iD):=⟨rfl,rfl,rfl,by decide +kernel,rfl,by decide +kernel,by decide +kernel⟩
noncomputable abbrev di:Stmt:=top 19
theorem cE:aI ["_law_script","_law_digits","_law_cell","_law_seed","_law_k"] ["_law_script"] (ae di):=⟨rfl,rfl,rfl,by decide +kernel,rfl,by decide +kernel,by decide +kernel⟩
noncomputable abbrev fU:Stmt:=top 20
theorem iC:aI ["_law_state","_law_many","_law_found","_law_far"] ["_law_state","_law_many"] (ae fU):=⟨rfl,rfl,rfl,by decide +kernel,rfl,by decide +kernel,by decide +kernel⟩
noncomputable abbrev cA:Stmt:=top 21
theorem iA:aI ["_law_state","_law_taken","_law_letters","_law_size","_law_word_here"] ["_law_state","_law_taken"] (ae cA):=⟨rfl,rfl,rfl,by decide +kernel,rfl,by decide +kernel,by decide +kernel⟩
noncomputable abbrev dh:Stmt:=top 22
theorem jt:aI ["_law_state","_law_many","_law_found","_law_k"] ["_law_state","_law_many"] (ae dh):=⟨rfl,rfl,rfl,by decide +kernel,rfl,by decide +kernel,by decide +kernel⟩
noncomputable abbrev dA:Stmt:=top 23
theorem dY:aI ["_law_state","_law_most","_law_scale","_law_spots","_law_names","_law_ways","_law_name","_law_kind","_law_ends"] ["_law_state","_law_most","_law_scale"] (ae dA):=⟨rfl,rfl,rfl,by decide +kernel,rfl,by decide +kernel,by decide +kernel⟩
noncomputable abbrev cL:Stmt:=top 24
theorem qR:aI ["_law_state","_law_hill_here","_law_scale"] ["_law_state","_law_hill_here","_law_scale"] (ae cL):=⟨rfl,rfl,rfl,by decide +kernel,rfl,by decide +kernel,by decide +kernel⟩
noncomputable abbrev d7:Stmt:=top 25
theorem fi:aI ["_law_state","_law_hill_here","_law_posts","_law_scale","_law_way","_law_post","_law_value","_law_first","_law_last","_law_other"] ["_law_state","_law_hill_here","_law_posts","_law_scale"] (ae d7):=⟨rfl,rfl,rfl,by decide +kernel,rfl,by decide +kernel,by decide +kernel⟩
noncomputable abbrev bM:Stmt:=top 26
theorem i7:aI ["_law_state","_law_taken","_law_number_here","_law_some"] ["_law_state","_law_taken"] (ae bM):=⟨rfl,rfl,rfl,by decide +kernel,rfl,by decide +kernel,by decide +kernel⟩
noncomputable abbrev cf:Stmt:=top 27
theorem bA:aI ["_law_state","_law_hill_here","_law_scale","_law_many","_law_posts","_law_slopes","_law_pages_here","_law_taken","_law_k","_law_kind","_law_moment_here","_law_name","_law_size","_law_rules_here","_law_value"] ["_law_state","_law_hill_here","_law_scale","_law_many"] (ae cf):=⟨rfl,rfl,rfl,by decide +kernel,rfl,by decide +kernel,by decide +kernel⟩
noncomputable abbrev dB:Stmt:=top 28
theorem uM:aI ["_law_pages_here"] ["_law_pages_here"] (ae dB):=⟨rfl,rfl,rfl,by decide +kernel,rfl,by decide +kernel,by decide +kernel⟩
noncomputable abbrev cN:Stmt:=top 29
theorem oA:aI ["_law_pages_here","_law_kind","_law_name","_law_t","_law_found"] ["_law_pages_here","_law_kind","_law_name","_law_t"] (ae cN):=⟨rfl,rfl,rfl,by decide +kernel,rfl,by decide +kernel,by decide +kernel⟩
noncomputable abbrev dq:Stmt:=top 30
theorem ju:aI ["_law_pages_here","_law_name","_law_rule_here","_law_t","_law_opened","_law_look","_law_told"] ["_law_pages_here","_law_name","_law_rule_here","_law_t","_law_opened"] (ae dq):=⟨rfl,rfl,rfl,by decide +kernel,rfl,by decide +kernel,by decide +kernel⟩
noncomputable abbrev dn:Stmt:=top 31
theorem mx:aI ["_law_pages_here","_law_name","_law_t","_law_told"] ["_law_pages_here","_law_name","_law_t"] (ae dn):=⟨rfl,rfl,rfl,by decide +kernel,rfl,by decide +kernel,by decide +kernel⟩
noncomputable abbrev cO:Stmt:=top 32
theorem de:aI ["_law_hill_here","_law_pages_here","_law_t","_law_rules_here","_law_before","_law_opened","_law_name","_law_some"] ["_law_hill_here","_law_pages_here","_law_t"] (ae cO):=⟨rfl,rfl,rfl,by decide +kernel,rfl,by decide +kernel,by decide +kernel⟩
noncomputable abbrev d6:Stmt:=top 33
theorem iB:aI ["_law_table","_law_w","_law_runs_here","_law_t","_law_opened"] ["_law_table","_law_w"] (ae d6):=⟨rfl,rfl,rfl,by decide +kernel,rfl,by decide +kernel,by decide +kernel⟩
noncomputable abbrev cK:Stmt:=top 34
theorem gL:aI ["_law_hill_here","_law_pages_here","_law_book_here","_law_table","_law_way"] ["_law_hill_here","_law_pages_here"] (ae cK):=⟨rfl,rfl,rfl,by decide +kernel,rfl,by decide +kernel,by decide +kernel⟩
noncomputable abbrev kr:Stmt:=top 35
theorem km:aI ["_law_script","_law_state","_law_ways","_law_home","_law_dark","_law_hill_here","_law_pages_here","_law_first"] ["_law_script"] (ae kr):=⟨rfl,rfl,rfl,by decide +kernel,rfl,by decide +kernel,by decide +kernel⟩
structure eZ (K:Frag) (mg:Str→Option Value) (x:Str) (st:Stmt) (a:Addr) (d:FuncData) (ps:List Str):Prop where
 F:Fj K x x st a d
 m:mg x=some (.ref a)
 b:Binds K d ps []
set_option genInjectivity false in
structure Km where
 (fv h9 fZ fu eM eN dO cX eO ft eL lx fq cW ly iV lT n8 lj oh jj oe ji lr lV lU lu ll og n9 lq sN dw au dv ar:Addr)
set_option genInjectivity false in
structure Kj where
 (oP sF qz oO mU mV lK kL mW oN mT y6 oM kK y8 ud xC CU yT CZ vQ CW vP yW xE xD yX yU CY CV yV FT:FuncData)
set_option genInjectivity false in
structure Txt (K:Frag) (mg:Str→Option Value) (aZ:Km) (dZ:Kj):Prop where
 cu:eZ K mg "last_page" du aZ.fv dZ.oP ["book","kind","name","t"]
 lh:eZ K mg "reading" fj aZ.h9 dZ.sF ["book","post","t"]
 jQ:eZ K mg "rules_at" d5 aZ.fZ dZ.qz ["book","w","t"]
 iQ:eZ K mg "looked_at" df aZ.fu dZ.oO ["book","w","t"]
 hE:eZ K mg "post_holds" cG aZ.eM dZ.mU ["book","rule","t"]
 hM:eZ K mg "look_holds" cJ aZ.eN dZ.mV ["book","way","n","t"]
 gf:eZ K mg "holds_alone" cg aZ.dO dZ.lK ["book","way","rule","t"]
 fJ:eZ K mg "others_asked" bu aZ.cX dZ.kL ["book","way","t"]
 hZ:eZ K mg "found_open" bX aZ.eO dZ.mW ["asked"]
 iP:eZ K mg "open_ways" cH aZ.ft dZ.oN ["hill","book","t"]
 g9:eZ K mg "rule_turns" bW aZ.eL dZ.mT ["book","w","rule"]
 pG:eZ K mg "turns" gN aZ.lx dZ.y6 ["hill","book"]
 iO:eZ K mg "stretches" cF aZ.fq dZ.oM ["hill","book"]
 fI:eZ K mg "spans_within" bO aZ.cW dZ.kK ["parts","w","dark"]
 f9:eZ K mg "spans" iD aZ.ly dZ.y8 ["hill","book","w"]
 iR:eZ K mg "_law_start" di aZ.iV dZ.ud ["_law_script"]
 ag:eZ K mg "_law_pick" fU aZ.lT dZ.xC ["_law_state","_law_many"]
 jR:eZ K mg "_law_word" cA aZ.n8 dZ.CU ["_law_state","_law_taken"]
 cq:eZ K mg "_law_words" dh aZ.lj dZ.yT ["_law_state","_law_many"]
 jV:eZ K mg "_law_hill" dA aZ.oh dZ.CZ ["_law_state","_law_most","_law_scale"]
 hW:eZ K mg "_law_moment" cL aZ.jj dZ.vQ ["_law_state","_law_hill_here","_law_scale"]
 jT:eZ K mg "_law_rule" d7 aZ.oe dZ.CW ["_law_state","_law_hill_here","_law_posts","_law_scale"]
 hV:eZ K mg "_law_number" bM aZ.ji dZ.vP ["_law_state","_law_taken"]
 iT:eZ K mg "_law_pages" cf aZ.lr dZ.yW ["_law_state","_law_hill_here","_law_scale","_law_many"]
 dF:eZ K mg "_law_book" dB aZ.lV dZ.xE ["_law_pages_here"]
 dE:eZ K mg "_law_page" cN aZ.lU dZ.xD ["_law_pages_here","_law_kind","_law_name","_law_t"]
 iU:eZ K mg "_law_holds" dq aZ.lu dZ.yX ["_law_pages_here","_law_name","_law_rule_here","_law_t","_law_opened"]
 iS:eZ K mg "_law_rules" dn aZ.ll dZ.yU ["_law_pages_here","_law_name","_law_t"]
 jU:eZ K mg "_law_open" cO aZ.og dZ.CY ["_law_hill_here","_law_pages_here","_law_t"]
 jS:eZ K mg "_law_runs" d6 aZ.n9 dZ.CV ["_law_table","_law_w"]
 eo:eZ K mg "_law_right" cK aZ.lq dZ.yV ["_law_hill_here","_law_pages_here"]
 JE:eZ K mg "law" kr aZ.sN dZ.FT ["_law_script"]
 mG:mg "len"=none
 Jo:mg "abs"=none
 Cg:mg "all"=none
 jD:mg "range"=none
 FJ:mg "int"=none
 kY:mg "tuple"=none
 yG:mg "max"=none
 Cf:mg "min"=none
 vo:mg "sorted"=none
 oF:mg "enumerate"=none
 xq:mg "reversed"=none
 Ce:mg "repr"=none
 qL:AA K "_law_book" "_law_book" dB aZ.lV dZ.xE aZ.dw aZ.au
 qK:AA K "_law_page" "_law_page" cN aZ.lU dZ.xD aZ.dv aZ.ar
 kC:aZ.au≠aZ.ar
 kA:aZ.ar≠aZ.au
noncomputable abbrev fe (au ar:Addr) (K:Frag):fA:=xA K [(au,(("_law_book":Str)++".<locals>."++"<lambda>")),(ar,(("_law_page":Str)++".<locals>."++"<lambda>"))]
theorem GJ {i:Int} (h0:0≤i) (h1:i < 2 ^ 80):(0:Int)≤3∧(Builtin.Int.intBits i:Int) * 3≤2 ^ 27:=by
 have h2:i.natAbs < 2 ^ 80:=by
  have e:(2:Int) ^ 80=((2 ^ 80:Nat):Int):=by decide
  rw[e] at h1
  lia
 have:=intBits_le h2
 refine⟨by decide,?_⟩
 have e:(2:Int) ^ 27=134217728:=by decide
 rw[e]
 lia
theorem D0 {i:Int} (h0:0≤i) (h1:i < 2 ^ 80):(0:Int)≤5∧(Builtin.Int.intBits i:Int) * 5≤2 ^ 27:=by
 have h2:i.natAbs < 2 ^ 80:=by
  have e:(2:Int) ^ 80=((2 ^ 80:Nat):Int):=by decide
  rw[e] at h1
  lia
 have:=intBits_le h2
 refine⟨by decide,?_⟩
 have e:(2:Int) ^ 27=134217728:=by decide
 rw[e]
 lia
theorem nQ {i j:Int} (h0:0≤j) (h1:j < 2 ^ 63):ou i j:=by
 have e:(2:Int) ^ 63=9223372036854775808:=by decide
 have e2:(2:Int) ^ 64=18446744073709551616:=by decide
 rw[e] at h1
 exact .inr ⟨by rw[e2];lia,by rw[e2];lia⟩
theorem jB {i j:Int} (h0:0≤i) (h1:i < 2 ^ 63):ou i j:=by
 have e:(2:Int) ^ 63=9223372036854775808:=by decide
 have e2:(2:Int) ^ 64=18446744073709551616:=by decide
 rw[e] at h1
 exact .inl ⟨by rw[e2];lia,by rw[e2];lia⟩
theorem Jp {i:Int} (h:i < 1208925819614629174706176):i < 2 ^ 80:=by
 have e:(2:Int) ^ 80=1208925819614629174706176:=by decide
 rw[e];exact h
theorem Ej {P:Program} {w:World} {K:Frag} {mg:Str→Option Value} {base:Heap} {aZ:Km} {dZ:Kj} (T:Txt K mg aZ dZ):bL P w K mg base fS 1 aZ.lT dZ.xC ["_law_state","_law_many"] Bc:=by
 refine T.ag.F.ok iC (fun vs H Q E h=>?_) (fun cdv A outer s H vs Q E hr h=>?_)
 ·obtain⟨a,n,m,rfl,_⟩:=h
  rfl
 obtain⟨a,n,m,rfl,pik,hn,hm0,hm1,q⟩:=h
 obtain⟨d,sd,k,e1,d0,s0,s1,k0,k1⟩:=pik.ex
 have fin: ∀ d' k':Int,0≤d'→0≤k'→k'≤n+1→JN (upd H a (.lst [.int d',.int sd,.int k'])) a (n+1):=fun d' k' h1 h2 h3=>⟨d',sd,k',az,h1,s0,s1,h2,by lia⟩
 refine⟨_,(dJ (BC (o8 B3 (jf gZ (pv 0) aY (fun _ _=>rfl)) aY (aF _)) (dJ (ku (i:=2) iC.nd rfl (Or.inl rfl) (cj i9 (jf gZ (pv 0) aY (fun _ _=>rfl)) (pv 1)))
  (dJ (wZ (cj tL (jf gZ (pv 0) aY (fun _ _=>rfl)) (pv 1)) (w8 (pv 0) aY set_list))
  (jw (tu (pv 2))))) tm)
  (dJ (wZ (cj jx (jf gZ (pv 0) aY (fun _ _=>rfl)) aY) (w8 (pv 0) aY set_list))
  (dJ (ku (i:=3) iC.nd rfl (Or.inl rfl) (cj i9 (cj mD (cj jx (jf gZ (pv 0) aY (fun _ _=>rfl)) (cj nM aY (jf gZ (pv 0) aY (fun _ _=>rfl)))) aY) aY))
  (dJ (ku (i:=3) iC.nd rfl (Or.inl rfl) (cj i9 (cj nM (cj jx (pv 3) (cj nM aY (jf gZ (pv 0) aY (fun _ _=>rfl)))) (cj jx (cj i9 (pv 3) aY) aY)) aY))
  (jw (tu (cj i9 (cj jx (cj tL (pv 3) aY) (cj tL (pv 3) aY)) (pv 1)))))))),?_⟩
 refine⟨_,rfl,a,_,_,_,rfl,rfl,cQ.of e1,rfl,_,_,rfl,rfl,_,rfl,?_⟩
 refine Hl (fun c1=>?_) (fun c1=>?_)
 ·refine⟨_,rfl,a,_,_,_,rfl,rfl,cQ.of e1,rfl,_,rfl,_,_,rfl,rfl,hm0,?_⟩
  refine⟨_,rfl,a,_,_,_,rfl,rfl,cQ.of e1,rfl,_,rfl,_,_,rfl,rfl,⟨hm0,hm1⟩,?_⟩
  refine⟨_,rfl,a,_,_,_,rfl,rfl,e1,rfl,?_⟩
  refine⟨_,rfl,?_⟩
  exact q _ _ (Int.emod_nonneg _ (by lia)) (Int.emod_lt_of_pos _ hm0) (fin _ _ (Int.ediv_nonneg d0 (by lia)) k0 (by lia))
 ·refine⟨_,rfl,a,_,_,_,rfl,rfl,cQ.of e1,rfl,_,_,rfl,rfl,_,rfl,a,_,_,_,rfl,rfl,e1,rfl,?_⟩
  refine⟨_,rfl,a,_,_,_,rfl,rfl,cQ.of az,rfl,_,rfl,a,_,_,_,rfl,rfl,cQ.of az,rfl,_,_,rfl,rfl,jB (by decide) (by decide),_,_,rfl,rfl,_,_,rfl,rfl,GJ (by lia) (Jp (by lia)),_,_,rfl,rfl,(by show (0:Int) < _;decide),?_⟩
  refine⟨_,rfl,_,rfl,a,_,_,_,rfl,rfl,cQ.of az,rfl,_,_,rfl,rfl,jB (by decide) (by decide),_,_,rfl,rfl,_,rfl,_,_,rfl,rfl,(by show (0:Int) < _;decide),_,_,rfl,rfl,_,_,rfl,rfl,nQ ?_ ?_,_,_,rfl,rfl,(by show (0:Int) < _;decide),?_⟩
  ·have:=Int.emod_nonneg (((sd+982451653 * (k+1)) ^ (3:Int).toNat) % 2305843009213693921) (show (179424673:Int)≠0 by decide)
   lia
  ·have:=Int.emod_lt_of_pos (((sd+982451653 * (k+1)) ^ (3:Int).toNat) % 2305843009213693921) (show (0:Int) < 179424673 by decide)
   have e:(2:Int) ^ 63=9223372036854775808:=by decide
   rw[e]
   lia
  ·refine⟨_,rfl,_,_,rfl,rfl,⟨by decide,by decide⟩,_,rfl,_,_,rfl,rfl,⟨by decide,by decide⟩,_,_,rfl,rfl,_,rfl,_,_,rfl,rfl,hm0,?_⟩
   exact q _ _ (Int.emod_nonneg _ (by lia)) (Int.emod_lt_of_pos _ hm0) (fin d (k+1) d0 (by lia) (by lia))
theorem C4 (ns:List Int):mX (ns.map V.int) none (some 63)=(ns.take 63).map V.int:=by
 unfold mX
 rw[HT.my]
 have e:HT.dR (ns.map V.int).length (ns.map V.int).length (some 63)=min 63 (ns.map V.int).length:=HT.o7 _ _ 63
 rw[e,List.drop_zero,Nat.sub_zero,LK,←List.map_take]
 congr 1
 rw[List.take_eq_take_iff]
 lia
theorem Lc (ns:List Int):mX (ns.map V.int) none (some 1)=(ns.take 1).map V.int:=by
 unfold mX
 rw[HT.my]
 have e:HT.dR (ns.map V.int).length (ns.map V.int).length (some 1)=min 1 (ns.map V.int).length:=HT.o7 _ _ 1
 rw[e,List.drop_zero,Nat.sub_zero,LK,←List.map_take]
 congr 1
 rw[List.take_eq_take_iff]
 lia
theorem E6 {d:Int} {i:Nat} (h0:0≤d) (h1:d < (10 ^ (60:Int).toNat:Int) ^ i) (hi:i≤63):Builtin.Int.intBits d≤2 ^ 20:=by
 have e1:d.natAbs < (2 ^ 200) ^ i:=by
  have e2:(10 ^ (60:Int).toNat:Int)=((10 ^ 60:Nat):Int):=by decide +kernel
  rw[e2,←Int.natCast_pow] at h1
  have h2:d.natAbs < (10 ^ 60) ^ i:=by
   have:=Int.natAbs_of_nonneg h0
   rw[←this] at h1
   exact Int.ofNat_lt.mp h1
  exact L9 h2 (Nat.pow_le_pow_left (by decide +kernel) i)
 rw[←Nat.pow_mul] at e1
 have:=intBits_le e1
 have e3:(2:Nat) ^ 20=1048576:=by decide
 lia
theorem B7 {P:Program} {w:World} {K:Frag} {mg:Str→Option Value} {base:Heap} {aZ:Km} {dZ:Kj} (T:Txt K mg aZ dZ):bL P w K mg base fS 1 aZ.iV dZ.ud ["_law_script"] (sS K):=by
 refine T.iR.F.ok cE (fun vs H Q E h=>?_) (fun cdv A outer s H vs Q E hr h=>?_)
 ·obtain⟨a,ns,rfl,_⟩:=h
  rfl
 obtain⟨a,ns,rfl,hS,h63,q⟩:=h
 have hu0:=Nat.lt_of_succ_lt (r9 hr)
 have hl63:((ns.take 63).map V.int).length≤63:=by rw[LK,List.length_take];lia
 have isInt: ∀ (x:V),x∈(ns.take 63).map V.int→∃ y:Int,x= .int y:=fun x e=>by
  obtain⟨y,_,z⟩:=LW.mp e
  exact⟨y,z.symm⟩
 have b60:((0:Int)≤60)∧(Builtin.Int.intBits 10:Int) * 60≤2 ^ 27:=by decide
 have p60:(0:Int) < 10 ^ (60:Int).toNat:=by decide +kernel
 have hb60:Builtin.Int.intBits (10 ^ (60:Int).toNat)≤2 ^ 20:=by decide +kernel
 have rest: ∃ t,wy (jO fS P w K mg base ["_law_script","_law_digits","_law_cell","_law_seed","_law_k"] "_law_start" (ae di) aZ.iV cdv A outer s H E).tU ((aw di).drop 2) t∧∀ (dg:Int) (v2:Option V) (H1:Hp),0≤dg→gq H H1→t {nx:=fun _ H'=>Q .aW H',rt:=Q} [some (.ref a),some (.int dg),v2,none,none] H1:=by
  refine⟨_,(dJ (ku (i:=3) cE.nd rfl (Or.inl rfl) aY)
  (dJ (tw PassesOwn.never rfl (BL rfl T.oF PyProof.Rows.boot_enumerate (dS (mz o6 (pv 0) pd (o9 aY)) gA)) (BM rfl (pX (pf (i:=4) cE.nd rfl (Or.inl rfl)) (pX (pf (i:=2) cE.nd rfl (Or.inl rfl)) yB))) (jw (ku (i:=3) cE.nd rfl (Or.inl rfl) (cj i9 (cj mD (cj jx (cj jx (cj nM (pv 3) aY) (cj i9 (pv 2) aY)) (cj nM aY (pv 4))) aY) aY))))
  (jw (tu (xb (dS (pv 1) (dS (pv 3) (dS aY gA)))))))),fun dg v2 H1 dg0 sm1=>?_⟩
  refine⟨_,rfl,63,rfl,a,_,rfl,sm1.seq hS,fun u hu=>?_⟩
  rw[C4 ns]
  have g2:gq H1 (upd H1 u (.lst ((ns.take 63).map V.int))):=je hu _
  have hu2:upd H1 u (.lst ((ns.take 63).map V.int)) u=some (.lst ((ns.take 63).map V.int)):=az
  generalize upd H1 u (.lst ((ns.take 63).map V.int))=H2 at g2 hu2
  refine⟨u,_,rfl,cQ.of hu2,?_⟩
  refine CH (xs:=(ns.take 63).map V.int) (fun i σ H'=> ∃ (sd:Int) (v2 v4:Option V),σ=[some (.ref a),some (.int dg),v2,some (.int sd),v4]∧gq H2 H'∧0≤sd∧sd < 2305843009213693951) ⟨271828182,_,none,rfl,fun _ _ h=>h,by decide,by decide⟩ ?_ ?_ ?_
  ·rintro i σ H' _ ⟨sd,v2,v4,_,sm,_⟩
   exact cQ.of (sm _ _ hu2)
  ·rintro i x σ H' T hx hT ⟨sd,v2,v4,rfl,sm,s0,s1⟩
   obtain⟨y,rfl⟩:=isInt x (List.mem_of_getElem? hx)
   have hi:i < 63:=L9 (LP.mp hx).1 hl63
   have r0:=Int.emod_nonneg y (show (2305843009213693951:Int)≠0 by decide)
   have r1:=Int.emod_lt_of_pos y (show (0:Int) < 2305843009213693951 by decide)
   refine⟨T,_,rfl,fM.of az,rfl,_,_,rfl,_,_,rfl,rfl,?_⟩
   refine⟨_,rfl,_,_,rfl,rfl,nQ (by decide) (by decide),_,rfl,_,_,rfl,rfl,(by show (0:Int) < _;decide),_,_,rfl,rfl,_,rfl,_,_,rfl,rfl,jB (by decide) (by decide),_,_,rfl,rfl,_,_,rfl,rfl,D0 (by lia) (Jp (by lia)),_,_,rfl,rfl,(by show (0:Int) < _;decide),?_⟩
   exact⟨_,_,_,rfl,sm.trans (je hT _),Int.emod_nonneg _ (by decide),Int.emod_lt_of_pos _ (by decide)⟩
  ·rintro σ H' ⟨sd,v2,v4,rfl,sm,s0,s1⟩
   refine⟨_,rfl,_,rfl,(by show 3≤sizeLine;decide),fun b hb=>?_⟩
   exact q b _ (sm1.trans (g2.trans (sm.trans (je hb _)))) ⟨dg,sd,0,az,dg0,s0,s1,Int.le_refl 0,by lia⟩
 obtain⟨tt,dt,ht⟩:=rest
 refine⟨_,(dJ (ku (i:=1) cE.nd rfl (Or.inl rfl) aY)
  (dJ (BC (PW.pt (Bv (o8 (zS hu0) (mz o6 (pv 0) pd (o9 aY)) (xb gA) (aF _)) (yy (o8 B4 (jf gZ (pv 0) aY (fun _ _=>rfl)) (cj mD aY aY) (aF _))))) (jw (tw PassesOwn.never rfl (GK rfl T.xq PyProof.Rows.boot_reversed (dS (mz o6 (pv 0) pd (o9 aY)) gA)) (pf (i:=2) cE.nd rfl (Or.inl rfl)) (jw (ku (i:=1) cE.nd rfl (Or.inl rfl) (cj jx (cj Eg (pv 1) (cj mD aY aY)) (cj i9 (uU C7 rfl T.Jo PyProof.Rows.boot_abs (dS (pv 2) gA)) (cj mD aY aY))))))) tm)
  dt)),?_⟩
 have b18:((0:Int)≤18)∧(Builtin.Int.intBits 10:Int) * 18≤2 ^ 27:=by decide
 refine⟨_,rfl,1,rfl,a,_,rfl,hS,fun u hu=>?_⟩
 rw[Lc ns]
 have g1:gq H (upd H u (.lst ((ns.take 1).map V.int))):=je hu _
 have gu:upd H u (.lst ((ns.take 1).map V.int)) u=some (.lst ((ns.take 1).map V.int)):=az
 generalize upd H u (.lst ((ns.take 1).map V.int))=H1 at g1 gu
 refine⟨(by show 0≤sizeLine;exact Me _),fun u2 hu2=>?_⟩
 have g2:gq H1 (upd H1 u2 (.lst [])):=je hu2 _
 refine⟨u,u2,_,rfl,rfl,cQ.of (g2 _ _ gu),cQ.of az,_,rfl,?_⟩
 generalize upd H1 u2 (.lst [])=H2 at g2
 have sm2:gq H H2:=g1.trans g2
 refine Hl (fun c1=>?_) (fun c1=>?_)
 ·cases ns with
  |nil=>cases c1
  |cons y ns=>
  refine⟨_,rfl,a,_,_,_,rfl,rfl,sm2.seq hS,ng y ns,_,_,rfl,rfl,b18,_,_,rfl,rfl,_,rfl,?_⟩
  refine Hl (fun c2=>?_) (fun c2=>?_)
  ·refine⟨_,rfl,63,rfl,a,_,rfl,sm2.seq hS,fun u3 hu3=>?_⟩
   rw[C4 (y::ns)]
   have g3:gq H2 (upd H2 u3 (.lst (((y::ns).take 63).map V.int))):=je hu3 _
   have gu3:upd H2 u3 (.lst (((y::ns).take 63).map V.int)) u3=some (.lst (((y::ns).take 63).map V.int)):=az
   generalize upd H2 u3 (.lst (((y::ns).take 63).map V.int))=H3 at g3 gu3
   refine⟨u3,_,rfl,cQ.of gu3,?_⟩
   obtain⟨Bs,hBs,pB,bB,kB⟩: ∃ Bs:Int,10 ^ (60:Int).toNat=Bs∧0 < Bs∧Builtin.Int.intBits Bs≤2 ^ 20∧∀ (d:Int) (i:Nat),0≤d→d < Bs ^ i→i≤63→Builtin.Int.intBits d≤2 ^ 20:=⟨_,rfl,p60,hb60,fun d i=>E6⟩
   refine EO (xs:=((y::ns).take 63).map V.int) (fun i σ H'=> ∃ (dg:Int) (v2:Option V),σ=[some (.ref a),some (.int dg),v2,none,none]∧H'=H3∧0≤dg∧dg < Bs ^ i) ⟨0,none,rfl,rfl,Int.le_refl 0,by rw[Int.pow_zero];decide⟩ ?_ ?_ ?_
   ·rintro i σ H' _ ⟨dg,v2,_,rfl,_⟩
    exact cQ.of gu3
   ·rintro i x σ H' hx hi ⟨dg,v2,rfl,rfl,dg0,dg1⟩
    obtain⟨z,rfl⟩:=isInt x hx
    have hi63:i≤63:=by lia
    refine⟨_,rfl,_,_,rfl,rfl,b60,?_⟩
    simp only[hBs]
    refine⟨_,_,rfl,rfl,IntMulOk.of_bits (kB dg i dg0 dg1 hi63) bB,_,rfl,z,rfl,_,_,rfl,rfl,b60,?_⟩
    simp only[hBs]
    refine⟨_,_,rfl,rfl,pB,_,_,rfl,rfl,?_⟩
    have r0:=Int.emod_nonneg (if z < 0 then -z else z) (Int.ne_of_gt pB)
    have r1:=Int.emod_lt_of_pos (if z < 0 then -z else z) pB
    refine⟨_,_,rfl,rfl,?_,?_⟩
    ·exact Int.add_nonneg (Int.mul_nonneg dg0 (Int.le_of_lt pB)) r0
    ·have h1:dg+1≤Bs ^ i:=dg1
     have h2:(dg+1) * Bs≤Bs ^ i * Bs:=Int.mul_le_mul_of_nonneg_right h1 (Int.le_of_lt pB)
     rw[←Int.pow_succ,Int.add_mul,Int.one_mul] at h2
     exact Int.lt_of_lt_of_le (Int.add_lt_add_left r1 _) h2
   ·rintro σ H' ⟨dg,v2,rfl,rfl,dg0,_⟩
    exact ht dg v2 _ dg0 (sm2.trans g3)
  ·exact ht 0 none _ (Int.le_refl 0) sm2
 ·exact ht 0 none _ (Int.le_refl 0) sm2
noncomputable def ak:List PV→M PV:=oH
noncomputable def iM:af→M Fl:=(aB (aH 4 (fun _=>M.ret .aW))
  (aB (bF (fun ρ=>((gv 0) ρ).bind ba) (aL 5)
  (gz (gF (bf (ab (eI false) (ab aE (gv 5) (cI 0)) (gv 1))) (gF (bf (ab (eI false) (ab aE (gv 5) (cI 3)) (gv 2))) (bf (ab j6 (ab aE (gv 5) (cI 2)) (gv 3)))))
  (aH 4 (gv 5))
  (fun ρ=>M.ret (.nx ρ))))
  (bG (gv 4))))
noncomputable def eG:List PV→M PV:=j7 4 6 iM
noncomputable def kZ:af→M Fl:=(aB (aH 3 (fun ρ=>((aa (gv 0) (aa (cS "read") (aa (gv 1) (aa (gv 2) aN)))) ρ).bind eG))
  (bG (AH (bf (ab (rh false) (gv 3) (fun _=>M.ret .aW))) (fun _=>M.ret .aW) (ab aE (gv 3) (cI 4)))))
noncomputable def ic:List PV→M PV:=j7 3 4 kZ
noncomputable def jC:af→M Fl:=(aB (aH 3 (fun ρ=>((aa (gv 0) (aa (cS "rule") (aa (gv 1) (aa (gv 2) aN)))) ρ).bind eG))
  (bG (AH (bf (ab (rh false) (gv 3) (fun _=>M.ret .aW))) (fun ρ=>(aN ρ).bind bh) (ab aE (gv 3) (cI 4)))))
noncomputable def fg:List PV→M PV:=j7 3 4 jC
noncomputable def iG:af→M Fl:=(aB (aH 3 (fun ρ=>((aa (gv 0) (aa (cS "look") (aa (gv 1) (aa (gv 2) aN)))) ρ).bind eG))
  (bG (AH (bf (ab (rh false) (gv 3) (fun _=>M.ret .aW))) (fun _=>M.ret .aW) (ab aE (gv 3) (cI 2)))))
noncomputable def eE:List PV→M PV:=j7 3 4 iG
noncomputable def fE:af→M Fl:=(aB (AU [3,4,5] (gv 1))
  (aB (aH 6 (fun ρ=>((aa (gv 0) (aa (gv 4) (aa (gv 2) aN))) ρ).bind ic))
  (aB (gz (bf (ab (rh false) (gv 6) (fun _=>M.ret .aW)))
  (bG (fun _=>M.ret (.bl false)))
  (fun ρ=>M.ret (.nx ρ)))
  (bG (AH (bf (ab (eI false) (gv 3) (cS "least"))) (ab K3 (gv 6) (gv 5)) (ab j6 (gv 6) (gv 5)))))))
noncomputable def dG:List PV→M PV:=j7 3 7 fE
noncomputable def eK:af→M Fl:=(aB (aH 4 (fun ρ=>((aa (gv 0) (aa (ab aE (gv 1) (cI 0)) (aa (gv 3) aN))) ρ).bind eE))
  (bG (jk (ab (eI false) (ab aE (gv 1) (cI 1)) (cS "slope")) (jk (ab (rh true) (gv 4) (fun _=>M.ret .aW)) (ab tW (gv 3) (ab cZ (gv 4) (gv 2)))))))
noncomputable def cb:List PV→M PV:=j7 4 5 eK
noncomputable def cm:af→M Fl:=(aB (aH 4 (ab aE (gv 2) (cI 0)))
  (aB (gz (bf (ab (eI false) (gv 4) (cS "hours")))
  (bG (chain j6 tW (ab aE (gv 2) (cI 1)) (gv 3) (ab aE (gv 2) (cI 2))))
  (fun ρ=>M.ret (.nx ρ)))
  (aB (gz (Eb (bf (ab (eI false) (gv 4) (cS "least"))) (bf (ab (eI false) (gv 4) (cS "most"))))
  (bG (fun ρ=>((aa (gv 0) (aa (gv 2) (aa (gv 3) aN))) ρ).bind dG))
  (fun ρ=>M.ret (.nx ρ)))
  (aB (gz (bf (ab (eI false) (gv 4) (cS "looked")))
  (bG (fun ρ=>((aa (gv 0) (aa (gv 1) (aa (ab aE (gv 2) (cI 1)) (aa (gv 3) aN)))) ρ).bind cb))
  (fun ρ=>M.ret (.nx ρ)))
  (bG (fun _=>M.ret (.bl false)))))))
noncomputable def a7:List PV→M PV:=j7 4 5 cm
noncomputable def fF:af→M Fl:=(aB (aH 3 (fun ρ=>((aa (gv 0) (aa (ab aE (gv 1) (cI 0)) (aa (gv 2) aN))) ρ).bind fg))
  (aB (gz (vc (bf (fun ρ=>((aa (aX (cx [none,some 0,some 1,some 2] (fun ρ=>((gv 3) ρ).bind ba) (aL 0) (bf (ab (eI true) (ab aE (gv 0) (cI 0)) (cS "with"))) (fun ρ=>((aa (gv 1) (aa (gv 2) (aa (gv 0) (aa (gv 3) aN)))) ρ).bind a7))) aN) ρ).bind m8)))
  (bG (fun _=>M.ret .aW))
  (fun ρ=>M.ret (.nx ρ)))
  (bG (aX (cx [none] (fun ρ=>((gv 3) ρ).bind ba) (aL 0) (bf (ab (eI false) (ab aE (gv 0) (cI 0)) (cS "with"))) (ab aE (gv 0) (cI 1)))))))
noncomputable def bJ:List PV→M PV:=j7 3 4 fF
noncomputable def gX:af→M Fl:=(aB (BY 1)
  (aB (aH 2 (fun ρ=>((cI 1) ρ).bind jA))
  (aB (zo (bf (ab tW (gv 2) (fun ρ=>((aa (gb 1) aN) ρ).bind gB))) (aB (aH 2 (fun ρ=>((aa (gb 1) aN) ρ).bind gB))
  (bF (fun ρ=>((gv 0) ρ).bind vz) (aL 3)
  (gz (bf (fun ρ=>((aa (aX (cx [none,some 1] (fun ρ=>((ab sE (gv 0) (gv 3)) ρ).bind ba) (aL 0) eS (ab (qy false) (gv 0) (gb 1)))) aN) ρ).bind m8))
  (oJ 1 (gv 3) (fun _=>M.ret (.bl true)))
  (fun ρ=>M.ret (.nx ρ))))) 1000)
  (bG (gv 1)))))
noncomputable def fR:List PV→M PV:=j7 1 4 gX
noncomputable def iF:af→M Fl:=(aB (BY 3)
  (aB (bF (fun ρ=>((ab aE (gv 0) (cI 0)) ρ).bind ba) (aL 4)
  (aB (aH 5 (fun ρ=>((aa (gv 1) (aa (gv 4) (aa (gv 2) aN))) ρ).bind bJ))
  (gz (bf (ab (rh true) (gv 5) (fun _=>M.ret .aW)))
  (oJ 3 (ab aE (gv 4) (cI 0)) (gv 5))
  (fun ρ=>M.ret (.nx ρ)))))
  (aB (CF (aH 6 (fun ρ=>((aa (gv 3) aN) ρ).bind fR)))
  (bG (fun ρ=>((aa (aX (cx [none,some 6] (fun ρ=>((ab aE (gv 0) (cI 0)) ρ).bind ba) (aL 0) (bf (ab (qy false) (ab aE (gv 0) (cI 0)) (gv 1))) (ab aE (gv 0) (cI 0)))) aN) ρ).bind nr)))))
noncomputable def eD:List PV→M PV:=j7 3 7 iF
noncomputable def eJ:af→M Fl:=(aB (gz (bf (ab (eI false) (ab aE (gv 2) (cI 0)) (cS "hours")))
  (bG (aX (fun ρ=>((aa (ab aE (gv 2) (cI 1)) (aa (ab aE (gv 2) (cI 2)) aN)) ρ).bind bc)))
  (fun ρ=>M.ret (.nx ρ)))
  (aB (gz (bf (ab (eI false) (ab aE (gv 2) (cI 0)) (cS "looked")))
  (bG (aX (cx [none,some 2,some 1] (fun ρ=>((gv 0) ρ).bind ba) (aL 0) (gF (bf (ab (eI false) (ab aE (gv 0) (cI 0)) (cS "look"))) (bf (ab (eI false) (ab aE (gv 0) (cI 3)) (gv 2)))) (ab cZ (ab aE (gv 0) (cI 2)) (ab aE (gv 1) (cI 1))))))
  (fun ρ=>M.ret (.nx ρ)))
  (bG (aX (fun ρ=>(aN ρ).bind bc)))))
noncomputable def bZ:List PV→M PV:=j7 3 3 eJ
noncomputable def pq:af→M Fl:=(aB (jg 2 (fun ρ=>((aa (cI 0) aN) ρ).bind bc))
  (aB (bF (fun ρ=>((gv 1) ρ).bind ba) (aL 3)
  (aB (eC 2 (ab aE (gv 3) (cI 2)))
  (gz (bf (ab (eI false) (ab aE (gv 3) (cI 0)) (cS "rule")))
  (bF (fun ρ=>((ab aE (gv 3) (cI 4)) ρ).bind ba) (aL 4)
  (Ar 2 (fun ρ=>((aa (gv 1) (aa (ab aE (gv 3) (cI 3)) (aa (gv 4) aN))) ρ).bind bZ)))
  (fun ρ=>M.ret (.nx ρ)))))
  (bG (aX (fun ρ=>((Ca [none,some 0] (fun ρ=>((gv 2) ρ).bind ba) (aL 0) (bf (chain j6 j6 (cI 0) (gv 0) (ab aE (gv 1) (cI 2)))) (gv 0)) ρ).bind sortI)))))
noncomputable def pH:List PV→M PV:=j7 2 5 pq
noncomputable def iE:af→M Fl:=(bG (aX (cx [none,some 0,some 1] (fun ρ=>((fun ρ=>((aa (gv 0) (aa (gv 1) aN)) ρ).bind pH) ρ).bind ba) (aL 0) eS (fun ρ=>((aa (gv 0) (aa (fun ρ=>((aa (gv 1) (aa (gv 2) (aa (gv 0) aN))) ρ).bind eD) aN)) ρ).bind bh))))
noncomputable def iY:List PV→M PV:=j7 2 2 iE
noncomputable def fD:af→M Fl:=(aB (jg 3 (fun ρ=>(aN ρ).bind bc))
  (aB (aH 4 (fun _=>M.ret .aW))
  (aB (bF (fun ρ=>((gv 0) ρ).bind ba) (gJ [5,6])
  (aB (gz (gF (bf (ab (qh false) (gv 1) (gv 6))) (bf (ab (rh false) (gv 4) (fun _=>M.ret .aW))))
  (aH 4 (gv 5))
  (fun ρ=>M.ret (.nx ρ)))
  (gz (gF (bf (ab (qh true) (gv 1) (gv 6))) (bf (ab (rh true) (gv 4) (fun _=>M.ret .aW))))
  (aB (eC 3 (fun ρ=>((aa (gv 4) (aa (gv 5) aN)) ρ).bind bh))
  (aH 4 (fun _=>M.ret .aW)))
  (fun ρ=>M.ret (.nx ρ)))))
  (aB (gz (bf (ab (rh true) (gv 4) (fun _=>M.ret .aW)))
  (eC 3 (fun ρ=>((aa (gv 4) (aa (ab cZ (gv 2) (cI 1)) aN)) ρ).bind bh))
  (fun ρ=>M.ret (.nx ρ)))
  (bG (fun ρ=>((aa (gv 3) aN) ρ).bind nr))))))
noncomputable def fO:List PV→M PV:=j7 3 7 fD
noncomputable def pz:af→M Fl:=(bG (fun ρ=>((aa (fun ρ=>((aa (gv 0) (aa (gv 1) aN)) ρ).bind iY) (aa (gv 2) (aa (ab aE (gv 0) (cI 2)) aN))) ρ).bind fO))
noncomputable def jW:List PV→M PV:=j7 3 3 pz
noncomputable def jE:af→M Fl:=(aB (aH 2 (cS "etaoinshrdlcumwfgypbvkjxqz"))
  (aB (aH 3 (ab cZ (cI 1) (fun ρ=>((aa (gv 0) (aa (cI 8) aN)) ρ).bind ak)))
  (aB (aH 4 (Kc "str" rY (cS "") (aa (aX (cx [none,some 2,some 0] (fun ρ=>((aa (gv 3) aN) ρ).bind dH) (aL 0) eS (ab aE (gv 1) (fun ρ=>((aa (gv 2) (aa (cI 26) aN)) ρ).bind ak)))) aN)))
  (bG (ab aE (aX (cx [none,some 1] (fun ρ=>((aX (xJ (aX (fun ρ=>((aa (gv 4) aN) ρ).bind bc)) (aX (cx [none,some 4] (fun ρ=>((gv 2) ρ).bind ba) (aL 0) eS (ab cZ (DL Fv (gv 1) (fun _=>M.ret none) (fun ρ=>((cI 7) ρ).bind fun y=>(vC y).bind fun i=>M.ret (some i))) (gv 0)))))) ρ).bind ba) (aL 0) (bf (ab (qh true) (gv 0) (gv 1))) (gv 0))) (cI 0))))))
noncomputable def jX:List PV→M PV:=j7 2 5 jE
noncomputable def iH:af→M Fl:=(aB (jg 2 (fun ρ=>(aN ρ).bind bc))
  (aB (bF (fun ρ=>((aa (gv 1) aN) ρ).bind dH) (aL 3)
  (eC 2 (fun ρ=>((aa (gv 0) (aa (gb 2) aN)) ρ).bind fun l=>(jX l).bind qm)))
  (bG (gv 2))))
noncomputable def fw:List PV→M PV:=j7 2 4 iH
noncomputable def jJ:af→M Fl:=(aB (aH 3 (fun ρ=>((aa (gv 0) (aa (ab cZ (cI 2) (fun ρ=>((aa (gv 0) (aa (cI 4) aN)) ρ).bind ak)) aN)) ρ).bind fw))
  (aB (aH 4 (fun ρ=>((aa (gv 0) (aa (ab cZ (cI 1) (fun ρ=>((aa (gv 0) (aa (gv 1) aN)) ρ).bind ak)) aN)) ρ).bind fw))
  (aB (jg 5 (fun ρ=>(aN ρ).bind bc))
  (aB (bF (fun ρ=>((gv 4) ρ).bind ba) (aL 6)
  (aB (aH 7 (ab aE (aX (fun ρ=>((aa (cS "slope") (aa (cS "slope") (aa (cS "lift") (aa (cS "path") aN)))) ρ).bind bc)) (fun ρ=>((aa (gv 0) (aa (cI 4) aN)) ρ).bind ak)))
  (aB (aH 8 (aX (cx [none,some 3,some 0] (fun ρ=>((aa (cI 2) aN) ρ).bind dH) (aL 0) eS (ab aE (gv 1) (fun ρ=>((aa (gv 2) (aa (fun ρ=>((aa (gv 1) aN) ρ).bind gB) aN)) ρ).bind ak)))))
  (eC 5 (fun ρ=>((aa (gv 6) (aa (gv 7) (aa (ab aE (gv 8) (cI 0)) (aa (ab aE (gv 8) (cI 1)) (aa (ab lC (gv 2) (fun ρ=>((aa (gv 0) (aa (cI 8) aN)) ρ).bind ak)) (aa (ab lC (gv 2) (fun ρ=>((aa (gv 0) (aa (cI 5) aN)) ρ).bind ak)) aN)))))) ρ).bind bh)))))
  (bG (fun ρ=>((aa (fun ρ=>((aa (gv 5) aN) ρ).bind nr) (aa (ab aE (gv 3) (fun ρ=>((aa (gv 0) (aa (fun ρ=>((aa (gv 3) aN) ρ).bind gB) aN)) ρ).bind ak)) (aa (ab lC (gv 2) (ab cZ (cI 1) (fun ρ=>((aa (gv 0) (aa (cI 30) aN)) ρ).bind ak))) aN))) ρ).bind bh))))))
noncomputable def jY:List PV→M PV:=j7 3 9 jJ
noncomputable def gW:af→M Fl:=(bG (fun ρ=>((aa (ab aE (gv 1) (cI 2)) (aa (fun ρ=>((aa (cI 0) (aa (ab cZ (ab lC (gv 2) (fun ρ=>((aa (gv 0) (aa (cI 31) aN)) ρ).bind ak)) (ab aE (aX (fun ρ=>((aa (cI 0) (aa (cI 0) (aa (cI 1) (aa (fun ρ=>((cI 1) ρ).bind jA) aN)))) ρ).bind bc)) (fun ρ=>((aa (gv 0) (aa (cI 4) aN)) ρ).bind ak))) aN)) ρ).bind rS) aN)) ρ).bind p5))
noncomputable def fQ:List PV→M PV:=j7 3 3 gW
noncomputable def jG:af→M Fl:=(aB (aH 4 (fun ρ=>((aa (gv 0) (aa (cI 12) aN)) ρ).bind ak))
  (aB (aH 5 (ab aE (gv 2) (fun ρ=>((aa (gv 0) (aa (fun ρ=>((aa (gv 2) aN) ρ).bind gB) aN)) ρ).bind ak)))
  (aB (aH 6 (ab zz (fun ρ=>((aa (gv 0) (aa (cI 7) aN)) ρ).bind ak) (cI 3)))
  (aB (D8 7 8 (aa (ab lC (gv 3) (fun ρ=>((aa (gv 0) (aa (cI 31) aN)) ρ).bind ak)) (aa (ab zz (ab cZ (ab lC (gv 3) (ab cZ (cI 1) (fun ρ=>((aa (gv 0) (aa (cI 12) aN)) ρ).bind ak))) (fun ρ=>((aa (gv 0) (aa (cI 3) aN)) ρ).bind ak)) (cI 1)) aN)))
  (aB (aH 9 (ab aE (ab aE (ab aE (gv 1) (cI 0)) (fun ρ=>((aa (gv 0) (aa (fun ρ=>((aa (ab aE (gv 1) (cI 0)) aN) ρ).bind gB) aN)) ρ).bind ak)) (cI 0)))
  (aB (gz (bf (ab tW (gv 4) (cI 3)))
  (bG (fun ρ=>((aa (cS "hours") (aa (gv 7) (aa (fun ρ=>((aa (cI 1000001) (aa (ab cZ (gv 7) (fun ρ=>((aa (cI 1) (aa (gv 8) aN)) ρ).bind rS)) aN)) ρ).bind p5) aN))) ρ).bind bh))
  (fun ρ=>M.ret (.nx ρ)))
  (aB (gz (bf (ab tW (gv 4) (cI 8)))
  (bG (ab aE (aX (fun ρ=>((aa (fun ρ=>((aa (cS "least") (aa (gv 5) (aa (gv 6) aN))) ρ).bind bh) (aa (fun ρ=>((aa (cS "most") (aa (gv 5) (aa (gv 6) aN))) ρ).bind bh) aN)) ρ).bind bc)) (ab vi (gv 4) (cI 2))))
  (fun ρ=>M.ret (.nx ρ)))
  (aB (gz (bf (ab tW (gv 4) (cI 10)))
  (bG (fun ρ=>((aa (cS "looked") (aa (fun ρ=>((aa (cI 1) (aa (gv 8) aN)) ρ).bind rS) aN)) ρ).bind bh))
  (fun ρ=>M.ret (.nx ρ)))
  (bG (ab aE (aX (fun ρ=>((aa (fun ρ=>((aa (cS "with") (aa (gv 9) aN)) ρ).bind bh) (aa (fun ρ=>((aa (cS "never") aN) ρ).bind bh) aN)) ρ).bind bc)) (fun ρ=>((aa (jk (ab (eI false) (gv 4) (cI 11)) (ab EK (gv 6) (cI 0))) aN) ρ).bind xt)))))))))))
noncomputable def iw:List PV→M PV:=j7 4 10 jG
noncomputable def gV:af→M Fl:=(aB (aH 2 (fun ρ=>((aa (gv 0) (aa (ab aE (aX (fun ρ=>((aa (cI 20) (aa (cI 1000000) aN)) ρ).bind bc)) (fun ρ=>((aa (gv 0) (aa (cI 2) aN)) ρ).bind ak)) aN)) ρ).bind ak))
  (aB (aH 3 (aX (cx [none,some 2] (fun ρ=>((aa (cI 70) aN) ρ).bind dH) (aL 0) eS (ab vi (ab cZ (gv 1) (gv 0)) (cI 1000000)))))
  (bG (ab aE (aX (cx [none,some 1] (fun ρ=>((gv 3) ρ).bind ba) (aL 0) (bf (ab (qh true) (gv 0) (gv 1))) (gv 0))) (cI 0)))))
noncomputable def fP:List PV→M PV:=j7 2 4 gV
noncomputable def iK:af→M Fl:=(aB (aH 4 (aX (xJ (fun ρ=>((aa (gv 0) (aa (ab cZ (cI 1) (fun ρ=>((aa (gv 0) (aa (cI 3) aN)) ρ).bind ak)) aN)) ρ).bind fw) (ab lC (aX (fun ρ=>((aa (ab aE (ab aE (ab aE (gv 1) (cI 0)) (cI 0)) (cI 0)) aN) ρ).bind bc)) (fun ρ=>((aa (gv 0) (aa (cI 2) aN)) ρ).bind ak)))))
  (aB (aH 5 (aX (cx [none] (fun ρ=>((ab aE (gv 1) (cI 0)) ρ).bind ba) (aL 0) (bf (ab (eI false) (ab aE (gv 0) (cI 1)) (cS "slope"))) (ab aE (gv 0) (cI 0)))))
  (aB (jg 6 (fun ρ=>(aN ρ).bind bc))
  (aB (jg 7 (fun ρ=>(aN ρ).bind bc))
  (aB (bF (fun ρ=>((aa (gv 3) aN) ρ).bind dH) (aL 8)
  (aB (aH 9 (fun ρ=>((aa (gv 0) (aa (cI 8) aN)) ρ).bind ak))
  (aB (aH 10 (ab lC (fun ρ=>((aa (gv 0) (aa (gv 1) (aa (gv 2) aN))) ρ).bind fQ) (fun ρ=>((aa (ab EK (fun ρ=>((aa (gv 0) (aa (cI 3) aN)) ρ).bind ak) (cI 0)) aN) ρ).bind xt)))
  (aB (eC 7 (fun ρ=>((aa (gv 0) (aa (gb 7) aN)) ρ).bind fun l=>(fP l).bind qm))
  (gz (bf (ab tW (gv 9) (cI 3)))
  (aB (aH 11 (ab aE (ab aE (ab aE (gv 1) (cI 0)) (fun ρ=>((aa (gv 0) (aa (fun ρ=>((aa (ab aE (gv 1) (cI 0)) aN) ρ).bind gB) aN)) ρ).bind ak)) (cI 0)))
  (aB (aH 12 (ab aE (aX (fun ρ=>((aa (cI 0) (aa (cI 1) (aa (cI 1) (aa (cI 1) (aa (cI 2) (aa (cI 2) (aa (cI 3) (aa (cI 6) aN)))))))) ρ).bind bc)) (fun ρ=>((aa (gv 0) (aa (cI 8) aN)) ρ).bind ak)))
  (aB (aH 13 (aX (cx [none,some 0,some 1,some 4,some 2] (fun ρ=>((aa (gv 12) aN) ρ).bind dH) (aL 0) eS (fun ρ=>((aa (gv 1) (aa (gv 2) (aa (gv 3) (aa (gv 4) aN)))) ρ).bind iw))))
  (eC 6 (fun ρ=>((aa (cS "rule") (aa (ab aE (gb 7) (fun ρ=>((cI 1) ρ).bind jA)) (aa (gv 10) (aa (gv 11) (aa (fun ρ=>((aa (gv 13) aN) ρ).bind nr) aN))))) ρ).bind bh)))))
  (gz (Eb (bf (ab tW (gv 9) (cI 6))) (bf (ab (eI false) (gv 5) (aX (fun ρ=>(aN ρ).bind bc)))))
  (aB (aH 14 (ab lC (ab zz (fun ρ=>((aa (gv 0) (aa (cI 7) aN)) ρ).bind ak) (cI 3)) (ab aE (aX (fun ρ=>((aa (cI 1) (aa (cI 1) (aa (cI 1) (aa (ab BD (cI 10) (cI 50)) aN)))) ρ).bind bc)) (fun ρ=>((aa (gv 0) (aa (cI 4) aN)) ρ).bind ak))))
  (eC 6 (fun ρ=>((aa (cS "read") (aa (ab aE (gb 7) (fun ρ=>((cI 1) ρ).bind jA)) (aa (gv 10) (aa (ab aE (gv 4) (fun ρ=>((aa (gv 0) (aa (fun ρ=>((aa (gv 4) aN) ρ).bind gB) aN)) ρ).bind ak)) (aa (gv 14) aN))))) ρ).bind bh)))
  (eC 6 (fun ρ=>((aa (cS "look") (aa (ab aE (gb 7) (fun ρ=>((cI 1) ρ).bind jA)) (aa (gv 10) (aa (ab aE (gv 5) (fun ρ=>((aa (gv 0) (aa (fun ρ=>((aa (gv 5) aN) ρ).bind gB) aN)) ρ).bind ak)) aN)))) ρ).bind bh))))))))
  (bG (gv 6)))))))
noncomputable def iZ:List PV→M PV:=j7 4 15 iK
noncomputable def jK:af→M Fl:=(bG (fun ρ=>((aa (aX (fun ρ=>((gv 0) ρ).bind rK)) aN) ρ).bind nr))
noncomputable def f7:List PV→M PV:=j7 1 1 jK
noncomputable def jH:af→M Fl:=(aB (aH 4 (aX (cx [none,some 1,some 2,some 3] (fun ρ=>((gv 0) ρ).bind ba) (aL 0) (gF (bf (ab (eI false) (ab aE (gv 0) (cI 0)) (gv 1))) (gF (bf (ab (eI false) (ab aE (gv 0) (cI 3)) (gv 2))) (bf (ab j6 (ab aE (gv 0) (cI 2)) (gv 3))))) (gv 0))))
  (bG (fun ρ=>((gv 4) ρ).bind Ab)))
noncomputable def fh:List PV→M PV:=j7 4 5 jH
noncomputable def iL:af→M Fl:=(aB (gz (bf (ab (eI false) (ab aE (gv 2) (cI 0)) (cS "hours")))
  (bG (chain j6 tW (ab aE (gv 2) (cI 1)) (gv 3) (ab aE (gv 2) (cI 2))))
  (fun ρ=>M.ret (.nx ρ)))
  (aB (gz (bf (ab (eI false) (ab aE (gv 2) (cI 0)) (cS "looked")))
  (aB (aH 5 (fun ρ=>((aa (gv 0) (aa (cS "look") (aa (gv 1) (aa (gv 3) aN)))) ρ).bind fh))
  (bG (jk (ab (rh true) (gv 5) (fun _=>M.ret .aW)) (ab tW (gv 3) (ab cZ (ab aE (gv 5) (cI 2)) (ab aE (gv 2) (cI 1)))))))
  (fun ρ=>M.ret (.nx ρ)))
  (aB (gz (bf (ab (qh false) (ab aE (gv 2) (cI 0)) (fun ρ=>((aa (cS "least") (aa (cS "most") aN)) ρ).bind bh)))
  (aB (aH 6 (fun ρ=>((aa (gv 0) (aa (cS "read") (aa (ab aE (gv 2) (cI 1)) (aa (gv 3) aN)))) ρ).bind fh))
  (aB (gz (bf (ab (rh false) (gv 6) (fun _=>M.ret .aW)))
  (bG (fun _=>M.ret (.bl false)))
  (fun ρ=>M.ret (.nx ρ)))
  (bG (AH (bf (ab (eI false) (ab aE (gv 2) (cI 0)) (cS "least"))) (ab K3 (ab aE (gv 6) (cI 4)) (ab aE (gv 2) (cI 2))) (ab j6 (ab aE (gv 6) (cI 4)) (ab aE (gv 2) (cI 2)))))))
  (fun ρ=>M.ret (.nx ρ)))
  (bG (jk (ab (eI false) (ab aE (gv 2) (cI 0)) (cS "with")) (ab (qh false) (ab aE (gv 2) (cI 1)) (gv 4)))))))
noncomputable def gy:List PV→M PV:=j7 5 7 iL
noncomputable def iI:af→M Fl:=(aB (aH 3 (fun ρ=>((aa (gv 0) (aa (cS "rule") (aa (gv 1) (aa (gv 2) aN)))) ρ).bind fh))
  (bG (AH (bf (ab (rh false) (gv 3) (fun _=>M.ret .aW))) (fun ρ=>(aN ρ).bind bh) (ab aE (gv 3) (cI 4)))))
noncomputable def eF:List PV→M PV:=j7 3 4 iI
noncomputable def jI:af→M Fl:=(aB (aH 3 (aX (cx [none,some 1,some 2] (fun ρ=>((ab aE (gv 0) (cI 0)) ρ).bind ba) (aL 0) eS (fun ρ=>((aa (ab aE (gv 0) (cI 0)) (aa (fun ρ=>((aa (gv 1) (aa (ab aE (gv 0) (cI 0)) (aa (gv 2) aN))) ρ).bind eF) aN)) ρ).bind bh))))
  (aB (aH 4 (fun _=>M.ret .aW))
  (aB (jg 5 (fun ρ=>(aN ρ).bind bc))
  (aB (zo (bf (ab (eI true) (gv 4) (gb 5))) (aB (CF (aH 4 (gv 5)))
  (aB (jg 5 (fun ρ=>(aN ρ).bind bc))
  (bF (fun ρ=>((gv 3) ρ).bind ba) (gJ [6,7])
  (gz (bf (fun ρ=>((aa (aX (cx [none,some 1,some 6,some 2,some 4] (fun ρ=>((gv 7) ρ).bind ba) (aL 0) eS (fun ρ=>((aa (gv 1) (aa (gv 2) (aa (gv 0) (aa (gv 3) (aa (gv 4) aN))))) ρ).bind gy))) aN) ρ).bind m8))
  (eC 5 (gv 6))
  (fun ρ=>M.ret (.nx ρ)))))) 1000)
  (bG (gv 5))))))
noncomputable def f6:List PV→M PV:=j7 3 8 jI
noncomputable def jF:af→M Fl:=(aB (jg 2 (fun ρ=>(aN ρ).bind bc))
  (aB (bF (fun ρ=>((aa (gv 0) aN) ρ).bind CQ) (gJ [3,4])
  (gz (bf (ab (qh false) (gv 1) (gv 4)))
  (gz (gF (bf (ab (eI true) (gb 2) (aX (fun ρ=>(aN ρ).bind bc)))) (bf (ab (eI false) (ab aE (ab aE (gb 2) (fun ρ=>((cI 1) ρ).bind jA)) (cI 1)) (gv 3))))
  (uK 2 (fun ρ=>((cI 1) ρ).bind jA) (fun ρ=>((aa (ab aE (ab aE (gb 2) (fun ρ=>((cI 1) ρ).bind jA)) (cI 0)) (aa (ab cZ (gv 3) (cI 1)) aN)) ρ).bind bh))
  (eC 2 (fun ρ=>((aa (gv 3) (aa (ab cZ (gv 3) (cI 1)) aN)) ρ).bind bh)))
  (fun ρ=>M.ret (.nx ρ))))
  (bG (fun ρ=>((aa (gv 2) aN) ρ).bind nr))))
noncomputable def iu:List PV→M PV:=j7 2 5 jF
noncomputable def iJ:af→M Fl:=(aB (aH 2 (fun ρ=>((aa (gv 1) aN) ρ).bind f7))
  (aB (aH 3 (aX (cx [none,some 0,some 1] (fun ρ=>((aa (ab cZ (ab aE (gv 0) (cI 2)) (cI 1)) aN) ρ).bind dH) (aL 0) eS (fun ρ=>((aa (gv 1) (aa (gv 2) (aa (gv 0) aN))) ρ).bind f6))))
  (aB (bF (fun ρ=>((ab aE (gv 0) (cI 0)) ρ).bind ba) (aL 4)
  (gz (bf (ab (eI true) (fun ρ=>((aa (fun ρ=>((aa (gv 0) (aa (gv 2) (aa (ab aE (gv 4) (cI 0)) aN))) ρ).bind jW) aN) ρ).bind oB) (fun ρ=>((aa (fun ρ=>((aa (gv 3) (aa (ab aE (gv 4) (cI 0)) aN)) ρ).bind iu) aN) ρ).bind oB)))
  (bG (fun _=>M.ret (.bl false)))
  (fun ρ=>M.ret (.nx ρ))))
  (bG (fun _=>M.ret (.bl true))))))
noncomputable def gx:List PV→M PV:=j7 2 5 iJ
noncomputable def p6:af→M Fl:=(aB (AU [2,3,4] (fun ρ=>((aa (gv 1) (aa (cI 6) (aa (cI 1) aN))) ρ).bind jY))
  (aB (aH 5 (fun ρ=>((aa (gv 2) (aa (gv 3) (aa (fun ρ=>((aa (gv 4) (aa (cI 20) aN)) ρ).bind p5) aN))) ρ).bind bh))
  (aB (aH 6 (fun ρ=>((aa (gv 1) (aa (gv 5) (aa (cI 1) (aa (fun ρ=>((aa (gv 1) (aa (cI 13) aN)) ρ).bind ak) aN)))) ρ).bind iZ))
  (aB (aH 7 (fun ρ=>((aa (gv 5) (aa (fun ρ=>((aa (gv 6) aN) ρ).bind f7) (aa (ab aE (ab aE (gv 2) (cI 0)) (cI 0)) aN))) ρ).bind jW))
  (aB (gz (Eb (vc (bf (fun ρ=>((aa (gv 5) (aa (gv 6) aN)) ρ).bind gx))) (vc (bf (fun ρ=>((aa (gv 5) (aa (DL Fv (gv 6) (fun ρ=>((cI 1) ρ).bind fun y=>(vC y).bind fun i=>M.ret (some i)) (fun _=>M.ret none)) aN)) ρ).bind gx))))
  (bG (fun _=>M.ret (.bl false)))
  (fun ρ=>M.ret (.nx ρ)))
  (bG (ab (eI false) (fun ρ=>((aa (gv 5) (aa (fun ρ=>((aa (gv 6) aN) ρ).bind f7) (aa (ab aE (ab aE (gv 2) (cI 0)) (cI 0)) aN))) ρ).bind jW) (gv 7))))))))
section
variable {P:Program} {w:World} {K:Frag} {mg:Str→Option Value} {base:Heap} {aZ:Km} {dZ:Kj} (T:Txt K mg aZ dZ)
variable (G_law_pick:bL P w K mg base fS 1 aZ.lT dZ.xC ["_law_state","_law_many"] (jq (fe aZ.au aZ.ar K) ak)) (kb:K.In base) (hB:Dq base mg)
include T G_law_pick kb hB
theorem jy:bL P w K mg base fS 1 aZ.fv dZ.oP ["book","kind","name","t"] (jq (fe aZ.au aZ.ar K) eG):=by
 have eb:=Eq.refl (aw du)
 conv at eb=>rhs;whnf
 have es:=Eq.refl (ae du)
 conv at es=>rhs;whnf
 refine bK (N:=["book","kind","name","t","found","page"]) (ps:=["book","kind","name","t"]) (k:=0) (m:=iM) rfl T.cu.F gM (by decide) eb es fun cdv A outer s H E hr=>?_
 unfold iM
 exact(aq (aP (aK (i:=4) gM.nd rfl (Or.inl rfl) dC))
  (aq (i4 (ip PassesOwn.never rfl (vB (vn 0)) (g8 (aM (i:=5) gM.nd rfl (Or.inl rfl))) (aC (cR (cU (WV.t (ka (aO (bU hr.units) (cM false) (EV.b (xi (vb 5) ib)) (vb 1) (aF _)) (ka (aO (bU hr.units) (cM false) (EV.b (xi (vb 5) ib)) (vb 2) (aF _)) (kQ (aO kz kx (EV.b (xi (vb 5) ib)) (vb 3) (aF _)))))) (aC (aP (aK (i:=4) gM.nd rfl (Or.inl rfl) (vn 5)))) bR)))))
  (aC (aT (aU (vn 4))))))
theorem xj:bL P w K mg base fS 2 aZ.h9 dZ.sF ["book","post","t"] (jq (fe aZ.au aZ.ar K) ic):=by
 have G_last_page:=jy T G_law_pick kb hB
 have eb:=Eq.refl (aw fj)
 conv at eb=>rhs;whnf
 have es:=Eq.refl (ae fj)
 conv at es=>rhs;whnf
 refine bK (N:=["book","post","t","page"]) (ps:=["book","post","t"]) (k:=1) (m:=kZ) rfl T.lh.F pS (by decide) eb es fun cdv A outer s H E hr=>?_
 unfold kZ
 exact(aq (aP (aK (i:=3) pS.nd rfl (Or.inl rfl) (ay (ax G_last_page (hr.mono (by decide)) rfl T.cu.m T.cu.F.kp T.cu.b .nil aJ (a4 (vn 0) bb (vn 1) (vn 2))))))
  (aC (aT (aU (sv (aO lO lN (vb 3) (EV.b dC) (aF _)) dC (xi (vb 3) ib))))))
theorem uY:bL P w K mg base fS 2 aZ.fZ dZ.qz ["book","w","t"] (jq (fe aZ.au aZ.ar K) fg):=by
 have G_last_page:=jy T G_law_pick kb hB
 have eb:=Eq.refl (aw d5)
 conv at eb=>rhs;whnf
 have es:=Eq.refl (ae d5)
 conv at es=>rhs;whnf
 refine bK (N:=["book","w","t","page"]) (ps:=["book","w","t"]) (k:=1) (m:=jC) rfl T.jQ.F oz (by decide) eb es fun cdv A outer s H E hr=>?_
 unfold jC
 exact(aq (aP (aK (i:=3) oz.nd rfl (Or.inl rfl) (ay (ax G_last_page (hr.mono (by decide)) rfl T.cu.m T.cu.F.kp T.cu.b .nil aJ (a4 (vn 0) bb (vn 1) (vn 2))))))
  (aC (aT (aU (sv (aO lO lN (vb 3) (EV.b dC) (aF _)) (cP aA) (xi (vb 3) ib))))))
theorem tO:bL P w K mg base fS 2 aZ.fu dZ.oO ["book","w","t"] (jq (fe aZ.au aZ.ar K) eE):=by
 have G_last_page:=jy T G_law_pick kb hB
 have eb:=Eq.refl (aw df)
 conv at eb=>rhs;whnf
 have es:=Eq.refl (ae df)
 conv at es=>rhs;whnf
 refine bK (N:=["book","w","t","page"]) (ps:=["book","w","t"]) (k:=1) (m:=iG) rfl T.iQ.F mw (by decide) eb es fun cdv A outer s H E hr=>?_
 unfold iG
 exact(aq (aP (aK (i:=3) mw.nd rfl (Or.inl rfl) (ay (ax G_last_page (hr.mono (by decide)) rfl T.cu.m T.cu.F.kp T.cu.b .nil aJ (a4 (vn 0) bb (vn 1) (vn 2))))))
  (aC (aT (aU (sv (aO lO lN (vb 3) (EV.b dC) (aF _)) dC (xi (vb 3) ib))))))
theorem qV:bL P w K mg base fS 3 aZ.eM dZ.mU ["book","rule","t"] (jq (fe aZ.au aZ.ar K) dG):=by
 have G_reading:=xj T G_law_pick kb hB
 have eb:=Eq.refl (aw cG)
 conv at eb=>rhs;whnf
 have es:=Eq.refl (ae cG)
 conv at es=>rhs;whnf
 refine bK (N:=["book","rule","t","word","post","n","value"]) (ps:=["book","rule","t"]) (k:=2) (m:=fE) rfl T.hE.F eW (by decide) eb es fun cdv A outer s H E hr=>?_
 unfold fE
 exact(aq (A6 (ks:=[3,4,5]) (xN (vn 1) (qD rfl (dM (aM (i:=3) eW.nd rfl (Or.inl rfl)) (dM (aM (i:=4) eW.nd rfl (Or.inl rfl)) (dM (aM (i:=5) eW.nd rfl (Or.inl rfl)) mZ))))))
  (aq (aP (aK (i:=6) eW.nd rfl (Or.inl rfl) (ay (ax G_reading (hr.mono (by decide)) rfl T.lh.m T.lh.F.kp T.lh.b .nil aJ (a3 (vn 0) (vn 4) (vn 2))))))
  (aq (cR (cU (aO lO lN (vb 6) (EV.b dC) (aF _)) (aC (aT (aU qo))) bR))
  (aC (aT (aU (sv (aO (bU hr.units) (cM false) (vb 3) (EV.b bb) (aF _)) (ff B4 FH (vb 6) (vb 5) (aF _)) (ff kz kx (vb 6) (vb 5) (aF _)))))))))
theorem qW:bL P w K mg base fS 3 aZ.eN dZ.mV ["book","way","n","t"] (jq (fe aZ.au aZ.ar K) cb):=by
 have G_looked_at:=tO T G_law_pick kb hB
 have eb:=Eq.refl (aw cJ)
 conv at eb=>rhs;whnf
 have es:=Eq.refl (ae cJ)
 conv at es=>rhs;whnf
 refine bK (N:=["book","way","n","t","m"]) (ps:=["book","way","n","t"]) (k:=2) (m:=eK) rfl T.hM.F lG (by decide) eb es fun cdv A outer s H E hr=>?_
 unfold eK
 exact(aq (aP (aK (i:=4) lG.nd rfl (Or.inl rfl) (ay (ax G_looked_at (hr.mono (by decide)) rfl T.iQ.m T.iQ.F.kp T.iQ.b .nil aJ (a3 (vn 0) (xi (vb 1) ib) (vn 3))))))
  (aC (aT (aU (qp (ff (bU hr.units) (cM false) (EV.b (xi (vb 1) ib)) (EV.b bb) (aF _)) (qp (ff mE mC (vb 4) (EV.b dC) (aF _)) (ua (ff lI lH (vb 3) (EV.b (bt cB dQ (vb 4) (vb 2))) (aF _)))))))))
theorem p3:bL P w K mg base fS 4 aZ.dO dZ.lK ["book","way","rule","t"] (jq (fe aZ.au aZ.ar K) a7):=by
 have G_post_holds:=qV T G_law_pick kb hB
 have G_look_holds:=qW T G_law_pick kb hB
 have eb:=Eq.refl (aw cg)
 conv at eb=>rhs;whnf
 have es:=Eq.refl (ae cg)
 conv at es=>rhs;whnf
 refine bK (N:=["book","way","rule","t","word"]) (ps:=["book","way","rule","t"]) (k:=3) (m:=cm) rfl T.gf.F kq (by decide) eb es fun cdv A outer s H E hr=>?_
 unfold cm
 exact(aq (aP (aK (i:=4) kq.nd rfl (Or.inl rfl) (xi (vb 2) ib)))
  (aq (cR (cU (aO (bU hr.units) (cM false) (vb 4) (EV.b bb) (aF _)) (aC (aT (aU (vJ kz kx lI lH (EV.b (xi (vb 2) ib)) (vb 3) (EV.b (xi (vb 2) ib)))))) bR))
  (aq (cR (cU (WV.t (AK (aO (bU hr.units) (cM false) (vb 4) (EV.b bb) (aF _)) (wz (aO (bU hr.units) (cM false) (vb 4) (EV.b bb) (aF _))))) (aC (aT (aU (ay (ax G_post_holds (hr.mono (by decide)) rfl T.hE.m T.hE.F.kp T.hE.b .nil aJ (a3 (vn 0) (vn 2) (vn 3))))))) bR))
  (aq (cR (cU (aO (bU hr.units) (cM false) (vb 4) (EV.b bb) (aF _)) (aC (aT (aU (ay (ax G_look_holds (hr.mono (by decide)) rfl T.hM.m T.hM.F.kp T.hM.b .nil aJ (a4 (vn 0) (vn 1) (xi (vb 2) ib) (vn 3))))))) bR))
  (aC (aT (aU qo)))))))
theorem oY:bL P w K mg base fS 5 aZ.cX dZ.kL ["book","way","t"] (jq (fe aZ.au aZ.ar K) bJ):=by
 have G_rules_at:=uY T G_law_pick kb hB
 have G_holds_alone:=p3 T G_law_pick kb hB
 have eb:=Eq.refl (aw bu)
 conv at eb=>rhs;whnf
 have es:=Eq.refl (ae bu)
 conv at es=>rhs;whnf
 refine bK (N:=["book","way","t","rules"]) (ps:=["book","way","t"]) (k:=4) (m:=fF) rfl T.fJ.F jZ (by decide) eb es fun cdv A outer s H E hr=>?_
 unfold fF
 exact(aq (aP (aK (i:=3) jZ.nd rfl (Or.inl rfl) (ay (ax G_rules_at (hr.mono (by decide)) rfl T.jQ.m T.jQ.F.kp T.jQ.b .nil aJ (a3 (vn 0) (xi (vb 1) ib) (vn 2))))))
  (aq (cR (cU (wB (pJ (a8 (bz (qB rfl) rfl T.Cg PyProof.Rows.boot_all (aG (EV.b (EF.v (kJ (kM (aS.tV (N:=["rule","book","way","t"]) (js:=[none,some 0,some 1,some 2]) (ae bu) ["book","way","t","rules"] rfl rfl (by decide +kernel)) rfl (mJ (vb 3)) (fun _ _ _ _=>(bY (aM (i:=0) (by decide:(["rule","book","way","t"]:List Str).Nodup) rfl (Or.inl rfl)))) (fun _ _ _ _=>(jm (aO (tJ hr.units) (cM true) (EV.b (xi (vb 0) ib)) (EV.b bb) (aF _)))) (fun _ _ _ _=>(ay (ax G_holds_alone (hr.mono (by decide)) rfl T.gf.m T.gf.F.kp T.gf.b .nil aJ (a4 (vn 1) (vn 2) (vn 0) (vn 3))))))))) bg)) xF))) (aC (aT (aU dC))) bR))
  (aC (aT (aU (EF.v (kJ (kM (aS.tV (N:=["rule"]) (js:=[none]) (ae bu) ["book","way","t","rules"] rfl rfl (by decide +kernel)) rfl (mJ (vb 3)) (fun _ _ _ _=>(bY (aM (i:=0) (by decide:(["rule"]:List Str).Nodup) rfl (Or.inl rfl)))) (fun _ _ _ _=>(jm (aO (bU hr.units) (cM false) (EV.b (xi (vb 0) ib)) (EV.b bb) (aF _)))) (fun _ _ _ _=>(xi (vb 0) ib))))))))))
theorem qZ:bL P w K mg base fS 1 aZ.eO dZ.mW ["asked"] (jq (fe aZ.au aZ.ar K) fR):=by
 have eb:=Eq.refl (aw bX)
 conv at eb=>rhs;whnf
 have es:=Eq.refl (ae bX)
 conv at es=>rhs;whnf
 refine bK (N:=["asked","found","before","name"]) (ps:=["asked"]) (k:=0) (m:=gX) rfl T.hZ.F eX (by decide) eb es fun cdv A outer s H E hr=>?_
 unfold gX
 exact(aq (yd (aK (i:=1) eX.nd rfl (Or.inr rfl) ⟨uT⟩))
  (aq (aP (aK (i:=2) eX.nd rfl (Or.inl rfl) (kI (oR ke ib))))
  (aq (uB 1000 (v8 PassesOwn.never (aO lI lH (vb 2) (EV.b (a8 (bz dD rfl T.mG PySem.boot_len (aG (fb 1 (bv 1)) bg)) jP)) (aF _)) (aq (aP (aK (i:=2) eX.nd rfl (Or.inl rfl) (a8 (bz dD rfl T.mG PySem.boot_len (aG (fb 1 (bv 1)) bg)) jP)))
  (aC (DB (E5 PassesOwn.never rfl (vn 0) (g8 (aM (i:=3) eX.nd rfl (Or.inl rfl))) (aC (cR (cU (pJ (a8 (bz (qB rfl) rfl T.Cg PyProof.Rows.boot_all (aG (EV.b (EF.v (kJ (kM (aS.tV (N:=["other","found"]) (js:=[none,some 1]) (ae bX) ["asked","found","before","name"] rfl rfl (by decide +kernel)) rfl (mJ (EV.b (E9 (r9 hr) (vb 0) (vb 3) (fun _ _=>rfl)))) (fun _ _ _ _=>(bY (aM (i:=0) (by decide:(["other","found"]:List Str).Nodup) rfl (Or.inl rfl)))) (fun _ _ _ _=>i3) (fun _ _ _ _=>(HF (r9 hr) (vb 0) (fb 1 (bv 1)) rfl)))))) bg)) xF)) (aC (yc (k:=1) (za (r9 hr) (bv 1) (vb 3) qo))) bR)))))))))
  (aC (aT (aU (vn 1)))))))
theorem tN:bL P w K mg base fS 6 aZ.ft dZ.oN ["hill","book","t"] (jq (fe aZ.au aZ.ar K) eD):=by
 have G_found_open:=qZ T G_law_pick kb hB
 have G_others_asked:=oY T G_law_pick kb hB
 have eb:=Eq.refl (aw cH)
 conv at eb=>rhs;whnf
 have es:=Eq.refl (ae cH)
 conv at es=>rhs;whnf
 refine bK (N:=["hill","book","t","asked","way","others","found"]) (ps:=["hill","book","t"]) (k:=5) (m:=iF) rfl T.iP.F fC (by decide) eb es fun cdv A outer s H E hr=>?_
 unfold iF
 exact(aq (yd (aK (i:=3) fC.nd rfl (Or.inl rfl) ⟨uT⟩))
  (aq (i4 (ip PassesOwn.never rfl (vB (xi (vb 0) ib)) (g8 (aM (i:=4) fC.nd rfl (Or.inl rfl))) (aq (aP (aK (i:=5) fC.nd rfl (Or.inl rfl) (ay (ax G_others_asked (hr.mono (by decide)) rfl T.fJ.m T.fJ.F.kp T.fJ.b .nil aJ (a3 (vn 1) (vn 4) (vn 2))))))
  (aC (cR (cU (aO mE mC (vb 5) (EV.b dC) (aF _)) (aC (yc (k:=3) (za (r9 hr) (bv 3) (EV.b (xi (vb 4) ib)) (vn 5)))) bR))))))
  (aq (A7 (aP (aK (i:=6) fC.nd rfl (Or.inr rfl) (ay (ax G_found_open (hr.mono (by decide)) rfl T.hZ.m T.hZ.F.kp T.hZ.b .nil aJ (ah (vn 3) aA))))))
  (aC (aT (aU (a8 (fo dN rfl T.kY PyProof.Rows.boot_tuple (aG (EV.b (EF.v (kJ (kM (aS.tV (N:=["way","found"]) (js:=[none,some 6]) (ae cH) ["hill","book","t","asked","way","others","found"] rfl rfl (by decide +kernel)) rfl (mJ (EV.b (xi (vb 0) ib))) (fun _ _ _ _=>(bY (aM (i:=0) (by decide:(["way","found"]:List Str).Nodup) rfl (Or.inl rfl)))) (fun _ _ _ _=>(jm (Gf (r9 hr) (EV.b (xi (vb 0) ib)) (vb 1) rfl))) (fun _ _ _ _=>(xi (vb 0) ib)))))) bg)) nY)))))))
theorem qU:bL P w K mg base fS 1 aZ.eL dZ.mT ["book","w","rule"] (jq (fe aZ.au aZ.ar K) bZ):=by
 have eb:=Eq.refl (aw bW)
 conv at eb=>rhs;whnf
 have es:=Eq.refl (ae bW)
 conv at es=>rhs;whnf
 refine bK (N:=["book","w","rule"]) (ps:=["book","w","rule"]) (k:=0) (m:=eJ) rfl T.g9.F qQ (by decide) eb es fun cdv A outer s H E hr=>?_
 unfold eJ
 exact(aq (cR (cU (aO (bU hr.units) (cM false) (EV.b (xi (vb 2) ib)) (EV.b bb) (aF _)) (aC (aT (aU (EF.v (cC (ah (xi (vb 2) ib) (ah (xi (vb 2) ib) aA))))))) bR))
  (aq (cR (cU (aO (bU hr.units) (cM false) (EV.b (xi (vb 2) ib)) (EV.b bb) (aF _)) (aC (aT (aU (EF.v (kJ (kM (aS.tV (N:=["page","rule","w"]) (js:=[none,some 2,some 1]) (ae bW) ["book","w","rule"] rfl rfl (by decide +kernel)) rfl (mJ (vb 0)) (fun _ _ _ _=>(bY (aM (i:=0) (by decide:(["page","rule","w"]:List Str).Nodup) rfl (Or.inl rfl)))) (fun _ _ _ _=>(jm (WV.t (ka (aO (bU hr.units) (cM false) (EV.b (xi (vb 0) ib)) (EV.b bb) (aF _)) (kQ (aO (bU hr.units) (cM false) (EV.b (xi (vb 0) ib)) (vb 2) (aF _))))))) (fun _ _ _ _=>(bt cB dQ (EV.b (xi (vb 0) ib)) (EV.b (xi (vb 1) ib)))))))))) bR))
  (aC (aT (aU (EF.v (cC aA)))))))
theorem B6:bL P w K mg base fS 2 aZ.lx dZ.y6 ["hill","book"] (jq (fe aZ.au aZ.ar K) pH):=by
 have G_rule_turns:=qU T G_law_pick kb hB
 have eb:=Eq.refl (aw gN)
 conv at eb=>rhs;whnf
 have es:=Eq.refl (ae gN)
 conv at es=>rhs;whnf
 refine bK (N:=["hill","book","found","page","rule"]) (ps:=["hill","book"]) (k:=1) (m:=pq) rfl T.pG.F mr (by decide) eb es fun cdv A outer s H E hr=>?_
 unfold pq
 exact(aq (jn (aK (i:=2) mr.nd rfl (Or.inl rfl) (cC (ah aV aA))))
  (aq (i4 (ip PassesOwn.never rfl (vB (vn 1)) (g8 (aM (i:=3) mr.nd rfl (Or.inl rfl))) (aq (ie (k:=2) (fc (jh Mi Mm Ml cD (bv 2) (dW (xi (vb 3) ib) fK))))
  (aC (cR (cU (aO (bU hr.units) (cM false) (EV.b (xi (vb 3) ib)) (EV.b bb) (aF _)) (aC (i4 (ip PassesOwn.never rfl (vB (xi (vb 3) ib)) (g8 (aM (i:=4) mr.nd rfl (Or.inl rfl))) (aC (Gq (k:=2) (fc (jh Mi PySem.F.slot_list_extend AW zZ (bv 2) (dW (ay (ax G_rule_turns (hr.mono (by decide)) rfl T.g9.m T.g9.F.kp T.g9.b .nil aJ (a3 (vn 1) (xi (vb 3) ib) (vn 4)))) fK)))))))) bR))))))
  (aC (aT (aU (EF.v (As (bz (xK rfl) rfl T.vo PyProof.Rows.boot_sorted (dW (JH (aS.tV (N:=["m","hill"]) (js:=[none,some 0]) (ae gN) ["hill","book","found","page","rule"] rfl rfl (by decide +kernel)) rfl (mJ (vb 2)) (fun _ _ _ _=>(bY (aM (i:=0) (by decide:(["m","hill"]:List Str).Nodup) rfl (Or.inl rfl)))) (fun _ _ _ _=>(jm (AX kz kx kz kx ib (vb 0) (EV.b (xi (vb 1) ib))))) (fun _ _ _ _=>(vn 0))) fK)))))))))
theorem tM:bL P w K mg base fS 7 aZ.fq dZ.oM ["hill","book"] (jq (fe aZ.au aZ.ar K) iY):=by
 have G_open_ways:=tN T G_law_pick kb hB
 have G_turns:=B6 T G_law_pick kb hB
 have eb:=Eq.refl (aw cF)
 conv at eb=>rhs;whnf
 have es:=Eq.refl (ae cF)
 conv at es=>rhs;whnf
 refine bK (N:=["hill","book"]) (ps:=["hill","book"]) (k:=6) (m:=iE) rfl T.iO.F sY (by decide) eb es fun cdv A outer s H E hr=>?_
 unfold iE
 exact(aC (aT (aU (EF.v (kJ (kM (aS.tV (N:=["m","hill","book"]) (js:=[none,some 0,some 1]) (ae cF) ["hill","book"] rfl rfl (by decide +kernel)) rfl (mJ (EV.b (ay (ax G_turns (hr.mono (by decide)) rfl T.pG.m T.pG.F.kp T.pG.b .nil aJ (ah (vn 0) (ah (vn 1) aA)))))) (fun _ _ _ _=>(bY (aM (i:=0) (by decide:(["m","hill","book"]:List Str).Nodup) rfl (Or.inl rfl)))) (fun _ _ _ _=>i3) (fun _ _ _ _=>(cP (ah (vn 0) (ah (ay (ax G_open_ways (hr.mono (by decide)) rfl T.iP.m T.iP.F.kp T.iP.b .nil aJ (a3 (vn 1) (vn 2) (vn 0)))) aA))))))))))
theorem oX:bL P w K mg base fS 1 aZ.cW dZ.kK ["parts","w","dark"] (jq (fe aZ.au aZ.ar K) fO):=by
 have eb:=Eq.refl (aw bO)
 conv at eb=>rhs;whnf
 have es:=Eq.refl (ae bO)
 conv at es=>rhs;whnf
 refine bK (N:=["parts","w","dark","found","begun","m","names"]) (ps:=["parts","w","dark"]) (k:=0) (m:=fD) rfl T.fI.F bS (by decide) eb es fun cdv A outer s H E hr=>?_
 unfold fD
 exact(aq (jn (aK (i:=3) bS.nd rfl (Or.inl rfl) (cC aA)))
  (aq (aP (aK (i:=4) bS.nd rfl (Or.inl rfl) dC))
  (aq (i4 (ip PassesOwn.never rfl (vB (vn 0)) (xw (ks:=[5,6]) (qD rfl (dM (aM (i:=5) bS.nd rfl (Or.inl rfl)) (dM (aM (i:=6) bS.nd rfl (Or.inl rfl)) mZ)))) (aq (cR (cU (WV.t (ka (aO tK (pY false) (vb 1) (vb 6) rfl) (kQ (aO lO lN (vb 4) (EV.b dC) (aF _))))) (aC (aP (aK (i:=4) bS.nd rfl (Or.inl rfl) (vn 5)))) bR))
  (aC (cR (cU (WV.t (ka (aO nL (pY true) (vb 1) (vb 6) rfl) (kQ (aO mE mC (vb 4) (EV.b dC) (aF _))))) (aq (ie (k:=3) (fc (jh Mi Mm Ml cD (bv 3) (dW (cP (ah (vn 4) (ah (vn 5) aA))) fK))))
  (aC (aP (aK (i:=4) bS.nd rfl (Or.inl rfl) dC)))) bR))))))
  (aq (cR (cU (aO mE mC (vb 4) (EV.b dC) (aF _)) (aC (ie (k:=3) (fc (jh Mi Mm Ml cD (bv 3) (dW (cP (ah (vn 4) (ah (bt cB dQ (vb 2) ib) aA))) fK))))) bR))
  (aC (aT (aU (a8 (fo dN rfl T.kY PyProof.Rows.boot_tuple (aG (vb 3) bg)) nY))))))))
theorem uX:bL P w K mg base fS 8 aZ.ly dZ.y8 ["hill","book","w"] (jq (fe aZ.au aZ.ar K) jW):=by
 have G_spans_within:=oX T G_law_pick kb hB
 have G_stretches:=tM T G_law_pick kb hB
 have eb:=Eq.refl (aw iD)
 conv at eb=>rhs;whnf
 have es:=Eq.refl (ae iD)
 conv at es=>rhs;whnf
 refine bK (N:=["hill","book","w"]) (ps:=["hill","book","w"]) (k:=7) (m:=pz) rfl T.f9.F Bk (by decide) eb es fun cdv A outer s H E hr=>?_
 unfold pz
 exact(aC (aT (aU (ay (ax G_spans_within (hr.mono (by decide)) rfl T.fI.m T.fI.F.kp T.fI.b .nil aJ (a3 (ay (ax G_stretches (hr.mono (by decide)) rfl T.iO.m T.iO.F.kp T.iO.b .nil aJ (ah (vn 0) (ah (vn 1) aA)))) (vn 2) (xi (vb 0) ib)))))))
theorem uZ:bL P w K mg base fS 2 aZ.n8 dZ.CU ["_law_state","_law_taken"] (jq (fe aZ.au aZ.ar K) jX):=by
 have eb:=Eq.refl (aw cA)
 conv at eb=>rhs;whnf
 have es:=Eq.refl (ae cA)
 conv at es=>rhs;whnf
 refine bK (N:=["_law_state","_law_taken","_law_letters","_law_size","_law_word_here"]) (ps:=["_law_state","_law_taken"]) (k:=1) (m:=jE) rfl T.jR.F iA (by decide) eb es fun cdv A outer s H E hr=>?_
 unfold jE
 exact(aq (aP (aK (i:=2) iA.nd rfl (Or.inr rfl) bb))
  (aq (aP (aK (i:=3) iA.nd rfl (Or.inl rfl) (bt cB dQ ib (EV.b (ay (ax G_law_pick (hr.mono (by decide)) rfl T.ag.m T.ag.F.kp T.ag.b .nil aJ (ah (vn 0) (ah aV aA))))))))
  (aq (aP (aK (i:=4) iA.nd rfl (Or.inr rfl) (Jx (jh PySem.F.plainAttrs_str PySem.F.slot_str_join PySem.F.type_str_join Ep (EV.b bb) (aG (EV.b (EF.v (kJ (kM (aS.tV (N:=["_law_k","_law_letters","_law_state"]) (js:=[none,some 2,some 0]) (ae cA) ["_law_state","_law_taken","_law_letters","_law_size","_law_word_here"] rfl rfl (by decide +kernel)) rfl (jL (fY rfl T.jD (aG (vb 3) bg))) (fun _ _ _ _=>(bY (aM (i:=0) (by decide:(["_law_k","_law_letters","_law_state"]:List Str).Nodup) rfl (Or.inl rfl)))) (fun _ _ _ _=>i3) (fun _ _ _ _=>(xi (vb 1) (EV.b (ay (ax G_law_pick (hr.mono (by decide)) rfl T.ag.m T.ag.F.kp T.ag.b .nil aJ (ah (vn 2) (ah aV aA))))))))))) bg)) Eo)))
  (aC (aT (aU (xi (EV.b (EF.v (kJ (kM (aS.tV (N:=["_law_one","_law_taken"]) (js:=[none,some 1]) (ae cA) ["_law_state","_law_taken","_law_letters","_law_size","_law_word_here"] rfl rfl (by decide +kernel)) rfl (mJ (EV.b (EF.v (CT (FV xg (EV.b (EF.v (cC (ah (vn 4) aA)))) (EV.b (EF.v (kJ (kM (aS.tV (N:=["_law_letter","_law_word_here"]) (js:=[none,some 4]) (ae cA) ["_law_state","_law_taken","_law_letters","_law_size","_law_word_here"] rfl rfl (by decide +kernel)) rfl (mJ (vb 2)) (fun _ _ _ _=>(bY (aM (i:=0) (by decide:(["_law_letter","_law_word_here"]:List Str).Nodup) rfl (Or.inl rfl)))) (fun _ _ _ _=>i3) (fun _ _ _ _=>(bt cB dQ (EV.b (vI (wc IH (vb 1) yE (yD ib)) IC)) (vb 0)))))))))))) (fun _ _ _ _=>(bY (aM (i:=0) (by decide:(["_law_one","_law_taken"]:List Str).Nodup) rfl (Or.inl rfl)))) (fun _ _ _ _=>(jm (aO nL (pY true) (vb 0) (vb 1) rfl))) (fun _ _ _ _=>(vn 0)))))) ib)))))))
theorem mF:bL P w K mg base fS 3 aZ.lj dZ.yT ["_law_state","_law_many"] (jq (fe aZ.au aZ.ar K) fw):=by
 have G_law_word:=uZ T G_law_pick kb hB
 have eb:=Eq.refl (aw dh)
 conv at eb=>rhs;whnf
 have es:=Eq.refl (ae dh)
 conv at es=>rhs;whnf
 refine bK (N:=["_law_state","_law_many","_law_found","_law_k"]) (ps:=["_law_state","_law_many"]) (k:=2) (m:=iH) rfl T.cq.F jt (by decide) eb es fun cdv A outer s H E hr=>?_
 unfold iH
 exact(aq (jn (aK (i:=2) jt.nd rfl (Or.inl rfl) (cC aA)))
  (aq (i4 (ip PassesOwn.never rfl (jL (fY rfl T.jD (aG (vb 1) bg))) (g8 (aM (i:=3) jt.nd rfl (Or.inl rfl))) (aC (ie (k:=2) (fc (jh Mi Mm Ml cD (bv 2) (dW (vK (ax G_law_word (hr.mono (by decide)) rfl T.jR.m T.jR.F.kp T.jR.b .nil aJ (aG (vb 0) (aG (fb 2 (bv 2)) bg)))) fK)))))))
  (aC (aT (aU (vn 2))))))
theorem u7:bL P w K mg base fS 4 aZ.oh dZ.CZ ["_law_state","_law_most","_law_scale"] (jq (fe aZ.au aZ.ar K) jY):=by
 have G_law_words:=mF T G_law_pick kb hB
 have eb:=Eq.refl (aw dA)
 conv at eb=>rhs;whnf
 have es:=Eq.refl (ae dA)
 conv at es=>rhs;whnf
 refine bK (N:=["_law_state","_law_most","_law_scale","_law_spots","_law_names","_law_ways","_law_name","_law_kind","_law_ends"]) (ps:=["_law_state","_law_most","_law_scale"]) (k:=3) (m:=jJ) rfl T.jV.F dY (by decide) eb es fun cdv A outer s H E hr=>?_
 unfold jJ
 exact(aq (aP (aK (i:=3) dY.nd rfl (Or.inr rfl) (ay (ax G_law_words (hr.mono (by decide)) rfl T.cq.m T.cq.F.kp T.cq.b .nil aJ (ah (vn 0) (ah (bt cB dQ ib (EV.b (ay (ax G_law_pick (hr.mono (by decide)) rfl T.ag.m T.ag.F.kp T.ag.b .nil aJ (ah (vn 0) (ah aV aA)))))) aA))))))
  (aq (aP (aK (i:=4) dY.nd rfl (Or.inl rfl) (ay (ax G_law_words (hr.mono (by decide)) rfl T.cq.m T.cq.F.kp T.cq.b .nil aJ (ah (vn 0) (ah (bt cB dQ ib (EV.b (ay (ax G_law_pick (hr.mono (by decide)) rfl T.ag.m T.ag.F.kp T.ag.b .nil aJ (ah (vn 0) (ah (vn 1) aA)))))) aA))))))
  (aq (jn (aK (i:=5) dY.nd rfl (Or.inl rfl) (cC aA)))
  (aq (i4 (ip PassesOwn.never rfl (vB (vn 4)) (g8 (aM (i:=6) dY.nd rfl (Or.inl rfl))) (aq (aP (aK (i:=7) dY.nd rfl (Or.inl rfl) (xi (EV.b (EF.v (cC (a4 bb bb bb bb)))) (EV.b (ay (ax G_law_pick (hr.mono (by decide)) rfl T.ag.m T.ag.F.kp T.ag.b .nil aJ (ah (vn 0) (ah aV aA))))))))
  (aq (aP (qH (lX (qC (k:=8) dY.nd rfl (Or.inl rfl) (aS.tV (N:=["_law_k","_law_spots","_law_state"]) (js:=[none,some 3,some 0]) (ae dA) ["_law_state","_law_most","_law_scale","_law_spots","_law_names","_law_ways","_law_name","_law_kind","_law_ends"] rfl rfl (by decide +kernel)) rfl (jL (fY rfl T.jD (aG ib bg))) (fun _ _ _ _=>(bY (aM (i:=0) (by decide:(["_law_k","_law_spots","_law_state"]:List Str).Nodup) rfl (Or.inl rfl)))) (fun _ _ _ _=>i3) (fun _ _ _ _=>(xi (vb 1) (EV.b (ay (ax G_law_pick (hr.mono (by decide)) rfl T.ag.m T.ag.F.kp T.ag.b .nil aJ (ah (vn 2) (ah (a8 (bz dD rfl T.mG PySem.boot_len (aG (vb 1) bg)) jP) aA)))))))))))
  (aC (ie (k:=5) (fc (jh Mi Mm Ml cD (bv 5) (dW (cP (a6 (vn 6) (vn 7) (xi (vb 8) ib) (xi (vb 8) ib) (bt gU gR (vb 2) (EV.b (ay (ax G_law_pick (hr.mono (by decide)) rfl T.ag.m T.ag.F.kp T.ag.b .nil aJ (ah (vn 0) (ah aV aA)))))) (bt gU gR (vb 2) (EV.b (ay (ax G_law_pick (hr.mono (by decide)) rfl T.ag.m T.ag.F.kp T.ag.b .nil aJ (ah (vn 0) (ah aV aA)))))))) fK)))))))))
  (aC (aT (aU (cP (a3 (a8 (fo dN rfl T.kY PyProof.Rows.boot_tuple (aG (vb 5) bg)) nY) (xi (vb 3) (EV.b (ay (ax G_law_pick (hr.mono (by decide)) rfl T.ag.m T.ag.F.kp T.ag.b .nil aJ (ah (vn 0) (ah (a8 (bz dD rfl T.mG PySem.boot_len (aG (vb 3) bg)) jP) aA)))))) (bt gU gR (vb 2) (EV.b (bt cB dQ ib (EV.b (ay (ax G_law_pick (hr.mono (by decide)) rfl T.ag.m T.ag.F.kp T.ag.b .nil aJ (ah (vn 0) (ah aV aA)))))))))))))))))
theorem qY:bL P w K mg base fS 2 aZ.jj dZ.vQ ["_law_state","_law_hill_here","_law_scale"] (jq (fe aZ.au aZ.ar K) fQ):=by
 have eb:=Eq.refl (aw cL)
 conv at eb=>rhs;whnf
 have es:=Eq.refl (ae cL)
 conv at es=>rhs;whnf
 refine bK (N:=["_law_state","_law_hill_here","_law_scale"]) (ps:=["_law_state","_law_hill_here","_law_scale"]) (k:=1) (m:=gW) rfl T.hW.F qR (by decide) eb es fun cdv A outer s H E hr=>?_
 unfold gW
 exact(aC (aT (aU (a8 (bz (nZ rfl) rfl T.Cf PyProof.Rows.boot_min (aG (EV.b (xi (vb 1) ib)) (aG (EV.b (a8 (bz (n6 rfl) rfl T.yG PyProof.Rows.boot_max (aG ib (aG (EV.b (bt cB dQ (EV.b (bt gU gR (vb 2) (EV.b (ay (ax G_law_pick (hr.mono (by decide)) rfl T.ag.m T.ag.F.kp T.ag.b .nil aJ (ah (vn 0) (ah aV aA))))))) (EV.b (xi (EV.b (EF.v (cC (a4 aV aV aV (kI (oR ke ib)))))) (EV.b (ay (ax G_law_pick (hr.mono (by decide)) rfl T.ag.m T.ag.F.kp T.ag.b .nil aJ (ah (vn 0) (ah aV aA))))))))) bg))) ug)) bg))) uf))))
theorem u5:bL P w K mg base fS 2 aZ.oe dZ.CW ["_law_state","_law_hill_here","_law_posts","_law_scale"] (jq (fe aZ.au aZ.ar K) iw):=by
 have eb:=Eq.refl (aw d7)
 conv at eb=>rhs;whnf
 have es:=Eq.refl (ae d7)
 conv at es=>rhs;whnf
 refine bK (N:=["_law_state","_law_hill_here","_law_posts","_law_scale","_law_way","_law_post","_law_value","_law_first","_law_last","_law_other"]) (ps:=["_law_state","_law_hill_here","_law_posts","_law_scale"]) (k:=1) (m:=jG) rfl T.jT.F fi (by decide) eb es fun cdv A outer s H E hr=>?_
 unfold jG
 exact(aq (aP (aK (i:=4) fi.nd rfl (Or.inl rfl) (ay (ax G_law_pick (hr.mono (by decide)) rfl T.ag.m T.ag.F.kp T.ag.b .nil aJ (ah (vn 0) (ah aV aA))))))
  (aq (aP (aK (i:=5) fi.nd rfl (Or.inl rfl) (xi (vb 2) (EV.b (ay (ax G_law_pick (hr.mono (by decide)) rfl T.ag.m T.ag.F.kp T.ag.b .nil aJ (ah (vn 0) (ah (a8 (bz dD rfl T.mG PySem.boot_len (aG (vb 2) bg)) jP) aA))))))))
  (aq (aP (aK (i:=6) fi.nd rfl (Or.inl rfl) (bt xf xc (EV.b (ay (ax G_law_pick (hr.mono (by decide)) rfl T.ag.m T.ag.F.kp T.ag.b .nil aJ (ah (vn 0) (ah aV aA))))) ib)))
  (aq (Gp (HB (i:=7) (j:=8) rfl fi.nd rfl rfl (by decide) rfl rfl (ah (bt gU gR (vb 3) (EV.b (ay (ax G_law_pick (hr.mono (by decide)) rfl T.ag.m T.ag.F.kp T.ag.b .nil aJ (ah (vn 0) (ah aV aA)))))) (ah (bt xf xc (EV.b (bt cB dQ (EV.b (bt gU gR (vb 3) (EV.b (bt cB dQ ib (EV.b (ay (ax G_law_pick (hr.mono (by decide)) rfl T.ag.m T.ag.F.kp T.ag.b .nil aJ (ah (vn 0) (ah aV aA))))))))) (EV.b (ay (ax G_law_pick (hr.mono (by decide)) rfl T.ag.m T.ag.F.kp T.ag.b .nil aJ (ah (vn 0) (ah aV aA))))))) ib) aA)) rfl))
  (aq (aP (aK (i:=9) fi.nd rfl (Or.inl rfl) (xi (EV.b (xi (EV.b (xi (vb 1) ib)) (EV.b (ay (ax G_law_pick (hr.mono (by decide)) rfl T.ag.m T.ag.F.kp T.ag.b .nil aJ (ah (vn 0) (ah (a8 (bz dD rfl T.mG PySem.boot_len (aG (EV.b (xi (vb 1) ib)) bg)) jP) aA))))))) ib)))
  (aq (cR (cU (aO lI lH (vb 4) ib (aF _)) (aC (aT (aU (cP (a3 bb (vn 7) (a8 (bz (nZ rfl) rfl T.Cf PyProof.Rows.boot_min (aG ib (aG (EV.b (bt cB dQ (vb 7) (EV.b (a8 (bz (n6 rfl) rfl T.yG PyProof.Rows.boot_max (aG ib (aG (vb 8) bg))) ug)))) bg))) uf)))))) bR))
  (aq (cR (cU (aO lI lH (vb 4) ib (aF _)) (aC (aT (aU (xi (EV.b (EF.v (cC (ah (cP (a3 bb (vn 5) (vn 6))) (ah (cP (a3 bb (vn 5) (vn 6))) aA))))) (EV.b (bt i9 B0 (vb 4) ib)))))) bR))
  (aq (cR (cU (aO lI lH (vb 4) ib (aF _)) (aC (aT (aU (cP (ah bb (ah (a8 (bz (n6 rfl) rfl T.yG PyProof.Rows.boot_max (aG ib (aG (vb 8) bg))) ug) aA)))))) bR))
  (aC (aT (aU (xi (EV.b (EF.v (cC (ah (cP (ah bb (ah (vn 9) aA))) (ah (cP (ah bb aA)) aA))))) (EV.b (a8 (fo sG rfl T.FJ PyProof.Rows.boot_int (aG (EV.b (qp (ff (bU hr.units) (cM false) (vb 4) ib (aF _)) (ua (ff B3 FG (vb 6) ib (aF _))))) bg)) C2))))))))))))))
theorem qX:bL P w K mg base fS 2 aZ.ji dZ.vP ["_law_state","_law_taken"] (jq (fe aZ.au aZ.ar K) fP):=by
 have eb:=Eq.refl (aw bM)
 conv at eb=>rhs;whnf
 have es:=Eq.refl (ae bM)
 conv at es=>rhs;whnf
 refine bK (N:=["_law_state","_law_taken","_law_number_here","_law_some"]) (ps:=["_law_state","_law_taken"]) (k:=1) (m:=gV) rfl T.hV.F i7 (by decide) eb es fun cdv A outer s H E hr=>?_
 unfold gV
 exact(aq (aP (aK (i:=2) i7.nd rfl (Or.inr rfl) (ay (ax G_law_pick (hr.mono (by decide)) rfl T.ag.m T.ag.F.kp T.ag.b .nil aJ (ah (vn 0) (ah (xi (EV.b (EF.v (cC (ah aV (ah aV aA))))) (EV.b (ay (ax G_law_pick (hr.mono (by decide)) rfl T.ag.m T.ag.F.kp T.ag.b .nil aJ (ah (vn 0) (ah aV aA)))))) aA))))))
  (aq (aP (qH (lX (qC (k:=3) i7.nd rfl (Or.inl rfl) (aS.tV (N:=["_law_k","_law_number_here"]) (js:=[none,some 2]) (ae bM) ["_law_state","_law_taken","_law_number_here","_law_some"] rfl rfl (by decide +kernel)) rfl (jL (fY rfl T.jD (aG ib bg))) (fun _ _ _ _=>(bY (aM (i:=0) (by decide:(["_law_k","_law_number_here"]:List Str).Nodup) rfl (Or.inl rfl)))) (fun _ _ _ _=>i3) (fun _ _ _ _=>(bt i9 B0 (EV.b (bt cB dQ (vb 1) (vb 0))) ib))))))
  (aC (aT (aU (xi (EV.b (EF.v (kJ (kM (aS.tV (N:=["_law_one","_law_taken"]) (js:=[none,some 1]) (ae bM) ["_law_state","_law_taken","_law_number_here","_law_some"] rfl rfl (by decide +kernel)) rfl (mJ (vb 3)) (fun _ _ _ _=>(bY (aM (i:=0) (by decide:(["_law_one","_law_taken"]:List Str).Nodup) rfl (Or.inl rfl)))) (fun _ _ _ _=>(jm (aO nL (pY true) (vb 0) (vb 1) rfl))) (fun _ _ _ _=>(vn 0)))))) ib))))))
theorem tR:bL P w K mg base fS 4 aZ.lr dZ.yW ["_law_state","_law_hill_here","_law_scale","_law_many"] (jq (fe aZ.au aZ.ar K) iZ):=by
 have G_law_words:=mF T G_law_pick kb hB
 have G_law_moment:=qY T G_law_pick kb hB
 have G_law_number:=qX T G_law_pick kb hB
 have G_law_rule:=u5 T G_law_pick kb hB
 have eb:=Eq.refl (aw cf)
 conv at eb=>rhs;whnf
 have es:=Eq.refl (ae cf)
 conv at es=>rhs;whnf
 refine bK (N:=["_law_state","_law_hill_here","_law_scale","_law_many","_law_posts","_law_slopes","_law_pages_here","_law_taken","_law_k","_law_kind","_law_moment_here","_law_name","_law_size","_law_rules_here","_law_value"]) (ps:=["_law_state","_law_hill_here","_law_scale","_law_many"]) (k:=3) (m:=iK) rfl T.iT.F bA (by decide) eb es fun cdv A outer s H E hr=>?_
 unfold iK
 exact(aq (aP (aK (i:=4) bA.nd rfl (Or.inr rfl) (EF.v (CT (FV xg (EV.b (ay (ax G_law_words (hr.mono (by decide)) rfl T.cq.m T.cq.F.kp T.cq.b .nil aJ (ah (vn 0) (ah (bt cB dQ ib (EV.b (ay (ax G_law_pick (hr.mono (by decide)) rfl T.ag.m T.ag.F.kp T.ag.b .nil aJ (ah (vn 0) (ah aV aA)))))) aA))))) (EV.b (bt gU gR (EV.b (EF.v (cC (ah (xi (EV.b (xi (EV.b (xi (vb 1) ib)) ib)) ib) aA)))) (EV.b (ay (ax G_law_pick (hr.mono (by decide)) rfl T.ag.m T.ag.F.kp T.ag.b .nil aJ (ah (vn 0) (ah aV aA))))))))))))
  (aq (aP (qH (lX (qC (k:=5) bA.nd rfl (Or.inl rfl) (aS.tV (N:=["_law_way"]) (js:=[none]) (ae cf) ["_law_state","_law_hill_here","_law_scale","_law_many","_law_posts","_law_slopes","_law_pages_here","_law_taken","_law_k","_law_kind","_law_moment_here","_law_name","_law_size","_law_rules_here","_law_value"] rfl rfl (by decide +kernel)) rfl (mJ (EV.b (xi (vb 1) ib))) (fun _ _ _ _=>(bY (aM (i:=0) (by decide:(["_law_way"]:List Str).Nodup) rfl (Or.inl rfl)))) (fun _ _ _ _=>(jm (aO (bU hr.units) (cM false) (EV.b (xi (vb 0) ib)) (EV.b bb) (aF _)))) (fun _ _ _ _=>(xi (vb 0) ib))))))
  (aq (jn (aK (i:=6) bA.nd rfl (Or.inl rfl) (cC aA)))
  (aq (jn (aK (i:=7) bA.nd rfl (Or.inl rfl) (cC aA)))
  (aq (i4 (ip PassesOwn.never rfl (jL (fY rfl T.jD (aG (vb 3) bg))) (g8 (aM (i:=8) bA.nd rfl (Or.inl rfl))) (aq (aP (aK (i:=9) bA.nd rfl (Or.inl rfl) (ay (ax G_law_pick (hr.mono (by decide)) rfl T.ag.m T.ag.F.kp T.ag.b .nil aJ (ah (vn 0) (ah aV aA))))))
  (aq (aP (aK (i:=10) bA.nd rfl (Or.inl rfl) (bt gU gR (EV.b (ay (ax G_law_moment (hr.mono (by decide)) rfl T.hW.m T.hW.F.kp T.hW.b .nil aJ (a3 (vn 0) (vn 1) (vn 2))))) (EV.b (a8 (fo sG rfl T.FJ PyProof.Rows.boot_int (aG (EV.b (ff B3 FG (EV.b (ay (ax G_law_pick (hr.mono (by decide)) rfl T.ag.m T.ag.F.kp T.ag.b .nil aJ (ah (vn 0) (ah aV aA))))) ib (aF _))) bg)) C2)))))
  (aq (ie (k:=7) (fc (jh Mi Mm Ml cD (bv 7) (dW (vK (ax G_law_number (hr.mono (by decide)) rfl T.hV.m T.hV.F.kp T.hV.b .nil aJ (aG (vb 0) (aG (fb 7 (bv 7)) bg)))) fK))))
  (aC (cR (cU (aO lI lH (vb 9) ib (aF _)) (aq (aP (aK (i:=11) bA.nd rfl (Or.inl rfl) (xi (EV.b (xi (EV.b (xi (vb 1) ib)) (EV.b (ay (ax G_law_pick (hr.mono (by decide)) rfl T.ag.m T.ag.F.kp T.ag.b .nil aJ (ah (vn 0) (ah (a8 (bz dD rfl T.mG PySem.boot_len (aG (EV.b (xi (vb 1) ib)) bg)) jP) aA))))))) ib)))
  (aq (aP (aK (i:=12) bA.nd rfl (Or.inl rfl) (xi (EV.b (EF.v (cC (by refine ah aV ?_;refine ah aV ?_;refine ah aV ?_;refine ah aV ?_;refine ah aV ?_;refine ah aV ?_;refine ah aV ?_;refine ah aV ?_;exact aA)))) (EV.b (ay (ax G_law_pick (hr.mono (by decide)) rfl T.ag.m T.ag.F.kp T.ag.b .nil aJ (ah (vn 0) (ah aV aA))))))))
  (aq (aP (qH (lX (qC (k:=13) bA.nd rfl (Or.inl rfl) (aS.tV (N:=["_law_j","_law_state","_law_hill_here","_law_posts","_law_scale"]) (js:=[none,some 0,some 1,some 4,some 2]) (ae cf) ["_law_state","_law_hill_here","_law_scale","_law_many","_law_posts","_law_slopes","_law_pages_here","_law_taken","_law_k","_law_kind","_law_moment_here","_law_name","_law_size","_law_rules_here","_law_value"] rfl rfl (by decide +kernel)) rfl (jL (fY rfl T.jD (aG (vb 12) bg))) (fun _ _ _ _=>(bY (aM (i:=0) (by decide:(["_law_j","_law_state","_law_hill_here","_law_posts","_law_scale"]:List Str).Nodup) rfl (Or.inl rfl)))) (fun _ _ _ _=>i3) (fun _ _ _ _=>(ay (ax G_law_rule (hr.mono (by decide)) rfl T.jT.m T.jT.F.kp T.jT.b .nil aJ (a4 (vn 1) (vn 2) (vn 3) (vn 4)))))))))
  (aC (ie (k:=6) (fc (jh Mi Mm Ml cD (bv 6) (dW (cP (a5 bb (xi (fb 7 (bv 7)) (EV.b (kI (oR ke ib)))) (vn 10) (vn 11) (a8 (fo dN rfl T.kY PyProof.Rows.boot_tuple (aG (vb 13) bg)) nY))) fK)))))))) (aC (cR (cU (WV.t (AK (aO lI lH (vb 9) ib (aF _)) (wz (aO (bU hr.units) (cM false) (vb 5) (EV.b (EF.v (cC aA))) (aF _))))) (aq (aP (aK (i:=14) bA.nd rfl (Or.inl rfl) (bt gU gR (EV.b (bt xf xc (EV.b (ay (ax G_law_pick (hr.mono (by decide)) rfl T.ag.m T.ag.F.kp T.ag.b .nil aJ (ah (vn 0) (ah aV aA))))) ib)) (EV.b (xi (EV.b (EF.v (cC (a4 aV aV aV (bt GX GR ib ib))))) (EV.b (ay (ax G_law_pick (hr.mono (by decide)) rfl T.ag.m T.ag.F.kp T.ag.b .nil aJ (ah (vn 0) (ah aV aA))))))))))
  (aC (ie (k:=6) (fc (jh Mi Mm Ml cD (bv 6) (dW (cP (a5 bb (xi (fb 7 (bv 7)) (EV.b (kI (oR ke ib)))) (vn 10) (xi (vb 4) (EV.b (ay (ax G_law_pick (hr.mono (by decide)) rfl T.ag.m T.ag.F.kp T.ag.b .nil aJ (ah (vn 0) (ah (a8 (bz dD rfl T.mG PySem.boot_len (aG (vb 4) bg)) jP) aA)))))) (vn 14))) fK)))))) (aC (ie (k:=6) (fc (jh Mi Mm Ml cD (bv 6) (dW (cP (a4 bb (xi (fb 7 (bv 7)) (EV.b (kI (oR ke ib)))) (vn 10) (xi (vb 5) (EV.b (ay (ax G_law_pick (hr.mono (by decide)) rfl T.ag.m T.ag.F.kp T.ag.b .nil aJ (ah (vn 0) (ah (a8 (bz dD rfl T.mG PySem.boot_len (aG (vb 5) bg)) jP) aA)))))))) fK))))))))))))))))
  (aC (aT (aU (vn 6)))))))))
theorem oE:bL P w K mg base fS 4 aZ.lV dZ.xE ["_law_pages_here"] (jq (fe aZ.au aZ.ar K) f7):=by
 have eb:=Eq.refl (aw dB)
 conv at eb=>rhs;whnf
 have es:=Eq.refl (ae dB)
 conv at es=>rhs;whnf
 refine CI (N:=["_law_pages_here"]) (ps:=["_law_pages_here"]) (k:=3) (m:=jK) rfl T.qL uM (by decide) eb es fun A outer s H E hr=>?_
 unfold jK
 exact(aC (aT (aU (a8 (fo dN rfl T.kY PyProof.Rows.boot_tuple (aG (EV.b (EF.v (CS (tb:=(aZ.au,_)) LJ (by intro q hq e;simp only[LU,LV,or_false] at hq;rcases hq with rfl|rfl<;>first|rfl|exact absurd e T.kA) ⟨BP (k:=0) (N:=["_law_page_here"]) (y:="_law_page_here") (hr.mono (by decide)) hB rfl (PySem.W.codeHd_of_K kb T.qL.hd) rfl rfl ⟨rfl,rfl,rfl,by decide,rfl,by decide +kernel,by decide +kernel⟩ (fun _ _ _ _ _=>.of_eq rfl) (fun _ _ _ _ _=>xa (dS (jf qe (pv 0) aY (fun _ _=>rfl)) (dS (jf qe (pv 0) aY (fun _ _=>rfl)) gA))) rfl T.vo (vb 0).out⟩))) bg)) nY))))
theorem oD:bL P w K mg base fS 4 aZ.lU dZ.xD ["_law_pages_here","_law_kind","_law_name","_law_t"] (jq (fe aZ.au aZ.ar K) fh):=by
 have eb:=Eq.refl (aw cN)
 conv at eb=>rhs;whnf
 have es:=Eq.refl (ae cN)
 conv at es=>rhs;whnf
 refine CI (N:=["_law_pages_here","_law_kind","_law_name","_law_t","_law_found"]) (ps:=["_law_pages_here","_law_kind","_law_name","_law_t"]) (k:=3) (m:=jH) rfl T.qK oA (by decide) eb es fun A outer s H E hr=>?_
 unfold jH
 exact(aq (aP (qH (lX (qC (k:=4) oA.nd rfl (Or.inl rfl) (aS.tV (N:=["_law_page_here","_law_kind","_law_name","_law_t"]) (js:=[none,some 1,some 2,some 3]) (ae cN) ["_law_pages_here","_law_kind","_law_name","_law_t","_law_found"] rfl rfl (by decide +kernel)) rfl (mJ (vb 0)) (fun _ _ _ _=>(bY (aM (i:=0) (by decide:(["_law_page_here","_law_kind","_law_name","_law_t"]:List Str).Nodup) rfl (Or.inl rfl)))) (fun _ _ _ _=>(jm (WV.t (ka (aO (bU hr.units) (cM false) (EV.b (xi (vb 0) ib)) (vb 1) (aF _)) (ka (aO (bU hr.units) (cM false) (EV.b (xi (vb 0) ib)) (vb 2) (aF _)) (kQ (aO kz kx (EV.b (xi (vb 0) ib)) (vb 3) (aF _)))))))) (fun _ _ _ _=>(vn 0))))))
  (aC (aT (aU (EU (tb:=(aZ.ar,_)) (LM _ LJ) (by intro q hq e;simp only[LU,LV,or_false] at hq;rcases hq with rfl|rfl<;>first|rfl|exact absurd e T.kC) ⟨D2 (k:=0) (N:=["_law_page_here"]) (y:="_law_page_here") (hr.mono (by decide)) hB rfl (PySem.W.codeHd_of_K kb T.qK.hd) rfl rfl ⟨rfl,rfl,rfl,by decide,rfl,by decide +kernel,by decide +kernel⟩ (fun _ _ _ _ _=>.of_eq rfl) (fun _ _ _ _ _=>xa (dS (jf qe (pv 0) aY (fun _ _=>rfl)) (dS (jf qe (pv 0) aY (fun _ _=>rfl)) gA))) rfl T.yG (vb 4).out⟩)))))
theorem tS:bL P w K mg base fS 5 aZ.lu dZ.yX ["_law_pages_here","_law_name","_law_rule_here","_law_t","_law_opened"] (jq (fe aZ.au aZ.ar K) gy):=by
 have G_law_page:=oD T G_law_pick kb hB
 have eb:=Eq.refl (aw dq)
 conv at eb=>rhs;whnf
 have es:=Eq.refl (ae dq)
 conv at es=>rhs;whnf
 refine bK (N:=["_law_pages_here","_law_name","_law_rule_here","_law_t","_law_opened","_law_look","_law_told"]) (ps:=["_law_pages_here","_law_name","_law_rule_here","_law_t","_law_opened"]) (k:=4) (m:=iL) rfl T.iU.F ju (by decide) eb es fun cdv A outer s H E hr=>?_
 unfold iL
 exact(aq (cR (cU (aO (bU hr.units) (cM false) (EV.b (xi (vb 2) ib)) (EV.b bb) (aF _)) (aC (aT (aU (vJ kz kx lI lH (EV.b (xi (vb 2) ib)) (vb 3) (EV.b (xi (vb 2) ib)))))) bR))
  (aq (cR (cU (aO (bU hr.units) (cM false) (EV.b (xi (vb 2) ib)) (EV.b bb) (aF _)) (aq (aP (aK (i:=5) ju.nd rfl (Or.inl rfl) (ay (ax G_law_page (hr.mono (by decide)) rfl T.dE.m T.dE.F.kp T.dE.b .nil aJ (a4 (vn 0) bb (vn 1) (vn 3))))))
  (aC (aT (aU (qp (ff mE mC (vb 5) (EV.b dC) (aF _)) (ua (ff lI lH (vb 3) (EV.b (bt cB dQ (EV.b (xi (vb 5) ib)) (EV.b (xi (vb 2) ib)))) (aF _)))))))) bR))
  (aq (cR (cU (aO tK (pY false) (EV.b (xi (vb 2) ib)) (EV.b (cP (ah bb (ah bb aA)))) rfl) (aq (aP (aK (i:=6) ju.nd rfl (Or.inl rfl) (ay (ax G_law_page (hr.mono (by decide)) rfl T.dE.m T.dE.F.kp T.dE.b .nil aJ (a4 (vn 0) bb (xi (vb 2) ib) (vn 3))))))
  (aq (cR (cU (aO lO lN (vb 6) (EV.b dC) (aF _)) (aC (aT (aU qo))) bR))
  (aC (aT (aU (sv (aO (bU hr.units) (cM false) (EV.b (xi (vb 2) ib)) (EV.b bb) (aF _)) (ff B4 FH (EV.b (xi (vb 6) ib)) (EV.b (xi (vb 2) ib)) (aF _)) (ff kz kx (EV.b (xi (vb 6) ib)) (EV.b (xi (vb 2) ib)) (aF _)))))))) bR))
  (aC (aT (aU (qp (ff (bU hr.units) (cM false) (EV.b (xi (vb 2) ib)) (EV.b bb) (aF _)) (ua (ff tK (pY false) (EV.b (xi (vb 2) ib)) (vb 4) rfl)))))))))
theorem tP:bL P w K mg base fS 5 aZ.ll dZ.yU ["_law_pages_here","_law_name","_law_t"] (jq (fe aZ.au aZ.ar K) eF):=by
 have G_law_page:=oD T G_law_pick kb hB
 have eb:=Eq.refl (aw dn)
 conv at eb=>rhs;whnf
 have es:=Eq.refl (ae dn)
 conv at es=>rhs;whnf
 refine bK (N:=["_law_pages_here","_law_name","_law_t","_law_told"]) (ps:=["_law_pages_here","_law_name","_law_t"]) (k:=4) (m:=iI) rfl T.iS.F mx (by decide) eb es fun cdv A outer s H E hr=>?_
 unfold iI
 exact(aq (aP (aK (i:=3) mx.nd rfl (Or.inl rfl) (ay (ax G_law_page (hr.mono (by decide)) rfl T.dE.m T.dE.F.kp T.dE.b .nil aJ (a4 (vn 0) bb (vn 1) (vn 2))))))
  (aC (aT (aU (sv (aO lO lN (vb 3) (EV.b dC) (aF _)) (cP aA) (xi (vb 3) ib))))))
theorem u6:bL P w K mg base fS 6 aZ.og dZ.CY ["_law_hill_here","_law_pages_here","_law_t"] (jq (fe aZ.au aZ.ar K) f6):=by
 have G_law_rules:=tP T G_law_pick kb hB
 have G_law_holds:=tS T G_law_pick kb hB
 have eb:=Eq.refl (aw cO)
 conv at eb=>rhs;whnf
 have es:=Eq.refl (ae cO)
 conv at es=>rhs;whnf
 refine bK (N:=["_law_hill_here","_law_pages_here","_law_t","_law_rules_here","_law_before","_law_opened","_law_name","_law_some"]) (ps:=["_law_hill_here","_law_pages_here","_law_t"]) (k:=5) (m:=jI) rfl T.jU.F de (by decide) eb es fun cdv A outer s H E hr=>?_
 unfold jI
 exact(aq (aP (qH (lX (qC (k:=3) de.nd rfl (Or.inl rfl) (aS.tV (N:=["_law_way","_law_pages_here","_law_t"]) (js:=[none,some 1,some 2]) (ae cO) ["_law_hill_here","_law_pages_here","_law_t","_law_rules_here","_law_before","_law_opened","_law_name","_law_some"] rfl rfl (by decide +kernel)) rfl (mJ (EV.b (xi (vb 0) ib))) (fun _ _ _ _=>(bY (aM (i:=0) (by decide:(["_law_way","_law_pages_here","_law_t"]:List Str).Nodup) rfl (Or.inl rfl)))) (fun _ _ _ _=>i3) (fun _ _ _ _=>(cP (ah (xi (vb 0) ib) (ah (ay (ax G_law_rules (hr.mono (by decide)) rfl T.iS.m T.iS.F.kp T.iS.b .nil aJ (a3 (vn 1) (xi (vb 0) ib) (vn 2)))) aA))))))))
  (aq (aP (aK (i:=4) de.nd rfl (Or.inr rfl) dC))
  (aq (jn (aK (i:=5) de.nd rfl (Or.inl rfl) (cC aA)))
  (aq (uB 1000 (v8 PassesOwn.never (aO (tJ hr.units) (cM true) (vb 4) (fb 5 (bv 5)) (aF _)) (aq (A7 (aP (aK (i:=4) de.nd rfl (Or.inr rfl) (vn 5))))
  (aq (jn (aK (i:=5) de.nd rfl (Or.inl rfl) (cC aA)))
  (aC (i4 (ip PassesOwn.never rfl (vB (vn 3)) (xw (ks:=[6,7]) (qD rfl (dM (aM (i:=6) de.nd rfl (Or.inr rfl)) (dM (aM (i:=7) de.nd rfl (Or.inl rfl)) mZ)))) (aC (cR (cU (pJ (a8 (bz (qB rfl) rfl T.Cg PyProof.Rows.boot_all (aG (EV.b (EF.v (kJ (kM (aS.tV (N:=["_law_rule_here","_law_pages_here","_law_name","_law_t","_law_before"]) (js:=[none,some 1,some 6,some 2,some 4]) (ae cO) ["_law_hill_here","_law_pages_here","_law_t","_law_rules_here","_law_before","_law_opened","_law_name","_law_some"] rfl rfl (by decide +kernel)) rfl (mJ (vb 7)) (fun _ _ _ _=>(bY (aM (i:=0) (by decide:(["_law_rule_here","_law_pages_here","_law_name","_law_t","_law_before"]:List Str).Nodup) rfl (Or.inl rfl)))) (fun _ _ _ _=>i3) (fun _ _ _ _=>(ay (ax G_law_holds (hr.mono (by decide)) rfl T.iU.m T.iU.F.kp T.iU.b .nil aJ (a5 (vn 1) (vn 2) (vn 0) (vn 3) (vn 4))))))))) bg)) xF)) (aC (ie (k:=5) (fc (jh Mi Mm Ml cD (bv 5) (dW (vn 6) fK))))) bR))))))))))
  (aC (aT (aU (vn 5))))))))
theorem u4:bL P w K mg base fS 1 aZ.n9 dZ.CV ["_law_table","_law_w"] (jq (fe aZ.au aZ.ar K) iu):=by
 have eb:=Eq.refl (aw d6)
 conv at eb=>rhs;whnf
 have es:=Eq.refl (ae d6)
 conv at es=>rhs;whnf
 refine bK (N:=["_law_table","_law_w","_law_runs_here","_law_t","_law_opened"]) (ps:=["_law_table","_law_w"]) (k:=0) (m:=jF) rfl T.jS.F iB (by decide) eb es fun cdv A outer s H E hr=>?_
 unfold jF
 exact(aq (jn (aK (i:=2) iB.nd rfl (Or.inl rfl) (cC aA)))
  (aq (DA (ip PassesOwn.never rfl (K0 (HD rfl T.oF (ah (vn 0) aA))) (xw (ks:=[3,4]) (qD rfl (dM (aM (i:=3) iB.nd rfl (Or.inl rfl)) (dM (aM (i:=4) iB.nd rfl (Or.inl rfl)) mZ)))) (aC (cR (cU (aO tK (pY false) (vb 1) (vb 4) rfl) (aC (cR (cU (WV.t (ka (aO (tJ hr.units) (cM true) (fb 2 (bv 2)) (EV.b (EF.v (cC aA))) (aF _)) (kQ (aO (bU hr.units) (cM false) (EV.b (xi (EV.b (xi (fb 2 (bv 2)) (EV.b (kI (oR ke ib))))) ib)) (vb 3) (aF _))))) (aC (Dz (k:=2) (xN (cP (ah (xi (EV.b (xi (fb 2 (bv 2)) (EV.b (kI (oR ke ib))))) ib) (ah (bt cB dQ (vb 3) ib) aA))) (HE (bv 2) (EV.b (kI (oR ke ib))) set_list)))) (aC (ie (k:=2) (fc (jh Mi Mm Ml cD (bv 2) (dW (cP (ah (vn 3) (ah (bt cB dQ (vb 3) ib) aA))) fK)))))))) bR)))))
  (aC (aT (aU (a8 (fo dN rfl T.kY PyProof.Rows.boot_tuple (aG (vb 2) bg)) nY))))))
theorem tQ:bL P w K mg base fS 9 aZ.lq dZ.yV ["_law_hill_here","_law_pages_here"] (jq (fe aZ.au aZ.ar K) gx):=by
 have G_law_book:=oE T G_law_pick kb hB
 have G_law_open:=u6 T G_law_pick kb hB
 have G_spans:=uX T G_law_pick kb hB
 have G_law_runs:=u4 T G_law_pick kb hB
 have eb:=Eq.refl (aw cK)
 conv at eb=>rhs;whnf
 have es:=Eq.refl (ae cK)
 conv at es=>rhs;whnf
 refine bK (N:=["_law_hill_here","_law_pages_here","_law_book_here","_law_table","_law_way"]) (ps:=["_law_hill_here","_law_pages_here"]) (k:=8) (m:=iJ) rfl T.eo.F gL (by decide) eb es fun cdv A outer s H E hr=>?_
 unfold iJ
 exact(aq (aP (aK (i:=2) gL.nd rfl (Or.inl rfl) (ay (ax G_law_book (hr.mono (by decide)) rfl T.dF.m T.dF.F.kp T.dF.b .nil aJ (ah (vn 1) aA)))))
  (aq (aP (qH (lX (qC (k:=3) gL.nd rfl (Or.inl rfl) (aS.tV (N:=["_law_t","_law_hill_here","_law_pages_here"]) (js:=[none,some 0,some 1]) (ae cK) ["_law_hill_here","_law_pages_here","_law_book_here","_law_table","_law_way"] rfl rfl (by decide +kernel)) rfl (jL (fY rfl T.jD (aG (EV.b (bt cB dQ (EV.b (xi (vb 0) ib)) ib)) bg))) (fun _ _ _ _=>(bY (aM (i:=0) (by decide:(["_law_t","_law_hill_here","_law_pages_here"]:List Str).Nodup) rfl (Or.inl rfl)))) (fun _ _ _ _=>i3) (fun _ _ _ _=>(ay (ax G_law_open (hr.mono (by decide)) rfl T.jU.m T.jU.F.kp T.jU.b .nil aJ (a3 (vn 1) (vn 2) (vn 0)))))))))
  (aq (i4 (ip PassesOwn.never rfl (vB (xi (vb 0) ib)) (g8 (aM (i:=4) gL.nd rfl (Or.inl rfl))) (aC (cR (cU (aO (tJ hr.units) (cM true) (EV.b (a8 (bz (qA hr.gd hr.units) rfl T.Ce PyProof.Rows.boot_repr (aG (EV.b (ay (ax G_spans (hr.mono (by decide)) rfl T.f9.m T.f9.F.kp T.f9.b .nil aJ (a3 (vn 0) (vn 2) (xi (vb 4) ib))))) bg)) vW)) (EV.b (a8 (bz (qA hr.gd hr.units) rfl T.Ce PyProof.Rows.boot_repr (aG (EV.b (ay (ax G_law_runs (hr.mono (by decide)) rfl T.jS.m T.jS.F.kp T.jS.b .nil aJ (ah (vn 3) (ah (xi (vb 4) ib) aA))))) bg)) vW)) (aF _)) (aC (aT (aU qo))) bR)))))
  (aC (aT (aU qo))))))
theorem GY (G_law_start:bL P w K mg base fS 1 aZ.iV dZ.ud ["_law_script"] (sS K)) (hm:(p6 ((List.replicate 8 un).set 1 (.val .bQ))).wp 1000000 fun f _=>f= .rt (.bl true)):bL P w K mg base fS 10 aZ.sN dZ.FT ["_law_script"] (nC K [aZ.au,aZ.ar]):=by
 have G_law_hill:=u7 T G_law_pick kb hB
 have G_law_pages:=tR T G_law_pick kb hB
 have G_spans:=uX T G_law_pick kb hB
 have G_law_book:=oE T G_law_pick kb hB
 have G_law_right:=tQ T G_law_pick kb hB
 have eb:=Eq.refl (aw kr)
 conv at eb=>rhs;whnf
 have es:=Eq.refl (ae kr)
 conv at es=>rhs;whnf
 refine L2.ED (tabs:=[(aZ.au,(("_law_book":Str)++".<locals>."++"<lambda>")),(aZ.ar,(("_law_page":Str)++".<locals>."++"<lambda>"))]) (N:=["_law_script","_law_state","_law_ways","_law_home","_law_dark","_law_hill_here","_law_pages_here","_law_first"]) (k:=9) (b:=1) (m:=p6) T.JE.F km eb es (fun cdv A outer s H E hr=>?_) (fun cdv A outer s H E hr=>?_) hm (by decide) (by decide) (by decide)
 ·exact(aK (i:=1) km.nd rfl (Or.inl rfl) (ax G_law_start (hr.mono (by decide)) rfl T.iR.m T.iR.F.kp T.iR.b .nil aJ (dW (bv 0) fK)))
 ·unfold p6
  exact(aq (A6 (ks:=[2,3,4]) (xN (ay (ax G_law_hill (hr.mono (by decide)) rfl T.jV.m T.jV.F.kp T.jV.b .nil aJ (a3 (vn 1) aV aV))) (qD rfl (dM (aM (i:=2) km.nd rfl (Or.inl rfl)) (dM (aM (i:=3) km.nd rfl (Or.inl rfl)) (dM (aM (i:=4) km.nd rfl (Or.inl rfl)) mZ))))))
  (aq (aP (aK (i:=5) km.nd rfl (Or.inl rfl) (cP (a3 (vn 2) (vn 3) (a8 (bz (nZ rfl) rfl T.Cf PyProof.Rows.boot_min (aG (vb 4) (aG ib bg))) uf)))))
  (aq (aP (aK (i:=6) km.nd rfl (Or.inl rfl) (ay (ax G_law_pages (hr.mono (by decide)) rfl T.iT.m T.iT.F.kp T.iT.b .nil aJ (a4 (vn 1) (vn 5) aV (ay (ax G_law_pick (hr.mono (by decide)) rfl T.ag.m T.ag.F.kp T.ag.b .nil aJ (ah (vn 1) (ah aV aA)))))))))
  (aq (aP (aK (i:=7) km.nd rfl (Or.inl rfl) (ay (ax G_spans (hr.mono (by decide)) rfl T.f9.m T.f9.F.kp T.f9.b .nil aJ (a3 (vn 5) (ay (ax G_law_book (hr.mono (by decide)) rfl T.dF.m T.dF.F.kp T.dF.b .nil aJ (ah (vn 6) aA))) (xi (EV.b (xi (vb 2) ib)) ib))))))
  (aq (cR (cU (WV.t (AK (wB (pJ (ay (ax G_law_right (hr.mono (by decide)) rfl T.eo.m T.eo.F.kp T.eo.b .nil aJ (ah (vn 5) (ah (vn 6) aA)))))) (wz (wB (pJ (ay (ax G_law_right (hr.mono (by decide)) rfl T.eo.m T.eo.F.kp T.eo.b .nil aJ (ah (vn 5) (ah (vI (wc IH (vb 6) (yD ib) yE) IC) aA))))))))) (aC (aT (aU qo))) bR))
  (aC (aT (aU (ff (bU hr.units) (cM false) (EV.b (ay (ax G_spans (hr.mono (by decide)) rfl T.f9.m T.f9.F.kp T.f9.b .nil aJ (a3 (vn 5) (ay (ax G_law_book (hr.mono (by decide)) rfl T.dF.m T.dF.F.kp T.dF.b .nil aJ (ah (vn 6) aA))) (xi (EV.b (xi (vb 2) ib)) ib))))) (vb 7) (aF _))))))))))
end
theorem Lo (i j:Int):eI false (.int i) (.int j)= .ret (.bl (i==j)):=by
 show M.ret (PV.bl (xor false (i==j)))=_
 simp
theorem AI (i j:Str):eI false (.str i) (.str j)= .ret (.bl (i==j)):=by
 show M.ret (PV.bl (xor false (i==j)))=_
 simp
theorem aD {m k:af→M Fl} {ρ ρ':af} {Y:M PV} (h:m ρ= .ret (.nx ρ')) (h':(k ρ').bind cy=Y):(aB m k ρ).bind cy=Y:=by
 unfold aB;rw[h];exact h'
theorem gm {c:af→M Bool} {a b:af→M Fl} {ρ:af} (h:c ρ= .ret false):gz c a b ρ=b ρ:=by unfold gz;rw[h];rfl
theorem gC {c:af→M Bool} {a b:af→M Fl} {ρ:af} (h:c ρ= .ret true):gz c a b ρ=a ρ:=by unfold gz;rw[h];rfl
theorem bw {m:af→M PV} {ρ:af} {y:PV} (h:m (ρ.map Ent.freeze)= .ret y):bG m ρ= .ret (.rt y):=by unfold bG;rw[h];rfl
theorem bV {m:af→M Fl} {ρ:af} {y:PV} (h:m ρ= .ret (.rt y)):(m ρ).bind cy= .ret y:=by rw[h];rfl
theorem bq (y:PV) (ρ:af):av (.val y::ρ) 0= .ret y:=rfl
theorem bD (e:Ent) (ρ:af) (i:Nat):av (e::ρ) (i+1)=av ρ i:=rfl
theorem vF (l:List PV) (ρ:af):fW (.own l::ρ) 0= .ret (.lst l):=rfl
theorem FN (e:Ent) (ρ:af) (i:Nat):fW (e::ρ) (i+1)=fW ρ i:=rfl
theorem iq {α:Type} {l:List α} {d:Int} (h0:0≤d) (h1:d < l.length): ∃ y∈l,lW l d=some y:=by
 have hd:d.toNat < l.length:=by lia
 have e:d=((d.toNat:Nat):Int):=by lia
 refine⟨l[d.toNat],Mu hd,?_⟩
 have q:=zf (LH hd)
 rw[←e] at q
 exact q
theorem pZ: ∀ (ys:List Str),(∀ z∈ys,z.length=1)→(ys.map (·.length)).sum=ys.length
 |[],_=>rfl
 |y::r,h=>by
  have:=pZ r fun z hz=>h z (LM _ hz)
  rw[LS,List.sum_cons,this,h y LJ,LX]
  lia
theorem join_ones (ys:List Str) (h: ∀ z∈ys,z.length=1):(Txt.join (Str.ofString "") ys).length=ys.length:=by
 show (Builtin.Str.glued (Str.ofString "") ys).length=_
 rw[PySem.size_glued]
 have e:(Str.ofString "").length=0:=by decide
 rw[e]
 have:=pZ ys h
 lia
def Lets (x:Str):Prop:= ∀ c∈x.cps.toList,97≤c∧c≤122
def One (y:PV):Prop:= ∃ c:Nat,y= .str ⟨#[c]⟩∧97≤c∧c≤122
theorem uD: ∀ (l:List PV),(∀ y∈l,One y)→∃ ys,strsOf l=some ys∧ys.length=l.length∧∀ z∈ys,z.length=1∧Lets z
 |[],_=>⟨[],rfl,rfl,fun z hz=>by simp at hz⟩
 |y::l,h=>by
  obtain⟨ys,e1,e2,e3⟩:=uD l fun y hy=>h y (LM _ hy)
  obtain⟨c,rfl,hc⟩:=h y LJ
  exact⟨⟨#[c]⟩::ys,by simp[strsOf,e1],by simp[e2],fun u hu=>by
   rcases LU.mp hu with rfl|hu
   ·exact⟨rfl,fun d hd=>by simp at hd;subst hd;exact hc⟩
   ·exact e3 u hu⟩
theorem sk (sep:Str) (hs:Lets sep): ∀ (ys:List Str) (acc:Array Nat),(∀ z∈ys,Lets z)→(∀ c∈acc.toList,97≤c∧c≤122)→∀ c∈(ys.foldl (fun acc p=>acc++sep.cps++p.cps) acc).toList,97≤c∧c≤122
 |[],acc,_,ha=>ha
 |y::ys,acc,h,ha=>by
  rw[List.foldl_cons]
  refine sk sep hs ys _ (fun z hz=>h z (LM _ hz)) fun c hc=>?_
  rw[Array.toList_append,Array.toList_append,My,My] at hc
  rcases hc with(hc|hc)|hc
  ·exact ha c hc
  ·exact hs c hc
  ·exact h y LJ c hc
theorem Ah (ys:List Str) (h: ∀ z∈ys,Lets z):Lets (Txt.join (Str.ofString "") ys):=by
 have he:Lets (Str.ofString ""):=fun c hc=>by
  have:(Str.ofString "").cps.toList=[]:=by decide
  rw[this] at hc;simp at hc
 show Lets (Builtin.Str.glued (Str.ofString "") ys)
 unfold Builtin.Str.glued
 cases ys with
 |nil=>exact fun c hc=>by simp[Str.empty] at hc
 |cons y ys=>exact sk _ he ys _ (fun z hz=>h z (LM _ hz)) (h y LJ)
theorem Hy (x:Str) (j:Int) (c:Nat) (hc:(c:Int)=if j < 0 then max 0 (j+x.length) else min j x.length):Txt.slice x none (some j)=⟨(x.cps.toList.take c).toArray⟩:=by
 have hle:c≤x.length:=by split at hc<;>lia
 have e:Builtin.Str.strSliceIndices none (some j) 1 x.length=Builtin.Str.strSliceIndices (some ((0:Nat):Int)) (some (c:Int)) 1 x.length:=by
  unfold Builtin.Str.strSliceIndices
  simp
  congr 1<;>lia
 have e2:=StrLaws.sliceText_nat x (Me c) hle
 have e3:Txt.slice x none (some j)=StrLaws.sliceText x (some ((0:Nat):Int)) (some (c:Int)):=by
  unfold Txt.slice StrLaws.sliceText
  rw[e]
 rw[e3,e2,List.drop_zero,Nat.sub_zero]
theorem C3 {x:Str} (h:Lets x) (c:Nat):Lets ⟨(x.cps.toList.take c).toArray⟩:=fun d hd=>h d (List.mem_of_mem_take (by simpa using hd))
theorem uh (x:Str) (c:Nat):(⟨(x.cps.toList.take c).toArray⟩:Str).length=min c x.length:=by
 show (x.cps.toList.take c).toArray.size=_
 rw[LO,List.length_take]
 simp[Str.length]
theorem De {x y:Str} (hx:Lets x) (hy:Lets y):Lets (x++y):=fun c hc=>by
 have:c∈x.cps.toList++y.cps.toList:=by
  rw[←Array.toList_append];exact hc
 rcases My.mp this with h|h
 ·exact hx c h
 ·exact hy c h
theorem zg (x y:Str):(x++y).length=x.length+y.length:=Array.size_append
theorem dU {m k:af→M Fl} {ρ:af} {c d:Nat} {I:af→Prop} {Pr:PV→Prop} (h:Gen (m ρ) c fun f=> ∃ ρ',f= .nx ρ'∧I ρ') (h': ∀ ρ',I ρ'→Gen ((k ρ').bind cy) d Pr):Gen ((aB m k ρ).bind cy) (c+d) Pr:=by
 unfold aB
 rw[M.bind_assoc]
 refine Gen.bind h fun f hf=>?_
 obtain⟨ρ',rfl,hi⟩:=hf
 exact h' ρ' hi
theorem mN {m k:af→M Fl} {ρ:af} {c d:Nat} {I:af→Prop} {Pr:Fl→Prop} (h:Gen (m ρ) c fun f=> ∃ ρ',f= .nx ρ'∧I ρ') (h': ∀ ρ',I ρ'→Gen (k ρ') d Pr):Gen (aB m k ρ) (c+d) Pr:=by
 unfold aB
 refine Gen.bind h fun f hf=>?_
 obtain⟨ρ',rfl,hi⟩:=hf
 exact h' ρ' hi
theorem An {m:af→M Fl} {ρ ρ':af} {I:af→Prop} (h:m ρ= .ret (.nx ρ')) (hi:I ρ'):Gen (m ρ) 0 fun f=> ∃ ρ',f= .nx ρ'∧I ρ':=Gen.eq h ⟨ρ',rfl,hi⟩
theorem Hq {k:Nat} {mb:af→M Fl} {c:Nat} {Iv:Nat→af→Prop}: ∀ (l:List PV) (i:Nat) (ρ:af),Iv i ρ→(∀ y∈l,∀ j < i+l.length,∀ ρ,Iv j ρ→Gen (mb (ρ.set k (.val y))) c fun f=> ∃ ρ',f= .nx ρ'∧Iv (j+1) ρ')→Gen (cV (aL k) mb l ρ) (l.length * c) fun f=> ∃ ρ',f= .nx ρ'∧Iv (i+l.length) ρ'
 |[],i,ρ,h,_=>Gen.le (Gen.ret ⟨ρ,rfl,h⟩) (by simp)
 |y::l,i,ρ,h,hb=>by
  unfold cV
  simp only[aL,M.ret_bind]
  refine Gen.le (Gen.bind (hb y LJ i (by simp) ρ h) fun f hf=>?_) (d:=(y::l).length * c) (Nat.le_of_eq (?_:c+l.length * c=_))
  ·obtain⟨ρ',rfl,h'⟩:=hf
   have q:=Hq l (i+1) ρ' h' fun y' hy j hj=>hb y' (LM _ hy) j (by simp only[LX];lia)
   rw[show i+(y::l).length=i+1+l.length by simp only[LX];lia]
   exact q
  ·simp only[LX,Nat.succ_mul];lia
noncomputable def ja (zs:List Str) (x:Str):Bool:=zs.any fun z=>z==x
theorem mL {zs:List Str} {x:Str}:ja zs x=true↔x∈zs:=by
 unfold ja
 rw[List.any_eq_true]
 constructor
 ·rintro⟨z,hz,e⟩;rw[←eq_of_beq e];exact hz
 ·intro h;exact⟨x,h,beq_self_eq_true x⟩
theorem Aq (zs:List Str):(zs.map PV.str).all bo=true:=by
 rw[List.all_eq_true]
 intro y hy
 obtain⟨z,_,rfl⟩:=LW.mp hy
 rfl
theorem mK (x:Str) (zs:List Str) (b:Bool):qh b (.str x) (.lst (zs.map PV.str))= .ret (.bl (xor b (ja zs x))):=by
 have e:rf (.str x) (zs.map PV.str)=ja zs x:=by
  unfold rf ja
  rw[List.any_map]
  rfl
 unfold qh
 dsimp only
 rw[Aq,e]
 simp[bo,toV,d9]
theorem vh {a b:Int} (h0: -1000000000000 < a) (h1:a < 1000000000000):lC (.int a) (.int b)= .ret (.int (a * b)):=by
 have e:(2:Int) ^ 64=18446744073709551616:=by decide
 unfold lC zY
 dsimp only
 rw[Mz (show ou a b from Or.inl ⟨by lia,by lia⟩)]
theorem G4 (a b c d:PV):bc [a,b,c,d]= .ret [a,b,c,d]:=by simp[bc]
theorem KP (a:PV):bh [a]= .ret (.tup [a]):=by simp[bh]
theorem vj (a b:PV):bh [a,b]= .ret (.tup [a,b]):=by simp[bh]
theorem Es (a b c:PV):bh [a,b,c]= .ret (.tup [a,b,c]):=by simp[bh]
theorem Hn {l:List PV} {n:Int} (hn:(l.length:Int)=n) (h0:0 < l.length) (h1:l.length < 1000):Gen ((oH [.bQ,.int n]).bind fun i=>aE (.lst l) i) 1 (fun y=>y∈l):=by
 refine Gen.le (Gen.bind (Gen.draw (by lia) (by lia)) (d:=0) ?_) (LQ _)
 rintro _ ⟨d,rfl,d0,d1⟩
 obtain⟨y,hy,e⟩:=iq (l:=l) d0 (by lia)
 exact Gen.eq (y:=y) (by simp[aE,e,M.cY]) hy
theorem ng (a:PV) (r:List PV):lW (a::r) 0=some a:=by unfold lW uu;simp
theorem Ju {c:af→M Bool} {a b:af→M PV} {ρ:af} (h:c ρ= .ret false):AH c a b ρ=b ρ:=by unfold AH;rw[h];rfl
def Sh (x:Str):Prop:=x.length≤8∧∀ c∈x.cps.toList,c < 16 ^ 8
instance (x:Str):Decidable (Sh x):=by unfold Sh;infer_instance
theorem ss {x:Str} (h:Sh x):uq 82 0 (.str x):=DH h.1 h.2
theorem si {i:Int} (h:i.natAbs < 10 ^ 61):uq 82 0 (.int i):=(DI h).mono (by lia) (LQ _)
theorem EJ (x:Int) (ns:List Int):qh false (.int x) (.lst (ns.map PV.int))= .ret (.bl (decide (x∈ns))):=by
 have hf:(ns.map PV.int).all bo=true:=by
  rw[List.all_eq_true]
  intro y hy
  obtain⟨z,_,rfl⟩:=LW.mp hy
  rfl
 have hm:rf (.int x) (ns.map PV.int)=decide (x∈ns):=by
  unfold rf
  rw[List.any_map]
  induction ns with
  |nil=>simp
  |cons a l ih=>
   rw[List.any_cons,ih (by
    rw[List.all_eq_true]
    intro y hy
    obtain⟨z,_,rfl⟩:=LW.mp hy
    rfl)]
   by_cases c:a=x
   ·subst c;simp[toV,sx]
   ·have c': ¬ x=a:=fun z=>c z.symm
    simp[toV,sx,c,c']
 unfold qh
 dsimp only
 rw[hf,hm]
 simp[bo,toV,d9]
theorem sub_len: ∀ (l m:List Int),l.Nodup→(∀ x∈l,x∈m)→l.length≤m.length
 |[],m,_,_=>Me _
 |x::l,m,nd,hs=>by
  rw[List.nodup_cons] at nd
  have hx:=hs x LJ
  have:=sub_len l (m.erase x) nd.2 fun y hy=>(List.mem_erase_of_ne (fun z:y=x=>nd.1 (z▸hy))).mpr (hs y (LM _ hy))
  rw[List.length_erase_of_mem hx] at this
  have hp:0 < m.length:=List.length_pos_of_mem hx
  rw[LX]
  lia
theorem big {c:Nat} {y:PV} (h:uq 82 0 y):uq 2500 2 y:=h.mono (by lia) (by lia)
theorem KO (a b c d:PV):bh [a,b,c,d]= .ret (.tup [a,b,c,d]):=by simp[bh]
theorem Jm (a b c d e:PV):bh [a,b,c,d,e]= .ret (.tup [a,b,c,d,e]):=by simp[bh]
theorem Et:bc []= .ret []:=by simp[bc]
theorem KL (l:List PV):eI true (.lst l) (.lst [])= .ret (.bl (!l.isEmpty)):=by cases l<;>rfl
theorem KN (a b c d e f:PV):bh [a,b,c,d,e,f]= .ret (.tup [a,b,c,d,e,f]):=by simp[bh]
theorem Jn (a:PV):bc [a]= .ret [a]:=by simp[bc]
theorem G5 (a b:PV):bc [a,b]= .ret [a,b]:=by simp[bc]
def gK (n:Int) (y:PV):Prop:= ∃ (w z:Str) (m:Int) (r:List PV),y= .tup (.str w::.int n::.int m::.str z::r)∧((w="look"∧r=[])∨((w="read"∨w="rule")∧∃ v,r=[v]∧uq 2500 2 v∧Jj v=true))∧0≤m∧m≤1000000
def bI (l:List PV) (ns:List Int):Prop:=ns.length=l.length∧ns.Nodup∧(∀ n∈ns,0≤n∧n < 1000000)∧∀ (i:Nat) (n:Int) (z:PV),ns[i]?=some n→l[i]?=some z→gK n z
theorem bI.snoc {l:List PV} {ns:List Int} {n:Int} {z:PV} (h:bI l ns) (hn:n∉ns) (h0:0≤n) (h1:n < 1000000) (hz:gK n z):bI (l++[z]) (ns++[n]):=by
 obtain⟨g1,g2,g3,g4⟩:=h
 refine⟨by simp[g1],?_,fun x hx=>?_,fun i x y hx hy=>?_⟩
 ·rw[List.nodup_append]
  exact⟨g2,by simp,fun a ha b hb=>by rw[Mf.mp hb];exact fun e=>hn (e▸ha)⟩
 ·rcases My.mp hx with hx|hx
  ·exact g3 x hx
  ·rw[Mf.mp hx];exact⟨h0,h1⟩
 ·by_cases c:i < l.length
  ·rw[Mr (by lia)] at hx
   rw[Mr c] at hy
   exact g4 i x y hx hy
  ·rw[List.getElem?_append_right (by lia)] at hx hy
   by_cases e:i - l.length=0
   ·rw[e] at hy
    rw[show i - ns.length=0 by lia] at hx
    simp at hx hy
    subst hx hy
    exact hz
   ·rw[List.getElem?_eq_none (by simp;lia)] at hy
    cases hy
theorem gK.key {n:Int} {y:PV} (h:gK n y): ∃ m:Int,kF y=some (m,n)∧0≤m∧m≤1000000:=by
 obtain⟨w,z,m,r,rfl,_,m0,m1⟩:=h
 exact⟨m,rfl,m0,m1⟩
theorem bI.at {l:List PV} {ns:List Int} (h:bI l ns) {z:PV} (hz:z∈l): ∃ n,gK n z∧0≤n∧n < 1000000:=by
 obtain⟨i,hi,e⟩:=List.getElem_of_mem hz
 have hi':i < ns.length:=by rw[h.1];exact hi
 have hn:=h.2.2.1 _ (Mu hi')
 exact⟨_,h.2.2.2 i _ z (LH hi') (LP.mpr ⟨hi,e⟩),hn⟩
theorem bI.Ll {l:List PV} {ns:List Int} (h:bI l ns) {z:PV} (hz:z∈l):Dk z=true:=by
 obtain⟨n,hp,n0,n1⟩:=h.at hz
 obtain⟨m,e,_⟩:=hp.key
 unfold Dk
 rw[e]
 simp[n0,n1]
theorem bI.nd {l:List PV} {ns:List Int} (h:bI l ns):(l.map lM).Nodup:=by
 unfold List.Nodup
 rw[List.pairwise_map,List.pairwise_iff_getElem]
 intro i j hi hj hij e
 have hi':i < ns.length:=by rw[h.1];exact hi
 have hj':j < ns.length:=by rw[h.1];exact hj
 obtain⟨m,e1,_⟩:=(h.2.2.2 i _ _ (LH hi') (LH hi)).key
 obtain⟨m',e2,_⟩:=(h.2.2.2 j _ _ (LH hj') (LH hj)).key
 have b1:=h.2.2.1 _ (Mu hi')
 have b2:=h.2.2.1 _ (Mu hj')
 have r1:lM l[i]=m * 1000000+ns[i]:=by unfold lM wt;rw[e1];rfl
 have r2:lM l[j]=m' * 1000000+ns[j]:=by unfold lM wt;rw[e2];rfl
 rw[r1,r2] at e
 exact List.pairwise_iff_getElem.mp h.2.1 i j hi' hj' hij (by lia)
noncomputable def hit (w z:Str) (t:Int) (y:PV):Bool:=match y with
 | .tup (.str w'::_::.int m::.str z'::_)=>w'==w&&(z'==z&&decide (m≤t))
 |_=>false
theorem o1 (a b:PV) (r:List PV):lW (a::b::r) 1=some b:=kN (k:=1) rfl
theorem wg (a b c:PV) (r:List PV):lW (a::b::c::r) 2=some c:=kN (k:=2) rfl
theorem HG (a b c d:PV) (r:List PV):lW (a::b::c::d::r) 3=some d:=kN (k:=3) rfl
theorem Le (a b c d e:PV) (r:List PV):lW (a::b::c::d::e::r) 4=some e:=kN (k:=4) rfl
noncomputable def Cp:af→M Bool:=(gF (bf (ab (eI false) (ab aE (fun ρ=>av ρ 5) (fun _=>M.ret (.int 0))) (fun ρ=>av ρ 1))) (gF (bf (ab (eI false) (ab aE (fun ρ=>av ρ 5) (fun _=>M.ret (.int 3))) (fun ρ=>av ρ 2))) (bf (ab j6 (ab aE (fun ρ=>av ρ 5) (fun _=>M.ret (.int 2))) (fun ρ=>av ρ 3)))))
noncomputable def vw:af→M Fl:=(gz Cp (aH 4 (fun ρ=>av ρ 5)) (fun ρ=>M.ret (.nx ρ)))
theorem uo {a b:af→M Bool} {ρ:af} {x y:Bool} (ha:a ρ= .ret x) (hb:b ρ= .ret y):gF a b ρ= .ret (x&&y):=by
 unfold gF;rw[ha];cases x<;>simp[hb]
theorem Co {Y:Ent} {w z:Str} {t:Int} {f:PV} {n:Int} {y:PV} (hy:gK n y):Cp [Y,val (.str w),val (.str z),val (.int t),val f,val y]= .ret (hit w z t y):=by
 obtain⟨w',z',m,r,rfl,_⟩:=hy
 unfold Cp
 refine uo ?_ (uo ?_ ?_)
 ·simp only[bf,ab,bq,bD,M.ret_bind,aE,ng,M.cY,AI]
 ·simp only[bf,ab,bq,bD,M.ret_bind,aE,HG,M.cY,AI]
 ·simp only[bf,ab,bq,bD,M.ret_bind,aE,wg,M.cY,j6]
theorem nR {Y:Ent} {w z:Str} {t:Int}: ∀ (rest:List PV) (f:PV) (e5:Ent),(∀ y∈rest,∃ n,gK n y)→
  ∃ e5',cV (aL 5) vw rest [Y,val (.str w),val (.str z),val (.int t),val f,e5]= .ret (.nx [Y,val (.str w),val (.str z),val (.int t),val (((rest.filter (hit w z t)).getLast?).getD f),e5'])
 |[],f,e5,_=>⟨e5,rfl⟩
 |y::rest,f,e5,h=>by
  obtain⟨n,hy⟩:=h y LJ
  have ht:=Co (Y:=Y) (w:=w) (z:=z) (t:=t) (f:=f) hy
  unfold cV
  simp only[aL,M.ret_bind,Ms,LR]
  cases c:hit w z t y with
  |true=>
   rw[c] at ht
   have st:vw [Y,val (.str w),val (.str z),val (.int t),val f,val y]= .ret (.nx [Y,val (.str w),val (.str z),val (.int t),val y,val y]):=by
    unfold vw
    rw[gC ht]
    simp only[aH,bq,bD,M.ret_bind,Ms,LR]
   obtain⟨e5',ih⟩:=nR (Y:=Y) (w:=w) (z:=z) (t:=t) rest y (val y) fun y' hy'=>h y' (LM _ hy')
   refine⟨e5',?_⟩
   rw[st,M.ret_bind]
   show cV _ _ _ _=_
   rw[ih,List.filter_cons_of_pos c]
   congr 7
   cases hf:(rest.filter (hit w z t)).getLast? with
   |none=>
    rw[List.getLast?_eq_none_iff] at hf
    rw[hf]
    rfl
   |some v=>
    rw[List.getLast?_cons,hf]
    rfl
  |false=>
   rw[c] at ht
   have st:vw [Y,val (.str w),val (.str z),val (.int t),val f,val y]= .ret (.nx [Y,val (.str w),val (.str z),val (.int t),val f,val y]):=by
    unfold vw
    rw[gm ht]
   obtain⟨e5',ih⟩:=nR (Y:=Y) (w:=w) (z:=z) (t:=t) rest f (val y) fun y' hy'=>h y' (LM _ hy')
   refine⟨e5',?_⟩
   rw[st,M.ret_bind]
   show cV _ _ _ _=_
   rw[ih,List.filter_cons_of_neg (by rw[c];decide)]
theorem EE {B:List PV} {w z:Str} {t:Int} (h: ∀ y∈B,∃ n,gK n y):eG [.tup B,.str w,.str z,.int t]= .ret (((B.filter (hit w z t)).getLast?).getD .aW):=by
 unfold eG iM
 show (aB _ _ [val (.tup B),val (.str w),val (.str z),val (.int t),un,un]).bind cy=_
 refine aD (ρ':=[val (.tup B),val (.str w),val (.str z),val (.int t),val .aW,un]) rfl ?_
 obtain⟨e5',ih⟩:=nR (Y:=val (.tup B)) (w:=w) (z:=z) (t:=t) B .aW un h
 refine aD (ρ':=[val (.tup B),val (.str w),val (.str z),val (.int t),val (((B.filter (hit w z t)).getLast?).getD .aW),e5']) ?_ ?_
 ·simp only[bF,bq,bD,M.ret_bind,ba]
  exact ih
 ·exact bV (bw rfl)
theorem Ea {l:List PV} {w z:Str} {t:Int} (h: ∀ y∈l,∃ n,gK n y) (bE: ∀ y∈l,Dk y=true) (hl:l.length≤1000):fh [.lst l,.str w,.str z,.int t]= .ret ((j4 (l.filter (hit w z t))).getD .aW):=by
 unfold fh jH
 show (aB _ _ [val (.lst l),val (.str w),val (.str z),val (.int t),un]).bind cy=_
 have q:=d8 (k:=0) (tt:=(gF (bf (ab (eI false) (ab aE (fun ρ=>av ρ 0) (fun _=>M.ret (.int 0))) (fun ρ=>av ρ 1))) (gF (bf (ab (eI false) (ab aE (fun ρ=>av ρ 0) (fun _=>M.ret (.int 3))) (fun ρ=>av ρ 2))) (bf (ab j6 (ab aE (fun ρ=>av ρ 0) (fun _=>M.ret (.int 2))) (fun ρ=>av ρ 3)))))) (te:=fun ρ=>av ρ 0) (p:=hit w z t) (f:=id) (ρ:=[un,val (.str w),val (.str z),val (.int t)]) l [un,val (.str w),val (.str z),val (.int t)] (fun _=>rfl) (fun y hy=>by
   obtain⟨n,w',z',m,r,rfl,_⟩:=h y hy
   rw[LR]
   refine uo ?_ (uo ?_ ?_)
   ·simp only[bf,ab,bq,bD,M.ret_bind,aE,ng,M.cY,AI]
   ·simp only[bf,ab,bq,bD,M.ret_bind,aE,HG,M.cY,AI]
   ·simp only[bf,ab,bq,bD,M.ret_bind,aE,wg,M.cY,j6]) (fun y hy _=>by simp only[bq,LR];rfl)
 have hle:(l.filter (hit w z t)).length≤l.length:=List.length_filter_le _ _
 refine aD (ρ':=[val (.lst l),val (.str w),val (.str z),val (.int t),val (.lst (l.filter (hit w z t)))]) ?_ ?_
 ·have ec:gp [none,some 1,some 2,some 3] [val (.lst l),val (.str w),val (.str z),val (.int t),un]=[un,val (.str w),val (.str z),val (.int t)]:=rfl
  simp only[aH,aX,cx,bq,bD,M.ret_bind,ba,Mz (by lia:l.length≤100000),ec]
  rw[q]
  simp only[M.ret_bind,List.map_id,Ms,LR]
 ·refine bV (bw ?_)
  have hm:Ab (.lst (l.filter (hit w z t)))= .ret ((j4 (l.filter (hit w z t))).getD .aW):=by
   unfold Ab
   dsimp only
   rw[Mz]
   simp only[Mo,decide_eq_true_eq,List.all_eq_true]
   exact⟨by lia,fun y hy=>bE y (Mx.mp hy).1⟩
  simp only[List.map,Ent.freeze,bq,bD,M.ret_bind,hm]
theorem Dc {kf:Nat→Int×Int}: ∀ {j b:Nat},bi kf j=some b→∀ i,i < j→rk kf i≤rk kf b
 |0,b,h,i,hi=>by lia
 |j+1,b,h,i,hi=>by
  unfold bi at h
  cases e:bi kf j with
  |none=>
   rw[e] at h
   cases h
   have:j=0:=by
    by_cases z:j=0
    ·exact z
    ·obtain⟨c,hc⟩:=zd (kf:=kf) (j:=j) (by lia)
     rw[e] at hc;cases hc
   subst this
   have:i=0:=by lia
   subst this
   exact Int.le_refl _
  |some c=>
   rw[e] at h
   dsimp only at h
   have ih:=Dc e
   by_cases z:rk kf c < rk kf j
   ·rw[Mz z] at h
    cases h
    by_cases y:i=j
    ·subst y;exact Int.le_refl _
    ·exact Int.le_of_lt (Int.lt_of_le_of_lt (ih i (by lia)) z)
   ·rw[MA z] at h
    cases h
    by_cases y:i=j
    ·subst y;lia
    ·exact ih i (by lia)
theorem Ay {f:List PV} (nd:(f.map lM).Nodup):j4 f=(bp f).getLast?:=by
 have pm:=fk f
 have up:=pC f nd
 by_cases h0:f=[]
 ·subst h0;rfl
 have hp:0 < f.length:=List.length_pos_iff.mpr h0
 obtain⟨b,hb⟩:=zd (kf:=fun i=>wt (f.getD i .aW)) (j:=f.length) hp
 have hbl:=v9 hb
 have hmx:=Dc hb
 have e1:j4 f=some f[b]:=by
  unfold j4
  rw[hb]
  show some (f.getD b .aW)=_
  rw[L3,LH hbl]
  rfl
 rw[e1]
 have hne:bp f≠[]:=fun z=>by rw[z] at pm;exact h0 (List.nil_perm.mp pm)
 have hlp:(bp f).length - 1 < (bp f).length:=by have:=List.length_pos_iff.mpr hne;lia
 rw[List.getLast?_eq_getElem?,LH hlp]
 congr 1
 have m1:f[b]∈bp f:=pm.mem_iff.mpr (Mu hbl)
 obtain⟨i,hi,ei⟩:=List.getElem_of_mem m1
 by_cases c:i=(bp f).length - 1
 ·subst c;exact ei.symm
 ·have lt:lM (bp f)[i] < lM ((bp f)[(bp f).length - 1]'hlp):=List.pairwise_iff_getElem.mp up i _ hi hlp (by lia)
  rw[ei] at lt
  have m2:((bp f)[(bp f).length - 1]'hlp)∈f:=pm.mem_iff.mp (Mu _)
  obtain⟨j,hj,ej⟩:=List.getElem_of_mem m2
  have:=hmx j hj
  unfold rk at this
  dsimp only at this
  rw[L3,LH hj,L3,LH hbl] at this
  rw[←ej] at lt
  unfold lM at lt
  exact absurd lt (Int.not_lt.mpr this)
theorem Af {l:List PV} {p:PV→Bool} (nd:(l.map lM).Nodup):j4 (l.filter p)=((bp l).filter p).getLast?:=by
 have nd2:((l.filter p).map lM).Nodup:=List.Pairwise.sublist ((List.filter_sublist).map lM) nd
 rw[Ay nd2,yK nd2 ((fk l).filter p) ((pC l nd).filter p)]
noncomputable abbrev sM:Str:="etaoinshrdlcumwfgypbvkjxqz"
theorem zh: ∀ c∈sM.cps.toList,97≤c∧c≤122:=by decide +kernel
theorem HI:sM.cps.toList.Nodup:=by decide +kernel
theorem wq:sM.cps.toList.length=26:=by decide +kernel
theorem HJ (d:Int) (h0:0≤d) (h1:d < 26): ∃ y,aE (.str sM) (.int d)= .ret y∧One y:=by
 have hz:sM.length≤100000:=by decide +kernel
 obtain⟨c,hc,e⟩:=iq (l:=sM.cps.toList) h0 (by rw[wq];exact h1)
 exact⟨.str ⟨#[c]⟩,by simp[aE,e,M.cY,hz],c,rfl,zh c hc⟩
def Wd (x:Str):Prop:=1≤x.length∧x.length≤8∧Lets x
theorem Wd.sh {x:Str} (h:Wd x):Sh x:=⟨h.2.1,fun c hc=>Nat.lt_of_le_of_lt (h.2.2 c hc).2 (by decide)⟩
theorem mn: ∀ (l m:List Str),l.Nodup→(∀ x∈l,x∈m)→l.length≤m.length
 |[],m,_,_=>Me _
 |x::l,m,nd,hs=>by
  rw[List.nodup_cons] at nd
  have hx:=hs x LJ
  have:=mn l (m.erase x) nd.2 fun y hy=>(List.mem_erase_of_ne (fun z:y=x=>nd.1 (z▸hy))).mpr (hs y (LM _ hy))
  rw[List.length_erase_of_mem hx] at this
  have hp:0 < m.length:=List.length_pos_of_mem hx
  rw[LX]
  lia
noncomputable def j9 (w:Str):List Str:=sM.cps.toList.map fun c=>(⟨(w.cps.toList.take (min 7 w.length)).toArray⟩:Str)++⟨#[c]⟩
theorem E2 (w:Str):(j9 w).Nodup:=by
 unfold j9 List.Nodup
 rw[List.pairwise_map]
 refine List.Pairwise.imp ?_ HI
 intro a b ne e
 have e2:((⟨(w.cps.toList.take (min 7 w.length)).toArray⟩:Str)++(⟨#[a]⟩:Str)).cps.toList=((⟨(w.cps.toList.take (min 7 w.length)).toArray⟩:Str)++(⟨#[b]⟩:Str)).cps.toList:=by rw[e]
 have e3: ∀ x y:Str,(x++y).cps.toList=x.cps.toList++y.cps.toList:=fun x y=>by rw[←Array.toList_append];rfl
 rw[e3,e3] at e2
 have:=List.append_cancel_left e2
 simp at this
 exact ne this
theorem E1 {w:Str} (hw:Wd w): ∀ x∈j9 w,Wd x:=fun x hx=>by
 obtain⟨c,hc,rfl⟩:=LW.mp hx
 refine⟨?_,?_,De (C3 hw.2.2 _) fun d hd=>?_⟩
 ·rw[zg,uh];show 1≤_+1;lia
 ·rw[zg,uh];show _+1≤8;lia
 ·simp at hd;subst hd;exact zh _ hc
noncomputable def AM:af→M PV:=ab cZ (DL Fv (fun ρ=>av ρ 1) (fun _=>M.ret none) (fun ρ=>((fun _=>M.ret (.int 7)) ρ).bind fun y=>(vC y).bind fun i=>M.ret (some i))) (fun ρ=>av ρ 0)
noncomputable def AL:af→M Bool:=bf (ab (qh true) (fun ρ=>av ρ 0) (fun ρ=>av ρ 1))
theorem Cz {zs:List Str} (hz:zs.length≤20):Gen (jX [.bQ,.lst (zs.map PV.str)]) 9 (fun y=> ∃ x,y= .str x∧Wd x∧x∉zs):=by
 unfold jX jE
 show Gen ((aB _ _ [val .bQ,val (.lst (zs.map PV.str)),un,un,un]).bind cy) 9 _
 refine Gen.le (dU (c:=0) (d:=9) (I:=fun ρ=>ρ=[val .bQ,val (.lst (zs.map PV.str)),val (.str sM),un,un]) (An rfl rfl) ?_) (by decide)
 rintro _ rfl
 refine Gen.le (dU (c:=1) (d:=8) (I:=fun ρ=> ∃ k:Int,1≤k∧k≤8∧ρ=[val .bQ,val (.lst (zs.map PV.str)),val (.str sM),val (.int k),un]) ?_ ?_) (by decide)
 ·simp only[aH,ab,aa,bq,bD,M.ret_bind,ak,M.bind_assoc]
  refine Gen.le (Gen.bind (Gen.draw (by lia) (by lia)) (d:=0) ?_) (by decide)
  rintro _ ⟨d,rfl,d0,d1⟩
  exact Gen.eq (y:=.nx _) rfl ⟨_,rfl,1+d,by lia,by lia,rfl⟩
 rintro _ ⟨k,k0,k1,rfl⟩
 refine Gen.le (dU (c:=8) (d:=0) (I:=fun ρ=> ∃ w:Str,Wd w∧ρ=[val .bQ,val (.lst (zs.map PV.str)),val (.str sM),val (.int k),val (.str w)]) ?_ ?_) (by decide)
 ·have hlen:(cn 0 k.toNat).length=k.toNat:=by simp[cn]
  have er:dH [.int k]= .ret (cn 0 k.toNat):=by simp only[dH,Mz (by lia: -1000000≤k∧k≤100000)]
  have ec:gp [none,some 2,some 0] [val .bQ,val (.lst (zs.map PV.str)),val (.str sM),val (.int k),un]=[un,val (.str sM),val .bQ]:=rfl
  have et:tyP (.str "")="str":=rfl
  unfold aH Kc
  simp only[M.ret_bind,et,if_true]
  unfold aa aX cx
  simp only[aa,bq,bD,M.ret_bind,er,Mz (by lia:(cn 0 k.toNat).length≤100000),ec,M.bind_assoc]
  refine Gen.le (Gen.bind (Gen.lc (ρ:=[un,val (.str sM),val .bQ]) (c:=1) (Pr:=One) _ _ (fun _=>rfl) (fun y hy=>?_)) (d:=0) ?_) (by rw[hlen];lia)
  ·simp only[LR,ab,bq,bD,M.ret_bind,ak]
   refine Gen.le (Gen.bind (Gen.draw (by lia) (by lia)) (d:=0) ?_) (by decide)
   rintro _ ⟨d,rfl,d0,d1⟩
   obtain⟨y,e,o⟩:=HJ d d0 d1
   exact Gen.eq e o
  ·rintro us ⟨z1,z2⟩
   obtain⟨ys,e1,e2,e3⟩:=uD us z2
   have e4:=pZ ys fun z hz=>(e3 z hz).1
   have e5:(Str.ofString "").length=0:=by decide
   have e6:=join_ones ys fun z hz=>(e3 z hz).1
   have hs:(ys.map (·.length)).sum+ys.length * (Str.ofString "").length≤16777216:=by rw[e4,e5,e2,z1,hlen];lia
   refine Gen.eq (y:=.nx [val .bQ,val (.lst (zs.map PV.str)),val (.str sM),val (.int k),val (.str (Txt.join (Str.ofString "") ys))]) ?_ ⟨_,rfl,_,⟨by rw[e6,e2,z1,hlen];lia,by rw[e6,e2,z1,hlen];lia,Ah ys fun z hz=>(e3 z hz).2⟩,rfl⟩
   simp only[M.ret_bind,rY,e1,M.cY,Mz hs]
   rfl
 rintro _ ⟨w,hw,rfl⟩
 have hsl:Fv (.str w) none (some 7)= .ret (.str ⟨(w.cps.toList.take (min 7 w.length)).toArray⟩):=by
  have:w.length≤100000:=by have:=hw.2.1;lia
  unfold Fv
  dsimp only
  rw[Mz this,Hy w 7 (min 7 w.length) (by rw[MA (by decide)];lia)]
 have q1:=lg (k:=0) (te:=AM) (f:=fun y=>match y with| .str c=>.str ((⟨(w.cps.toList.take (min 7 w.length)).toArray⟩:Str)++c)|_=>.aW) (ρ:=[un,val (.str w)]) (i5 sM) [un,val (.str w)] (fun _=>rfl) (fun y hy=>by
   obtain⟨c,hc,rfl⟩:=LW.mp hy
   have hz:(⟨(w.cps.toList.take (min 7 w.length)).toArray⟩:Str).length+(⟨#[c]⟩:Str).length≤100000:=by rw[uh];show _+1≤_;lia
   unfold AM
   simp only[LR,ab,DL,bq,bD,M.ret_bind,vC,hsl,cZ,Mz hz])
 have em:((i5 sM).map fun y=>match y with|PV.str c=>PV.str ((⟨(w.cps.toList.take (min 7 w.length)).toArray⟩:Str)++c)|_=>.aW)=(j9 w).map PV.str:=by
  unfold i5 j9
  rw[List.map_map,List.map_map]
  rfl
 rw[em] at q1
 have q2:=d8 (k:=0) (tt:=AL) (te:=fun ρ=>av ρ 0) (p:=fun y=>match y with| .str x=>!(ja zs x)|_=>false) (f:=id) (ρ:=[un,val (.lst (zs.map PV.str))]) ((w::j9 w).map PV.str) [un,val (.lst (zs.map PV.str))] (fun _=>rfl) (fun y hy=>by
   obtain⟨x,hx,rfl⟩:=LW.mp hy
   unfold AL
   simp only[bf,ab,LR,bq,bD,M.ret_bind,mK]
   simp) (fun y hy _=>by simp only[bq,LR];rfl)
 have hlen1:(i5 sM).length≤100000:=by unfold i5;rw[LK,wq];lia
 have hlen2:((w::j9 w).map PV.str).length≤100000:=by unfold j9;simp only[LK,LX,wq];lia
 have hcat:[PV.str w].length+((j9 w).map PV.str).length≤100000:=by unfold j9;simp only[LK,LX,List.length_nil,wq];lia
 obtain⟨x,hx,hnx⟩: ∃ x∈j9 w,x∉zs:=by
  apply Classical.byContradiction
  intro hno
  have:=mn (j9 w) zs (E2 w) fun x hx=>Classical.byContradiction fun hc=>hno ⟨x,hx,hc⟩
  unfold j9 at this
  rw[LK,wq] at this
  lia
 generalize hF:((w::j9 w).map PV.str).filter (fun y=>match y with| .str x=>!(ja zs x)|_=>false)=F at q2
 have hFx:PV.str x∈F:=by
  rw[←hF]
  refine Mx.mpr ⟨Mh (LM _ hx),?_⟩
  show (!(ja zs x))=true
  cases c:ja zs x with
  |false=>rfl
  |true=>exact absurd (mL.mp c) hnx
 match F,hF,hFx,q2 with
 |y::F,hF,_,q2=>
 have hy:y∈(w::j9 w).map PV.str:=(Mx.mp (by rw[hF];exact LJ)).1
 obtain⟨v,hv,rfl⟩:=LW.mp hy
 refine Gen.eq (y:=.str v) ?_ ⟨v,rfl,?_,?_⟩
 ·refine bV (bw ?_)
  have ec1:gp [none,some 4] [val .bQ,val (.lst (zs.map PV.str)),val (.str sM),val (.int k),val (.str w)]=[un,val (.str w)]:=rfl
  have ec2:gp [none,some 1] [val .bQ,val (.lst (zs.map PV.str)),val (.str sM),val (.int k),val (.str w)]=[un,val (.lst (zs.map PV.str))]:=rfl
  show (ab aE (aX (cx [none,some 1] (fun ρ=>((aX (xJ (aX (fun ρ=>((aa (fun ρ=>av ρ 4) (fun _=>M.ret [])) ρ).bind bc)) (aX (cx [none,some 4] (fun ρ=>((fun ρ=>av ρ 2) ρ).bind ba) (aL 0) eS AM)))) ρ).bind ba) (aL 0) AL (fun ρ=>av ρ 0))) (fun _=>M.ret (.int 0))) [val .bQ,val (.lst (zs.map PV.str)),val (.str sM),val (.int k),val (.str w)]=_
  simp only[ab,aX,cx,xJ]
  simp only[aa,bq,bD,M.ret_bind,Jn,ba,Mz hlen1,ec1,ec2]
  rw[q1]
  simp only[M.ret_bind,Mz hcat,List.cons_append,List.nil_append]
  have e9:PV.str w::(j9 w).map PV.str=(w::j9 w).map PV.str:=rfl
  rw[e9]
  simp only[ba,M.ret_bind]
  rw[Mz hlen2,q2]
  simp only[M.ret_bind,List.map_id,aE,ng,M.cY]
 ·rcases LU.mp hv with rfl|hv
  ·exact hw
  ·exact E1 hw v hv
 ·have h2:=(Mx.mp (by rw[hF];exact LJ:PV.str v∈((w::j9 w).map PV.str).filter (fun y=>match y with| .str x=>!(ja zs x)|_=>false))).2
  have h3:(!(ja zs v))=true:=h2
  intro hm
  rw[mL.mpr hm] at h3
  cases h3
theorem nW {k:Int} (k0:1≤k) (k1:k≤12):Gen (fw [.bQ,.int k]) (k.toNat * 9) (fun y=> ∃ zs:List Str,y= .lst (zs.map PV.str)∧zs.length=k.toNat∧(∀ z∈zs,Wd z)∧zs.Nodup):=by
 unfold fw iH
 show Gen ((aB _ _ [val .bQ,val (.int k),un,un]).bind cy) _ _
 refine Gen.le (dU (c:=0) (d:=k.toNat * 9) (I:=fun ρ=>ρ=[val .bQ,val (.int k),Ent.own [],un]) (An (by simp[jg,bc]) rfl) ?_) (by lia)
 rintro _ rfl
 have hint:(cn 0 k.toNat).length=k.toNat:=by simp[cn]
 have er:dH [.int k]= .ret (cn 0 k.toNat):=by simp only[dH,Mz (by lia: -1000000≤k∧k≤100000)]
 refine Gen.le (dU (c:=k.toNat * 9) (d:=0) (I:=fun ρ=> ∃ (zs:List Str) (e3:Ent),zs.length=k.toNat∧((∀ z∈zs,Wd z)∧zs.Nodup)∧ρ=[val .bQ,val (.int k),Ent.own (zs.map PV.str),e3]) ?_ ?_) (by lia)
 ·simp only[bF,aa,bq,bD,M.ret_bind,er]
  refine Gen.mono (Hq (k:=3) (c:=9) (Iv:=fun i ρ=> ∃ (zs:List Str) (e3:Ent),zs.length=i∧((∀ z∈zs,Wd z)∧zs.Nodup)∧ρ=[val .bQ,val (.int k),Ent.own (zs.map PV.str),e3]) (cn 0 k.toNat) 0 _ ⟨[],_,rfl,⟨fun z hz=>absurd hz LV,List.nodup_nil⟩,rfl⟩ ?_) (by rw[hint];exact LQ _) ?_
  rotate_left
  ·rintro f ⟨ρ',rfl,zs,e3,hn,hw,rfl⟩
   rw[hint,Nat.zero_add] at hn
   exact⟨_,rfl,zs,e3,hn,hw,rfl⟩
  ·rintro y hy j hj _ ⟨zs,e3,hn,hw,rfl⟩
   rw[hint] at hj
   show Gen (eC _ _ [val .bQ,val (.int k),Ent.own (zs.map PV.str),val y]) 9 _
   simp only[eC,LZ,L0,aa,bq,bD,vF,FN,M.ret_bind,M.bind_assoc]
   refine Gen.le (Gen.bind (Cz (zs:=zs) (by lia)) (d:=0) ?_) (by decide)
   rintro _ ⟨x,rfl,hx,hxn⟩
   have hl:(zs.map PV.str).length < 100000:=by rw[LK];lia
   refine Gen.eq (y:=.nx [val .bQ,val (.int k),Ent.own ((zs++[x]).map PV.str),val y]) ?_ ⟨_,rfl,zs++[x],_,by simp[hn],⟨fun z hz=>?_,?_⟩,rfl⟩
   ·have hf:qm (.str x)= .ret (.str x):=rfl
    simp only[hf,M.ret_bind,Mz hl,List.map_append,LS,List.map_nil]
    rfl
   ·rcases My.mp hz with hz|hz
    ·exact hw.1 z hz
    ·rw[Mf.mp hz];exact hx
   ·refine List.nodup_append.mpr ⟨hw.2,by simp,fun a ha b hb=>?_⟩
    rw[Mf.mp hb]
    exact fun z=>hxn (z▸ha)
 ·rintro _ ⟨zs,e3,hn,hw,rfl⟩
  exact Gen.eq (bV (bw rfl)) ⟨zs,rfl,hn,hw⟩
noncomputable abbrev kn (x:Str):Key:=Sum.inr x
theorem Fn (mt:af→M Bool) (mb:af→M Fl) (k:Nat) (ρ:af):zo mt mb (k+1) ρ=(mt ρ).bind fun b=>if b=true then(mb ρ).bind fun f=>(match f with
  | .nx ρ2=>zo mt mb k ρ2
  | .ct ρ2=>zo mt mb k ρ2
  | .bk ρ2=>.ret (.nx ρ2)
  | .rt v=>.ret (.rt v)) else .ret (.nx ρ):=rfl
noncomputable def K5:af→M Bool:=(bf (fun ρ=>((aa (aX (cx [none,some 1] (fun ρ=>((ab sE (fun ρ=>av ρ 0) (fun ρ=>av ρ 3)) ρ).bind ba) (aL 0) eS (ab (qy false) (fun ρ=>av ρ 0) (fun ρ=>fW ρ 1)))) (fun _=>M.ret [])) ρ).bind m8))
noncomputable def jN (f:List (Key×PV)) (x:Str):Bool:=(lz f (kn x)).isSome
theorem Hr {d f:List (Key×PV)} {x:Str} {os:List Str} {e2:Ent} (h:lz d (kn x)=some (.lst (os.map PV.str))) (hl:os.length≤1000):
  K5 [val (.fz d),Ent.bT f,e2,val (.str x)]= .ret (os.all (jN f)):=by
 have q:=lg (k:=0) (te:=ab (qy false) (fun ρ=>av ρ 0) (fun ρ=>fW ρ 1)) (f:=fun y=>match y with| .str o=>.bl (jN f o)|_=>.aW) (ρ:=[un,Ent.bT f]) (os.map PV.str) [un,Ent.bT f] (fun _=>rfl) (fun y hy=>by
  obtain⟨o,_,rfl⟩:=LW.mp hy
  simp only[ab,LR,bq,M.ret_bind,fW,LZ,L0,qy,rg,M.cY,Bool.bne_false,jN])
 have ec:gp [none,some 1] [val (.fz d),Ent.bT f,e2,val (.str x)]=[un,Ent.bT f]:=rfl
 have hlen:(os.map PV.str).length≤100000:=by rw[LK];lia
 have eall: ∀ os:List Str,m8 [.lst ((os.map PV.str).map fun y=>match y with| .str o=>PV.bl (jN f o)|_=>.aW)]= .ret (.bl (os.all (jN f))):=fun os=>by
  have:j3 ((os.map PV.str).map fun y=>match y with| .str o=>PV.bl (jN f o)|_=>.aW)=some (os.map (jN f)):=by
   induction os with
   |nil=>rfl
   |cons o os ih=>simp only[LS,j3,ih];rfl
  simp only[m8,this,M.cY,M.ret_bind,List.all_map]
  rfl
 unfold K5 bf
 simp only[aa,aX,cx,ab,bq,bD,M.ret_bind,sE,rg,M.cY,h,ba,Mz hlen,ec,q,eall]
noncomputable def j8 (A:List (Str×List Str)):List (Key×PV):=A.map fun p=>(kn p.1,PV.lst (p.2.map PV.str))
noncomputable def uW (A:List (Str×List Str)) (x:Str):List Str:=((A.find? fun p=>decide (p.1=x)).map (·.2)).getD []
theorem yH (a b:Str):decide (kn a=kn b)=decide (a=b):=Cr a b
theorem Dt {A:List (Str×List Str)} {x:Str}:(∃ p∈A,p.1=x)→lz (j8 A) (kn x)=some (.lst ((uW A x).map PV.str)):=by
 induction A with
 |nil=>rintro⟨_,h,_⟩;cases h
 |cons p A ih=>
  rintro⟨q,hq,hx⟩
  unfold lz j8 uW
  simp only[LS,List.find?_cons,yH]
  by_cases c:p.1=x
  ·simp[c]
  ·rcases LU.mp hq with rfl|hq
   ·exact absurd hx c
   ·have:=ih ⟨q,hq,hx⟩
    unfold lz j8 uW at this
    simp only[Mb c]
    exact this
noncomputable def ki (A:List (Str×List Str)) (f:List (Key×PV)) (x:Str):List (Key×PV):=if(uW A x).all (jN f)=true then qT f (kn x) (.bl true) else f
theorem By (f:List (Key×PV)) (k:Key) (y:PV):(qT f k y).length≤f.length+1:=by
 unfold qT;split<;>simp
theorem rG (A:List (Str×List Str)) (f:List (Key×PV)) (x:Str):(ki A f x).length≤f.length+1:=by
 unfold ki;split
 ·exact By ..
 ·lia
noncomputable def Ka:af→M Fl:=(gz K5 (oJ 1 (fun ρ=>av ρ 3) (fun _=>M.ret (.bl true))) (fun ρ=>M.ret (.nx ρ)))
theorem Hs {A:List (Str×List Str)} {f:List (Key×PV)} {x:Str} {e2:Ent} (h: ∃ p∈A,p.1=x) (ho: ∀ p∈A,p.2.length≤1000) (hf:f.length < 100000):
  Ka [val (.fz (j8 A)),Ent.bT f,e2,val (.str x)]= .ret (.nx [val (.fz (j8 A)),Ent.bT (ki A f x),e2,val (.str x)]):=by
 have hl:(uW A x).length≤1000:=by
  unfold uW
  cases c:A.find? fun p=>decide (p.1=x) with
  |none=>simp
  |some p=>exact ho p (List.mem_of_find?_eq_some c)
 have t:=Hr (f:=f) (e2:=e2) (Dt h) hl
 unfold Ka ki
 cases c:(uW A x).all (jN f) with
 |true=>
  rw[c] at t
  rw[gC t]
  simp only[oJ,M.ret_bind,LZ,L0,bq,bD,rg,M.cY,Mz hf]
  rfl
 |false=>
  rw[c] at t
  rw[gm t]
  rfl
theorem yR {A:List (Str×List Str)} {e2:Ent} (ho: ∀ p∈A,p.2.length≤1000): ∀ (xs:List Str) (f:List (Key×PV)) (e3:Ent),(∀ x∈xs,∃ p∈A,p.1=x)→f.length+xs.length < 100000→
  ∃ e3',cV (aL 3) Ka (xs.map PV.str) [val (.fz (j8 A)),Ent.bT f,e2,e3]= .ret (.nx [val (.fz (j8 A)),Ent.bT (xs.foldl (ki A) f),e2,e3'])
 |[],f,e3,_,_=>⟨e3,rfl⟩
 |x::xs,f,e3,h,hl=>by
  have h1:=Hs (e2:=e2) (h x LJ) ho (f:=f) (by simp at hl;lia)
  obtain⟨e3',ih⟩:=yR (e2:=e2) ho xs (ki A f x) (val (.str x)) (fun y hy=>h y (LM _ hy)) (by have:=rG A f x;simp at hl;lia)
  refine⟨e3',?_⟩
  rw[LS]
  unfold cV
  simp only[aL,M.ret_bind,Ms,LR]
  rw[h1,M.ret_bind]
  exact ih
noncomputable def rQ (A:List (Str×List Str)) (f:List (Key×PV)):List (Key×PV):=(A.map (·.1)).foldl (ki A) f
noncomputable def Ds (A:List (Str×List Str)):Nat→Int→List (Key×PV)→Option (List (Key×PV))
 |0,_,_=>none
 |k+1,b,f=>if b < f.length then Ds A k f.length (rQ A f) else some f
noncomputable def K4:af→M Bool:=(bf (ab tW (fun ρ=>av ρ 2) (fun ρ=>((aa (fun ρ=>fW ρ 1) (fun _=>M.ret [])) ρ).bind gB)))
noncomputable def K6:af→M Fl:=(aB (aH 2 (fun ρ=>((aa (fun ρ=>fW ρ 1) (fun _=>M.ret [])) ρ).bind gB)) (bF (fun ρ=>((fun ρ=>av ρ 0) ρ).bind vz) (aL 3) Ka))
theorem zP (A:List (Str×List Str)) (f:List (Key×PV)):(rQ A f).length≤f.length+A.length:=by
 unfold rQ
 have: ∀ (xs:List Str) (f:List (Key×PV)),(xs.foldl (ki A) f).length≤f.length+xs.length:=by
  intro xs
  induction xs with
  |nil=>intro f;simp
  |cons x xs ih=>intro f;have:=ih (ki A f x);have h2:=rG A f x;simp only[List.foldl_cons,LX];lia
 simpa using this (A.map (·.1)) f
theorem Cq (A:List (Str×List Str)):vz (.fz (j8 A))= .ret ((A.map (·.1)).map PV.str):=by
 unfold vz j8
 simp only[List.map_map]
 rfl
theorem Fm {A:List (Str×List Str)} (ho: ∀ p∈A,p.2.length≤1000): ∀ (k:Nat) (b:Int) (f f':List (Key×PV)) (e3:Ent),f.length+(k+1) * A.length < 100000→Ds A k b f=some f'→
  ∃ b' e3',zo K4 K6 k [val (.fz (j8 A)),Ent.bT f,val (.int b),e3]= .ret (.nx [val (.fz (j8 A)),Ent.bT f',val (.int b'),e3'])
 |0,b,f,f',e3,_,h=>by cases h
 |k+1,b,f,f',e3,hl,h=>by
  have hA:(k+1+1) * A.length=(k+1) * A.length+A.length:=by rw[Nat.add_mul,Nat.one_mul]
  have t:K4 [val (.fz (j8 A)),Ent.bT f,val (.int b),e3]= .ret (decide (b < f.length)):=by
   simp only[K4,bf,ab,aa,bq,bD,M.ret_bind,fW,LZ,L0,gB]
   rfl
  unfold Ds at h
  rw[Fn,t,M.ret_bind]
  by_cases c:b < f.length
  ·rw[Mz c] at h
   rw[Mz (decide_eq_true c)]
   have hp:=zP A f
   obtain⟨e3',lp⟩:=yR (e2:=val (.int f.length)) ho (A.map (·.1)) f e3 (fun x hx=>by
    obtain⟨p,hp,rfl⟩:=LW.mp hx
    exact⟨p,hp,rfl⟩) (by rw[LK];have:0≤(k+1) * A.length:=Me _;lia)
   have st:K6 [val (.fz (j8 A)),Ent.bT f,val (.int b),e3]= .ret (.nx [val (.fz (j8 A)),Ent.bT (rQ A f),val (.int f.length),e3']):=by
    unfold K6 aB
    simp only[aH,aa,bq,bD,M.ret_bind,fW,LZ,L0,gB,Ms,LR]
    simp only[bF,bq,M.ret_bind,Cq]
    exact lp
   rw[st,M.ret_bind]
   exact Fm ho k _ _ f' e3' (by lia) h
  ·rw[MA c] at h
   cases h
   rw[MA (by simp[c])]
   exact⟨b,e3,rfl⟩
theorem vG {A:List (Str×List Str)} {f':List (Key×PV)} (ho: ∀ p∈A,p.2.length≤1000) (hA:A.length≤90) (h:Ds A 1000 (-1) []=some f'):fR [.fz (j8 A)]= .ret (.fz f'):=by
 unfold fR gX
 show (aB _ _ [val (.fz (j8 A)),un,un,un]).bind cy=_
 refine aD (ρ':=[val (.fz (j8 A)),Ent.bT [],un,un]) rfl ?_
 refine aD (ρ':=[val (.fz (j8 A)),Ent.bT [],val (.int (-1)),un]) rfl ?_
 obtain⟨b',e3',w⟩:=Fm ho 1000 (-1) [] f' un (by simp;lia) h
 refine aD (ρ':=[val (.fz (j8 A)),Ent.bT f',val (.int b'),e3']) w ?_
 exact bV (bw rfl)
noncomputable def rm (xs:List Str):List (Key×PV):=xs.map fun x=>(kn x,PV.bl true)
noncomputable def xW (xs:List Str) (x:Str):List Str:=if x∈xs then xs else xs++[x]
theorem vE (xs:List Str) (o:Str):jN (rm xs) o=decide (o∈xs):=by
 unfold jN lz rm
 induction xs with
 |nil=>rfl
 |cons x xs ih=>
  simp only[LS,List.find?_cons,yH]
  by_cases c:x=o
  ·subst c;simp
  ·simp only[Mb c]
   rw[ih]
   have c': ¬ o=x:=fun z=>c z.symm
   simp[c']
theorem DT (xs:List Str) (x:Str):qT (rm xs) (kn x) (.bl true)=rm (xW xs x):=by
 have e:((rm xs).any fun kv=>decide (kv.1=kn x))=decide (x∈xs):=by
  unfold rm
  rw[List.any_map]
  induction xs with
  |nil=>rfl
  |cons y xs ih=>
   simp only[List.any_cons,Function.comp,yH,LU]
   rw[ih]
   by_cases c:y=x
   ·subst c;simp
   ·have c': ¬ x=y:=fun z=>c z.symm
    simp[c,c']
 unfold qT xW
 rw[e]
 by_cases c:x∈xs
 ·rw[Mz (decide_eq_true c),Mz c]
  unfold rm
  rw[List.map_map]
  apply List.map_congr_left
  intro y _
  show (if kn y=kn x then(kn y,PV.bl true) else(kn y,PV.bl true))=_
  split<;>rfl
 ·rw[MA (by simp[c]),MA c]
  unfold rm
  rw[List.map_append]
  rfl
noncomputable def gh (A:List (Str×List Str)) (xs:List Str) (x:Str):List Str:=if(uW A x).all (fun o=>decide (o∈xs))=true then xW xs x else xs
theorem A8 (A:List (Str×List Str)) (xs:List Str) (x:Str):ki A (rm xs) x=rm (gh A xs x):=by
 unfold ki gh
 have:(uW A x).all (jN (rm xs))=(uW A x).all (fun o=>decide (o∈xs)):=by
  congr 1;funext o;exact vE xs o
 rw[this]
 split
 ·exact DT xs x
 ·rfl
noncomputable def rP (A:List (Str×List Str)) (xs:List Str):List Str:=(A.map (·.1)).foldl (gh A) xs
theorem BV (A:List (Str×List Str)) (xs:List Str):rQ A (rm xs)=rm (rP A xs):=by
 unfold rQ rP
 generalize A.map (·.1)=ys
 induction ys generalizing xs with
 |nil=>rfl
 |cons y ys ih=>rw[List.foldl_cons,List.foldl_cons,A8,ih]
noncomputable def Gb (A:List (Str×List Str)):Nat→Int→List Str→Option (List Str)
 |0,_,_=>none
 |k+1,b,xs=>if b < xs.length then Gb A k xs.length (rP A xs) else some xs
theorem AN (A:List (Str×List Str)): ∀ (k:Nat) (b:Int) (xs:List Str),Ds A k b (rm xs)=(Gb A k b xs).map rm
 |0,b,xs=>rfl
 |k+1,b,xs=>by
  have hl:(rm xs).length=xs.length:=by unfold rm;simp
  unfold Ds Gb
  rw[hl]
  split
  ·rw[BV];exact AN A k _ _
  ·rfl
def Il (A:List (Str×List Str)) (S:Str→Prop):Prop:= ∀ x,(∃ p∈A,p.1=x)→(∀ o∈uW A x,S o)→S x
theorem qJ {xs:List Str} {x y:Str}:y∈xW xs x↔y∈xs∨y=x:=by
 unfold xW
 by_cases c:x∈xs
 ·rw[Mz c]
  refine⟨.inl,fun h=>?_⟩
  rcases h with h|rfl
  ·exact h
  ·exact c
 ·rw[MA c];simp
theorem Fe {xs:List Str} {x:Str} (h:xs.Nodup):(xW xs x).Nodup:=by
 unfold xW
 by_cases c:x∈xs
 ·rw[Mz c];exact h
 ·rw[MA c]
  exact List.nodup_append.mpr ⟨h,by simp,fun a ha b hb=>by rw[Mf.mp hb];exact fun z=>c (z▸ha)⟩
theorem nA {A:List (Str×List Str)} {xs:List Str} {x y:Str} (h:y∈xs):y∈gh A xs x:=by
 unfold gh;split
 ·exact qJ.mpr (.inl h)
 ·exact h
theorem A9 {A:List (Str×List Str)} {xs:List Str} {x:Str} (h:xs.Nodup):(gh A xs x).Nodup:=by
 unfold gh;split
 ·exact Fe h
 ·exact h
theorem uE {A:List (Str×List Str)} {xs:List Str} {x y:Str} (h:y∈gh A xs x):y∈xs∨(y=x∧∀ o∈uW A x,o∈xs):=by
 unfold gh at h
 by_cases c:(uW A x).all (fun o=>decide (o∈xs))=true
 ·rw[Mz c] at h
  rcases qJ.mp h with h|h
  ·exact .inl h
  ·exact .inr ⟨h,fun o ho=>by simpa using List.all_eq_true.mp c o ho⟩
 ·rw[MA c] at h;exact .inl h
theorem mQ {A:List (Str×List Str)} {y:Str}: ∀ (ys xs:List Str),y∈xs→y∈ys.foldl (gh A) xs
 |[],xs,h=>h
 |z::ys,xs,h=>mQ ys _ (nA h)
theorem pE {A:List (Str×List Str)}: ∀ (ys xs:List Str),xs.Nodup→(ys.foldl (gh A) xs).Nodup
 |[],xs,h=>h
 |z::ys,xs,h=>pE ys _ (A9 h)
theorem yQ {A:List (Str×List Str)} {S:Str→Prop} (hS:Il A S): ∀ (ys xs:List Str),(∀ y∈ys,∃ p∈A,p.1=y)→(∀ x∈xs,S x)→∀ x∈ys.foldl (gh A) xs,S x
 |[],xs,_,h=>h
 |z::ys,xs,hy,h=>yQ hS ys _ (fun y h'=>hy y (LM _ h')) fun x hx=>by
  rcases uE hx with hx|⟨rfl,ho⟩
  ·exact h x hx
  ·exact hS x (hy x LJ) fun o h'=>h o (ho o h')
theorem qk {A:List (Str×List Str)}: ∀ (ys xs:List Str),∀ x∈ys.foldl (gh A) xs,x∈xs∨x∈ys
 |[],xs,x,h=>.inl h
 |z::ys,xs,x,h=>by
  rcases qk ys _ x h with h|h
  ·rcases uE h with h|⟨rfl,_⟩
   ·exact .inl h
   ·exact .inr LJ
  ·exact .inr (LM _ h)
theorem vH {A:List (Str×List Str)}: ∀ (ys xs:List Str),(∀ z∈ys.foldl (gh A) xs,z∈xs)→∀ x∈ys,(∀ o∈uW A x,o∈xs)→x∈xs
 |[],xs,_,x,hx,_=>absurd hx LV
 |z::ys,xs,h,x,hx,ho=>by
  have hz: ∀ y∈gh A xs z,y∈xs:=fun y hy=>h y (mQ ys _ hy)
  rcases LU.mp hx with rfl|hx
  ·refine hz x ?_
   unfold gh
   rw[Mz (List.all_eq_true.mpr fun o h'=>by simpa using ho o h')]
   exact qJ.mpr (.inr rfl)
  ·have:=vH ys (gh A xs z) (fun y hy=>nA (h y hy)) x hx (fun o h'=>nA (ho o h'))
   exact hz x this
theorem G3 {xs ys:List Str} (h:xs.Nodup) (hs: ∀ x∈xs,x∈ys):xs.length≤ys.length:=mn xs ys h hs
theorem Jl {xs zs:List Str} (hx:xs.Nodup) (hz:zs.Nodup) (hs: ∀ x∈xs,x∈zs) (hl:zs.length≤xs.length): ∀ z∈zs,z∈xs:=by
 intro z hz'
 by_cases c:z∈xs
 ·exact c
 ·have h1:(z::xs).Nodup:=List.nodup_cons.mpr ⟨c,hx⟩
  have:=mn (z::xs) zs h1 (fun y hy=>by
   rcases LU.mp hy with rfl|hy
   ·exact hz'
   ·exact hs y hy)
  simp at this
  lia
theorem wA {A:List (Str×List Str)} {S:Str→Prop} (hS:Il A S): ∀ (k:Nat) (b:Int) (xs xs':List Str),xs.Nodup→(∀ x∈xs,S x)→((b < xs.length)∨Il A (·∈xs))→Gb A k b xs=some xs'→(∀ x∈xs',S x)∧Il A (·∈xs')∧xs'.Nodup
 |0,b,xs,xs',_,_,_,h=>by cases h
 |k+1,b,xs,xs',nd,hx,hb,h=>by
  unfold Gb at h
  by_cases c:b < xs.length
  ·rw[Mz c] at h
   have nm: ∀ y∈A.map (·.1),∃ p∈A,p.1=y:=fun y hy=>by
    obtain⟨p,hp,rfl⟩:=LW.mp hy
    exact⟨p,hp,rfl⟩
   refine wA hS k _ (rP A xs) xs' (pE _ _ nd) (yQ hS _ _ nm hx) ?_ h
   by_cases c2:(xs.length:Int) < (rP A xs).length
   ·exact .inl c2
   ·refine .inr ?_
    have back:=Jl nd (pE (A:=A) (A.map (·.1)) xs nd) (fun x hx=>mQ _ _ hx) (by unfold rP at c2;lia)
    intro x hxA ho
    obtain⟨p,hp,rfl⟩:=hxA
    exact mQ _ _ (vH _ _ back p.1 (Mh hp) fun o h'=>back o (ho o h'))
  ·rw[MA c] at h
   cases h
   rcases hb with hb|hb
   ·exact absurd hb c
   ·exact⟨hx,hb,nd⟩
theorem xY {A:List (Str×List Str)}: ∀ (k:Nat) (b:Int) (xs:List Str),xs.Nodup→(∀ x∈xs,x∈A.map (·.1))→b≤A.length→(A.length:Int) < b+k→∃ xs',Gb A k b xs=some xs'
 |0,b,xs,_,_,h1,h2=>by lia
 |k+1,b,xs,nd,hs,h1,h2=>by
  unfold Gb
  by_cases c:b < xs.length
  ·rw[Mz c]
   have hl:=G3 nd hs
   rw[LK] at hl
   exact xY k _ _ (pE _ _ nd) (fun x hx=>by
    rcases qk _ _ x hx with h|h
    ·exact hs x h
    ·exact h) (by lia) (by lia)
  ·rw[MA c];exact⟨_,rfl⟩
theorem Ap {A:List (Str×List Str)} (ho: ∀ p∈A,p.2.length≤1000) (hA:A.length≤90): ∃ xs:List Str,fR [.fz (j8 A)]= .ret (.fz (rm xs))∧Ds A 1000 (-1) []=some (rm xs)∧Il A (·∈xs)∧∀ S,Il A S→∀ x∈xs,S x:=by
 obtain⟨xs,h⟩:=xY (A:=A) 1000 (-1) [] List.nodup_nil (fun _ h=>absurd h LV) (by lia) (by lia)
 have e:Ds A 1000 (-1) []=some (rm xs):=by
  have:=AN A 1000 (-1) []
  rw[h] at this
  exact this
 refine⟨xs,vG ho hA e,e,?_,fun S hS x hx=>?_⟩
 ·exact(wA (S:=fun _=>True) (fun _ _ _=>trivial) 1000 (-1) [] xs List.nodup_nil (fun _ h=>absurd h LV) (.inl (by simp)) h).2.1
 ·exact(wA hS 1000 (-1) [] xs List.nodup_nil (fun _ h=>absurd h LV) (.inl (by simp)) h).1 x hx
theorem i6 {m k:af→M Fl} {ρ:af} {y:PV} (h:m ρ= .ret (.rt y)):(aB m k ρ).bind cy= .ret y:=by
 unfold aB;rw[h];rfl
section
variable {B y:PV} {w z p:Str} {t:Int}
theorem wo {a b:Int}:a7 [B,y,.tup [.str "hours",.int a,.int b],.int t]= .ret (.bl (decide (a≤t)&&decide (t < b))):=by
 unfold a7 cm
 show (aB _ _ [val B,val y,val (.tup [.str "hours",.int a,.int b]),val (.int t),un]).bind cy=_
 refine aD (ρ':=[val B,val y,val (.tup [.str "hours",.int a,.int b]),val (.int t),val (.str "hours")]) rfl ?_
 refine i6 (y:=.bl (decide (a≤t)&&decide (t < b))) ?_
 rw[gC rfl]
 refine bw ?_
 show chain _ _ _ _ _ [val B,val y,val (.tup [.str "hours",.int a,.int b]),val (.int t),val (.str "hours")]=_
 simp only[chain,ab,bq,bD,M.ret_bind,aE,o1,wg,M.cY,j6]
 by_cases c:a≤t
 ·simp[c];rfl
 ·simp[c]
theorem wm:a7 [B,y,.tup [.str "never"],.int t]= .ret (.bl false):=by
 unfold a7 cm
 show (aB _ _ [val B,val y,val (.tup [.str "never"]),val (.int t),un]).bind cy=_
 refine aD (ρ':=[val B,val y,val (.tup [.str "never"]),val (.int t),val (.str "never")]) rfl ?_
 refine aD (ρ':=[val B,val y,val (.tup [.str "never"]),val (.int t),val (.str "never")]) rfl ?_
 refine aD (ρ':=[val B,val y,val (.tup [.str "never"]),val (.int t),val (.str "never")]) rfl ?_
 refine aD (ρ':=[val B,val y,val (.tup [.str "never"]),val (.int t),val (.str "never")]) rfl ?_
 exact bV (bw rfl)
theorem BH {x:PV} (hw:w="least"∨w="most") (h:ic [B,.str p,.int t]= .ret .aW):dG [B,.tup [.str w,.str p,x],.int t]= .ret (.bl false):=by
 unfold dG fE
 show (aB _ _ [val B,val (.tup [.str w,.str p,x]),val (.int t),un,un,un,un]).bind cy=_
 refine aD (ρ':=[val B,val (.tup [.str w,.str p,x]),val (.int t),val (.str w),val (.str p),val x,un]) rfl ?_
 refine aD (ρ':=[val B,val (.tup [.str w,.str p,x]),val (.int t),val (.str w),val (.str p),val x,val .aW]) ?_ ?_
 ·simp only[aH,aa,bq,bD,M.ret_bind]
  rw[h]
  rfl
 ·exact i6 (by rw[gC rfl];exact bw rfl)
theorem BF {v n:Int} (hw:w="least"∨w="most") (h:ic [B,.str p,.int t]= .ret (.int v)):dG [B,.tup [.str w,.str p,.int n],.int t]= .ret (.bl (if w="least" then decide (n≤v) else decide (v≤n))):=by
 unfold dG fE
 show (aB _ _ [val B,val (.tup [.str w,.str p,.int n]),val (.int t),un,un,un,un]).bind cy=_
 refine aD (ρ':=[val B,val (.tup [.str w,.str p,.int n]),val (.int t),val (.str w),val (.str p),val (.int n),un]) rfl ?_
 refine aD (ρ':=[val B,val (.tup [.str w,.str p,.int n]),val (.int t),val (.str w),val (.str p),val (.int n),val (.int v)]) ?_ ?_
 ·simp only[aH,aa,bq,bD,M.ret_bind]
  rw[h]
  rfl
 ·refine aD (ρ':=[val B,val (.tup [.str w,.str p,.int n]),val (.int t),val (.str w),val (.str p),val (.int n),val (.int v)]) (by rw[gm rfl]) ?_
  refine bV (bw ?_)
  rcases hw with rfl|rfl
  ·rfl
  ·rfl
theorem Ey {r:List PV} {n:Int} (h:eE [B,.str z,.int t]= .ret .aW):cb [B,.tup (.str z::.str "slope"::r),.int n,.int t]= .ret (.bl false):=by
 unfold cb eK
 show (aB _ _ [val B,val (.tup (.str z::.str "slope"::r)),val (.int n),val (.int t),un]).bind cy=_
 refine aD (ρ':=[val B,val (.tup (.str z::.str "slope"::r)),val (.int n),val (.int t),val .aW]) ?_ ?_
 ·simp only[aH,aa,ab,bq,bD,M.ret_bind,aE,ng,M.cY]
  rw[h]
  rfl
 ·refine bV (bw ?_)
  have c1:bf (ab (eI false) (ab aE (fun ρ=>av ρ 1) (fun _=>M.ret (.int 1))) (fun _=>M.ret (.str "slope"))) [val B,val (.tup (.str z::.str "slope"::r)),val (.int n),val (.int t),val .aW]= .ret true:=by
   simp only[bf,ab,bq,bD,M.ret_bind,aE,o1,M.cY,AI,beq_self_eq_true]
  show jk _ _ [val B,val (.tup (.str z::.str "slope"::r)),val (.int n),val (.int t),val .aW]=_
  unfold jk
  rw[c1]
  rfl
theorem Ex {r:List PV} {n m:Int} (h:eE [B,.str z,.int t]= .ret (.int m)):cb [B,.tup (.str z::.str "slope"::r),.int n,.int t]= .ret (.bl (decide (t < m+n))):=by
 unfold cb eK
 show (aB _ _ [val B,val (.tup (.str z::.str "slope"::r)),val (.int n),val (.int t),un]).bind cy=_
 refine aD (ρ':=[val B,val (.tup (.str z::.str "slope"::r)),val (.int n),val (.int t),val (.int m)]) ?_ ?_
 ·simp only[aH,aa,ab,bq,bD,M.ret_bind,aE,ng,M.cY]
  rw[h]
  rfl
 ·refine bV (bw ?_)
  have c1:bf (ab (eI false) (ab aE (fun ρ=>av ρ 1) (fun _=>M.ret (.int 1))) (fun _=>M.ret (.str "slope"))) [val B,val (.tup (.str z::.str "slope"::r)),val (.int n),val (.int t),val (.int m)]= .ret true:=by
   simp only[bf,ab,bq,bD,M.ret_bind,aE,o1,M.cY,AI,beq_self_eq_true]
  show jk _ _ [val B,val (.tup (.str z::.str "slope"::r)),val (.int n),val (.int t),val (.int m)]=_
  unfold jk
  rw[c1]
  rfl
theorem qI {x:PV} {b:Bool} (hw:w="least"∨w="most") (h:dG [B,.tup [.str w,.str p,x],.int t]= .ret (.bl b)):a7 [B,y,.tup [.str w,.str p,x],.int t]= .ret (.bl b):=by
 unfold a7 cm
 show (aB _ _ [val B,val y,val (.tup [.str w,.str p,x]),val (.int t),un]).bind cy=_
 refine aD (ρ':=[val B,val y,val (.tup [.str w,.str p,x]),val (.int t),val (.str w)]) rfl ?_
 refine aD (ρ':=[val B,val y,val (.tup [.str w,.str p,x]),val (.int t),val (.str w)]) (by rcases hw with rfl|rfl<;>rfl) ?_
 refine i6 ?_
 rw[gC (by rcases hw with rfl|rfl<;>rfl)]
 refine bw ?_
 simp only[aa]
 exact h
theorem m7 {n:Int} {b:Bool} (h:cb [B,y,.int n,.int t]= .ret (.bl b)):a7 [B,y,.tup [.str "looked",.int n],.int t]= .ret (.bl b):=by
 unfold a7 cm
 show (aB _ _ [val B,val y,val (.tup [.str "looked",.int n]),val (.int t),un]).bind cy=_
 refine aD (ρ':=[val B,val y,val (.tup [.str "looked",.int n]),val (.int t),val (.str "looked")]) rfl ?_
 refine aD (ρ':=[val B,val y,val (.tup [.str "looked",.int n]),val (.int t),val (.str "looked")]) rfl ?_
 refine aD (ρ':=[val B,val y,val (.tup [.str "looked",.int n]),val (.int t),val (.str "looked")]) rfl ?_
 refine i6 ?_
 rw[gC rfl]
 refine bw ?_
 simp only[aa]
 exact h
end
noncomputable abbrev dX (p:Str×List PV):PV:=.tup (.str p.1::p.2)
noncomputable def wk:Option (List Str)→PV
 |none=>.aW
 |some os=>.lst (os.map PV.str)
theorem DU {A:List (Str×List Str)} {x:Str} {os:List Str} (h: ∀ p∈A,p.1≠x):qT (j8 A) (kn x) (.lst (os.map PV.str))=j8 (A++[(x,os)]):=by
 have e:((j8 A).any fun kv=>decide (kv.1=kn x))=false:=by
  unfold j8
  rw[List.any_map,List.any_eq_false]
  intro p hp
  show ¬ decide (kn p.1=kn x)=true
  rw[yH]
  simp[h p hp]
 unfold qT
 rw[MA (by rw[e];decide)]
 unfold j8
 rw[List.map_append]
 rfl
noncomputable def KC:af→M Fl:=(aB (aH 5 (fun ρ=>((aa (fun ρ=>av ρ 1) (aa (fun ρ=>av ρ 4) (aa (fun ρ=>av ρ 2) (fun _=>M.ret [])))) ρ).bind bJ))
  (gz (bf (ab (rh true) (fun ρ=>av ρ 5) (fun _=>M.ret .aW)))
  (oJ 3 (ab aE (fun ρ=>av ρ 4) (fun _=>M.ret (.int 0))) (fun ρ=>av ρ 5))
  (fun ρ=>M.ret (.nx ρ))))
noncomputable def fL (ot:Str×List PV→Option (List Str)) (ws:List (Str×List PV)):List (Str×List Str):=ws.filterMap fun p=>(ot p).map fun os=>(p.1,os)
theorem yC {hl B tv:PV} {ot:Str×List PV→Option (List Str)} {e6:Ent}: ∀ (ws:List (Str×List PV)) (A:List (Str×List Str)) (e4 e5:Ent),(∀ p∈ws,bJ [B,dX p,tv]= .ret (wk (ot p)))→(ws.map (·.1)).Nodup→(∀ p∈ws,∀ q∈A,q.1≠p.1)→A.length+ws.length < 1000→
  ∃ e4' e5',cV (aL 4) KC (ws.map dX) [val hl,val B,val tv,Ent.bT (j8 A),e4,e5,e6]= .ret (.nx [val hl,val B,val tv,Ent.bT (j8 (A++fL ot ws)),e4',e5',e6])
 |[],A,e4,e5,_,_,_,_=>⟨e4,e5,by simp[cV,fL]⟩
 |p::ws,A,e4,e5,h,nd,hA,hl'=>by
  have h1:=h p LJ
  rw[LS,List.nodup_cons] at nd
  have step: ∃ A',A'=A++fL ot [p]∧KC [val hl,val B,val tv,Ent.bT (j8 A),val (dX p),e5,e6]= .ret (.nx [val hl,val B,val tv,Ent.bT (j8 A'),val (dX p),val (wk (ot p)),e6]):=by
   refine⟨_,rfl,?_⟩
   unfold KC aB
   simp only[aH,aa,bq,bD,M.ret_bind,h1,Ms,LR]
   cases c:ot p with
   |none=>
    rw[gm (by rfl)]
    simp[fL,c]
   |some os=>
    rw[gC (by rfl)]
    have hlen:(j8 A).length < 100000:=by unfold j8;rw[LK];simp at hl';lia
    simp only[oJ,bq,bD,M.ret_bind,LZ,L0,ab,aE,ng,M.cY,rg,Mz hlen,wk,Ms,LR]
    rw[DU (fun q hq=>hA p LJ q hq)]
    simp[fL,c]
  obtain⟨A',eA,st⟩:=step
  obtain⟨e4',e5',ih⟩:=yC (hl:=hl) (B:=B) (tv:=tv) (ot:=ot) (e6:=e6) ws A' (val (dX p)) (val (wk (ot p))) (fun q hq=>h q (LM _ hq)) nd.2 (fun q hq a ha=>by
   rw[eA] at ha
   rcases My.mp ha with ha|ha
   ·exact hA q (LM _ hq) a ha
   ·have:a.1=p.1:=by
     unfold fL at ha
     obtain⟨b,hb,e⟩:=List.mem_filterMap.mp ha
     rw[Mf.mp hb] at e
     obtain⟨os,_,rfl⟩:=Ma.mp e
     rfl
    rw[this]
    exact fun z=>nd.1 (z▸Mh hq)) (by
   have:(fL ot [p]).length≤1:=by unfold fL;exact List.length_filterMap_le _ _
   rw[eA,Mc];simp at hl';lia)
  refine⟨e4',e5',?_⟩
  rw[LS]
  unfold cV
  simp only[aL,M.ret_bind,Ms,LR]
  rw[st,M.ret_bind]
  show cV _ _ _ _=_
  rw[ih,eA,List.append_assoc]
  have:fL ot [p]++fL ot ws=fL ot (p::ws):=by unfold fL;rw[←List.filterMap_append];rfl
  rw[this]
theorem Ec {hm dk B tv:PV} {ws:List (Str×List PV)} {ot:Str×List PV→Option (List Str)} {f':List (Key×PV)} (h: ∀ p∈ws,bJ [B,dX p,tv]= .ret (wk (ot p))) (nd:(ws.map (·.1)).Nodup) (hw:ws.length≤90)
  (ho: ∀ p∈fL ot ws,p.2.length≤1000) (hf:Ds (fL ot ws) 1000 (-1) []=some f'):
  eD [.tup [.tup (ws.map dX),hm,dk],B,tv]= .ret (.tup (((ws.map (·.1)).filter (jN f')).map PV.str)):=by
 unfold eD iF
 obtain⟨hl,ehl⟩: ∃ hl,hl=PV.tup [.tup (ws.map dX),hm,dk]:=⟨_,rfl⟩
 rw[←ehl]
 have i0:aE hl (.int 0)= .ret (.tup (ws.map dX)):=by rw[ehl];simp only[aE,ng,M.cY]
 show (aB _ _ [val hl,val B,val tv,un,un,un,un]).bind cy=_
 refine aD (ρ':=[val hl,val B,val tv,Ent.bT (j8 []),un,un,un]) rfl ?_
 obtain⟨e4',e5',lp⟩:=yC (hl:=hl) (B:=B) (tv:=tv) (ot:=ot) (e6:=un) ws [] un un h nd (fun _ _ q hq=>absurd hq LV) (by simp;lia)
 refine aD (ρ':=[val hl,val B,val tv,Ent.bT (j8 (fL ot ws)),e4',e5',un]) ?_ ?_
 ·simp only[bF,ab,bq,M.ret_bind,i0,ba]
  exact lp
 have hA:(fL ot ws).length≤90:=L6 (List.length_filterMap_le _ _) hw
 refine aD (ρ':=[val hl,val B,val tv,val (.fz (j8 (fL ot ws))),e4'.freeze,e5'.freeze,val (.fz f')]) ?_ ?_
 ·show aH 6 _ [val hl,val B,val tv,val (.fz (j8 (fL ot ws))),e4'.freeze,e5'.freeze,un]=_
  simp only[aH,aa,bq,bD,M.ret_bind,vG ho hA hf]
  rfl
 refine bV (bw ?_)
 have q:=d8 (k:=0) (tt:=bf (ab (qy false) (ab aE (fun ρ=>av ρ 0) (fun _=>M.ret (.int 0))) (fun ρ=>av ρ 1))) (te:=ab aE (fun ρ=>av ρ 0) (fun _=>M.ret (.int 0))) (p:=fun y=>match y with| .tup (.str x::_)=>jN f' x|_=>false) (f:=fun y=>match y with| .tup (.str x::_)=>.str x|_=>.aW) (ρ:=[un,val (.fz f')]) (ws.map dX) [un,val (.fz f')] (fun _=>rfl) (fun y hy=>by
  obtain⟨p,_,rfl⟩:=LW.mp hy
  simp only[bf,ab,LR,bq,bD,M.ret_bind,aE,ng,qy,rg,M.cY,Bool.bne_false,jN]) (fun y hy _=>by
  obtain⟨p,_,rfl⟩:=LW.mp hy
  simp only[ab,LR,bq,M.ret_bind,aE,ng,M.cY])
 have hlen:(ws.map dX).length≤100000:=by rw[LK];lia
 have ec:gp [none,some 6] [val hl,val B,val tv,val (.fz (j8 (fL ot ws))),e4'.freeze.freeze,e5'.freeze.freeze,val (.fz f')]=[un,val (.fz f')]:=rfl
 have ej:((ws.map dX).filter (fun y=>match y with| .tup (.str x::_)=>jN f' x|_=>false)).map (fun y=>match y with| .tup (.str x::_)=>PV.str x|_=>.aW)=((ws.map (·.1)).filter (jN f')).map PV.str:=by
  clear q lp hf ho h nd hw hA hlen ec i0 ehl
  induction ws with
  |nil=>rfl
  |cons p ws ih=>
   simp only[LS,List.filter_cons]
   by_cases c:jN f' p.1=true
   ·rw[Mz c,Mz c,LS,LS,ih]
   ·rw[MA c,MA c,ih]
 show (fun ρ=>((aa (aX _) _) ρ).bind nr) [val hl,val B,val tv,val (.fz (j8 (fL ot ws))),e4'.freeze.freeze,e5'.freeze.freeze,val (.fz f')]=_
 simp only[aa,aX,cx,ab,bq,M.ret_bind,i0,ba,Mz hlen,ec]
 rw[q]
 simp only[M.ret_bind,nr,ej]
noncomputable def six (l:List PV) (w z:Str) (t:Int):PV:=(j4 (l.filter (hit w z t))).getD .aW
theorem se {w z:Str} {t:Int} {n:Int} {y:PV} (hp:gK n y) (hh:hit w z t y=true): ∃ z' m r,y= .tup (.str w::.int n::.int m::.str z'::r)∧((w="look"∧r=[])∨((w="read"∨w="rule")∧∃ v,r=[v]∧uq 2500 2 v∧Jj v=true))∧0≤m∧m≤1000000:=by
 obtain⟨w',z',m,r,rfl,hc,m0,m1⟩:=hp
 have e:(w'==w&&(z'==z&&decide (m≤t)))=true:=hh
 rw[Mo] at e
 have ew:w'=w:=by simpa using e.1
 subst ew
 exact⟨z',m,r,rfl,hc,m0,m1⟩
theorem seen {l:List PV} {ns:List Int} (h:bI l ns) (w z:Str) (t:Int):eG [.tup (bp l),.str w,.str z,.int t]= .ret (six l w z t):=by
 rw[EE fun y hy=>(h.at ((fk l).mem_iff.mp hy)).imp fun n hn=>hn.1]
 unfold six
 rw[Af h.nd]
theorem BX {l:List PV} {ns:List Int} (h:bI l ns) (hl:l.length≤1000) (w z:Str) (t:Int):fh [.lst l,.str w,.str z,.int t]= .ret (six l w z t):=
 Ea (fun y hy=>(h.at hy).imp fun n hn=>hn.1) (fun y hy=>h.Ll hy) hl
set_option genInjectivity false in
inductive Ru where
 |j0 (a b:Int)|post (least:Bool) (p:Str) (n:Int)|looked (n:Int)|zl (o:Str)|never
noncomputable def Ru.pv:Ru→PV
 | .j0 a b=>.tup [.str "hours",.int a,.int b]
 | .post true p n=>.tup [.str "least",.str p,.int n]
 | .post false p n=>.tup [.str "most",.str p,.int n]
 | .looked n=>.tup [.str "looked",.int n]
 | .zl o=>.tup [.str "with",.str o]
 | .never=>.tup [.str "never"]
noncomputable def Ru.hold (rd:Str→Option Int) (lk:Option Int) (t:Int) (i:Str→Bool):Ru→Bool
 | .j0 a b=>decide (a≤t)&&decide (t < b)
 | .post L p n=>match rd p with|none=>false|some v=>if L=true then decide (n≤v) else decide (v≤n)
 | .looked n=>match lk with|none=>false|some m=>decide (t < m+n)
 | .zl o=>i o
 | .never=>false
noncomputable def qS (l:List PV) (t:Int) (p:Str):Option Int:=match six l "read" p t with| .tup [_,_,_,_,.int v]=>some v|_=>none
noncomputable def m9 (l:List PV) (t:Int) (z:Str):Option Int:=match six l "look" z t with| .tup (_::_::.int m::_)=>some m|_=>none
def Reads (l:List PV):Prop:= ∀ n m z v,PV.tup [.str "read",.int n,.int m,.str z,v]∈l→∃ i:Int,v= .int i
theorem kW {l:List PV} {ns:List Int} (h:bI l ns) (w z:Str) (t:Int):six l w z t= .aW∨(six l w z t∈l∧∃ n,gK n (six l w z t)∧hit w z t (six l w z t)=true):=by
 unfold six
 cases e:j4 (l.filter (hit w z t)) with
 |none=>exact .inl rfl
 |some y=>
  right
  have hm:y∈l.filter (hit w z t):=by
   unfold j4 at e
   obtain⟨b,hb,rfl⟩:=Ma.mp e
   have:=v9 hb
   rw[L3,LH this]
   exact Mu this
  obtain⟨n,hp,_⟩:=h.at (Mx.mp hm).1
  exact⟨(Mx.mp hm).1,n,hp,(Mx.mp hm).2⟩
theorem uH {l:List PV} {ns:List Int} (h:bI l ns) (hr:Reads l) (z:Str) (t:Int):(six l "read" z t= .aW∧qS l t z=none)∨∃ a b c d v,six l "read" z t= .tup [a,b,c,d,.int v]∧qS l t z=some v:=by
 rcases kW h "read" z t with e|⟨hm,n,hp,hh⟩
 ·exact .inl ⟨e,by unfold qS;rw[e]⟩
 ·right
  obtain⟨z',m,r,e,hk,_⟩:=se hp hh
  rcases hk with⟨hw,_⟩|⟨_,v,rfl,_⟩
  ·exact absurd hw (by decide +kernel)
  ·rw[e] at hm
   obtain⟨i,rfl⟩:=hr _ _ _ _ hm
   exact⟨_,_,_,_,i,e,by unfold qS;rw[e]⟩
theorem uI {l:List PV} {ns:List Int} (h:bI l ns) (z:Str) (t:Int):(six l "look" z t= .aW∧m9 l t z=none)∨∃ a b m r,six l "look" z t= .tup (a::b::.int m::r)∧m9 l t z=some m:=by
 rcases kW h "look" z t with e|⟨hm,n,hp,hh⟩
 ·exact .inl ⟨e,by unfold m9;rw[e]⟩
 ·right
  obtain⟨z',m,r,e,_⟩:=se hp hh
  exact⟨_,_,m,_,e,by unfold m9;rw[e]⟩
theorem Ae {l:List PV} {ns:List Int} {nm:Str} {t:Int} {os:List Str} (h:bI l ns) (hl:l.length≤1000) (hr:Reads l) (r:Ru):
  gy [.lst l,.str nm,r.pv,.int t,.lst (os.map PV.str)]= .ret (.bl (r.hold (qS l t) (m9 l t nm) t (ja os))):=by
 unfold gy iL
 cases r with
 |j0 a b=>
  show (aB _ _ [val (.lst l),val (.str nm),val (.tup [.str "hours",.int a,.int b]),val (.int t),val (.lst (os.map PV.str)),un,un]).bind cy=_
  refine i6 ?_
  rw[gC rfl]
  refine bw ?_
  show chain _ _ _ _ _ [val (.lst l),val (.str nm),val (.tup [.str "hours",.int a,.int b]),val (.int t),val (.lst (os.map PV.str)),un,un]=_
  simp only[chain,ab,bq,bD,M.ret_bind,aE,o1,wg,M.cY,j6,Ru.hold]
  by_cases c:a≤t
  ·simp[c];rfl
  ·simp[c]
 |looked n=>
  show (aB _ _ [val (.lst l),val (.str nm),val (.tup [.str "looked",.int n]),val (.int t),val (.lst (os.map PV.str)),un,un]).bind cy=_
  refine aD (ρ':=[val (.lst l),val (.str nm),val (.tup [.str "looked",.int n]),val (.int t),val (.lst (os.map PV.str)),un,un]) rfl ?_
  refine i6 ?_
  rw[gC rfl]
  have pg:=BX h hl "look" nm t
  rcases uI h nm t with⟨e,e2⟩|⟨a,b,m,r,e,e2⟩
  ·rw[e] at pg
   unfold aB
   simp only[aH,aa,bq,bD,M.ret_bind,pg,Ru.hold,e2]
   rfl
  ·rw[e] at pg
   unfold aB
   simp only[aH,aa,bq,bD,M.ret_bind,pg,Ru.hold,e2,Ms,LR]
   refine bw ?_
   show jk _ _ [val (.lst l),val (.str nm),val (.tup [.str "looked",.int n]),val (.int t),val (.lst (os.map PV.str)),val (.tup (a::b::.int m::r)),un]=_
   have c1:bf (ab (rh true) (fun ρ=>av ρ 5) (fun _=>M.ret .aW)) [val (.lst l),val (.str nm),val (.tup [.str "looked",.int n]),val (.int t),val (.lst (os.map PV.str)),val (.tup (a::b::.int m::r)),un]= .ret true:=rfl
   unfold jk
   rw[c1,M.ret_bind,Mz rfl]
   simp only[ab,bq,bD,M.ret_bind,aE,o1,wg,M.cY]
   rfl
 |never=>rfl
 |zl o=>
  show (aB _ _ [val (.lst l),val (.str nm),val (.tup [.str "with",.str o]),val (.int t),val (.lst (os.map PV.str)),un,un]).bind cy=_
  refine aD (ρ':=[val (.lst l),val (.str nm),val (.tup [.str "with",.str o]),val (.int t),val (.lst (os.map PV.str)),un,un]) rfl ?_
  refine aD (ρ':=[val (.lst l),val (.str nm),val (.tup [.str "with",.str o]),val (.int t),val (.lst (os.map PV.str)),un,un]) rfl ?_
  refine aD (ρ':=[val (.lst l),val (.str nm),val (.tup [.str "with",.str o]),val (.int t),val (.lst (os.map PV.str)),un,un]) rfl ?_
  refine bV (bw ?_)
  show jk _ _ [val (.lst l),val (.str nm),val (.tup [.str "with",.str o]),val (.int t),val (.lst (os.map PV.str)),un,un]=_
  have c1:bf (ab (eI false) (ab aE (fun ρ=>av ρ 2) (fun _=>M.ret (.int 0))) (fun _=>M.ret (.str "with"))) [val (.lst l),val (.str nm),val (.tup [.str "with",.str o]),val (.int t),val (.lst (os.map PV.str)),un,un]= .ret true:=rfl
  unfold jk
  rw[c1,M.ret_bind,Mz rfl]
  simp only[ab,bq,bD,M.ret_bind,aE,o1,M.cY,mK,Ru.hold]
  simp
 |post L p n=>
  obtain⟨w,hw,ew⟩: ∃ w:Str,(w="least"∧L=true∨w="most"∧L=false)∧(Ru.post L p n).pv= .tup [.str w,.str p,.int n]:=by
   cases L
   ·exact⟨"most",.inr ⟨rfl,rfl⟩,rfl⟩
   ·exact⟨"least",.inl ⟨rfl,rfl⟩,rfl⟩
  rw[ew]
  show (aB _ _ [val (.lst l),val (.str nm),val (.tup [.str w,.str p,.int n]),val (.int t),val (.lst (os.map PV.str)),un,un]).bind cy=_
  refine aD (ρ':=[val (.lst l),val (.str nm),val (.tup [.str w,.str p,.int n]),val (.int t),val (.lst (os.map PV.str)),un,un]) (by rcases hw with⟨rfl,_⟩|⟨rfl,_⟩<;>rfl) ?_
  refine aD (ρ':=[val (.lst l),val (.str nm),val (.tup [.str w,.str p,.int n]),val (.int t),val (.lst (os.map PV.str)),un,un]) (by rcases hw with⟨rfl,_⟩|⟨rfl,_⟩<;>rfl) ?_
  have pg:=BX h hl "read" p t
  refine i6 ?_
  rw[gC (by rcases hw with⟨rfl,_⟩|⟨rfl,_⟩<;>rfl)]
  rcases uH h hr p t with⟨e,e2⟩|⟨a,b,c,d,v,e,e2⟩
  ·rw[e] at pg
   unfold aB
   simp only[aH,aa,ab,bq,bD,M.ret_bind,aE,o1,M.cY,pg,Ru.hold,e2]
   rfl
  ·rw[e] at pg
   unfold aB
   simp only[aH,aa,ab,bq,bD,M.ret_bind,aE,o1,M.cY,pg,Ru.hold,e2]
   rcases hw with⟨rfl,rfl⟩|⟨rfl,rfl⟩<;>rfl
section
variable {l:List PV} {ns:List Int} {t:Int}
theorem wU {p:Str} (h:bI l ns) (hr:Reads l):ic [.tup (bp l),.str p,.int t]= .ret (match qS l t p with|none=>.aW|some v=>.int v):=by
 have s:=seen h "read" p t
 unfold ic kZ
 show (aB _ _ [val (.tup (bp l)),val (.str p),val (.int t),un]).bind cy=_
 rcases uH h hr p t with⟨e,e2⟩|⟨a,b,c,d,v,e,e2⟩
 ·rw[e] at s
  refine aD (ρ':=[val (.tup (bp l)),val (.str p),val (.int t),val .aW]) ?_ ?_
  ·simp only[aH,aa,bq,bD,M.ret_bind,s]
   rfl
  ·rw[e2];exact bV (bw rfl)
 ·rw[e] at s
  refine aD (ρ':=[val (.tup (bp l)),val (.str p),val (.int t),val (.tup [a,b,c,d,.int v])]) ?_ ?_
  ·simp only[aH,aa,bq,bD,M.ret_bind,s]
   rfl
  ·rw[e2];exact bV (bw rfl)
theorem Ad {z:Str} (h:bI l ns):eE [.tup (bp l),.str z,.int t]= .ret (match m9 l t z with|none=>.aW|some v=>.int v):=by
 have s:=seen h "look" z t
 unfold eE iG
 show (aB _ _ [val (.tup (bp l)),val (.str z),val (.int t),un]).bind cy=_
 rcases uI h z t with⟨e,e2⟩|⟨a,b,m,r,e,e2⟩
 ·rw[e] at s
  refine aD (ρ':=[val (.tup (bp l)),val (.str z),val (.int t),val .aW]) ?_ ?_
  ·simp only[aH,aa,bq,bD,M.ret_bind,s]
   rfl
  ·rw[e2];exact bV (bw rfl)
 ·rw[e] at s
  refine aD (ρ':=[val (.tup (bp l)),val (.str z),val (.int t),val (.tup (a::b::.int m::r))]) ?_ ?_
  ·simp only[aH,aa,bq,bD,M.ret_bind,s]
   rfl
  ·rw[e2]
   refine bV (bw ?_)
   show AH _ _ _ [val (.tup (bp l)),val (.str z),val (.int t),val (.tup (a::b::.int m::r))]=_
   rw[Ju rfl]
   simp only[ab,bq,bD,M.ret_bind,aE,wg,M.cY]
theorem xU {B y:PV} {o:Str}:a7 [B,y,.tup [.str "with",.str o],.int t]= .ret (.bl false):=by
 unfold a7 cm
 show (aB _ _ [val B,val y,val (.tup [.str "with",.str o]),val (.int t),un]).bind cy=_
 refine aD (ρ':=[val B,val y,val (.tup [.str "with",.str o]),val (.int t),val (.str "with")]) rfl ?_
 refine aD (ρ':=[val B,val y,val (.tup [.str "with",.str o]),val (.int t),val (.str "with")]) rfl ?_
 refine aD (ρ':=[val B,val y,val (.tup [.str "with",.str o]),val (.int t),val (.str "with")]) rfl ?_
 refine aD (ρ':=[val B,val y,val (.tup [.str "with",.str o]),val (.int t),val (.str "with")]) rfl ?_
 exact bV (bw rfl)
theorem Ew {B:PV} {z kd:Str} {q:List PV} {n:Int} {y:PV} (hk:(kd==("slope":Str))=false) (h:eE [B,.str z,.int t]= .ret y):cb [B,.tup (.str z::.str kd::q),.int n,.int t]= .ret (.bl false):=by
 unfold cb eK
 show (aB _ _ [val B,val (.tup (.str z::.str kd::q)),val (.int n),val (.int t),un]).bind cy=_
 refine aD (ρ':=[val B,val (.tup (.str z::.str kd::q)),val (.int n),val (.int t),val y]) ?_ ?_
 ·simp only[aH,aa,ab,bq,bD,M.ret_bind,aE,ng,M.cY]
  rw[h]
  rfl
 ·refine bV (bw ?_)
  have c1:bf (ab (eI false) (ab aE (fun ρ=>av ρ 1) (fun _=>M.ret (.int 1))) (fun _=>M.ret (.str "slope"))) [val B,val (.tup (.str z::.str kd::q)),val (.int n),val (.int t),val y]= .ret false:=by
   simp only[bf,ab,bq,bD,M.ret_bind,aE,o1,M.cY,AI,hk]
  show jk _ _ [val B,val (.tup (.str z::.str kd::q)),val (.int n),val (.int t),val y]=_
  unfold jk
  rw[c1]
  rfl
theorem Df {z kd:Str} {q:List PV} (h:bI l ns) (hr:Reads l) (hs:(kd==("slope":Str))=false→m9 l t z=none) (r:Ru):
  a7 [.tup (bp l),.tup (.str z::.str kd::q),r.pv,.int t]= .ret (.bl (r.hold (qS l t) (m9 l t z) t (fun _=>false))):=by
 cases r with
 |j0 a b=>exact wo
 |never=>exact wm
 |zl o=>exact xU
 |looked n=>
  have lo:=Ad (z:=z) (t:=t) h
  cases ck:(kd==("slope":Str)) with
  |true=>
   obtain rfl:kd="slope":=by simpa using ck
   refine m7 ?_
   cases e:m9 l t z with
   |none=>rw[e] at lo;simp only[Ru.hold];exact Ey lo
   |some m=>rw[e] at lo;simp only[Ru.hold];exact Ex lo
  |false=>
   refine m7 ?_
   simp only[Ru.hold,hs ck]
   exact Ew ck lo
 |post L p n=>
  have re:=wU (p:=p) (t:=t) h hr
  cases L
  ·refine qI (w:="most") (.inr rfl) ?_
   cases e:qS l t p with
   |none=>rw[e] at re;simp only[Ru.hold,e];exact BH (.inr rfl) re
   |some v=>rw[e] at re;simp only[Ru.hold,e];exact BF (.inr rfl) re
  ·refine qI (w:="least") (.inl rfl) ?_
   cases e:qS l t p with
   |none=>rw[e] at re;simp only[Ru.hold,e];exact BH (.inl rfl) re
   |some v=>rw[e] at re;simp only[Ru.hold,e];exact BF (.inl rfl) re
end
theorem mH {α:Type} {m:α→PV} {k:Nat} {tt:af→M Bool} {te:af→M PV} {p:α→Bool} {g:α→PV} {ρ:af}: ∀ (rs:List α) (ρ':af),(∀ e,ρ'.set k e=ρ.set k e)→(∀ r∈rs,tt (ρ.set k (.val (m r)))= .ret (p r))→(∀ r∈rs,p r=true→te (ρ.set k (.val (m r)))= .ret (g r))→
  vv (aL k) tt te (rs.map m) ρ'= .ret ((rs.filter p).map g)
 |[],ρ',_,_,_=>rfl
 |r::rs,ρ',hρ,h1,h2=>by
  have ih:=mH (m:=m) (k:=k) (tt:=tt) (te:=te) (p:=p) (g:=g) (ρ:=ρ) rs (ρ.set k (.val (m r))) (fun e=>by rw[List.set_set]) (fun r hr=>h1 r (LM _ hr)) (fun r hr=>h2 r (LM _ hr))
  rw[LS]
  unfold vv
  simp only[aL,M.ret_bind,hρ,h1 r LJ]
  cases c:p r with
  |true=>
   rw[Mz rfl,h2 r LJ c,M.ret_bind,ih,M.ret_bind,List.filter_cons_of_pos c]
   rfl
  |false=>
   rw[MA (by decide),ih,List.filter_cons_of_neg (by rw[c];decide)]
noncomputable def Ru.Aj:Ru→Bool
 | .zl _=>true
 |_=>false
noncomputable def Ru.HY:Ru→Str
 | .zl o=>o
 |_=>""
theorem Ru.head (r:Ru): ∃ w q,r.pv= .tup (.str w::q)∧(w==("with":Str))=r.Aj:=by
 cases r with
 |j0 a b=>exact⟨"hours",_,rfl,by show (("hours":Str)==("with":Str))=false;decide +kernel⟩
 |post L p n=>
  cases L
  ·exact⟨"most",_,rfl,by show (("most":Str)==("with":Str))=false;decide +kernel⟩
  ·exact⟨"least",_,rfl,by show (("least":Str)==("with":Str))=false;decide +kernel⟩
 |looked n=>exact⟨"looked",_,rfl,by show (("looked":Str)==("with":Str))=false;decide +kernel⟩
 |zl o=>exact⟨"with",_,rfl,by show (("with":Str)==("with":Str))=true;decide +kernel⟩
 |never=>exact⟨"never",_,rfl,by show (("never":Str)==("with":Str))=false;decide +kernel⟩
noncomputable def KG:af→M Bool:=(bf (ab (eI true) (ab aE (fun ρ=>av ρ 0) (fun _=>M.ret (.int 0))) (fun _=>M.ret (.str "with"))))
noncomputable def KH:af→M PV:=(fun ρ=>((aa (fun ρ=>av ρ 1) (aa (fun ρ=>av ρ 2) (aa (fun ρ=>av ρ 0) (aa (fun ρ=>av ρ 3) (fun _=>M.ret []))))) ρ).bind a7)
noncomputable def xQ (hd:Ru→Bool) (rs:List Ru):Option (List Str):=if(rs.filter fun r=>!r.Aj).all hd=true then some ((rs.filter Ru.Aj).map Ru.HY) else none
noncomputable def KD:af→M Bool:=(bf (ab (eI false) (ab aE (fun ρ=>av ρ 0) (fun _=>M.ret (.int 0))) (fun _=>M.ret (.str "with"))))
noncomputable def Lm:af→M PV:=(ab aE (fun ρ=>av ρ 0) (fun _=>M.ret (.int 1)))
theorem xP {B:PV} {z:Str} {t:Int} {r:List PV} {rs:List Ru} {hd:Ru→Bool} (hl:rs.length≤1000) (h:fg [B,.str z,.int t]= .ret (.tup (rs.map Ru.pv))) (ha: ∀ u∈rs,u.Aj=false→a7 [B,.tup (.str z::r),u.pv,.int t]= .ret (.bl (hd u))):
  bJ [B,.tup (.str z::r),.int t]= .ret (wk (xQ hd rs)):=by
 have hlen:(rs.map Ru.pv).length≤100000:=by rw[LK];lia
 unfold bJ fF
 show (aB _ _ [val B,val (.tup (.str z::r)),val (.int t),un]).bind cy=_
 refine aD (ρ':=[val B,val (.tup (.str z::r)),val (.int t),val (.tup (rs.map Ru.pv))]) ?_ ?_
 ·simp only[aH,aa,ab,bq,bD,M.ret_bind,aE,ng,M.cY]
  rw[h]
  rfl
 have ec:gp [none,some 0,some 1,some 2] [val B,val (.tup (.str z::r)),val (.int t),val (.tup (rs.map Ru.pv))]=[un,val B,val (.tup (.str z::r)),val (.int t)]:=rfl
 have q1:=mH (m:=Ru.pv) (k:=0) (tt:=KG) (te:=KH) (p:=fun u=>!u.Aj) (g:=fun u=>.bl (hd u)) (ρ:=[un,val B,val (.tup (.str z::r)),val (.int t)]) rs [un,val B,val (.tup (.str z::r)),val (.int t)] (fun _=>rfl) (fun u hu=>by
  obtain⟨w,q,e,hw⟩:=u.head
  have e1:eI true (.str w) (.str "with")= .ret (.bl (!u.Aj)):=by
   show M.ret (PV.bl (xor true (w=="with")))=_
   rw[hw];simp
  rw[e]
  simp only[KG,bf,ab,LR,bq,M.ret_bind,aE,ng,M.cY,e1]) (fun u hu hp=>by
  simp only[KH,aa,LR,bq,bD,M.ret_bind]
  exact ha u hu (by simpa using hp))
 have eall: ∀ us:List Ru,m8 [.lst (us.map fun u=>PV.bl (hd u))]= .ret (.bl (us.all hd)):=fun us=>by
  have:j3 (us.map fun u=>PV.bl (hd u))=some (us.map hd):=by
   induction us with
   |nil=>rfl
   |cons u us ih=>simp only[LS,j3,ih];rfl
  simp only[m8,this,M.cY,M.ret_bind,List.all_map]
  rfl
 have tst:(vc (bf (fun ρ=>((aa (aX (cx [none,some 0,some 1,some 2] (fun ρ=>((fun ρ=>av ρ 3) ρ).bind ba) (aL 0) KG KH)) (fun _=>M.ret [])) ρ).bind m8))) [val B,val (.tup (.str z::r)),val (.int t),val (.tup (rs.map Ru.pv))]= .ret (!((rs.filter fun u=>!u.Aj).all hd)):=by
  unfold vc
  unfold bf
  simp only[aa,aX,cx,bq,bD,M.ret_bind,ba,ec,Mz hlen]
  rw[q1]
  simp only[M.ret_bind,eall]
 cases c:(rs.filter fun u=>!u.Aj).all hd with
 |true=>
  rw[c] at tst
  refine aD (ρ':=[val B,val (.tup (.str z::r)),val (.int t),val (.tup (rs.map Ru.pv))]) (gm tst) ?_
  refine bV (bw ?_)
  have ec2:gp [none] [val B,val (.tup (.str z::r)),val (.int t),val (.tup (rs.map Ru.pv))]=[un]:=rfl
  have q2:=mH (m:=Ru.pv) (k:=0) (tt:=KD) (te:=Lm) (p:=Ru.Aj) (g:=fun u=>.str u.HY) (ρ:=[un]) rs [un] (fun _=>rfl) (fun u hu=>by
   obtain⟨w,q,e,hw⟩:=u.head
   rw[e]
   simp only[KD,bf,ab,LR,bq,M.ret_bind,aE,ng,M.cY,AI,hw]) (fun u hu hp=>by
   cases u<;>first|rfl|cases hp)
  show aX (cx [none] (fun ρ=>((fun ρ=>av ρ 3) ρ).bind ba) (aL 0) KD Lm) [val B,val (.tup (.str z::r)),val (.int t),val (.tup (rs.map Ru.pv))]=_
  simp only[aX,cx,bq,bD,M.ret_bind,ba,ec2,Mz hlen]
  rw[q2]
  unfold xQ
  rw[Mz c]
  simp only[M.ret_bind,wk,List.map_map]
  rfl
 |false=>
  rw[c] at tst
  refine i6 (Eq.trans (gC tst) ?_)
  unfold xQ
  rw[MA (by rw[c];decide)]
  exact bw rfl
theorem vL (k:Nat): ∀ a b:List Str,eqs (sy (k+1)) (a.map PV.str) (b.map PV.str)=some (decide (a=b))
 |[],[]=>rfl
 |[],_::_=>rfl
 |_::_,[]=>rfl
 |x::a,y::b=>by
  have e:sy (k+1) (.str x) (.str y)=some (x==y):=rfl
  simp only[LS,eqs,e,vL k a b,Option.bind_some]
  by_cases c:x=y
  ·subst c
   by_cases c2:a=b
   ·subst c2;simp
   ·simp[c2]
  ·simp[c]
theorem En (a b:List Str):eI true (.lst (a.map PV.str)) (.lst (b.map PV.str))= .ret (.bl (!decide (a=b))):=by
 have e:sy 20 (.lst (a.map PV.str)) (.lst (b.map PV.str))=some (decide (a=b)):=vL 18 a b
 unfold eI
 rw[e]
 simp[M.cY]
noncomputable def KU:af→M PV:=(fun ρ=>((aa (fun ρ=>av ρ 1) (aa (fun ρ=>av ρ 2) (aa (fun ρ=>av ρ 0) (aa (fun ρ=>av ρ 3) (aa (fun ρ=>av ρ 4) (fun _=>M.ret [])))))) ρ).bind gy)
noncomputable def KR:af→M Bool:=(bf (fun ρ=>((aa (aX (cx [none,some 1,some 6,some 2,some 4] (fun ρ=>((fun ρ=>av ρ 7) ρ).bind ba) (aL 0) eS KU)) (fun _=>M.ret [])) ρ).bind m8))
noncomputable def Ib:af→M Fl:=(gz KR (eC 5 (fun ρ=>av ρ 6)) (fun ρ=>M.ret (.nx ρ)))
noncomputable def KS:af→M Fl:=(aB (CF (aH 4 (fun ρ=>av ρ 5))) (aB (jg 5 (fun ρ=>((fun _=>M.ret []) ρ).bind bc)) (bF (fun ρ=>((fun ρ=>av ρ 3) ρ).bind ba) (gJ [6,7]) Ib)))
noncomputable def KQ:af→M Bool:=(bf (ab (eI true) (fun ρ=>av ρ 4) (fun ρ=>fW ρ 5)))
noncomputable def rR (l:List PV) (t:Int) (ru:Str→List Ru) (S:List Str) (z:Str):Bool:=(ru z).all fun r=>r.hold (qS l t) (m9 l t z) t (ja S)
noncomputable def j5 (ru:Str→List Ru) (z:Str):PV:=.tup [.str z,.tup ((ru z).map Ru.pv)]
section
variable {l:List PV} {ns:List Int} {t:Int} {ru:Str→List Ru} {hl R:PV}
theorem Hb {S:List Str} {z:Str} {acc:List PV} (h:bI l ns) (hn:l.length≤1000) (hr:Reads l) (hu: ∀ z,(ru z).length≤1000):
  KR [val hl,val (.lst l),val (.int t),val R,val (.lst (S.map PV.str)),Ent.own acc,val (.str z),val (.tup ((ru z).map Ru.pv))]= .ret (rR l t ru S z):=by
 have hlen:((ru z).map Ru.pv).length≤100000:=by rw[LK];have:=hu z;lia
 have ec:gp [none,some 1,some 6,some 2,some 4] [val hl,val (.lst l),val (.int t),val R,val (.lst (S.map PV.str)),Ent.own acc,val (.str z),val (.tup ((ru z).map Ru.pv))]=[un,val (.lst l),val (.str z),val (.int t),val (.lst (S.map PV.str))]:=rfl
 have q:=mH (m:=Ru.pv) (k:=0) (tt:=eS) (te:=KU) (p:=fun _=>true) (g:=fun r=>.bl (r.hold (qS l t) (m9 l t z) t (ja S))) (ρ:=[un,val (.lst l),val (.str z),val (.int t),val (.lst (S.map PV.str))]) (ru z) [un,val (.lst l),val (.str z),val (.int t),val (.lst (S.map PV.str))] (fun _=>rfl) (fun _ _=>rfl) (fun r _ _=>by
  simp only[KU,aa,LR,bq,bD,M.ret_bind]
  exact Ae h hn hr r)
 have eall: ∀ us:List Ru,m8 [.lst (us.map fun r=>PV.bl (r.hold (qS l t) (m9 l t z) t (ja S)))]= .ret (.bl (us.all fun r=>r.hold (qS l t) (m9 l t z) t (ja S))):=fun us=>by
  have:j3 (us.map fun r=>PV.bl (r.hold (qS l t) (m9 l t z) t (ja S)))=some (us.map fun r=>r.hold (qS l t) (m9 l t z) t (ja S)):=by
   induction us with
   |nil=>rfl
   |cons u us ih=>simp only[LS,j3,ih];rfl
  simp only[m8,this,M.cY,M.ret_bind,List.all_map]
  rfl
 have hf:(ru z).filter (fun _=>true)=ru z:=by simp
 unfold KR bf
 simp only[aa,aX,cx,bq,bD,M.ret_bind,ba,ec,Mz hlen]
 rw[q,hf]
 simp only[M.ret_bind,eall,rR]
theorem tX {S:List Str} (h:bI l ns) (hn:l.length≤1000) (hr:Reads l) (hu: ∀ z,(ru z).length≤1000): ∀ (zs acc:List Str) (e6 e7:Ent),acc.length+zs.length < 1000→
  ∃ e6' e7',cV (gJ [6,7]) Ib (zs.map (j5 ru)) [val hl,val (.lst l),val (.int t),val R,val (.lst (S.map PV.str)),Ent.own (acc.map PV.str),e6,e7]= .ret (.nx [val hl,val (.lst l),val (.int t),val R,val (.lst (S.map PV.str)),Ent.own ((acc++zs.filter (rR l t ru S)).map PV.str),e6',e7'])
 |[],acc,e6,e7,_=>⟨e6,e7,by simp[cV]⟩
 |z::zs,acc,e6,e7,hz=>by
  have tst:=Hb (hl:=hl) (R:=R) (S:=S) (z:=z) (acc:=acc.map PV.str) h hn hr hu (t:=t)
  rw[LS]
  unfold cV
  have eb:gJ [6,7] (j5 ru z) [val hl,val (.lst l),val (.int t),val R,val (.lst (S.map PV.str)),Ent.own (acc.map PV.str),e6,e7]= .ret [val hl,val (.lst l),val (.int t),val R,val (.lst (S.map PV.str)),Ent.own (acc.map PV.str),val (.str z),val (.tup ((ru z).map Ru.pv))]:=rfl
  rw[eb,M.ret_bind]
  cases c:rR l t ru S z with
  |true=>
   rw[c] at tst
   obtain⟨e6',e7',ih⟩:=tX h hn hr hu zs (acc++[z]) (val (.str z)) (val (.tup ((ru z).map Ru.pv))) (by simp at hz ⊢;lia)
   refine⟨e6',e7',?_⟩
   have hlt:(acc.map PV.str).length < 100000:=by rw[LK];simp at hz;lia
   have st:Ib [val hl,val (.lst l),val (.int t),val R,val (.lst (S.map PV.str)),Ent.own (acc.map PV.str),val (.str z),val (.tup ((ru z).map Ru.pv))]= .ret (.nx [val hl,val (.lst l),val (.int t),val R,val (.lst (S.map PV.str)),Ent.own ((acc++[z]).map PV.str),val (.str z),val (.tup ((ru z).map Ru.pv))]):=by
    unfold Ib
    rw[gC tst]
    simp only[eC,LZ,L0,bq,bD,M.ret_bind,Mz hlt,Ms,LR,List.map_append,LS,List.map_nil]
   rw[st,M.ret_bind,List.filter_cons_of_pos c]
   refine Eq.trans ih ?_
   rw[List.append_assoc]
   rfl
  |false=>
   rw[c] at tst
   obtain⟨e6',e7',ih⟩:=tX h hn hr hu zs acc (val (.str z)) (val (.tup ((ru z).map Ru.pv))) (by simp at hz ⊢;lia)
   refine⟨e6',e7',?_⟩
   have st:Ib [val hl,val (.lst l),val (.int t),val R,val (.lst (S.map PV.str)),Ent.own (acc.map PV.str),val (.str z),val (.tup ((ru z).map Ru.pv))]= .ret (.nx [val hl,val (.lst l),val (.int t),val R,val (.lst (S.map PV.str)),Ent.own (acc.map PV.str),val (.str z),val (.tup ((ru z).map Ru.pv))]):=by
    unfold Ib
    rw[gm tst]
   rw[st,M.ret_bind,List.filter_cons_of_neg (by rw[c];decide)]
   exact ih
end
noncomputable def uj:Option (List Str)→PV
 |none=>.aW
 |some b=>.lst (b.map PV.str)
noncomputable def zN (f:List Str→Str→Bool) (names S:List Str):List Str:=names.filter (f S)
noncomputable def HR (f:List Str→Str→Bool) (names:List Str):Nat→Option (List Str)→List Str→Option (List Str)
 |0,_,_=>none
 |k+1,b,cur=>if b=some cur then some cur else HR f names k (some cur) (zN f names cur)
section
variable {l:List PV} {ns:List Int} {t:Int} {ru:Str→List Ru} {hl:PV} {names:List Str}
theorem G9 {R:PV} {b:Option (List Str)} {cur:List Str} {e6 e7:Ent}:KQ [val hl,val (.lst l),val (.int t),val R,val (uj b),Ent.own (cur.map PV.str),e6,e7]= .ret (!decide (b=some cur)):=by
 unfold KQ bf
 cases b with
 |none=>
  simp only[ab,bq,bD,M.ret_bind,fW,LZ,L0,uj]
  rfl
 |some b=>
  simp only[ab,bq,bD,M.ret_bind,fW,LZ,L0,uj,En,Option.some.injEq]
theorem vp (h:bI l ns) (hn:l.length≤1000) (hr:Reads l) (hu: ∀ z,(ru z).length≤1000) (hm:names.length < 900): ∀ (k:Nat) (b:Option (List Str)) (cur cur':List Str) (e6 e7:Ent),HR (rR l t ru) names k b cur=some cur'→
  ∃ b' e6' e7',zo KQ KS k [val hl,val (.lst l),val (.int t),val (.lst (names.map (j5 ru))),val (uj b),Ent.own (cur.map PV.str),e6,e7]= .ret (.nx [val hl,val (.lst l),val (.int t),val (.lst (names.map (j5 ru))),val b',Ent.own (cur'.map PV.str),e6',e7'])
 |0,b,cur,cur',e6,e7,h0=>by cases h0
 |k+1,b,cur,cur',e6,e7,h0=>by
  unfold HR at h0
  rw[Fn,G9,M.ret_bind]
  by_cases c:b=some cur
  ·rw[Mz c] at h0
   cases h0
   rw[MA (by simp[c])]
   exact⟨_,e6,e7,rfl⟩
  ·rw[MA c] at h0
   rw[Mz (by simp[c])]
   obtain⟨x6,x7,lp⟩:=tX (hl:=hl) (R:=.lst (names.map (j5 ru))) (S:=cur) (t:=t) h hn hr hu names [] e6.freeze e7.freeze (by simp;lia)
   have st:KS [val hl,val (.lst l),val (.int t),val (.lst (names.map (j5 ru))),val (uj b),Ent.own (cur.map PV.str),e6,e7]= .ret (.nx [val hl,val (.lst l),val (.int t),val (.lst (names.map (j5 ru))),val (uj (some cur)),Ent.own ((zN (rR l t ru) names cur).map PV.str),x6,x7]):=by
    unfold KS aB
    have e1:CF (aH 4 (fun ρ=>av ρ 5)) [val hl,val (.lst l),val (.int t),val (.lst (names.map (j5 ru))),val (uj b),Ent.own (cur.map PV.str),e6,e7]= .ret (.nx [val hl,val (.lst l),val (.int t),val (.lst (names.map (j5 ru))),val (.lst (cur.map PV.str)),val (.lst (cur.map PV.str)),e6.freeze,e7.freeze]):=rfl
    rw[e1,M.ret_bind]
    have e2:jg 5 (fun ρ=>((fun _=>M.ret []) ρ).bind bc) [val hl,val (.lst l),val (.int t),val (.lst (names.map (j5 ru))),val (.lst (cur.map PV.str)),val (.lst (cur.map PV.str)),e6.freeze,e7.freeze]= .ret (.nx [val hl,val (.lst l),val (.int t),val (.lst (names.map (j5 ru))),val (.lst (cur.map PV.str)),Ent.own ([].map PV.str),e6.freeze,e7.freeze]):=by
     simp only[jg,M.ret_bind,Et]
     rfl
    show (jg 5 (fun ρ=>((fun _=>M.ret []) ρ).bind bc) [val hl,val (.lst l),val (.int t),val (.lst (names.map (j5 ru))),val (.lst (cur.map PV.str)),val (.lst (cur.map PV.str)),e6.freeze,e7.freeze]).bind _=_
    rw[e2,M.ret_bind]
    show bF _ _ _ _=_
    simp only[bF,bq,bD,M.ret_bind,ba]
    refine Eq.trans lp ?_
    rfl
   rw[st,M.ret_bind]
   exact vp h hn hr hu hm k (some cur) _ cur' x6 x7 h0
end
section
variable {f:List Str→Str→Bool} {names:List Str}
theorem CJ {p q:Str→Bool} (h: ∀ z∈names,p z=true→q z=true):(names.filter p).Sublist (names.filter q):=by
 have:names.filter p=(names.filter q).filter p:=by
  rw[List.filter_filter]
  apply List.filter_congr
  intro z hz
  cases c:p z with
  |false=>simp
  |true=>simp[h z hz c]
 rw[this]
 exact List.filter_sublist
theorem uv (mono: ∀ S S':List Str,(∀ x∈S,x∈S')→∀ z∈names,f S z=true→f S' z=true): ∀ (k:Nat) (b:Option (List Str)) (cur:List Str),(∃ p:Str→Bool,cur=names.filter p∧∀ z∈names,p z=true→f cur z=true)→(∀ B,b=some B→cur=zN f names B)→names.length+2≤cur.length+k→
  ∃ S,HR f names k b cur=some S∧S=zN f names S∧∀ T:Str→Prop,(∀ z∈names,∀ S':List Str,(∀ x∈S',T x)→f S' z=true→T z)→(∀ x∈cur,T x)→∀ x∈S,T x
 |0,b,cur,⟨p,hp,_⟩,_,hk=>by
  have:cur.length≤names.length:=by rw[hp];exact List.length_filter_le ..
  lia
 |k+1,b,cur,⟨p,hp,hf⟩,hb,hk=>by
  unfold HR
  by_cases c:b=some cur
  ·rw[Mz c]
   exact⟨cur,rfl,hb cur c,fun T _ hc=>hc⟩
  ·rw[MA c]
   have sub:cur.Sublist (zN f names cur):=by
    unfold zN
    conv=>lhs;rw[hp]
    exact CJ hf
   have up: ∀ z∈names,f cur z=true→f (zN f names cur) z=true:=mono _ _ fun x hx=>sub.subset hx
   have step: ∀ T:Str→Prop,(∀ z∈names,∀ S':List Str,(∀ x∈S',T x)→f S' z=true→T z)→(∀ x∈cur,T x)→∀ x∈zN f names cur,T x:=fun T hT hc x hx=>by
    obtain⟨h1,h2⟩:=Mx.mp hx
    exact hT x h1 cur hc h2
   by_cases ce:cur.length=(zN f names cur).length
   ·have e:cur=zN f names cur:=sub.eq_of_length ce
    cases k with
    |zero=>
     have:cur.length≤names.length:=by rw[hp];exact List.length_filter_le ..
     lia
    |succ k=>
     refine⟨zN f names cur,?_,?_,step⟩
     ·unfold HR
      rw[Mz (by rw[←e])]
     ·rw[←e];exact e
   ·have hlt:cur.length < (zN f names cur).length:=by have:=sub.length_le;lia
    obtain⟨S,h1,h2,h3⟩:=uv mono k (some cur) (zN f names cur) ⟨f cur,rfl,up⟩ (fun B hB=>by cases hB;rfl) (by lia)
    exact⟨S,h1,h2,fun T hT hc=>h3 T hT (step T hT hc)⟩
end
theorem Ct {S S':List Str} (h: ∀ x∈S,x∈S') {o:Str} (ho:ja S o=true):ja S' o=true:=mL.mpr (h o (mL.mp ho))
theorem Ru.mono {rd:Str→Option Int} {lk:Option Int} {t:Int} {i i':Str→Bool} (h: ∀ o,i o=true→i' o=true) (r:Ru) (hr:r.hold rd lk t i=true):r.hold rd lk t i'=true:=by
 cases r with
 |zl o=>exact h o hr
 |_=>exact hr
theorem va {l:List PV} {t:Int} {ru:Str→List Ru} {S S':List Str} (h: ∀ x∈S,x∈S') (z:Str) (hz:rR l t ru S z=true):rR l t ru S' z=true:=by
 unfold rR at hz ⊢
 exact List.all_eq_true.mpr fun r hr=>r.mono (fun o ho=>Ct h ho) (List.all_eq_true.mp hz r hr)
theorem Ci {l:List PV} {ns:List Int} {t:Int} {ru:Str→List Ru} {hm dk:PV} {ws:List (Str×List PV)} (h:bI l ns) (hn:l.length≤1000) (hr:Reads l) (hu: ∀ z,(ru z).length≤1000) (hw:ws.length < 900)
  (hru: ∀ z,eF [.lst l,.str z,.int t]= .ret (.tup ((ru z).map Ru.pv))):
  ∃ S:List Str,f6 [.tup [.tup (ws.map dX),hm,dk],.lst l,.int t]= .ret (.lst (S.map PV.str))∧S=(ws.map (·.1)).filter (rR l t ru S)∧
   ∀ T:Str→Prop,(∀ z∈ws.map (·.1),∀ S':List Str,(∀ x∈S',T x)→rR l t ru S' z=true→T z)→∀ x∈S,T x:=by
 obtain⟨S,h1,h2,h3⟩:=uv (f:=rR l t ru) (names:=ws.map (·.1)) (fun S S' hs z _ hz=>va hs z hz) 1000 none [] ⟨fun _=>false,by simp,fun z _ hz=>by cases hz⟩ (fun B hB=>by cases hB) (by simp;lia)
 refine⟨S,?_,h2,fun T hT=>h3 T hT fun x hx=>absurd hx LV⟩
 obtain⟨hl,ehl⟩: ∃ hl,hl=PV.tup [.tup (ws.map dX),hm,dk]:=⟨_,rfl⟩
 have i0:aE hl (.int 0)= .ret (.tup (ws.map dX)):=by rw[ehl];simp only[aE,ng,M.cY]
 rw[←ehl]
 unfold f6 jI
 show (aB _ _ [val hl,val (.lst l),val (.int t),un,un,un,un,un]).bind cy=_
 have hlen:(ws.map dX).length≤100000:=by rw[LK];lia
 refine aD (ρ':=[val hl,val (.lst l),val (.int t),val (.lst ((ws.map (fun p:Str×List PV=>p.1)).map (j5 ru))),un,un,un,un]) ?_ ?_
 ·have ec:gp [none,some 1,some 2] [val hl,val (.lst l),val (.int t),un,un,un,un,un]=[un,val (.lst l),val (.int t)]:=rfl
  have q:=mH (m:=dX) (k:=0) (tt:=eS) (te:=fun ρ=>((aa (ab aE (fun ρ=>av ρ 0) (fun _=>M.ret (.int 0))) (aa (fun ρ=>((aa (fun ρ=>av ρ 1) (aa (ab aE (fun ρ=>av ρ 0) (fun _=>M.ret (.int 0))) (aa (fun ρ=>av ρ 2) (fun _=>M.ret [])))) ρ).bind eF) (fun _=>M.ret []))) ρ).bind bh) (p:=fun _=>true) (g:=fun p=>j5 ru p.1) (ρ:=[un,val (.lst l),val (.int t)]) ws [un,val (.lst l),val (.int t)] (fun _=>rfl) (fun _ _=>rfl) (fun p _ _=>by
   simp only[aa,ab,LR,bq,bD,M.ret_bind,aE,ng,M.cY,hru,vj,j5])
  have hf:ws.filter (fun _=>true)=ws:=by simp
  unfold aH aX cx
  dsimp only
  rw[show (ab aE (fun ρ=>av ρ 0) (fun _=>M.ret (.int 0))) [val hl,val (.lst l),val (.int t),un,un,un,un,un]= .ret (.tup (ws.map dX)) by simp only[ab,bq,M.ret_bind,i0]]
  simp only[M.ret_bind,ba,Mz hlen,ec]
  rw[q,hf,List.map_map]
  rfl
 refine aD (ρ':=[val hl,val (.lst l),val (.int t),val (.lst ((ws.map (fun p:Str×List PV=>p.1)).map (j5 ru))),val (uj none),un,un,un]) rfl ?_
 refine aD (ρ':=[val hl,val (.lst l),val (.int t),val (.lst ((ws.map (fun p:Str×List PV=>p.1)).map (j5 ru))),val (uj none),Ent.own (([]:List Str).map PV.str),un,un]) (by simp only[jg,M.ret_bind,Et];rfl) ?_
 obtain⟨b',e6',e7',w⟩:=vp (hl:=hl) (t:=t) h hn hr hu (by rw[LK];exact hw) 1000 none [] S un un h1
 refine aD (ρ':=[val hl,val (.lst l),val (.int t),val (.lst ((ws.map (fun p:Str×List PV=>p.1)).map (j5 ru))),val b',Ent.own (S.map PV.str),e6',e7']) w ?_
 exact bV (bw rfl)
theorem tG {ot:Str×List PV→Option (List Str)}: ∀ {ws:List (Str×List PV)} {p:Str×List PV} {os:List Str},(ws.map (·.1)).Nodup→p∈ws→ot p=some os→uW (fL ot ws) p.1=os
 |w::ws,p,os,nd,hp,ho=>by
  rw[LS,List.nodup_cons] at nd
  rcases LU.mp hp with rfl|hp
  ·unfold uW fL
   simp[ho]
  ·have hne:w.1≠p.1:=fun z=>nd.1 (z▸Mh hp)
   have ih:=tG (ot:=ot) nd.2 hp ho
   unfold uW fL at ih ⊢
   cases c:ot w with
   |none=>simp only[List.filterMap_cons,c,Option.map_none];exact ih
   |some os'=>
    simp only[List.filterMap_cons,c,Option.map_some,List.find?_cons,Mb hne]
    exact ih
theorem Fb {ot:Str×List PV→Option (List Str)} {ws:List (Str×List PV)} {z:Str}:(∃ a∈fL ot ws,a.1=z)→∃ p∈ws,p.1=z∧∃ os,ot p=some os:=by
 rintro⟨a,ha,rfl⟩
 unfold fL at ha
 obtain⟨p,hp,e⟩:=List.mem_filterMap.mp ha
 obtain⟨os,ho,rfl⟩:=Ma.mp e
 exact⟨p,hp,rfl,os,ho⟩
theorem Eu {ot:Str×List PV→Option (List Str)} {ws:List (Str×List PV)} {p:Str×List PV} {os:List Str} (hp:p∈ws) (ho:ot p=some os): ∃ a∈fL ot ws,a.1=p.1:=
 ⟨(p.1,os),List.mem_filterMap.mpr ⟨p,hp,by rw[ho];rfl⟩,rfl⟩
theorem GZ {rd:Str→Option Int} {lk:Option Int} {t:Int} {i:Str→Bool} {rs:List Ru}:(rs.all fun r=>r.hold rd lk t i)=true↔∃ os,xQ (fun r=>r.hold rd lk t fun _=>false) rs=some os∧∀ o∈os,i o=true:=by
 have key: ∀ r:Ru,r.Aj=false→r.hold rd lk t i=r.hold rd lk t fun _=>false:=fun r hr=>by
  cases r<;>first|rfl|cases hr
 unfold xQ
 constructor
 ·intro h
  have h1:((rs.filter fun r=>!r.Aj).all fun r=>r.hold rd lk t fun _=>false)=true:=List.all_eq_true.mpr fun r hr=>by
   obtain⟨h2,h3⟩:=Mx.mp hr
   rw[←key r (by simpa using h3)]
   exact List.all_eq_true.mp h r h2
  refine⟨_,by rw[Mz h1],fun o ho=>?_⟩
  obtain⟨r,hr,rfl⟩:=LW.mp ho
  obtain⟨h2,h3⟩:=Mx.mp hr
  have:=List.all_eq_true.mp h r h2
  cases r<;>first|exact this|cases h3
 ·rintro⟨os,h,ho⟩
  by_cases c:((rs.filter fun r=>!r.Aj).all fun r=>r.hold rd lk t fun _=>false)=true
  ·rw[Mz c] at h
   cases h
   refine List.all_eq_true.mpr fun r hr=>?_
   cases cw:r.Aj with
   |true=>
    have:=ho r.HY (Mh (Mx.mpr ⟨hr,cw⟩))
    cases r<;>first|exact this|cases cw
   |false=>
    show r.hold rd lk t i=true
    rw[key r cw]
    exact List.all_eq_true.mp c r (Mx.mpr ⟨hr,by simp[cw]⟩)
  ·rw[MA c] at h;cases h
section
variable {l:List PV} {ns:List Int} {t:Int} {ru:Str→List Ru} {hm dk:PV} {ws:List (Str×List PV)}
theorem zQ (h:bI l ns) (hr:Reads l) (hu: ∀ z,(ru z).length≤1000) (hw:ws.length≤90) (nd:(ws.map (·.1)).Nodup)
  (hk: ∀ p∈ws,∃ kd q,p.2= .str kd::q∧((kd==("slope":Str))=false→m9 l t p.1=none))
  (hru: ∀ z,fg [.tup (bp l),.str z,.int t]= .ret (.tup ((ru z).map Ru.pv)))
  {S:List Str} (hS:S=(ws.map (·.1)).filter (rR l t ru S)) (hT: ∀ T:Str→Prop,(∀ z∈ws.map (·.1),∀ S':List Str,(∀ x∈S',T x)→rR l t ru S' z=true→T z)→∀ x∈S,T x):
  eD [.tup [.tup (ws.map dX),hm,dk],.tup (bp l),.int t]= .ret (.tup (S.map PV.str)):=by
 obtain⟨ot,hot⟩: ∃ ot:Str×List PV→Option (List Str),ot=fun p=>xQ (fun r=>r.hold (qS l t) (m9 l t p.1) t fun _=>false) (ru p.1):=⟨_,rfl⟩
 have asked: ∀ p∈ws,bJ [.tup (bp l),dX p,.int t]= .ret (wk (ot p)):=fun p hp=>by
  obtain⟨kd,q,e,hs⟩:=hk p hp
  rw[hot]
  show bJ [.tup (bp l),.tup (.str p.1::p.2),.int t]=_
  rw[e]
  exact xP (hu p.1) (hru p.1) fun u _ _=>Df h hr hs u
 have hlen: ∀ a∈fL ot ws,a.2.length≤1000:=fun a ha=>by
  unfold fL at ha
  obtain⟨p,hp,e⟩:=List.mem_filterMap.mp ha
  obtain⟨os,ho,rfl⟩:=Ma.mp e
  rw[hot] at ho
  unfold xQ at ho
  dsimp only at ho ⊢
  split at ho
  ·cases ho
   rw[LK]
   exact L6 (List.length_filter_le ..) (hu p.1)
  ·cases ho
 have hA:(fL ot ws).length≤90:=L6 (List.length_filterMap_le _ _) hw
 obtain⟨xs,_,hwh,hclo,hleast⟩:=Ap hlen hA
 rw[Ec asked nd hw hlen hwh]
 have okI: ∀ (p:Str×List PV) (S':List Str),rR l t ru S' p.1=true↔∃ os,ot p=some os∧∀ o∈os,o∈S':=fun p S'=>by
  unfold rR
  rw[GZ,hot]
  simp only[mL]
 have s1: ∀ x∈xs,x∈S:=hleast (·∈S) fun x hx ho=>by
  obtain⟨p,hp,rfl,os,e⟩:=Fb hx
  rw[tG nd hp e] at ho
  rw[hS]
  exact Mx.mpr ⟨Mh hp,(okI p S).mpr ⟨os,e,ho⟩⟩
 have s2: ∀ x∈S,x∈xs:=hT (·∈xs) fun z hz S' hS' bE=>by
  obtain⟨p,hp,rfl⟩:=LW.mp hz
  obtain⟨os,e,ho⟩:=(okI p S').mp bE
  exact hclo p.1 (Eu hp e) (by rw[tG nd hp e];exact fun o h'=>hS' o (ho o h'))
 have e:(ws.map (·.1)).filter (jN (rm xs))=S:=by
  conv=>rhs;rw[hS]
  apply List.filter_congr
  intro z hz
  rw[vE]
  have:z∈S↔rR l t ru S z=true:=by
   conv=>lhs;rw[hS]
   rw[Mx]
   exact⟨fun h=>h.2,fun h=>⟨hz,h⟩⟩
  cases c:rR l t ru S z with
  |true=>simp[s2 z (this.mpr c)]
  |false=>
   have:z∉xs:=fun h=>by have:=this.mp (s1 z h);rw[c] at this;cases this
   simp[this]
 rw[e]
end
theorem FP {k:Nat} {mb:af→M Fl} {c:Nat} {Iv:Nat→af→Prop}: ∀ (l:List PV) (i:Nat) (ρ:af),Iv i ρ→(∀ j y,l[j]?=some y→∀ ρ,Iv (i+j) ρ→Gen (mb (ρ.set k (.val y))) c fun f=> ∃ ρ',f= .nx ρ'∧Iv (i+j+1) ρ')→Gen (cV (aL k) mb l ρ) (l.length * c) fun f=> ∃ ρ',f= .nx ρ'∧Iv (i+l.length) ρ'
 |[],i,ρ,h,_=>Gen.le (Gen.eq rfl ⟨ρ,rfl,h⟩) (Me _)
 |y::l,i,ρ,h,hs=>by
  unfold cV
  simp only[aL,M.ret_bind]
  refine Gen.le (Gen.bind (hs 0 y rfl ρ h) (d:=l.length * c) ?_) (by rw[LX,Nat.add_mul];lia)
  rintro _ ⟨ρ',rfl,h'⟩
  have:=FP (k:=k) (mb:=mb) (c:=c) (Iv:=Iv) l (i+1) ρ' h' fun j z hj ρ hi=>by
   have e:i+1+j=i+(j+1):=by lia
   rw[e] at hi ⊢
   exact hs (j+1) z hj ρ hi
  have e:i+1+l.length=i+(y::l).length:=by simp only[LX];lia
  rw[e] at this
  exact this
def iX (h:PV) (ws:List (Str×List PV)) (dark:Int):Prop:= ∃ hm,h= .tup [.tup (ws.map fun p=>.tup (.str p.1::p.2)),hm,.int dark]∧0 < ws.length∧ws.length≤12∧(∀ p∈ws,Wd p.1∧∃ (k:Str) (r:List PV),p.2= .str k::r)∧1≤dark∧dark≤1000000∧(ws.map (·.1)).Nodup
theorem t7 {l:List PV} {n:Int} (hn:(l.length:Int)=n) (h0:0 < l.length) (h1:l.length < 1000):Gen ((oH [.bQ,.int n]).bind fun i=>aE (.lst l) i) 1 (fun y=>y∈l):=Hn hn h0 h1
theorem CB {most sc:Int} (m0:1≤most) (m1:most≤12) (s0:1≤sc) (s1:sc≤33333):Gen (jY [.bQ,.int most,.int sc]) 300 (fun h=> ∃ ws dark,iX h ws dark):=by
 unfold jY jJ
 show Gen ((aB _ _ [val .bQ,val (.int most),val (.int sc),un,un,un,un,un,un]).bind cy) 300 _
 refine Gen.le (dU (c:=1+5 * 9) (d:=200) (I:=fun ρ=> ∃ sp:List Str,2≤sp.length∧sp.length≤5∧ρ=[val .bQ,val (.int most),val (.int sc),val (.lst (sp.map PV.str)),un,un,un,un,un]) ?_ ?_) (by decide)
 ·simp only[aH,ab,aa,bq,bD,M.ret_bind,ak,M.bind_assoc]
  refine Gen.le (Gen.bind (Gen.draw (by lia) (by lia)) (d:=5 * 9) ?_) (by decide)
  rintro _ ⟨d,rfl,d0,d1⟩
  have ea:cZ (.int 2) (.int d)= .ret (.int (2+d)):=rfl
  simp only[ea,M.ret_bind]
  refine Gen.le (Gen.bind (nW (k:=2+d) (by lia) (by lia)) (d:=0) ?_) (by lia)
  rintro _ ⟨sp,rfl,hl,_⟩
  exact Gen.eq (y:=.nx _) rfl ⟨_,rfl,sp,by lia,by lia,rfl⟩
 rintro _ ⟨sp,p0,p1,rfl⟩
 refine Gen.le (dU (c:=1+12 * 9) (d:=90) (I:=fun ρ=> ∃ nm:List Str,1≤nm.length∧nm.length≤12∧((∀ z∈nm,Wd z)∧nm.Nodup)∧ρ=[val .bQ,val (.int most),val (.int sc),val (.lst (sp.map PV.str)),val (.lst (nm.map PV.str)),un,un,un,un]) ?_ ?_) (by decide)
 ·simp only[aH,ab,aa,bq,bD,M.ret_bind,ak,M.bind_assoc]
  refine Gen.le (Gen.bind (Gen.draw (by lia) (by lia)) (d:=12 * 9) ?_) (by decide)
  rintro _ ⟨d,rfl,d0,d1⟩
  have ea:cZ (.int 1) (.int d)= .ret (.int (1+d)):=rfl
  simp only[ea,M.ret_bind]
  refine Gen.le (Gen.bind (nW (k:=1+d) (by lia) (by lia)) (d:=0) ?_) (by lia)
  rintro _ ⟨nm,rfl,hl,hw⟩
  exact Gen.eq (y:=.nx _) rfl ⟨_,rfl,nm,by lia,by lia,hw,rfl⟩
 rintro _ ⟨nm,n0,n1,nw,rfl⟩
 refine Gen.le (dU (c:=0) (d:=90) (I:=fun ρ=>ρ=[val .bQ,val (.int most),val (.int sc),val (.lst (sp.map PV.str)),val (.lst (nm.map PV.str)),Ent.own [],un,un,un]) (An (by simp[jg,bc]) rfl) ?_) (by decide)
 rintro _ rfl
 refine Gen.le (dU (c:=12 * 5) (d:=2) (I:=fun ρ=> ∃ (ws:List (Str×List PV)) (e6 e7 e8:Ent),ws.length=nm.length∧ws.map (·.1)=nm∧(∀ p∈ws,Wd p.1∧∃ (k:Str) (r:List PV),p.2= .str k::r)∧ρ=[val .bQ,val (.int most),val (.int sc),val (.lst (sp.map PV.str)),val (.lst (nm.map PV.str)),Ent.own (ws.map fun p=>.tup (.str p.1::p.2)),e6,e7,e8]) ?_ ?_) (by decide)
 ·simp only[bF,bq,bD,M.ret_bind,ba]
  refine Gen.mono (FP (k:=6) (c:=5) (Iv:=fun i ρ=> ∃ (ws:List (Str×List PV)) (e6 e7 e8:Ent),ws.length=i∧ws.map (·.1)=nm.take i∧(∀ p∈ws,Wd p.1∧∃ (k:Str) (r:List PV),p.2= .str k::r)∧ρ=[val .bQ,val (.int most),val (.int sc),val (.lst (sp.map PV.str)),val (.lst (nm.map PV.str)),Ent.own (ws.map fun p=>.tup (.str p.1::p.2)),e6,e7,e8]) (nm.map PV.str) 0 _ ⟨[],_,_,_,rfl,rfl,fun p hp=>absurd hp LV,rfl⟩ ?_) (by rw[LK];lia) ?_
  rotate_left
  ·rintro f ⟨ρ',rfl,ws,e6,e7,e8,hn,ht,hw,rfl⟩
   rw[LK,Nat.zero_add] at hn ht
   rw[List.take_length] at ht
   exact⟨_,rfl,ws,e6,e7,e8,hn,ht,hw,rfl⟩
  ·rintro j y hy _ ⟨ws,e6,e7,e8,hn,ht,hw,rfl⟩
   rw[Nat.zero_add] at hn ht
   rw[L5] at hy
   obtain⟨z,hzj,rfl⟩:=Ma.mp hy
   have hz:z∈nm:=List.mem_of_getElem? hzj
   have hj:j < nm.length:=(LP.mp hzj).1
   show Gen (aB _ _ [val .bQ,val (.int most),val (.int sc),val (.lst (sp.map PV.str)),val (.lst (nm.map PV.str)),Ent.own (ws.map fun p=>.tup (.str p.1::p.2)),val (.str z),e7,e8]) 5 _
   refine Gen.le (mN (c:=1) (d:=4) (I:=fun ρ=> ∃ kd:Str,ρ=[val .bQ,val (.int most),val (.int sc),val (.lst (sp.map PV.str)),val (.lst (nm.map PV.str)),Ent.own (ws.map fun p=>.tup (.str p.1::p.2)),val (.str z),val (.str kd),e8]) ?_ ?_) (by decide)
   ·simp only[aH,ab,aX,aa,bq,bD,M.ret_bind,G4,ak,M.bind_assoc]
    refine Gen.le (Gen.bind (Gen.draw (by lia) (by lia)) (d:=0) ?_) (by decide)
    rintro _ ⟨d,rfl,d0,d1⟩
    obtain⟨v,hv,e⟩:=iq (l:=[PV.str "slope",PV.str "slope",PV.str "lift",PV.str "path"]) d0 d1
    obtain⟨kd,rfl⟩: ∃ kd:Str,v= .str kd:=by
     simp only[LU,LV,or_false] at hv
     rcases hv with rfl|rfl|rfl|rfl<;>exact⟨_,rfl⟩
    exact Gen.eq (y:=.nx _) (by simp only[aE,e,M.cY,M.ret_bind];rfl) ⟨_,rfl,kd,rfl⟩
   rintro _ ⟨kd,rfl⟩
   refine Gen.le (mN (c:=2) (d:=2) (I:=fun ρ=> ∃ a b:PV,ρ=[val .bQ,val (.int most),val (.int sc),val (.lst (sp.map PV.str)),val (.lst (nm.map PV.str)),Ent.own (ws.map fun p=>.tup (.str p.1::p.2)),val (.str z),val (.str kd),val (.lst [a,b])]) ?_ ?_) (by decide)
   ·have er:dH [.int 2]= .ret [.int 0,.int 1]:=rfl
    have ec:gp [none,some 3,some 0] [val .bQ,val (.int most),val (.int sc),val (.lst (sp.map PV.str)),val (.lst (nm.map PV.str)),Ent.own (ws.map fun p=>.tup (.str p.1::p.2)),val (.str z),val (.str kd),e8]=[un,val (.lst (sp.map PV.str)),val .bQ]:=rfl
    unfold aH aX cx
    simp only[aa,bq,bD,M.ret_bind,er,ec,M.bind_assoc]
    rw[Mz (by decide)]
    refine Gen.le (Gen.bind (Gen.lc (ρ:=[un,val (.lst (sp.map PV.str)),val .bQ]) (c:=1) (Pr:=fun _=>True) _ _ (fun _=>rfl) (fun y hy=>?_)) (d:=0) ?_) (by decide)
    ·simp only[LR,ab,bq,bD,M.ret_bind,gB,ak,LK]
     refine Gen.mono (t7 (l:=sp.map PV.str) (by rw[LK]) (by rw[LK];lia) (by rw[LK];lia)) (LQ _) fun _ _=>trivial
    ·rintro us ⟨z1,_⟩
     match us,z1 with
     |[a,b],_=>exact Gen.eq (y:=.nx _) rfl ⟨_,rfl,a,b,rfl⟩
   rintro _ ⟨a,b,rfl⟩
   have i0:aE (.lst [a,b]) (.int 0)= .ret a:=rfl
   have i1:aE (.lst [a,b]) (.int 1)= .ret b:=rfl
   have hl:(ws.map fun p=>PV.tup (.str p.1::p.2)).length < 100000:=by rw[LK];lia
   simp only[eC,LZ,L0,aa,ab,bq,bD,M.ret_bind,i0,i1,ak,M.bind_assoc]
   refine Gen.le (Gen.bind (Gen.draw (by lia) (by lia)) (d:=1) ?_) (by decide)
   rintro _ ⟨u,rfl,u0,u1⟩
   rw[vh (by lia) (by lia)]
   simp only[M.ret_bind]
   refine Gen.le (Gen.bind (Gen.draw (by lia) (by lia)) (d:=0) ?_) (by decide)
   rintro _ ⟨v,rfl,v0,v1⟩
   rw[vh (by lia) (by lia)]
   refine Gen.eq (y:=.nx _) (by simp only[M.ret_bind,KN,Mz hl];rfl) ⟨_,rfl,ws++[(z,[.str kd,a,b,.int (sc * u),.int (sc * v)])],_,_,_,by simp[hn],by rw[List.map_append,ht,Nat.zero_add,List.take_succ,hzj];rfl,fun p hp=>?_,by rw[List.map_append];rfl⟩
   rcases My.mp hp with hp|hp
   ·exact hw p hp
   ·rw[Mf.mp hp]
    exact⟨nw.1 z hz,kd,_,rfl⟩
 rintro _ ⟨ws,e6,e7,e8,hn,ht,hw,rfl⟩
 simp only[bG,LS,List.map_nil,Ent.freeze,aa,ab,bq,bD,M.ret_bind,nr,gB,ak,LK,M.bind_assoc]
 refine Gen.le (Gen.bind (Gen.draw (by lia) (by lia)) (d:=1) ?_) (by decide)
 rintro _ ⟨d,rfl,d0,d1⟩
 obtain⟨hm,_,e⟩:=iq (l:=sp.map PV.str) d0 (by rw[LK];exact d1)
 simp only[aE,e,M.cY,M.ret_bind]
 refine Gen.le (Gen.bind (Gen.draw (by lia) (by lia)) (d:=0) ?_) (by decide)
 rintro _ ⟨g,rfl,g0,g1⟩
 have ea:cZ (.int 1) (.int g)= .ret (.int (1+g)):=rfl
 have hp:0 < sc * (1+g):=Int.mul_pos (by lia) (by lia)
 have hq:sc * (1+g)≤33333 * 30:=Int.mul_le_mul s1 (by lia) (by lia) (by lia)
 rw[ea]
 simp only[M.ret_bind]
 rw[vh (by lia) (by lia)]
 exact Gen.eq (y:=.tup [.tup (ws.map fun p=>.tup (.str p.1::p.2)),hm,.int (sc * (1+g))]) (by simp only[M.ret_bind,Es];rfl) ⟨ws,_,hm,rfl,by lia,by lia,hw,by lia,by lia,by rw[ht];exact nw.2⟩
theorem jM {h:PV} {ws:List (Str×List PV)} {dark:Int} (H:iX h ws dark):aE h (.int 0)= .ret (.tup (ws.map fun p=>.tup (.str p.1::p.2)))∧aE h (.int 2)= .ret (.int dark):=by
 obtain⟨hm,rfl,_⟩:=H
 exact⟨rfl,rfl⟩
theorem xy {h:PV} {ws:List (Str×List PV)} {dark sc:Int} (H:iX h ws dark) (s0:1≤sc) (s1:sc≤33333):Gen (fQ [.bQ,h,.int sc]) 2 (fun y=> ∃ i:Int,y= .int i∧0≤i∧i≤1000000):=by
 obtain⟨_,h2⟩:=jM H
 obtain⟨_,_,_,_,_,k0,k1⟩:=H
 unfold fQ gW
 show Gen ((bG _ [val .bQ,val h,val (.int sc)]).bind cy) 2 _
 have en:jA (.int 1)= .ret (.int (-1)):=rfl
 simp only[bG,LS,List.map_nil,Ent.freeze,ab,aX,aa,bq,bD,M.ret_bind,h2,en,G4,ak,M.bind_assoc]
 refine Gen.le (Gen.bind (Gen.draw (by lia) (by lia)) (d:=1) ?_) (by decide)
 rintro _ ⟨d,rfl,d0,d1⟩
 rw[vh (by lia) (by lia)]
 simp only[M.ret_bind]
 refine Gen.le (Gen.bind (Gen.draw (by lia) (by lia)) (d:=0) ?_) (by decide)
 rintro _ ⟨g,rfl,g0,g1⟩
 obtain⟨y,hy,e⟩:=iq (l:=[PV.int 0,PV.int 0,PV.int 1,PV.int (-1)]) g0 g1
 obtain⟨i,rfl⟩: ∃ i:Int,y= .int i:=by
  simp only[LU,LV,or_false] at hy
  rcases hy with rfl|rfl|rfl|rfl<;>exact⟨_,rfl⟩
 have ea:cZ (.int (sc * d)) (.int i)= .ret (.int (sc * d+i)):=rfl
 generalize sc * d+i=v at ea
 refine Gen.eq (y:=.int (if(if v > 0 then v else 0) < dark then(if v > 0 then v else 0) else dark)) (by simp only[aE,e,M.cY,M.ret_bind,ea,rS,p5];rfl) ⟨_,rfl,?_,?_⟩
 ·split<;>split<;>lia
 ·split<;>split<;>lia
theorem AO {h:PV} {ws:List (Str×List PV)} {dark:Int} (H:iX h ws dark):Gen ((oH [.bQ,.int ws.length]).bind fun i=>(aE (.tup (ws.map fun p=>.tup (.str p.1::p.2))) i).bind fun y=>aE y (.int 0)) 1 (fun y=> ∃ x,y= .str x∧Wd x):=by
 obtain⟨_,_,w0,w1,hw,_⟩:=H
 refine Gen.le (Gen.bind (Gen.draw (by lia) (by lia)) (d:=0) ?_) (by decide)
 rintro _ ⟨d,rfl,d0,d1⟩
 obtain⟨y,hy,e⟩:=iq (l:=ws.map fun p=>PV.tup (.str p.1::p.2)) d0 (by rw[LK];exact d1)
 obtain⟨p,hp,rfl⟩:=LW.mp hy
 exact Gen.eq (y:=.str p.1) (by simp only[aE,e,M.cY,M.ret_bind,ng]) ⟨p.1,rfl,(hw p hp).1⟩
def FX (y:PV):Prop:=uq 400 1 y
theorem rt {w:Str} {r:List PV} (hw:Sh w) (hr:r.length≤3) (h: ∀ x∈r,uq 82 0 x):FX (.tup (.str w::r)):=by
 refine(o5 (c:=82) (dp:=0) (n:=4) (fun z hz=>?_) (by simp;lia)).mono (by lia) (LQ _)
 rcases LU.mp hz with rfl|hz
 ·exact ss hw
 ·exact h z hz
def Ij (y:PV):Prop:=FX y∧∃ r:Ru,y=r.pv
theorem CA {h:PV} {ws:List (Str×List PV)} {dark sc:Int} {ps:List Str} (H:iX h ws dark) (s0:1≤sc) (s1:sc≤33333) (p0:0 < ps.length) (p1:ps.length≤20) (pw: ∀ z∈ps,Wd z):Gen (iw [.bQ,h,.lst (ps.map PV.str),.int sc]) 7 Ij:=by
 obtain⟨h0,_⟩:=jM H
 have wa:=AO H
 unfold iw jG
 show Gen ((aB _ _ [val .bQ,val h,val (.lst (ps.map PV.str)),val (.int sc),un,un,un,un,un,un]).bind cy) 7 _
 refine Gen.le (dU (c:=1) (d:=6) (I:=fun ρ=> ∃ w:Int,0≤w∧w < 12∧ρ=[val .bQ,val h,val (.lst (ps.map PV.str)),val (.int sc),val (.int w),un,un,un,un,un]) ?_ ?_) (by decide)
 ·simp only[aH,aa,bq,bD,M.ret_bind,ak]
  refine Gen.le (Gen.bind (Gen.draw (by lia) (by lia)) (d:=0) ?_) (by decide)
  rintro _ ⟨w,rfl,w0,w1⟩
  exact Gen.eq (y:=.nx _) rfl ⟨_,rfl,w,w0,w1,rfl⟩
 rintro _ ⟨w,w0,w1,rfl⟩
 refine Gen.le (dU (c:=1) (d:=5) (I:=fun ρ=> ∃ x:Str,Wd x∧ρ=[val .bQ,val h,val (.lst (ps.map PV.str)),val (.int sc),val (.int w),val (.str x),un,un,un,un]) ?_ ?_) (by decide)
 ·simp only[aH,ab,aa,bq,bD,M.ret_bind,gB,ak,LK,M.bind_assoc]
  rw[←M.bind_assoc]
  refine Gen.le (Gen.bind (t7 (l:=ps.map PV.str) (by rw[LK]) (by rw[LK];lia) (by rw[LK];lia)) (d:=0) ?_) (by decide)
  intro y hy
  obtain⟨x,hx,rfl⟩:=LW.mp hy
  exact Gen.eq (y:=.nx _) rfl ⟨_,rfl,x,pw x hx,rfl⟩
 rintro _ ⟨x,hx,rfl⟩
 refine Gen.le (dU (c:=1) (d:=4) (I:=fun ρ=> ∃ n:Int,-3≤n∧n≤3∧ρ=[val .bQ,val h,val (.lst (ps.map PV.str)),val (.int sc),val (.int w),val (.str x),val (.int n),un,un,un]) ?_ ?_) (by decide)
 ·simp only[aH,ab,aa,bq,bD,M.ret_bind,ak,M.bind_assoc]
  refine Gen.le (Gen.bind (Gen.draw (by lia) (by lia)) (d:=0) ?_) (by decide)
  rintro _ ⟨n,rfl,n0,n1⟩
  exact Gen.eq (y:=.nx _) rfl ⟨_,rfl,n - 3,by lia,by lia,rfl⟩
 rintro _ ⟨n,n0,n1,rfl⟩
 refine Gen.le (dU (c:=3) (d:=1) (I:=fun ρ=> ∃ a b:Int,0≤a∧a≤1000000∧-1≤b∧b≤1000000∧ρ=[val .bQ,val h,val (.lst (ps.map PV.str)),val (.int sc),val (.int w),val (.str x),val (.int n),val (.int a),val (.int b),un]) ?_ ?_) (by decide)
 ·simp only[D8,ab,aa,bq,bD,M.ret_bind,ak,M.bind_assoc]
  refine Gen.le (Gen.bind (Gen.draw (by lia) (by lia)) (d:=2) ?_) (by decide)
  rintro _ ⟨a,rfl,a0,a1⟩
  rw[vh (by lia) (by lia)]
  simp only[M.ret_bind]
  refine Gen.le (Gen.bind (Gen.draw (by lia) (by lia)) (d:=1) ?_) (by decide)
  rintro _ ⟨b,rfl,b0,b1⟩
  have ea:cZ (.int 1) (.int b)= .ret (.int (1+b)):=rfl
  rw[ea]
  simp only[M.ret_bind]
  rw[vh (by lia) (by lia)]
  simp only[M.ret_bind]
  refine Gen.le (Gen.bind (Gen.draw (by lia) (by lia)) (d:=0) ?_) (by decide)
  rintro _ ⟨c,rfl,c0,c1⟩
  have q0:0≤sc * a:=Int.mul_nonneg (by lia) a0
  have q1:sc * a≤33333 * 30:=Int.mul_le_mul s1 (by lia) a0 (by lia)
  have q2:0≤sc * (1+b):=Int.mul_nonneg (by lia) (by lia)
  have q3:sc * (1+b)≤33333 * 12:=Int.mul_le_mul s1 (by lia) (by lia) (by lia)
  exact Gen.eq (y:=.nx _) rfl ⟨_,rfl,sc * a,sc * (1+b)+c - 1,q0,by lia,by lia,by lia,rfl⟩
 rintro _ ⟨a,b,a0,a1,b0,b1,rfl⟩
 refine Gen.le (dU (c:=1) (d:=0) (I:=fun ρ=> ∃ z:Str,Wd z∧ρ=[val .bQ,val h,val (.lst (ps.map PV.str)),val (.int sc),val (.int w),val (.str x),val (.int n),val (.int a),val (.int b),val (.str z)]) ?_ ?_) (by decide)
 ·simp only[aH,ab,aa,bq,bD,M.ret_bind,h0,gB,ak,LK,M.bind_assoc]
  have wa':Gen (((oH [.bQ,.int ws.length]).bind fun i=>(aE (.tup (ws.map fun p=>.tup (.str p.1::p.2))) i).bind fun y=>aE y (.int 0)).bind fun y=>M.ret (Fl.nx ([val .bQ,val h,val (.lst (ps.map PV.str)),val (.int sc),val (.int w),val (.str x),val (.int n),val (.int a),val (.int b),un].set 9 (val y)))) 1 (fun f=> ∃ ρ',f= .nx ρ'∧∃ z:Str,Wd z∧ρ'=[val .bQ,val h,val (.lst (ps.map PV.str)),val (.int sc),val (.int w),val (.str x),val (.int n),val (.int a),val (.int b),val (.str z)]):=by
   refine Gen.le (Gen.bind wa (d:=0) ?_) (by decide)
   rintro _ ⟨z,rfl,hz⟩
   exact Gen.eq (y:=.nx _) rfl ⟨_,rfl,z,hz,rfl⟩
  simp only[M.bind_assoc] at wa'
  exact wa'
 rintro _ ⟨z,hz,rfl⟩
 have lt: ∀ k:Int,bf (ab tW (fun ρ=>av ρ 4) (fun _=>M.ret (.int k))) [val .bQ,val h,val (.lst (ps.map PV.str)),val (.int sc),val (.int w),val (.str x),val (.int n),val (.int a),val (.int b),val (.str z)]= .ret (decide (w < k)):=by intro k;simp[bf,ab,av,tW,xm]
 have em:rS [.int 1,.int b]= .ret (.int (if b > 1 then b else 1)):=rfl
 have mb0:1≤(if b > 1 then b else 1)∧(if b > 1 then b else 1)≤1000000:=by split<;>lia
 generalize (if b > 1 then b else 1)=mb at em mb0
 by_cases c3:w < 3
 ·unfold aB
  rw[gC (by rw[lt,decide_eq_true c3])]
  have ea:cZ (.int a) (.int mb)= .ret (.int (a+mb)):=rfl
  have e2:p5 [.int 1000001,.int (a+mb)]= .ret (.int (if a+mb < 1000001 then a+mb else 1000001)):=rfl
  refine Gen.eq (y:=.tup [.str "hours",.int a,.int (if a+mb < 1000001 then a+mb else 1000001)]) (by simp only[bG,LS,List.map_nil,Ent.freeze,aa,ab,bq,bD,M.ret_bind,em,ea,e2,Es];rfl) ⟨rt (by decide) (by simp) fun v hv=>?_,.j0 a _,rfl⟩
  simp only[LU,LV,or_false] at hv
  rcases hv with rfl|rfl
  ·exact si (by lia)
  ·exact si (by split<;>lia)
 refine Gen.le (dU (c:=0) (d:=0) (I:=fun ρ=>ρ=[val .bQ,val h,val (.lst (ps.map PV.str)),val (.int sc),val (.int w),val (.str x),val (.int n),val (.int a),val (.int b),val (.str z)]) (An (gm (by rw[lt,Mb c3])) rfl) ?_) (by decide)
 rintro _ rfl
 by_cases c8:w < 8
 ·unfold aB
  rw[gC (by rw[lt,decide_eq_true c8])]
  have e2:vi (.int w) (.int 2)= .ret (.int (w % 2)):=by unfold vi xk;simp
  obtain⟨v,hv,e⟩:=iq (l:=[PV.tup [.str "least",.str x,.int n],PV.tup [.str "most",.str x,.int n]]) (d:=w % 2) (by lia) (by simp;lia)
  have hv':Ij v:=by
   simp only[LU,LV,or_false] at hv
   rcases hv with rfl|rfl
   ·refine⟨rt (by decide) (by simp) fun u hu=>?_,.post true x n,rfl⟩
    simp only[LU,LV,or_false] at hu
    rcases hu with rfl|rfl
    ·exact ss hx.sh
    ·exact si (by lia)
   ·refine⟨rt (by decide) (by simp) fun u hu=>?_,.post false x n,rfl⟩
    simp only[LU,LV,or_false] at hu
    rcases hu with rfl|rfl
    ·exact ss hx.sh
    ·exact si (by lia)
  exact Gen.eq (y:=v) (by simp only[bG,LS,List.map_nil,Ent.freeze,aX,aa,ab,bq,bD,M.ret_bind,Es,G5,e2,aE,e,M.cY];rfl) hv'
 refine Gen.le (dU (c:=0) (d:=0) (I:=fun ρ=>ρ=[val .bQ,val h,val (.lst (ps.map PV.str)),val (.int sc),val (.int w),val (.str x),val (.int n),val (.int a),val (.int b),val (.str z)]) (An (gm (by rw[lt,Mb c8])) rfl) ?_) (by decide)
 rintro _ rfl
 by_cases c10:w < 10
 ·unfold aB
  rw[gC (by rw[lt,decide_eq_true c10])]
  refine Gen.eq (y:=.tup [.str "looked",.int mb]) (by simp only[bG,LS,List.map_nil,Ent.freeze,aa,bq,bD,M.ret_bind,em,vj];rfl) ⟨rt (by decide) (by simp) fun v hv=>?_,.looked mb,rfl⟩
  simp only[LU,LV,or_false] at hv
  subst hv
  exact si (by lia)
 refine Gen.le (dU (c:=0) (d:=0) (I:=fun ρ=>ρ=[val .bQ,val h,val (.lst (ps.map PV.str)),val (.int sc),val (.int w),val (.str x),val (.int n),val (.int a),val (.int b),val (.str z)]) (An (gm (by rw[lt,Mb c10])) rfl) ?_) (by decide)
 rintro _ rfl
 have eb: ∃ q:Bool,jk (ab (eI false) (fun ρ=>av ρ 4) (fun _=>M.ret (.int 11))) (ab EK (fun ρ=>av ρ 6) (fun _=>M.ret (.int 0))) [val .bQ,val h,val (.lst (ps.map PV.str)),val (.int sc),val (.int w),val (.str x),val (.int n),val (.int a),val (.int b),val (.str z)]= .ret (.bl q):=by
  have g1:ab EK (fun ρ=>av ρ 6) (fun _=>M.ret (.int 0)) [val .bQ,val h,val (.lst (ps.map PV.str)),val (.int sc),val (.int w),val (.str x),val (.int n),val (.int a),val (.int b),val (.str z)]= .ret (.bl (decide (0 < n))):=by simp[ab,av,EK,xm]
  have g2:ab (eI false) (fun ρ=>av ρ 4) (fun _=>M.ret (.int 11)) [val .bQ,val h,val (.lst (ps.map PV.str)),val (.int sc),val (.int w),val (.str x),val (.int n),val (.int a),val (.int b),val (.str z)]= .ret (.bl (w==11)):=by simp[ab,av,Lo]
  cases c:(w==11) with
  |true=>
   refine⟨decide (0 < n),?_⟩
   unfold jk bf
   rw[g2,c]
   simp only[M.ret_bind,if_true]
   exact g1
  |false=>
   refine⟨false,?_⟩
   unfold jk bf
   rw[g2,c]
   simp only[M.ret_bind,Mt,if_false]
 obtain⟨q,eb⟩:=eb
 have ei:xt [.bl q]= .ret (.int (if q then 1 else 0)):=rfl
 obtain⟨v,hv,e⟩:=iq (l:=[PV.tup [.str "with",.str z],PV.tup [.str "never"]]) (d:=if q then 1 else 0) (by split<;>lia) (by simp;split<;>lia)
 have hv':Ij v:=by
  simp only[LU,LV,or_false] at hv
  rcases hv with rfl|rfl
  ·refine⟨rt (by decide) (by simp) fun u hu=>?_,.zl z,rfl⟩
   simp only[LU,LV,or_false] at hu
   subst hu
   exact ss hz.sh
  ·exact⟨rt (by decide) (by simp) fun u hu=>absurd hu LV,.never,rfl⟩
 refine Gen.eq (y:=v) (bV (bw ?_)) hv'
 simp only[LS,List.map_nil,Ent.freeze]
 show ab aE (aX (fun ρ=>((aa (fun ρ=>((aa (fun _=>M.ret (.str "with")) (aa (fun ρ=>av ρ 9) (fun _=>M.ret []))) ρ).bind bh) (aa (fun ρ=>((aa (fun _=>M.ret (.str "never")) (fun _=>M.ret [])) ρ).bind bh) (fun _=>M.ret []))) ρ).bind bc)) (fun ρ=>(aa (jk (ab (eI false) (fun ρ=>av ρ 4) (fun _=>M.ret (.int 11))) (ab EK (fun ρ=>av ρ 6) (fun _=>M.ret (.int 0)))) (fun _=>M.ret []) ρ).bind xt) _=_
 unfold ab
 rw[show aX (fun ρ=>((aa (fun ρ=>((aa (fun _=>M.ret (PV.str "with")) (aa (fun ρ=>av ρ 9) (fun _=>M.ret []))) ρ).bind bh) (aa (fun ρ=>((aa (fun _=>M.ret (PV.str "never")) (fun _=>M.ret [])) ρ).bind bh) (fun _=>M.ret []))) ρ).bind bc) [val .bQ,val h,val (.lst (ps.map PV.str)),val (.int sc),val (.int w),val (.str x),val (.int n),val (.int a),val (.int b),val (.str z)]= .ret (.lst [.tup [.str "with",.str z],.tup [.str "never"]]) by simp only[aX,aa,bq,bD,M.ret_bind,vj,KP,G5]]
 rw[M.ret_bind]
 unfold aa
 unfold ab at eb
 dsimp only at eb ⊢
 rw[eb]
 simp only[M.ret_bind,ei,aE,e,M.cY]
theorem El {ns:List Int} {n:Int} {k:Nat} (hk:k≤1000) (hl:ns.length < k) (h: ∀ t:Nat,t < k→(n+t) % 1000000∈ns):False:=by
 have:=sub_len ((List.range k).map fun t:Nat=>(n+t) % 1000000) ns (by
  unfold List.Nodup
  rw[List.pairwise_map]
  refine List.Pairwise.imp_of_mem ?_ List.nodup_range
  intro a b ha hb ne e
  rw[List.mem_range] at ha hb
  lia) (fun x hx=>by
  obtain⟨t,ht,rfl⟩:=LW.mp hx
  exact h t (List.mem_range.mp ht))
 rw[LK,List.length_range] at this
 lia
noncomputable def G1:af→M PV:=ab vi (ab cZ (fun ρ=>av ρ 1) (fun ρ=>av ρ 0)) (fun _=>M.ret (.int 1000000))
noncomputable def G0:af→M Bool:=bf (ab (qh true) (fun ρ=>av ρ 0) (fun ρ=>av ρ 1))
theorem B1 (x:Int) (ns:List Int):qh true (.int x) (.lst (ns.map PV.int))= .ret (.bl (!decide (x∈ns))):=by
 have h:=EJ x ns
 unfold qh at h ⊢
 dsimp only at h ⊢
 split at h
 ·rename_i c
  rw[Mz c]
  simp at h ⊢
  exact h
 ·cases h
theorem xx {ns:List Int} (hn:ns.length < 70):Gen (fP [.bQ,.lst (ns.map PV.int)]) 2 (fun y=> ∃ n:Int,y= .int n∧n∉ns∧0≤n∧n < 1000000):=by
 unfold fP gV
 show Gen ((aB _ _ [val .bQ,val (.lst (ns.map PV.int)),un,un]).bind cy) 2 _
 refine Gen.le (dU (c:=2) (d:=0) (I:=fun ρ=> ∃ n:Int,ρ=[val .bQ,val (.lst (ns.map PV.int)),val (.int n),un]) ?_ ?_) (by decide)
 ·simp only[aH,ab,aX,aa,bq,bD,M.ret_bind,G5,ak,M.bind_assoc]
  refine Gen.le (Gen.bind (Gen.draw (by lia) (by lia)) (d:=1) ?_) (by decide)
  rintro _ ⟨d,rfl,d0,d1⟩
  obtain⟨y,hy,e⟩:=iq (l:=[PV.int 20,PV.int 1000000]) d0 d1
  obtain⟨m,rfl,m0,m1⟩: ∃ m:Int,y= .int m∧0 < m∧m≤1000000:=by
   simp only[LU,LV,or_false] at hy
   rcases hy with rfl|rfl<;>exact⟨_,rfl,by decide,by decide⟩
  simp only[aE,e,M.cY,M.ret_bind]
  refine Gen.le (Gen.bind (Gen.draw m0 (by lia)) (d:=0) ?_) (by decide)
  rintro _ ⟨n,rfl,n0,n1⟩
  exact Gen.eq (y:=.nx _) rfl ⟨_,rfl,n,rfl⟩
 rintro _ ⟨n,rfl⟩
 have q1:=lg (k:=0) (te:=G1) (f:=fun y=>match y with| .int t=>.int ((n+t) % 1000000)|_=>.aW) (ρ:=[un,val (.int n)]) (cn 0 70) [un,val (.int n)] (fun _=>rfl) (fun y hy=>by
   obtain⟨t,ht,rfl⟩:=LW.mp hy
   have ea:cZ (.int n) (.int (0+(t:Nat)))= .ret (.int (n+(0+(t:Nat)))):=rfl
   have em:vi (.int (n+(0+(t:Nat)))) (.int 1000000)= .ret (.int ((n+(0+(t:Nat))) % 1000000)):=by unfold vi xk;simp
   unfold G1
   simp only[LR,ab,bq,bD,M.ret_bind,ea,em])
 have em:((cn 0 70).map fun y=>match y with|PV.int t=>PV.int ((n+t) % 1000000)|_=>.aW)=((List.range 70).map fun t:Nat=>(n+t) % 1000000).map PV.int:=by
  unfold cn
  rw[List.map_map,List.map_map]
  apply List.map_congr_left
  intro t _
  show PV.int ((n+(0+(t:Nat))) % 1000000)=PV.int ((n+(t:Nat)) % 1000000)
  rw[Int.zero_add]
 rw[em] at q1
 generalize hC:((List.range 70).map fun t:Nat=>(n+t) % 1000000)=C at q1
 have q2:=d8 (k:=0) (tt:=G0) (te:=fun ρ=>av ρ 0) (p:=fun y=>match y with| .int x=>!decide (x∈ns)|_=>false) (f:=id) (ρ:=[un,val (.lst (ns.map PV.int))]) (C.map PV.int) [un,val (.lst (ns.map PV.int))] (fun _=>rfl) (fun y hy=>by
   obtain⟨x,hx,rfl⟩:=LW.mp hy
   unfold G0
   simp only[bf,ab,LR,bq,bD,M.ret_bind,B1]) (fun y hy _=>by simp only[bq,LR];rfl)
 have hCl:C.length=70:=by rw[←hC];simp
 obtain⟨x,hx,hnx⟩: ∃ x∈C,x∉ns:=by
  apply Classical.byContradiction
  intro hno
  refine El (k:=70) (n:=n) (by decide) hn fun t ht=>Classical.byContradiction fun hc=>hno ⟨(n+t) % 1000000,?_,hc⟩
  rw[←hC]
  exact LW.mpr ⟨t,List.mem_range.mpr ht,rfl⟩
 generalize hF:(C.map PV.int).filter (fun y=>match y with| .int x=>!decide (x∈ns)|_=>false)=F at q2
 have hFx:PV.int x∈F:=by
  rw[←hF]
  refine Mx.mpr ⟨Mh hx,?_⟩
  show (!decide (x∈ns))=true
  rw[Mb hnx]
  rfl
 match F,hF,hFx,q2 with
 |y::F,hF,_,q2=>
 have hy:=Mx.mp (show y∈(C.map PV.int).filter (fun y=>match y with| .int x=>!decide (x∈ns)|_=>false) by rw[hF];exact LJ)
 obtain⟨v,hv,rfl⟩:=LW.mp hy.1
 have hvn:v∉ns:=by
  have:(!decide (v∈ns))=true:=hy.2
  simpa using this
 have hvb:0≤v∧v < 1000000:=by
  rw[←hC] at hv
  obtain⟨t,_,rfl⟩:=LW.mp hv
  exact⟨Int.emod_nonneg _ (by decide),Int.emod_lt_of_pos _ (by decide)⟩
 refine Gen.le (dU (c:=0) (d:=0) (I:=fun ρ=>ρ=[val .bQ,val (.lst (ns.map PV.int)),val (.int n),val (.lst (C.map PV.int))]) ?_ ?_) (by decide)
 ·refine An (I:=fun ρ=>ρ=_) ?_ rfl
  show aH 3 (aX (cx [none,some 2] (fun ρ=>((aa (fun _=>M.ret (.int 70)) (fun _=>M.ret [])) ρ).bind dH) (aL 0) eS G1)) [val .bQ,val (.lst (ns.map PV.int)),val (.int n),un]=_
  have er:dH [.int 70]= .ret (cn 0 70):=by simp only[dH];rfl
  have ec:gp [none,some 2] [val .bQ,val (.lst (ns.map PV.int)),val (.int n),un]=[un,val (.int n)]:=rfl
  simp only[aH,aX,cx,aa,M.ret_bind,er,ec]
  rw[Mz (by simp[cn]),q1]
  rfl
 rintro _ rfl
 refine Gen.eq (y:=.int v) (bV (bw ?_)) ⟨v,rfl,hvn,hvb.1,hvb.2⟩
 show ab aE (aX (cx [none,some 1] (fun ρ=>((fun ρ=>av ρ 3) ρ).bind ba) (aL 0) G0 (fun ρ=>av ρ 0))) (fun _=>M.ret (.int 0)) [val .bQ,val (.lst (ns.map PV.int)),val (.int n),val (.lst (C.map PV.int))]=_
 have ec:gp [none,some 1] [val .bQ,val (.lst (ns.map PV.int)),val (.int n),val (.lst (C.map PV.int))]=[un,val (.lst (ns.map PV.int))]:=rfl
 simp only[ab,aX,cx,bq,bD,M.ret_bind,ba,ec]
 rw[Mz (by rw[LK,hCl];decide),q2]
 simp only[M.ret_bind,List.map_id,aE,ng,M.cY]
def oS (ws:List (Str×List PV)) (y:PV):Prop:=(∃ (n m:Int) (z:Str) (rs:List Ru),y= .tup [.str "rule",.int n,.int m,.str z,.tup (rs.map Ru.pv)]∧rs.length≤6)∨(∃ (n m:Int) (z:Str) (i:Int),y= .tup [.str "read",.int n,.int m,.str z,.int i])∨(∃ (n m:Int) (z:Str) (q:List PV),y= .tup [.str "look",.int n,.int m,.str z]∧(z,.str "slope"::q)∈ws)
def zj (ws:List (Str×List PV)) (l:List PV) (ns:List Int):Prop:=bI l ns∧∀ y∈l,oS ws y
theorem Cy {ws:List (Str×List PV)} {l:List PV} {y:PV} (h: ∀ y∈l,oS ws y) (g:oS ws y): ∀ z∈l++[y],oS ws z:=fun z hz=>by
 rcases My.mp hz with hz|hz
 ·exact h z hz
 ·rw[Mf.mp hz];exact g
theorem Ly {rs:List PV} (h: ∀ z∈rs,Ij z): ∃ us:List Ru,rs=us.map Ru.pv:=by
 induction rs with
 |nil=>exact⟨[],rfl⟩
 |cons r rs ih=>
  obtain⟨us,rfl⟩:=ih fun z hz=>h z (LM _ hz)
  obtain⟨_,u,rfl⟩:=h r LJ
  exact⟨u::us,rfl⟩
theorem Dd {α:Type} (l:List α) (x:α):lW (l++[x]) (-1)=some x:=by
 unfold lW uu
 rw[MA (by decide)]
 have h1:(l++[x]).length=l.length+1:=by simp
 by_cases c: -((l++[x]).length:Int)≤-1
 ·rw[Mz c]
  show (l++[x])[((-1:Int)+((l++[x]).length:Int)).toNat]?=some x
  rw[h1]
  have:((-1:Int)+((l.length+1:Nat):Int)).toNat=l.length:=by lia
  rw[this]
  simp
 ·rw[h1] at c
  lia
theorem zE {ws:List (Str×List PV)} {h:PV} {dark:Int} (H:iX h ws dark): ∃ sl:List Str,(∀ z∈sl,∃ q,(z,PV.str "slope"::q)∈ws)∧sl.length≤12∧vv (aL 0) (bf (ab (eI false) (ab aE (fun ρ=>av ρ 0) (fun _=>M.ret (.int 1))) (fun _=>M.ret (.str "slope")))) (ab aE (fun ρ=>av ρ 0) (fun _=>M.ret (.int 0))) (ws.map fun p=>.tup (.str p.1::p.2)) [un]= .ret (sl.map PV.str):=by
 obtain⟨_,_,_,w1,hw,_⟩:=H
 have q:=d8 (k:=0) (tt:=bf (ab (eI false) (ab aE (fun ρ=>av ρ 0) (fun _=>M.ret (.int 1))) (fun _=>M.ret (.str "slope")))) (te:=ab aE (fun ρ=>av ρ 0) (fun _=>M.ret (.int 0))) (p:=fun y=>match y with| .tup (_::.str k::_)=>k=="slope"|_=>false) (f:=fun y=>match y with| .tup (a::_)=>a|_=>.aW) (ρ:=[un]) (ws.map fun p=>PV.tup (.str p.1::p.2)) [un] (fun _=>rfl) (fun y hy=>by
  obtain⟨p,hp,rfl⟩:=LW.mp hy
  obtain⟨_,k,r,e⟩:=hw p hp
  rw[e]
  simp only[bf,ab,LR,bq,M.ret_bind,aE,o1,M.cY,AI]) (fun y hy _=>by
  obtain⟨p,hp,rfl⟩:=LW.mp hy
  simp only[ab,bq,LR,M.ret_bind,aE,ng,M.cY])
 refine⟨(ws.filter fun p=>match p.2 with| .str k::_=>k=="slope"|_=>false).map (·.1),fun z hz=>?_,?_,?_⟩
 ·obtain⟨p,hp,rfl⟩:=LW.mp hz
  obtain⟨hp1,hp2⟩:=Mx.mp hp
  obtain⟨_,k,r,e⟩:=hw p hp1
  rw[e] at hp2
  dsimp only at hp2
  rw[eq_of_beq hp2] at e
  exact⟨r,by rw[←e];exact hp1⟩
 ·rw[LK]
  exact L6 (List.length_filter_le _ _) w1
 ·rw[q,List.filter_map,List.map_map,List.map_map]
  congr 1
  have:((fun y=>match y with|PV.tup (_::.str k::_)=>k==("slope":Str)|_=>false)∘fun p:Str×List PV=>PV.tup (.str p.1::p.2))=(fun p:Str×List PV=>match p.2 with| .str k::_=>k==("slope":Str)|_=>false):=by
   funext p
   obtain⟨a,b⟩:=p
   cases b with
   |nil=>rfl
   |cons c d=>cases c<;>rfl
  rw[this]
  rfl
noncomputable abbrev qM (h:PV) (sc k:Int) (ps sl:List Str) (l:List PV) (ns:List Int) (r:List Ent):af:=val .bQ::val h::val (.int sc)::val (.int k)::val (.lst (ps.map PV.str))::val (.lst (sl.map PV.str))::Ent.own l::Ent.own (ns.map PV.int)::r
noncomputable def J8:af→M Fl:=(aB (aH 9 (fun ρ=>((aa (fun ρ=>av ρ 0) (aa (fun _=>M.ret (.int 8)) (fun _=>M.ret []))) ρ).bind ak))
  (aB (aH 10 (ab lC (fun ρ=>((aa (fun ρ=>av ρ 0) (aa (fun ρ=>av ρ 1) (aa (fun ρ=>av ρ 2) (fun _=>M.ret [])))) ρ).bind fQ) (fun ρ=>((aa (ab EK (fun ρ=>((aa (fun ρ=>av ρ 0) (aa (fun _=>M.ret (.int 3)) (fun _=>M.ret []))) ρ).bind ak) (fun _=>M.ret (.int 0))) (fun _=>M.ret [])) ρ).bind xt)))
  (aB (eC 7 (fun ρ=>((aa (fun ρ=>av ρ 0) (aa (fun ρ=>fW ρ 7) (fun _=>M.ret []))) ρ).bind fun l=>(fP l).bind qm))
  (gz (bf (ab tW (fun ρ=>av ρ 9) (fun _=>M.ret (.int 3))))
  (aB (aH 11 (ab aE (ab aE (ab aE (fun ρ=>av ρ 1) (fun _=>M.ret (.int 0))) (fun ρ=>((aa (fun ρ=>av ρ 0) (aa (fun ρ=>((aa (ab aE (fun ρ=>av ρ 1) (fun _=>M.ret (.int 0))) (fun _=>M.ret [])) ρ).bind gB) (fun _=>M.ret []))) ρ).bind ak)) (fun _=>M.ret (.int 0))))
  (aB (aH 12 (ab aE (aX (fun ρ=>((aa (fun _=>M.ret (.int 0)) (aa (fun _=>M.ret (.int 1)) (aa (fun _=>M.ret (.int 1)) (aa (fun _=>M.ret (.int 1)) (aa (fun _=>M.ret (.int 2)) (aa (fun _=>M.ret (.int 2)) (aa (fun _=>M.ret (.int 3)) (aa (fun _=>M.ret (.int 6)) (fun _=>M.ret []))))))))) ρ).bind bc)) (fun ρ=>((aa (fun ρ=>av ρ 0) (aa (fun _=>M.ret (.int 8)) (fun _=>M.ret []))) ρ).bind ak)))
  (aB (aH 13 (aX (cx [none,some 0,some 1,some 4,some 2] (fun ρ=>((aa (fun ρ=>av ρ 12) (fun _=>M.ret [])) ρ).bind dH) (aL 0) eS (fun ρ=>((aa (fun ρ=>av ρ 1) (aa (fun ρ=>av ρ 2) (aa (fun ρ=>av ρ 3) (aa (fun ρ=>av ρ 4) (fun _=>M.ret []))))) ρ).bind iw))))
  (eC 6 (fun ρ=>((aa (fun _=>M.ret (.str "rule")) (aa (ab aE (fun ρ=>fW ρ 7) (fun ρ=>((fun _=>M.ret (.int 1)) ρ).bind jA)) (aa (fun ρ=>av ρ 10) (aa (fun ρ=>av ρ 11) (aa (fun ρ=>((aa (fun ρ=>av ρ 13) (fun _=>M.ret [])) ρ).bind nr) (fun _=>M.ret [])))))) ρ).bind bh)))))
  (gz (Eb (bf (ab tW (fun ρ=>av ρ 9) (fun _=>M.ret (.int 6)))) (bf (ab (eI false) (fun ρ=>av ρ 5) (aX (fun ρ=>((fun _=>M.ret []) ρ).bind bc)))))
  (aB (aH 14 (ab lC (ab zz (fun ρ=>((aa (fun ρ=>av ρ 0) (aa (fun _=>M.ret (.int 7)) (fun _=>M.ret []))) ρ).bind ak) (fun _=>M.ret (.int 3))) (ab aE (aX (fun ρ=>((aa (fun _=>M.ret (.int 1)) (aa (fun _=>M.ret (.int 1)) (aa (fun _=>M.ret (.int 1)) (aa (ab BD (fun _=>M.ret (.int 10)) (fun _=>M.ret (.int 50))) (fun _=>M.ret []))))) ρ).bind bc)) (fun ρ=>((aa (fun ρ=>av ρ 0) (aa (fun _=>M.ret (.int 4)) (fun _=>M.ret []))) ρ).bind ak))))
  (eC 6 (fun ρ=>((aa (fun _=>M.ret (.str "read")) (aa (ab aE (fun ρ=>fW ρ 7) (fun ρ=>((fun _=>M.ret (.int 1)) ρ).bind jA)) (aa (fun ρ=>av ρ 10) (aa (ab aE (fun ρ=>av ρ 4) (fun ρ=>((aa (fun ρ=>av ρ 0) (aa (fun ρ=>((aa (fun ρ=>av ρ 4) (fun _=>M.ret [])) ρ).bind gB) (fun _=>M.ret []))) ρ).bind ak)) (aa (fun ρ=>av ρ 14) (fun _=>M.ret [])))))) ρ).bind bh)))
  (eC 6 (fun ρ=>((aa (fun _=>M.ret (.str "look")) (aa (ab aE (fun ρ=>fW ρ 7) (fun ρ=>((fun _=>M.ret (.int 1)) ρ).bind jA)) (aa (fun ρ=>av ρ 10) (aa (ab aE (fun ρ=>av ρ 5) (fun ρ=>((aa (fun ρ=>av ρ 0) (aa (fun ρ=>((aa (fun ρ=>av ρ 5) (fun _=>M.ret [])) ρ).bind gB) (fun _=>M.ret []))) ρ).bind ak)) (fun _=>M.ret []))))) ρ).bind bh)))))))
theorem EL {h:PV} {ws:List (Str×List PV)} {dark sc k:Int} {ps sl:List Str} {l:List PV} {ns:List Int} {e8 e9 e10 e11 e12 e13 e14:Ent} (H:iX h ws dark) (s0:1≤sc) (s1:sc≤33333) (p0:0 < ps.length) (p1:ps.length≤20) (pw: ∀ z∈ps,Wd z) (sw: ∀ z∈sl,∃ q,(z,PV.str "slope"::q)∈ws) (sz:sl.length≤12) (hg:zj ws l ns) (hl:l.length < 65):
  Gen (J8 (qM h sc k ps sl l ns [e8,e9,e10,e11,e12,e13,e14])) 60 (fun f=> ∃ (l':List PV) (ns':List Int) (e9 e10 e11 e12 e13 e14:Ent),f= .nx (qM h sc k ps sl l' ns' [e8,e9,e10,e11,e12,e13,e14])∧l'.length=l.length+1∧zj ws l' ns'):=by
 obtain⟨h0,_⟩:=jM H
 have hp:=hg.1
 have hgs:=hg.2
 have hnl:ns.length=l.length:=hp.1
 unfold J8
 refine Gen.le (mN (c:=1) (d:=59) (I:=fun ρ=> ∃ w:Int,0≤w∧w < 8∧ρ=qM h sc k ps sl l ns [e8,val (.int w),e10,e11,e12,e13,e14]) ?_ ?_) (by decide)
 ·simp only[aH,aa,bq,bD,M.ret_bind,ak]
  refine Gen.le (Gen.bind (Gen.draw (by lia) (by lia)) (d:=0) ?_) (by decide)
  rintro _ ⟨w,rfl,w0,w1⟩
  exact Gen.eq (y:=.nx _) rfl ⟨_,rfl,w,w0,w1,rfl⟩
 rintro _ ⟨w,w0,w1,rfl⟩
 refine Gen.le (mN (c:=3) (d:=56) (I:=fun ρ=> ∃ m:Int,0≤m∧m≤1000000∧ρ=qM h sc k ps sl l ns [e8,val (.int w),val (.int m),e11,e12,e13,e14]) ?_ ?_) (by decide)
 ·simp only[aH,ab,aa,bq,bD,M.ret_bind,ak,M.bind_assoc]
  refine Gen.le (Gen.bind (xy H s0 s1) (d:=1) ?_) (by decide)
  rintro _ ⟨m,rfl,m0,m1⟩
  refine Gen.le (Gen.bind (Gen.draw (by lia) (by lia)) (d:=0) ?_) (by decide)
  rintro _ ⟨d,rfl,d0,d1⟩
  have eg:EK (.int d) (.int 0)= .ret (.bl (decide (0 < d))):=rfl
  have ei:xt [.bl (decide (0 < d))]= .ret (.int (if decide (0 < d) then 1 else 0)):=rfl
  simp only[eg,M.ret_bind,ei]
  rw[vh (by lia) (by lia)]
  refine Gen.eq (y:=.nx _) rfl ⟨_,rfl,m * (if decide (0 < d) then 1 else 0),?_,?_,rfl⟩
  ·by_cases c:decide (0 < d)=true
   ·rw[Mz c];lia
   ·rw[MA c];lia
  ·by_cases c:decide (0 < d)=true
   ·rw[Mz c];lia
   ·rw[MA c];lia
 rintro _ ⟨m,m0,m1,rfl⟩
 refine Gen.le (mN (c:=2) (d:=54) (I:=fun ρ=> ∃ n:Int,n∉ns∧0≤n∧n < 1000000∧ρ=qM h sc k ps sl l (ns++[n]) [e8,val (.int w),val (.int m),e11,e12,e13,e14]) ?_ ?_) (by decide)
 ·simp only[eC,LZ,L0,aa,bq,bD,vF,FN,M.ret_bind,M.bind_assoc]
  refine Gen.le (Gen.bind (xx (ns:=ns) (by lia)) (d:=0) ?_) (by decide)
  rintro _ ⟨n,rfl,nn,n0,n1⟩
  have hf:qm (.int n)= .ret (.int n):=rfl
  have hz:(ns.map PV.int).length < 100000:=by rw[LK];lia
  exact Gen.eq (y:=.nx _) (by simp only[hf,M.ret_bind,Mz hz];rfl) ⟨_,rfl,n,nn,n0,n1,by simp[qM]⟩
 rintro _ ⟨n,nn,n0,n1,rfl⟩
 have ee:aE (.lst ((ns++[n]).map PV.int)) (.int (-1))= .ret (.int n):=by
  rw[List.map_append]
  simp only[aE,LS,List.map_nil,Dd,M.cY]
 have en:jA (.int 1)= .ret (.int (-1)):=rfl
 have lt: ∀ q:Int,bf (ab tW (fun ρ=>av ρ 9) (fun _=>M.ret (.int q))) (qM h sc k ps sl l (ns++[n]) [e8,val (.int w),val (.int m),e11,e12,e13,e14])= .ret (decide (w < q)):=by intro q;simp[bf,ab,av,tW,xm]
 have hlz:l.length < 100000:=by lia
 by_cases c3:w < 3
 ·rw[gC (by rw[lt,decide_eq_true c3])]
  refine Gen.le (mN (c:=1) (d:=53) (I:=fun ρ=> ∃ x:Str,Wd x∧ρ=qM h sc k ps sl l (ns++[n]) [e8,val (.int w),val (.int m),val (.str x),e12,e13,e14]) ?_ ?_) (by decide)
  ·have wa:=AO H
   simp only[aH,ab,aa,bq,bD,M.ret_bind,h0,gB,ak,LK,M.bind_assoc]
   have wa':Gen (((oH [.bQ,.int ws.length]).bind fun i=>(aE (.tup (ws.map fun p=>.tup (.str p.1::p.2))) i).bind fun y=>aE y (.int 0)).bind fun y=>M.ret (Fl.nx ((qM h sc k ps sl l (ns++[n]) [e8,val (.int w),val (.int m),e11,e12,e13,e14]).set 11 (val y)))) 1 (fun f=> ∃ ρ',f= .nx ρ'∧∃ z:Str,Wd z∧ρ'=qM h sc k ps sl l (ns++[n]) [e8,val (.int w),val (.int m),val (.str z),e12,e13,e14]):=by
    refine Gen.le (Gen.bind wa (d:=0) ?_) (by decide)
    rintro _ ⟨z,rfl,hz⟩
    exact Gen.eq (y:=.nx _) rfl ⟨_,rfl,z,hz,rfl⟩
   simp only[M.bind_assoc] at wa'
   exact wa'
  rintro _ ⟨x,hx,rfl⟩
  have e8': ∀ a b c d e f g i:PV,bc [a,b,c,d,e,f,g,i]= .ret [a,b,c,d,e,f,g,i]:=by intros;simp[bc]
  refine Gen.le (mN (c:=1) (d:=52) (I:=fun ρ=> ∃ q:Int,0≤q∧q≤6∧ρ=qM h sc k ps sl l (ns++[n]) [e8,val (.int w),val (.int m),val (.str x),val (.int q),e13,e14]) ?_ ?_) (by decide)
  ·simp only[aH,ab,aX,aa,bq,bD,M.ret_bind,e8',ak,M.bind_assoc]
   refine Gen.le (Gen.bind (Gen.draw (by lia) (by lia)) (d:=0) ?_) (by decide)
   rintro _ ⟨d,rfl,d0,d1⟩
   obtain⟨y,hy,e⟩:=iq (l:=[PV.int 0,PV.int 1,PV.int 1,PV.int 1,PV.int 2,PV.int 2,PV.int 3,PV.int 6]) d0 d1
   obtain⟨q,rfl,q0,q1⟩: ∃ q:Int,y= .int q∧0≤q∧q≤6:=by
    simp only[LU,LV,or_false] at hy
    rcases hy with rfl|rfl|rfl|rfl|rfl|rfl|rfl|rfl<;>exact⟨_,rfl,by decide,by decide⟩
   exact Gen.eq (y:=.nx _) (by simp only[aE,e,M.cY,M.ret_bind];rfl) ⟨_,rfl,q,q0,q1,rfl⟩
  rintro _ ⟨q,q0,q1,rfl⟩
  refine Gen.le (mN (c:=42) (d:=0) (I:=fun ρ=> ∃ rs:List PV,rs.length≤6∧(∀ z∈rs,Ij z)∧ρ=qM h sc k ps sl l (ns++[n]) [e8,val (.int w),val (.int m),val (.str x),val (.int q),val (.lst rs),e14]) ?_ ?_) (by decide)
  ·have hlen:(cn 0 q.toNat).length=q.toNat:=by simp[cn]
   have er:dH [.int q]= .ret (cn 0 q.toNat):=by simp only[dH,Mz (by lia: -1000000≤q∧q≤100000)]
   have ec:gp [none,some 0,some 1,some 4,some 2] (qM h sc k ps sl l (ns++[n]) [e8,val (.int w),val (.int m),val (.str x),val (.int q),e13,e14])=[un,val .bQ,val h,val (.lst (ps.map PV.str)),val (.int sc)]:=rfl
   unfold aH aX cx
   simp only[aa,bq,bD,M.ret_bind,er,ec,Mz (by lia:(cn 0 q.toNat).length≤100000),M.bind_assoc]
   refine Gen.le (Gen.bind (Gen.lc (ρ:=[un,val .bQ,val h,val (.lst (ps.map PV.str)),val (.int sc)]) (c:=7) (Pr:=Ij) _ _ (fun _=>rfl) (fun y hy=>?_)) (d:=0) ?_) (by rw[hlen];lia)
   ·simp only[LR,bq,bD,M.ret_bind]
    exact CA H s0 s1 p0 p1 pw
   ·rintro rs ⟨z1,z2⟩
    exact Gen.eq (y:=.nx _) rfl ⟨_,rfl,rs,by rw[z1,hlen];lia,z2,rfl⟩
  rintro _ ⟨rs,r0,r1,rfl⟩
  obtain⟨us,hus⟩:=Ly r1
  have hrs:uq 2500 2 (.tup rs):=(o5 (c:=400) (dp:=1) (n:=6) (fun z hz=>(r1 z hz).1) r0).mono (by lia) (by lia)
  refine Gen.eq (y:=.nx (qM h sc k ps sl (l++[.tup [.str "rule",.int n,.int m,.str x,.tup rs]]) (ns++[n]) [e8,val (.int w),val (.int m),val (.str x),val (.int q),val (.lst rs),e14])) ?_ ⟨_,_,_,_,_,_,_,_,rfl,by simp,⟨hp.snoc nn n0 n1 ⟨"rule",x,m,[.tup rs],rfl,.inr ⟨.inr rfl,_,rfl,hrs,rfl⟩,m0,m1⟩,Cy hgs (.inl ⟨n,m,x,us,by rw[←hus],by rw[hus,LK] at r0;exact r0⟩)⟩⟩
  simp only[eC,LZ,L0,aa,ab,bq,bD,vF,FN,M.ret_bind,en,ee,nr,Jm,Mz hlz]
  rfl
 rw[gm (by rw[lt,Mb c3])]
 have e6:bf (ab (eI false) (fun ρ=>av ρ 5) (aX (fun ρ=>((fun _=>M.ret []) ρ).bind bc))) (qM h sc k ps sl l (ns++[n]) [e8,val (.int w),val (.int m),e11,e12,e13,e14])= .ret sl.isEmpty:=by
  simp only[bf,ab,aX,bq,bD,M.ret_bind,Et]
  cases sl<;>rfl
 have eor:Eb (bf (ab tW (fun ρ=>av ρ 9) (fun _=>M.ret (.int 6)))) (bf (ab (eI false) (fun ρ=>av ρ 5) (aX (fun ρ=>((fun _=>M.ret []) ρ).bind bc)))) (qM h sc k ps sl l (ns++[n]) [e8,val (.int w),val (.int m),e11,e12,e13,e14])= .ret (decide (w < 6)||sl.isEmpty):=by
  unfold Eb
  rw[lt,e6]
  cases decide (w < 6)<;>rfl
 cases c6:(decide (w < 6)||sl.isEmpty) with
 |true=>
  rw[gC (by rw[eor,c6])]
  refine Gen.le (mN (c:=2) (d:=1) (I:=fun ρ=> ∃ v:Int,v.natAbs < 10 ^ 61∧ρ=qM h sc k ps sl l (ns++[n]) [e8,val (.int w),val (.int m),e11,e12,e13,val (.int v)]) ?_ ?_) (by decide)
  ·have ep:BD (.int 10) (.int 50)= .ret (.int (10 ^ 50)):=by
    unfold BD xk
    dsimp only
    rw[Mz (by decide +kernel)]
    rfl
   simp only[aH,ab,aX,aa,bq,bD,M.ret_bind,ep,G4,ak,M.bind_assoc]
   refine Gen.le (Gen.bind (Gen.draw (by lia) (by lia)) (d:=1) ?_) (by decide)
   rintro _ ⟨d,rfl,d0,d1⟩
   have es:zz (.int d) (.int 3)= .ret (.int (d - 3)):=rfl
   simp only[es,M.ret_bind]
   refine Gen.le (Gen.bind (Gen.draw (by lia) (by lia)) (d:=0) ?_) (by decide)
   rintro _ ⟨g,rfl,g0,g1⟩
   obtain⟨y,hy,e⟩:=iq (l:=[PV.int 1,PV.int 1,PV.int 1,PV.int (10 ^ 50)]) g0 g1
   obtain⟨u,rfl,hu⟩: ∃ u:Int,y= .int u∧(u=1∨u=10 ^ 50):=by
    simp only[LU,LV,or_false] at hy
    rcases hy with rfl|rfl|rfl|rfl
    ·exact⟨_,rfl,.inl rfl⟩
    ·exact⟨_,rfl,.inl rfl⟩
    ·exact⟨_,rfl,.inl rfl⟩
    ·exact⟨_,rfl,.inr rfl⟩
   simp only[aE,e,M.cY,M.ret_bind]
   rw[vh (by lia) (by lia)]
   refine Gen.eq (y:=.nx _) rfl ⟨_,rfl,(d - 3) * u,?_,rfl⟩
   rcases hu with rfl|rfl
   ·lia
   ·lia
  rintro _ ⟨v,hv,rfl⟩
  simp only[eC,LZ,L0,aa,ab,bq,bD,vF,FN,M.ret_bind,en,ee,gB,ak,LK,M.bind_assoc]
  rw[←M.bind_assoc]
  refine Gen.le (Gen.bind (t7 (l:=ps.map PV.str) (by rw[LK]) (by rw[LK];lia) (by rw[LK];lia)) (d:=0) ?_) (by decide)
  intro y hy
  obtain⟨x,hx,rfl⟩:=LW.mp hy
  refine Gen.eq (y:=.nx (qM h sc k ps sl (l++[.tup [.str "read",.int n,.int m,.str x,.int v]]) (ns++[n]) [e8,val (.int w),val (.int m),e11,e12,e13,val (.int v)])) ?_ ⟨_,_,_,_,_,_,_,_,rfl,by simp,⟨hp.snoc nn n0 n1 ⟨"read",x,m,[.int v],rfl,.inr ⟨.inl rfl,_,rfl,big (c:=0) (si hv),rfl⟩,m0,m1⟩,Cy hgs (.inr (.inl ⟨n,m,x,v,rfl⟩))⟩⟩
  simp only[M.ret_bind,Jm,Mz hlz]
  rfl
 |false=>
  rw[gm (by rw[eor,c6])]
  have hse:0 < sl.length:=by
   rw[Bool.or_eq_false_iff] at c6
   cases sl with
   |nil=>exact absurd c6.2 (by decide)
   |cons a b=>simp
  simp only[eC,LZ,L0,aa,ab,bq,bD,vF,FN,M.ret_bind,en,ee,gB,ak,LK,M.bind_assoc]
  rw[←M.bind_assoc]
  refine Gen.le (Gen.bind (t7 (l:=sl.map PV.str) (by rw[LK]) (by rw[LK];lia) (by rw[LK];lia)) (d:=0) ?_) (by decide)
  intro y hy
  obtain⟨x,hx,rfl⟩:=LW.mp hy
  refine Gen.eq (y:=.nx (qM h sc k ps sl (l++[.tup [.str "look",.int n,.int m,.str x]]) (ns++[n]) [e8,val (.int w),val (.int m),e11,e12,e13,e14])) ?_ ⟨_,_,_,_,_,_,_,_,rfl,by simp,⟨hp.snoc nn n0 n1 ⟨"look",x,m,[],rfl,.inl ⟨rfl,rfl⟩,m0,m1⟩,Cy hgs (.inr (.inr ((sw x hx).elim fun q hq=>⟨n,m,x,q,rfl,hq⟩)))⟩⟩
  simp only[M.ret_bind,KO,Mz hlz]
  rfl
theorem Ao {h:PV} {ws:List (Str×List PV)} {dark sc k:Int} (H:iX h ws dark) (s0:1≤sc) (s1:sc≤33333) (k0:0≤k) (k1:k≤60):Gen (iZ [.bQ,h,.int sc,.int k]) (29+k.toNat * 60) (fun y=> ∃ l ns,y= .lst l∧l.length=k.toNat∧zj ws l ns):=by
 obtain⟨h0,_⟩:=jM H
 obtain⟨p,ws',rfl⟩: ∃ p ws',ws=p::ws':=by
  obtain⟨_,_,w0,_⟩:=H
  match ws,w0 with
  |p::ws',_=>exact⟨p,ws',rfl⟩
 have hw0:Wd p.1:=by
  obtain⟨_,_,_,_,hw,_⟩:=H
  exact(hw p LJ).1
 unfold iZ iK
 show Gen ((aB _ _ [val .bQ,val h,val (.int sc),val (.int k),un,un,un,un,un,un,un,un,un,un,un]).bind cy) _ _
 refine Gen.le (dU (c:=29) (d:=k.toNat * 60) (I:=fun ρ=> ∃ ps:List Str,0 < ps.length∧ps.length≤20∧(∀ z∈ps,Wd z)∧ρ=[val .bQ,val h,val (.int sc),val (.int k),val (.lst (ps.map PV.str)),un,un,un,un,un,un,un,un,un,un]) ?_ ?_) (by lia)
 ·have i0:aE (.tup ((p::ws').map fun p=>PV.tup (.str p.1::p.2))) (.int 0)= .ret (.tup (.str p.1::p.2)):=by simp only[aE,LS,ng,M.cY]
  have i1:aE (.tup (.str p.1::p.2)) (.int 0)= .ret (.str p.1):=by simp only[aE,ng,M.cY]
  simp only[aH,aX,xJ,ab,aa,bq,bD,M.ret_bind,h0,i0,i1,Jn,ak,M.bind_assoc]
  refine Gen.le (Gen.bind (Gen.draw (by lia) (by lia)) (d:=28) ?_) (by decide)
  rintro _ ⟨d,rfl,d0,d1⟩
  have ea:cZ (.int 1) (.int d)= .ret (.int (1+d)):=rfl
  simp only[ea,M.ret_bind]
  refine Gen.le (Gen.bind (nW (k:=1+d) (by lia) (by lia)) (d:=1) ?_) (by lia)
  rintro _ ⟨zs,rfl,hl,hz,_⟩
  refine Gen.le (Gen.bind (Gen.draw (by lia) (by lia)) (d:=0) ?_) (by decide)
  rintro _ ⟨g,rfl,g0,g1⟩
  obtain⟨ps',hps',em⟩: ∃ ps':List Str,(ps'=[]∨ps'=[p.1])∧lC (.lst [.str p.1]) (.int g)= .ret (.lst (ps'.map PV.str)):=by
   obtain rfl|rfl:g=0∨g=1:=by lia
   ·exact⟨[],.inl rfl,rfl⟩
   ·exact⟨[p.1],.inr rfl,rfl⟩
  have hlen:(zs.map PV.str).length+(ps'.map PV.str).length≤100000:=by
   rcases hps' with rfl|rfl<;>simp<;>lia
  refine Gen.eq (y:=.nx _) (by simp only[em,M.ret_bind,Mz hlen];rfl) ⟨_,rfl,zs++ps',?_,?_,fun z hz'=>?_,by rw[List.map_append];rfl⟩
  ·rw[Mc];lia
  ·rcases hps' with rfl|rfl<;>simp<;>lia
  ·rcases My.mp hz' with hz'|hz'
   ·exact hz z hz'
   ·rcases hps' with rfl|rfl
    ·exact absurd hz' LV
    ·rw[Mf.mp hz'];exact hw0
 rintro _ ⟨ps,p0,p1,pw,rfl⟩
 obtain⟨sl,sw,sz,esl⟩:=zE H
 refine Gen.le (dU (c:=0) (d:=k.toNat * 60) (I:=fun ρ=>ρ=[val .bQ,val h,val (.int sc),val (.int k),val (.lst (ps.map PV.str)),val (.lst (sl.map PV.str)),un,un,un,un,un,un,un,un,un]) ?_ ?_) (by lia)
 ·refine An (I:=fun ρ=>ρ=_) ?_ rfl
  have hwl:((p::ws').map fun p=>PV.tup (.str p.1::p.2)).length≤100000:=by
   obtain⟨_,_,_,w1,_⟩:=H
   rw[LK];lia
  have ec:gp [none] [val .bQ,val h,val (.int sc),val (.int k),val (.lst (ps.map PV.str)),un,un,un,un,un,un,un,un,un,un]=[un]:=rfl
  unfold aH aX cx
  dsimp only
  rw[show ((ab aE (fun ρ=>av ρ 1) (fun _=>M.ret (.int 0))) [val .bQ,val h,val (.int sc),val (.int k),val (.lst (ps.map PV.str)),un,un,un,un,un,un,un,un,un,un])= .ret (.tup ((p::ws').map fun p=>.tup (.str p.1::p.2))) by simp only[ab,bq,bD,M.ret_bind,h0]]
  simp only[M.ret_bind,ba,Mz hwl,ec]
  rw[esl]
  rfl
 rintro _ rfl
 refine Gen.le (dU (c:=0) (d:=k.toNat * 60) (I:=fun ρ=>ρ=[val .bQ,val h,val (.int sc),val (.int k),val (.lst (ps.map PV.str)),val (.lst (sl.map PV.str)),Ent.own [],un,un,un,un,un,un,un,un]) (An (by simp[jg,bc]) rfl) ?_) (by lia)
 rintro _ rfl
 refine Gen.le (dU (c:=0) (d:=k.toNat * 60) (I:=fun ρ=>ρ=qM h sc k ps sl [] [] [un,un,un,un,un,un,un]) (An (by simp[jg,bc]) rfl) ?_) (by lia)
 rintro _ rfl
 have hint:(cn 0 k.toNat).length=k.toNat:=by simp[cn]
 have er:dH [.int k]= .ret (cn 0 k.toNat):=by simp only[dH,Mz (by lia: -1000000≤k∧k≤100000)]
 refine Gen.le (dU (c:=k.toNat * 60) (d:=0) (I:=fun ρ=> ∃ (l:List PV) (ns:List Int) (r:List Ent),l.length=k.toNat∧zj (p::ws') l ns∧ρ=qM h sc k ps sl l ns r) ?_ ?_) (by lia)
 ·show Gen (bF (fun ρ=>((aa (fun ρ=>av ρ 3) (fun _=>M.ret [])) ρ).bind dH) (aL 8) J8 _) _ _
  unfold bF
  simp only[aa,bq,bD,M.ret_bind,er]
  refine Gen.mono (Hq (k:=8) (c:=60) (Iv:=fun i ρ=> ∃ (l:List PV) (ns:List Int) (e8 e9 e10 e11 e12 e13 e14:Ent),l.length=i∧zj (p::ws') l ns∧ρ=qM h sc k ps sl l ns [e8,e9,e10,e11,e12,e13,e14]) (cn 0 k.toNat) 0 _ ⟨[],[],_,_,_,_,_,_,_,rfl,⟨⟨rfl,List.nodup_nil,fun z hz=>absurd hz LV,fun i n z e=>by simp at e⟩,fun z hz=>absurd hz LV⟩,rfl⟩ ?_) (by rw[hint];exact LQ _) ?_
  rotate_left
  ·rintro f ⟨ρ',rfl,l,ns,e8,e9,e10,e11,e12,e13,e14,hl,hp,rfl⟩
   rw[hint,Nat.zero_add] at hl
   exact⟨_,rfl,l,ns,_,hl,hp,rfl⟩
  ·rintro y hy j hj _ ⟨l,ns,e8,e9,e10,e11,e12,e13,e14,hl,hp,rfl⟩
   rw[hint] at hj
   show Gen (J8 (qM h sc k ps sl l ns [val y,e9,e10,e11,e12,e13,e14])) 60 _
   refine Gen.mono (EL H s0 s1 p0 p1 pw sw sz hp (by lia)) (LQ _) ?_
   rintro f ⟨l',ns',e9,e10,e11,e12,e13,e14,rfl,hl',hp'⟩
   exact⟨_,rfl,l',ns',_,_,_,_,_,_,_,by lia,hp',rfl⟩
 ·rintro _ ⟨l,ns,r,hl,hp,rfl⟩
  exact Gen.eq (bV (bw rfl)) ⟨l,ns,rfl,hl,hp⟩
theorem Dl {a b:Str} {r r':List PV} (e:PV.tup (.str a::r)= .tup (.str b::r')) (h:a≠b):False:=by
 injection e with e
 injection e with e
 injection e with e
 exact h e
theorem r8: ∀ {ws:List (Str×List PV)} {p q:Str×List PV},(ws.map (·.1)).Nodup→p∈ws→q∈ws→p.1=q.1→p=q
 |[],_,_,_,hp,_,_=>absurd hp LV
 |w::ws,p,q,nd,hp,hq,e=>by
  rw[LS,List.nodup_cons] at nd
  rcases LU.mp hp with rfl|hp
  ·rcases LU.mp hq with rfl|hq
   ·rfl
   ·exact absurd (e▸Mh hq) nd.1
  ·rcases LU.mp hq with e2|hq
   ·rw[←e2,←e] at nd
    exact absurd (Mh hp) nd.1
   ·exact r8 nd.2 hp hq e
theorem Lz (x:Str):eI true (.str x) (.str x)= .ret (.bl false):=by
 show M.ret (PV.bl (xor true (x==x)))=_
 simp
theorem zb {l:List PV} {ns:List Int} (h:bI l ns) (hl:l.length < 64):f7 [.lst l]= .ret (.tup (bp l)):=by
 have bE:Ia l=true:=by
  unfold Ia
  simp only[Mo,decide_eq_true_eq,List.all_eq_true]
  exact⟨⟨hl,fun z hz=>h.Ll hz⟩,h.nd⟩
 have es:rK (.lst l)= .ret (bp l):=by
  unfold rK
  show (if Ia l then M.ret (bp l) else .fail)=_
  rw[Mz bE]
 unfold f7 jK
 show (bG _ [val (.lst l)]).bind cy=_
 refine bV (bw ?_)
 simp only[List.map,Ent.freeze,aX,aa,bq,bD,M.ret_bind,es,nr]
noncomputable def Ru.dec:PV→Ru
 | .tup [.str _,.int a,.int b]=>.j0 a b
 | .tup [.str w,.str p,.int n]=>.post (w==("least":Str)) p n
 | .tup [.str _,.int n]=>.looked n
 | .tup [.str _,.str o]=>.zl o
 |_=>.never
theorem Hw (r:Ru):Ru.dec r.pv=r:=by
 cases r with
 |post b p n=>
  cases b with
  |true=>show Ru.post (("least":Str)==("least":Str)) p n=_;rw[show (("least":Str)==("least":Str))=true by decide +kernel]
  |false=>show Ru.post (("most":Str)==("least":Str)) p n=_;rw[show (("most":Str)==("least":Str))=false by decide +kernel]
 |_=>rfl
noncomputable def i8:PV→List Ru
 | .tup [_,_,_,_,.tup vs]=>vs.map Ru.dec
 |_=>[]
theorem rL (a b c d:PV) (rs:List Ru):i8 (.tup [a,b,c,d,.tup (rs.map Ru.pv)])=rs:=by
 show (rs.map Ru.pv).map Ru.dec=rs
 rw[List.map_map]
 exact(List.map_congr_left fun r _=>Hw r).trans (List.map_id rs)
theorem Bm {ws:List (Str×List PV)} {l:List PV} {ns:List Int} (hg:zj ws l ns) (hl:l.length≤1000) (z:Str) (t:Int):
  (i8 (six l "rule" z t)).length≤6∧fg [.tup (bp l),.str z,.int t]= .ret (.tup ((i8 (six l "rule" z t)).map Ru.pv))∧eF [.lst l,.str z,.int t]= .ret (.tup ((i8 (six l "rule" z t)).map Ru.pv)):=by
 have s1:=seen hg.1 "rule" z t
 have s2:=BX hg.1 hl "rule" z t
 have fin: ∀ v:PV,(∀ e0 e1 e2:Ent,AH (bf (ab (rh false) (fun ρ=>av ρ 3) (fun _=>M.ret .aW))) (fun ρ=>((fun _=>M.ret []) ρ).bind bh) (ab aE (fun ρ=>av ρ 3) (fun _=>M.ret (.int 4))) [e0,e1,e2,val (six l "rule" z t)]= .ret v)→fg [.tup (bp l),.str z,.int t]= .ret v∧eF [.lst l,.str z,.int t]= .ret v:=fun v hv=>by
  constructor
  ·unfold fg jC
   show (aB _ _ [val (.tup (bp l)),val (.str z),val (.int t),un]).bind cy=_
   refine aD (ρ':=[val (.tup (bp l)),val (.str z),val (.int t),val (six l "rule" z t)]) ?_ (bV (bw (hv _ _ _)))
   simp only[aH,aa,bq,bD,M.ret_bind,s1]
   rfl
  ·unfold eF iI
   show (aB _ _ [val (.lst l),val (.str z),val (.int t),un]).bind cy=_
   refine aD (ρ':=[val (.lst l),val (.str z),val (.int t),val (six l "rule" z t)]) ?_ (bV (bw (hv _ _ _)))
   simp only[aH,aa,bq,bD,M.ret_bind,s2]
   rfl
 rcases kW hg.1 "rule" z t with e|⟨hm,n,hp,hh⟩
 ·rw[e] at fin ⊢
  exact⟨by simp[i8],fin _ fun e0 e1 e2=>rfl⟩
 ·obtain⟨z',m,r,e,_⟩:=se hp hh
  rcases hg.2 _ hm with⟨n',m',z'',rs,e',hr⟩|⟨n',m',z'',i,e'⟩|⟨n',m',z'',q,e',_⟩
  ·rw[e'] at fin ⊢
   rw[rL]
   exact⟨hr,fin _ fun e0 e1 e2=>rfl⟩
  ·rw[e] at e';exact(Dl e' (by decide +kernel)).elim
  ·rw[e] at e';exact(Dl e' (by decide +kernel)).elim
noncomputable def u9 (l:List PV) (t:Int):List Str→Str→Bool:=rR l t fun z=>i8 (six l "rule" z t)
def Az (h:PV) (ws:List (Str×List PV)) (l:List PV) (t:Int) (S:List Str):Prop:=
 f6 [h,.lst l,.int t]= .ret (.lst (S.map PV.str))∧eD [h,.tup (bp l),.int t]= .ret (.tup (S.map PV.str))∧S=(ws.map (·.1)).filter (u9 l t S)∧
  ∀ T:Str→Prop,(∀ z∈ws.map (·.1),∀ S':List Str,(∀ x∈S',T x)→u9 l t S' z=true→T z)→∀ x∈S,T x
theorem uS {ws:List (Str×List PV)} {l:List PV} {ns:List Int} (hg:zj ws l ns):Reads l:=fun n m z v hv=>by
 rcases hg.2 _ hv with⟨n',m',z'',rs,e',hr⟩|⟨n',m',z'',i,e'⟩|⟨n',m',z'',q,e',_⟩
 ·exact(Dl e' (by decide +kernel)).elim
 ·refine⟨i,?_⟩
  simp at e'
  exact e'.2.2.2
 ·exact(Dl e' (by decide +kernel)).elim
theorem ph {h:PV} {ws:List (Str×List PV)} {dark:Int} {l:List PV} {ns:List Int} (H:iX h ws dark) (hg:zj ws l ns) (hl:l.length < 64) (t:Int): ∃ S,Az h ws l t S:=by
 obtain⟨hm,rfl,w0,w1,hw,d0,d1,nd⟩:=H
 have rp:=fun z=>Bm hg (by lia) z t
 have hk: ∀ p∈ws,∃ kd q,p.2= .str kd::q∧((kd==("slope":Str))=false→m9 l t p.1=none):=fun p hp=>by
  obtain⟨_,kd,q,e⟩:=hw p hp
  refine⟨kd,q,e,fun hk=>?_⟩
  unfold m9
  rcases kW hg.1 "look" p.1 t with e'|⟨hm,n,hpt,hh⟩
  ·rw[e']
  ·exfalso
   obtain⟨z',m,r,e1,_⟩:=se hpt hh
   have hz:z'=p.1:=by
    rw[e1] at hh
    simp[hit] at hh
    exact hh.1
   rcases hg.2 _ hm with⟨n',m',z'',rs,e2,hr⟩|⟨n',m',z'',i,e2⟩|⟨n',m',z'',q',e2,hs⟩
   ·rw[e1] at e2;exact(Dl e2 (by decide +kernel)).elim
   ·rw[e1] at e2;exact(Dl e2 (by decide +kernel)).elim
   ·rw[e1] at e2
    simp at e2
    have hz2:z''=p.1:=by rw[←e2.2.2.1];exact hz
    rw[hz2] at hs
    have this:=congrArg Prod.snd (r8 nd hs hp rfl)
    rw[e] at this
    simp at this
    rw[←this.1] at hk
    exact absurd hk (by decide +kernel)
 obtain⟨S,lo,hS,hT⟩:=Ci (hm:=hm) (dk:=.int dark) (ws:=ws) (ru:=fun z=>i8 (six l "rule" z t)) hg.1 (by lia) (uS hg) (fun z=>L6 (rp z).1 (by decide)) (by lia) (fun z=>(rp z).2.2)
 exact⟨S,lo,zQ (hm:=hm) (dk:=.int dark) hg.1 (uS hg) (fun z=>L6 (rp z).1 (by decide)) (by lia) nd hk (fun z=>(rp z).2.1) hS hT,hS,hT⟩
theorem zR {h:PV} {ws:List (Str×List PV)} {l:List PV} {t m:Int} {S S':List Str} (e:u9 l t=u9 l m) (h1:Az h ws l t S) (h2:Az h ws l m S'):S=S':=by
 obtain⟨_,_,a1,a2⟩:=h1
 obtain⟨_,_,b1,b2⟩:=h2
 rw[e] at a1 a2
 have mono: ∀ (A B:List Str),(∀ x∈A,x∈B)→∀ z,u9 l m A z=true→u9 l m B z=true:=fun A B hs z hz=>va hs z hz
 have half: ∀ {A B:List Str},(∀ T:Str→Prop,(∀ z∈ws.map (·.1),∀ S':List Str,(∀ x∈S',T x)→u9 l m S' z=true→T z)→∀ x∈A,T x)→B=(ws.map (·.1)).filter (u9 l m B)→∀ x∈A,x∈B:=fun {A B} hA hB x hx=>by
  refine hA (·∈B) (fun z hz S'' hs bE=>?_) x hx
  rw[hB]
  exact Mx.mpr ⟨hz,mono _ _ hs z bE⟩
 have i1:=half a2 b1
 have i2:=half b2 a1
 rw[a1,b1]
 refine List.filter_congr fun z hz=>?_
 have c1:z∈S↔u9 l m S z=true:=by
  conv=>lhs;rw[a1]
  rw[Mx]
  exact⟨fun h=>h.2,fun h=>⟨hz,h⟩⟩
 have c2:z∈S'↔u9 l m S' z=true:=by
  conv=>lhs;rw[b1]
  rw[Mx]
  exact⟨fun h=>h.2,fun h=>⟨hz,h⟩⟩
 have c3:z∈S↔z∈S':=⟨i1 z,i2 z⟩
 rw[←Bool.coe_iff_coe]
 exact c1.symm.trans (c3.trans c2)
set_option genInjectivity false in
structure Calm (l:List PV) (m t:Int):Prop where
 le:m≤t
 pg: ∀ (w:Str) (n p:Int) (z:Str) (r:List PV),PV.tup (.str w::.int n::.int p::.str z::r)∈l→p≤t→p≤m
 hr: ∀ (n p:Int) (z:Str) (rs:List Ru) (a b:Int),PV.tup [.str "rule",.int n,.int p,.str z,.tup (rs.map Ru.pv)]∈l→Ru.j0 a b∈rs→(a≤t→a≤m)∧(b≤t→b≤m)
 lk: ∀ (n p:Int) (z:Str) (rs:List Ru) (k n' p':Int),PV.tup [.str "rule",.int n,.int p,.str z,.tup (rs.map Ru.pv)]∈l→Ru.looked k∈rs→PV.tup [.str "look",.int n',.int p',.str z]∈l→p'+k≤t→p'+k≤m
theorem Bh {l:List PV} {ns:List Int} {m t:Int} (h:bI l ns) (c:Calm l m t) (w z:Str):six l w z t=six l w z m:=by
 have e:l.filter (hit w z t)=l.filter (hit w z m):=List.filter_congr fun y hy=>by
  obtain⟨n,⟨w',z',p,r,rfl,_⟩,_⟩:=h.at hy
  show (w'==w&&(z'==z&&decide (p≤t)))=(w'==w&&(z'==z&&decide (p≤m)))
  have:(p≤t)↔(p≤m):=⟨fun q=>c.pg w' n p z' r hy q,fun q=>Int.le_trans q c.le⟩
  rw[decide_eq_decide.mpr this]
 unfold six
 rw[e]
theorem B8 {ws:List (Str×List PV)} {l:List PV} {ns:List Int} {m t:Int} (hg:zj ws l ns) (c:Calm l m t):u9 l t=u9 l m:=by
 have e6:=Bh hg.1 c
 have e1:qS l t=qS l m:=funext fun p=>by unfold qS;rw[e6]
 have e2: ∀ z,m9 l t z=m9 l m z:=fun z=>by unfold m9;rw[e6]
 funext S z
 unfold u9 rR
 dsimp only
 rw[e6,e1,e2]
 rw[Bool.eq_iff_iff,List.all_eq_true,List.all_eq_true]
 have one: ∀ r∈i8 (six l "rule" z m),r.hold (qS l m) (m9 l m z) t (ja S)=r.hold (qS l m) (m9 l m z) m (ja S):=fun r hr=>by
  rcases kW hg.1 "rule" z m with e|⟨hm,n,hp,hh⟩
  ·rw[e] at hr;exact absurd hr LV
  ·obtain⟨z',p,q,e,_⟩:=se hp hh
   have ez:z'=z:=by
    rw[e] at hh
    simp[hit] at hh
    exact hh.1
   rcases hg.2 _ hm with⟨n',m',z'',rs,e',_⟩|⟨n',m',z'',i,e'⟩|⟨n',m',z'',q,e',_⟩
   rotate_left
   ·rw[e] at e';exact(Dl e' (by decide +kernel)).elim
   ·rw[e] at e';exact(Dl e' (by decide +kernel)).elim
   have ez2:z''=z:=by
    rw[e] at e'
    simp at e'
    rw[←e'.2.2.1];exact ez
   rw[e'] at hr hm
   rw[rL] at hr
   rw[ez2] at hm
   cases r with
   |j0 a b=>
    obtain⟨h1,h2⟩:=c.hr _ _ _ _ a b hm hr
    have:=c.le
    show (decide (a≤t)&&decide (t < b))=(decide (a≤m)&&decide (m < b))
    rw[decide_eq_decide.mpr (⟨h1,fun q=>Int.le_trans q this⟩:a≤t↔a≤m),decide_eq_decide.mpr (⟨fun q=>by lia,fun q=>by lia⟩:t < b↔m < b)]
   |post L p k=>rfl
   |looked k=>
    rcases kW hg.1 "look" z m with e4|⟨hm4,n4,hp4,hh4⟩
    ·have:m9 l m z=none:=by unfold m9;rw[e4]
     rw[this];rfl
    ·obtain⟨z4,p4,q4,e5,hk⟩:=se hp4 hh4
     have ez4:z4=z:=by
      rw[e5] at hh4
      simp[hit] at hh4
      exact hh4.1
     have:m9 l m z=some p4:=by unfold m9;rw[e5]
     rw[this]
     rcases hg.2 _ hm4 with⟨n',m',z'',rs,e',_⟩|⟨n',m',z'',i,e'⟩|⟨n',m',z'',q,e',_⟩
     ·rw[e5] at e';exact(Dl e' (by decide +kernel)).elim
     ·rw[e5] at e';exact(Dl e' (by decide +kernel)).elim
     ·rw[e5] at e'
      simp at e'
      rw[e5,e'.2.2.2,ez4] at hm4
      have q1:=c.lk _ _ _ _ k _ p4 hm hr hm4
      have:=c.le
      show decide (t < p4+k)=decide (m < p4+k)
      exact decide_eq_decide.mpr ⟨fun q=>by lia,fun q=>by lia⟩
   |zl o=>rfl
   |never=>rfl
 exact⟨fun h r hr=>by rw[←one r hr];exact h r hr,fun h r hr=>by rw[one r hr];exact h r hr⟩
noncomputable def yF:PV→Int
 | .tup (_::_::.int p::_)=>p
 |_=>0
noncomputable def nameOf:PV→Str
 | .tup (_::_::_::.str z::_)=>z
 |_=>""
noncomputable def qf (z:Str):PV→Bool
 | .tup (.str w::_::_::.str z'::_)=>w==("look":Str)&&z'==z
 |_=>false
noncomputable def xr:PV→Bool
 | .tup (.str w::_)=>w==("rule":Str)
 |_=>false
noncomputable def ig (B:List PV) (z:Str):Ru→List Int
 | .j0 a b=>[a,b]
 | .looked n=>(B.filter (qf z)).map fun y=>yF y+n
 |_=>[]
noncomputable def eU (B:List PV) (y:PV):List Int:=yF y::(if xr y=true then(i8 y).flatMap (ig B (nameOf y)) else[])
theorem wN {B:List PV} {z:Str} (hB: ∀ y∈B,∃ n,gK n y) (hl:B.length≤1000) (r:Ru):bZ [.tup B,.str z,r.pv]= .ret (.lst ((ig B z r).map PV.int)):=by
 have look: ∀ {v:PV} {w:Str},aE v (.int 0)= .ret (.str w)→∀ (x:Str) (ρ:af),av ρ 2= .ret v→bf (ab (eI false) (ab aE (fun ρ=>av ρ 2) (fun _=>M.ret (.int 0))) (fun _=>M.ret (.str x))) ρ= .ret (w==x):=fun {v w} hv x ρ hρ=>by
  simp only[bf,ab,hρ,M.ret_bind,hv,AI]
 have no: ∀ {v:PV} {w:Str},aE v (.int 0)= .ret (.str w)→(w==("hours":Str))=false→(w==("looked":Str))=false→bZ [.tup B,.str z,v]= .ret (.lst []):=fun {v w} hv h1 h2=>by
  unfold bZ eJ
  show (aB _ _ [val (.tup B),val (.str z),val v]).bind cy=_
  refine aD (ρ':=[val (.tup B),val (.str z),val v]) (gm (by rw[look hv _ _ rfl,h1])) ?_
  refine aD (ρ':=[val (.tup B),val (.str z),val v]) (gm (by rw[look hv _ _ rfl,h2])) ?_
  exact bV (bw rfl)
 cases r with
 |j0 a b=>
  unfold bZ eJ
  show (aB _ _ [val (.tup B),val (.str z),val (.tup [.str "hours",.int a,.int b])]).bind cy=_
  refine i6 ?_
  rw[gC rfl]
  exact bw rfl
 |looked n=>
  unfold bZ eJ
  show (aB _ _ [val (.tup B),val (.str z),val (.tup [.str "looked",.int n])]).bind cy=_
  refine aD (ρ':=[val (.tup B),val (.str z),val (.tup [.str "looked",.int n])]) rfl ?_
  refine i6 ?_
  rw[gC rfl]
  refine bw ?_
  have ec:gp [none,some 2,some 1] (List.map Ent.freeze [val (.tup B),val (.str z),val (.tup [.str "looked",.int n])])=[un,val (.tup [.str "looked",.int n]),val (.str z)]:=rfl
  unfold aX cx
  rw[ec]
  have q:=d8 (k:=0) (tt:=gF (bf (ab (eI false) (ab aE (fun ρ=>av ρ 0) (fun _=>M.ret (.int 0))) (fun _=>M.ret (.str "look")))) (bf (ab (eI false) (ab aE (fun ρ=>av ρ 0) (fun _=>M.ret (.int 3))) (fun ρ=>av ρ 2)))) (te:=ab cZ (ab aE (fun ρ=>av ρ 0) (fun _=>M.ret (.int 2))) (ab aE (fun ρ=>av ρ 1) (fun _=>M.ret (.int 1)))) (p:=qf z) (f:=fun y=>.int (yF y+n)) (ρ:=[un,val (.tup [.str "looked",.int n]),val (.str z)]) B [un,val (.tup [.str "looked",.int n]),val (.str z)] (fun _=>rfl) (fun y hy=>by
   obtain⟨i,w,z',m,r,rfl,_⟩:=hB y hy
   show _=M.ret (w==("look":Str)&&z'==z)
   simp only[gF,bf,ab,LR,bq,bD,M.ret_bind,aE,ng,HG,M.cY,AI]
   cases w==("look":Str)<;>rfl) (fun y hy _=>by
   obtain⟨i,w,z',m,r,rfl,_⟩:=hB y hy
   simp only[ab,LR,bq,bD,M.ret_bind,aE,wg,o1,M.cY]
   rfl)
  simp only[LS,List.map_nil,Ent.freeze,bq,M.ret_bind,ba]
  rw[Mz (by lia),q,M.ret_bind]
  show M.ret (PV.lst _)=M.ret (PV.lst (((B.filter (qf z)).map fun y=>yF y+n).map PV.int))
  rw[List.map_map]
  rfl
 |post L p n=>
  cases L with
  |true=>exact no (v:=Ru.pv (.post true p n)) rfl (by decide +kernel) (by decide +kernel)
  |false=>exact no (v:=Ru.pv (.post false p n)) rfl (by decide +kernel) (by decide +kernel)
 |zl o=>exact no (v:=Ru.pv (.zl o)) rfl (by decide +kernel) (by decide +kernel)
 |never=>exact no (v:=Ru.pv .never) rfl (by decide +kernel) (by decide +kernel)
theorem nE {B:List PV} {z:Str} (r:Ru):(ig B z r).length≤B.length+2:=by
 cases r with
 |j0 a b=>simp[ig]
 |looked n=>
  show ((B.filter (qf z)).map _).length≤_
  rw[LK]
  have:=List.length_filter_le (qf z) B
  lia
 |_=>simp[ig]
noncomputable def JY:af→M Fl:=(Ar 2 (fun ρ=>((aa (fun ρ=>av ρ 1) (aa (ab aE (fun ρ=>av ρ 3) (fun _=>M.ret (.int 3))) (aa (fun ρ=>av ρ 4) (fun _=>M.ret [])))) ρ).bind bZ))
noncomputable def HU:af→M Fl:=(aB (eC 2 (ab aE (fun ρ=>av ρ 3) (fun _=>M.ret (.int 2))))
  (gz (bf (ab (eI false) (ab aE (fun ρ=>av ρ 3) (fun _=>M.ret (.int 0))) (fun _=>M.ret (.str "rule"))))
  (bF (fun ρ=>((ab aE (fun ρ=>av ρ 3) (fun _=>M.ret (.int 4))) ρ).bind ba) (aL 4)
  (Ar 2 (fun ρ=>((aa (fun ρ=>av ρ 1) (aa (ab aE (fun ρ=>av ρ 3) (fun _=>M.ret (.int 3))) (aa (fun ρ=>av ρ 4) (fun _=>M.ret [])))) ρ).bind bZ)))
  (fun ρ=>M.ret (.nx ρ))))
section
variable {h:PV} {B:List PV}
theorem ux (hB: ∀ y∈B,∃ n,gK n y) (hl:B.length≤100) {y:PV} {z:Str} (hy:aE y (.int 3)= .ret (.str z)): ∀ (rs:List Ru) (xs:List Int) (e4:Ent),xs.length+rs.length * (B.length+2)≤90000→
  ∃ e4',cV (aL 4) JY (rs.map Ru.pv) [val h,val (.tup B),Ent.own (xs.map PV.int),val y,e4]= .ret (.nx [val h,val (.tup B),Ent.own ((xs++rs.flatMap (ig B z)).map PV.int),val y,e4'])
 |[],xs,e4,_=>⟨e4,by simp[cV]⟩
 |r::rs,xs,e4,hz=>by
  have rl:=nE (B:=B) (z:=z) r
  simp only[LX,Nat.add_mul,Nat.one_mul] at hz
  obtain⟨e4',ih⟩:=ux hB hl hy rs (xs++ig B z r) (val r.pv) (by rw[Mc];lia)
  refine⟨e4',?_⟩
  rw[LS]
  unfold cV
  have st:JY [val h,val (.tup B),Ent.own (xs.map PV.int),val y,val r.pv]= .ret (.nx [val h,val (.tup B),Ent.own ((xs++ig B z r).map PV.int),val y,val r.pv]):=by
   unfold JY Ar
   have hc:(xs.map PV.int).length+((ig B z r).map PV.int).length≤100000:=by rw[LK,LK];lia
   simp only[LZ,L0,aa,ab,bq,bD,M.ret_bind,hy,wN hB (by lia:B.length≤1000),Jq,Mz hc,List.map_append]
   rfl
  simp only[aL,M.ret_bind,Ms,LR,st]
  rw[ih,List.flatMap_cons,List.append_assoc]
theorem Gg {ws:List (Str×List PV)} (hB: ∀ y∈B,∃ n,gK n y) (hl:B.length≤100) {y:PV} (hy:oS ws y) {xs:List Int} (e4:Ent) (hz:xs.length+1+6 * (B.length+2)≤80000):
  ∃ e4',HU [val h,val (.tup B),Ent.own (xs.map PV.int),val y,e4]= .ret (.nx [val h,val (.tup B),Ent.own ((xs++eU B y).map PV.int),val y,e4']):=by
 have app: ∀ {w:Str} {n m:Int} {z:Str} {r:List PV},eC 2 (ab aE (fun ρ=>av ρ 3) (fun _=>M.ret (.int 2))) [val h,val (.tup B),Ent.own (xs.map PV.int),val (.tup (.str w::.int n::.int m::.str z::r)),e4]= .ret (.nx [val h,val (.tup B),Ent.own ((xs++[m]).map PV.int),val (.tup (.str w::.int n::.int m::.str z::r)),e4]):=fun {w n m z r}=>by
  have hc:(xs.map PV.int).length < 100000:=by rw[LK];lia
  unfold eC
  simp only[LZ,L0,ab,bq,bD,M.ret_bind,aE,wg,M.cY,Mz hc,List.map_append]
  rfl
 have tst: ∀ {w:Str} {r:List PV} {e0 e1 e2 e3:Ent},bf (ab (eI false) (ab aE (fun ρ=>av ρ 3) (fun _=>M.ret (.int 0))) (fun _=>M.ret (.str "rule"))) [e0,e1,e2,val (.tup (.str w::r)),e3]= .ret (w==("rule":Str)):=fun {w r e0 e1 e2 e3}=>by
  simp only[bf,ab,bq,bD,M.ret_bind,aE,ng,M.cY,AI]
 have other: ∀ {w:Str} {n m:Int} {z:Str} {r:List PV},(w==("rule":Str))=false→HU [val h,val (.tup B),Ent.own (xs.map PV.int),val (.tup (.str w::.int n::.int m::.str z::r)),e4]= .ret (.nx [val h,val (.tup B),Ent.own ((xs++eU B (.tup (.str w::.int n::.int m::.str z::r))).map PV.int),val (.tup (.str w::.int n::.int m::.str z::r)),e4]):=fun {w n m z r} hw=>by
  have ep:eU B (.tup (.str w::.int n::.int m::.str z::r))=[m]:=by
   show m::(if(w==("rule":Str))=true then _ else[])=_
   rw[hw];rfl
  rw[ep]
  unfold HU aB
  rw[app,M.ret_bind]
  show gz _ _ _ _=_
  rw[gm (by rw[tst,hw])]
 rcases hy with⟨n,m,z,rs,rfl,hr⟩|⟨n,m,z,i,rfl⟩|⟨n,m,z,q,rfl,_⟩
 ·obtain⟨e4',lp⟩:=ux (h:=h) hB hl (y:=.tup [.str "rule",.int n,.int m,.str z,.tup (rs.map Ru.pv)]) (z:=z) rfl rs (xs++[m]) e4 (by
   rw[Mc,List.length_singleton]
   have:rs.length * (B.length+2)≤6 * (B.length+2):=Nat.mul_le_mul_right _ hr
   lia)
  refine⟨e4',?_⟩
  have ep:eU B (.tup [.str "rule",.int n,.int m,.str z,.tup (rs.map Ru.pv)])=[m]++rs.flatMap (ig B z):=by
   show m::(if(("rule":Str)==("rule":Str))=true then(i8 _).flatMap (ig B z) else[])=_
   rw[rL,Mz (by decide +kernel)]
   rfl
  rw[ep,←List.append_assoc]
  unfold HU aB
  rw[app,M.ret_bind]
  show gz _ _ _ _=_
  rw[gC (by rw[tst];exact congrArg M.ret (by decide +kernel))]
  show bF _ (aL 4) JY _=_
  unfold bF
  simp only[ab,bq,bD,M.ret_bind,aE,Le,M.cY,ba]
  exact lp
 ·exact⟨e4,other (by decide +kernel)⟩
 ·exact⟨e4,other (by decide +kernel)⟩
theorem ya {ws:List (Str×List PV)} (hB: ∀ y∈B,∃ n,gK n y) (hl:B.length≤100): ∀ (C:List PV) (xs:List Int) (e3 e4:Ent),(∀ y∈C,oS ws y)→xs.length+C.length * (1+6 * (B.length+2))≤80000→
  ∃ e3' e4',cV (aL 3) HU C [val h,val (.tup B),Ent.own (xs.map PV.int),e3,e4]= .ret (.nx [val h,val (.tup B),Ent.own ((xs++C.flatMap (eU B)).map PV.int),e3',e4'])
 |[],xs,e3,e4,_,_=>⟨e3,e4,by simp[cV]⟩
 |y::C,xs,e3,e4,hC,hz=>by
  have pl:(eU B y).length≤1+6 * (B.length+2):=by
   have fm: ∀ rs:List Ru,(rs.flatMap (ig B (nameOf y))).length≤rs.length * (B.length+2):=fun rs=>by
    induction rs with
    |nil=>simp
    |cons r rs ih=>
     rw[List.flatMap_cons,Mc,LX,Nat.add_mul]
     have:=nE (B:=B) (z:=nameOf y) r
     lia
   unfold eU
   rw[LX]
   by_cases c:xr y=true
   ·rw[Mz c]
    have f1:=fm (i8 y)
    have:(i8 y).length≤6:=by
     rcases hC y LJ with⟨n,m,z,rs,rfl,hr⟩|⟨n,m,z,i,rfl⟩|⟨n,m,z,q,rfl,_⟩
     ·rw[rL];exact hr
     ·simp[i8]
     ·simp[i8]
    have:(i8 y).length * (B.length+2)≤6 * (B.length+2):=Nat.mul_le_mul_right _ this
    lia
   ·rw[MA c];simp
  simp only[LX,Nat.add_mul,Nat.one_mul] at hz
  obtain⟨x4,st⟩:=Gg (h:=h) (xs:=xs) hB hl (hC y LJ) e4 (by lia)
  obtain⟨e3',e4',ih⟩:=ya hB hl C (xs++eU B y) (val y) x4 (fun z hz=>hC z (LM _ hz)) (by rw[Mc];lia)
  refine⟨e3',e4',?_⟩
  unfold cV
  simp only[aL,M.ret_bind,Ms,LR,st]
  rw[ih,List.flatMap_cons,List.append_assoc]
end
theorem rT: ∀ is:List Int,qa (is.map Sum.inl)=some is
 |[]=>rfl
 |i::is=>by
  show (qa (is.map Sum.inl)).map (i:: ·)=_
  rw[rT is]
  rfl
theorem ue: ∀ (xs js:List Int),∃ is:List Int,(xs.map PV.int).foldl (fun ks z=>if t4 ks (keyOf z)=true then ks else ks++[keyOf z]) (js.map Sum.inl)=is.map Sum.inl∧∀ i,i∈is↔i∈js∨i∈xs
 |[],js=>⟨js,rfl,fun i=>by simp⟩
 |x::xs,js=>by
  rw[LS,List.foldl_cons]
  have mem:t4 (js.map Sum.inl) (keyOf (.int x))=true↔x∈js:=by
   show (List.any (js.map Sum.inl) fun k'=>decide (k'=Sum.inl x))=true↔_
   rw[List.any_eq_true]
   constructor
   ·rintro⟨k,hk,e⟩
    obtain⟨j,hj,rfl⟩:=LW.mp hk
    have:=of_decide_eq_true e
    cases this
    exact hj
   ·exact fun hx=>⟨Sum.inl x,Mh hx,by simp⟩
  by_cases c:x∈js
  ·rw[Mz (mem.mpr c)]
   obtain⟨is,e,hi⟩:=ue xs js
   refine⟨is,e,fun i=>?_⟩
   rw[hi,LU]
   constructor
   ·rintro(h|h)
    ·exact .inl h
    ·exact .inr (.inr h)
   ·rintro(h|rfl|h)
    ·exact .inl h
    ·exact .inl c
    ·exact .inr h
  ·rw[MA (fun h=>c (mem.mp h))]
   have ej:js.map Sum.inl++[keyOf (.int x)]=(js++[x]).map (Sum.inl:Int→Key):=by rw[List.map_append];rfl
   rw[ej]
   obtain⟨is,e,hi⟩:=ue xs (js++[x])
   refine⟨is,e,fun i=>?_⟩
   rw[hi,My,Mf,LU]
   constructor
   ·rintro((h|h)|h)
    ·exact .inl h
    ·exact .inr (.inl h)
    ·exact .inr (.inr h)
   ·rintro(h|h|h)
    ·exact .inl (.inl h)
    ·exact .inl (.inr h)
    ·exact .inr h
theorem mR: ∀ (n:Nat) (l:List Int),l.Nodup→(∀ i∈l,0≤i∧i < n)→l.length≤n
 |0,l,_,h=>by
  match l with
  |[]=>exact LQ _
  |i::l=>
   have:=h i LJ
   lia
 |n+1,l,nd,h=>by
  by_cases c:(n:Int)∈l
  ·have e:=List.length_erase_of_mem c
   have ih:=mR n (l.erase (n:Int)) (nd.erase _) fun i hi=>by
    obtain⟨h1,h2⟩:=(nd.mem_erase_iff).mp hi
    have:=h i h2
    lia
   lia
  ·have ih:=mR n l nd fun i hi=>by
    have:=h i hi
    have:i≠n:=fun z=>c (z▸hi)
    lia
   lia
theorem AY {h:PV} {ws:List (Str×List PV)} {dark:Int} {l:List PV} {ns:List Int} (H:iX h ws dark) (hg:zj ws l ns) (hl:l.length≤14) (hd:dark≤40):
  ∃ τ:List Int,pH [h,.tup (bp l)]= .ret (.lst (τ.map PV.int))∧τ.Pairwise (· < ·)∧∀ i,i∈τ↔(0≤i∧i≤dark)∧i∈0::(bp l).flatMap (eU (bp l)):=by
 obtain⟨h0,h2⟩:=jM H
 have pm:=fk l
 have hB: ∀ y∈bp l,∃ n,gK n y:=fun y hy=>(hg.1.at (pm.mem_iff.mp hy)).imp fun n hn=>hn.1
 have hG: ∀ y∈bp l,oS ws y:=fun y hy=>hg.2 y (pm.mem_iff.mp hy)
 have hlB:(bp l).length≤14:=by rw[pm.length_eq];exact hl
 obtain⟨B,eB⟩: ∃ B,B=bp l:=⟨_,rfl⟩
 rw[←eB] at hB hG hlB ⊢
 have lenb:B.length * (1+6 * (B.length+2))≤14 * (1+6 * (14+2)):=Nat.mul_le_mul hlB (by lia)
 obtain⟨e3,e4,lp⟩:=ya (h:=h) (ws:=ws) hB (by lia) B [0] un un hG (by simp only[List.length_singleton];lia)
 have flen: ∀ C:List PV,(∀ y∈C,oS ws y)→(C.flatMap (eU B)).length≤C.length * (1+6 * (B.length+2)):=fun C=>by
  induction C with
  |nil=>simp
  |cons y C ih=>
   intro hC
   have i1:=ih fun z hz=>hC z (LM _ hz)
   have fm: ∀ rs:List Ru,(rs.flatMap (ig B (nameOf y))).length≤rs.length * (B.length+2):=fun rs=>by
    induction rs with
    |nil=>simp
    |cons r rs ih=>
     rw[List.flatMap_cons,Mc,LX,Nat.add_mul]
     have:=nE (B:=B) (z:=nameOf y) r
     lia
   rw[List.flatMap_cons,Mc,LX,Nat.add_mul,Nat.one_mul]
   have:(eU B y).length≤1+6 * (B.length+2):=by
    unfold eU
    rw[LX]
    by_cases c:xr y=true
    ·rw[Mz c]
     have f1:=fm (i8 y)
     have:(i8 y).length≤6:=by
      rcases hC y LJ with⟨n,m,z,rs,rfl,hr⟩|⟨n,m,z,i,rfl⟩|⟨n,m,z,q,rfl,_⟩
      ·rw[rL];exact hr
      ·simp[i8]
      ·simp[i8]
     have:(i8 y).length * (B.length+2)≤6 * (B.length+2):=Nat.mul_le_mul_right _ this
     lia
    ·rw[MA c];simp
   lia
 have fl:=flen B hG
 obtain⟨xs,exs⟩: ∃ xs,xs=0::B.flatMap (eU B):=⟨_,rfl⟩
 have exs':[0]++B.flatMap (eU B)=xs:=by rw[exs];rfl
 have xl:xs.length≤4000:=by rw[exs,LX];lia
 rw[exs'] at lp
 rw[←exs]
 obtain⟨is,ei,mi⟩:=ue (xs.filter fun i=>decide (0≤i)&&decide (i≤dark)) []
 have ei':dk ((xs.filter fun i=>decide (0≤i)&&decide (i≤dark)).map PV.int)=is.map Sum.inl:=ei
 have nd:is.Nodup:=by
  have:=vT ((xs.filter fun i=>decide (0≤i)&&decide (i≤dark)).map PV.int)
  rw[ei'] at this
  exact List.Pairwise.of_map Sum.inl (fun a b h z=>h (by rw[z])) this
 have mem: ∀ i,i∈is↔(0≤i∧i≤dark)∧i∈xs:=fun i=>by
  rw[mi i]
  simp only[LV,false_or,Mx,Mo,decide_eq_true_eq]
  exact⟨fun q=>⟨q.2,q.1⟩,fun q=>⟨q.2,q.1⟩⟩
 have few:=mR 41 is nd fun i hi=>by
  have:=((mem i).mp hi).1
  lia
 have srt:sortI ((xs.filter fun i=>decide (0≤i)&&decide (i≤dark)).map PV.int)= .ret ((kj is).map PV.int):=by
  unfold sortI
  rw[ei',rT]
  show (if is.length < 64 then M.ret _ else M.fail)=_
  rw[Mz (by lia)]
 refine⟨kj is,?_,?_,fun i=>?_⟩
 ·unfold pH pq
  show (aB _ _ [val h,val (.tup B),un,un,un]).bind cy=_
  refine aD (ρ':=[val h,val (.tup B),Ent.own ([0].map PV.int),un,un]) rfl ?_
  refine aD (ρ':=[val h,val (.tup B),Ent.own (xs.map PV.int),e3,e4]) ?_ ?_
  ·show bF _ (aL 3) HU _=_
   unfold bF
   simp only[bq,bD,M.ret_bind,ba]
   exact lp
  ·refine bV (bw ?_)
   have ec:gp [none,some 0] (List.map Ent.freeze [val h,val (.tup B),Ent.own (xs.map PV.int),e3,e4])=[un,val h]:=rfl
   unfold aX Ca
   dsimp only
   rw[ec]
   have q:=d8 (k:=0) (tt:=bf (chain j6 j6 (fun _=>M.ret (.int 0)) (fun ρ=>av ρ 0) (ab aE (fun ρ=>av ρ 1) (fun _=>M.ret (.int 2))))) (te:=fun ρ=>(av ρ 0).bind EI) (p:=fun y=>match y with| .int i=>decide (0≤i)&&decide (i≤dark)|_=>false) (f:=fun y=>y) (ρ:=[un,val h]) (xs.map PV.int) [un,val h] (fun _=>rfl) (fun y hy=>by
    obtain⟨i,_,rfl⟩:=LW.mp hy
    show _=M.ret (decide (0≤i)&&decide (i≤dark))
    simp only[bf,chain,ab,LR,bq,bD,M.ret_bind,h2,j6]
    by_cases c:(0:Int)≤i
    ·simp[c]
    ·simp[c]) (fun y hy _=>by
    obtain⟨i,_,rfl⟩:=LW.mp hy
    rfl)
   have eg:gv 2 (List.map Ent.freeze [val h,val (.tup B),Ent.own (xs.map PV.int),e3,e4])= .ret (.lst (xs.map PV.int)):=rfl
   rw[eg]
   simp only[M.ret_bind,ba]
   rw[Mz (by rw[LK];exact xl),q,M.ret_bind,List.map_id',List.filter_map]
   have ef:((fun y=>match y with|PV.int i=>decide (0≤i)&&decide (i≤dark)|_=>false)∘PV.int)=fun i:Int=>decide (0≤i)&&decide (i≤dark):=rfl
   rw[ef,srt]
   rfl
 ·have nds:(kj is).Nodup:=(jr is).nodup_iff.mpr nd
  have le:=pN is
  exact(le.and nds).imp fun hq0=>by obtain⟨a,b⟩:=hq0;lia
 ·rw[(jr is).mem_iff,mem]
theorem E3 {ws:List (Str×List PV)} {dark:Int} {l:List PV} {ns:List Int} (hg:zj ws l ns) {τ:List Int} (hτ: ∀ i,i∈τ↔(0≤i∧i≤dark)∧i∈0::(bp l).flatMap (eU (bp l))) {m t:Int} (m0:0≤m) (hmt:m≤t) (ht:t≤dark) (hlast: ∀ i∈τ,i≤t→i≤m):Calm l m t:=by
 have pm:=fk l
 have key: ∀ (y:PV) (i:Int),y∈l→i∈eU (bp l) y→i≤t→i≤m:=fun y i hy hi hit=>by
  by_cases c:0≤i
  ·exact hlast i ((hτ i).mpr ⟨⟨c,by lia⟩,LM _ (List.mem_flatMap.mpr ⟨y,pm.mem_iff.mpr hy,hi⟩)⟩) hit
  ·lia
 have rl: ∀ (n p:Int) (z:Str) (rs:List Ru) (r:Ru) (i:Int),PV.tup [.str "rule",.int n,.int p,.str z,.tup (rs.map Ru.pv)]∈l→r∈rs→i∈ig (bp l) z r→i≤t→i≤m:=fun n p z rs r i hy hr hi=>by
  refine key _ i hy ?_
  show i∈p::(if(("rule":Str)==("rule":Str))=true then(i8 _).flatMap (ig (bp l) z) else[])
  rw[rL,Mz (by decide +kernel)]
  exact LM _ (List.mem_flatMap.mpr ⟨r,hr,hi⟩)
 refine⟨hmt,fun w n p z r hy=>key _ p hy LJ,fun n p z rs a b hy hr=>⟨rl _ _ _ _ _ a hy hr LJ,rl _ _ _ _ _ b hy hr (LM _ LJ)⟩,fun n p z rs k n' p' hy hr hy'=>rl _ _ _ _ _ _ hy hr ?_⟩
 refine LW.mpr ⟨.tup [.str "look",.int n',.int p',.str z],Mx.mpr ⟨pm.mem_iff.mpr hy',?_⟩,rfl⟩
 show (("look":Str)==("look":Str)&&z==z)=true
 rw[show (("look":Str)==("look":Str))=true by decide +kernel]
 simp
noncomputable abbrev o2:=List (Int×Int)
noncomputable def eR (p:Int×Int):PV:=.tup [.int p.1,.int p.2]
noncomputable def uF (g:Int→Bool) (acc:o2) (t:Int):o2:=
 if g t=true then(match acc.getLast? with|some p=>if p.2=t then acc.dropLast++[(p.1,t+1)] else acc++[(t,t+1)]|none=>acc++[(t,t+1)]) else acc
noncomputable def runN (g:Int→Bool):Nat→o2
 |0=>[]
 |n+1=>uF g (runN g n) n
theorem yh {g:Int→Bool} {acc:o2} {t:Int} (h:g t=false):uF g acc t=acc:=by unfold uF;rw[h];rfl
theorem yi {g:Int→Bool} {acc:o2} {x t:Int} (h:g t=true):uF g (acc++[(x,t)]) t=acc++[(x,t+1)]:=by
 unfold uF
 rw[Mz h]
 simp
theorem sR {g:Int→Bool} {acc:o2} {t:Int} (h:g t=true) (hl: ∀ p,acc.getLast?=some p→p.2≠t):uF g acc t=acc++[(t,t+1)]:=by
 unfold uF
 rw[Mz h]
 cases e:acc.getLast? with
 |none=>rfl
 |some p=>dsimp only;rw[MA (hl p e)]
theorem yq {g:Int→Bool} {a:Nat}: ∀ k:Nat,(∀ t:Int,a≤t→t < a+k→g t=false)→runN g (a+k)=runN g a
 |0,_=>rfl
 |k+1,h=>by
  show uF g (runN g (a+k)) ((a+k:Nat):Int)=_
  rw[yh (h _ (by lia) (by lia)),yq k fun t h1 h2=>h t h1 (by lia)]
theorem sZ {g:Int→Bool} {a:Nat} {acc:o2} {x:Int} (e:runN g a=acc++[(x,(a:Int))]): ∀ k:Nat,(∀ t:Int,a≤t→t < a+k→g t=true)→runN g (a+k)=acc++[(x,((a+k:Nat):Int))]
 |0,_=>e
 |k+1,h=>by
  show uF g (runN g (a+k)) ((a+k:Nat):Int)=_
  rw[sZ e k fun t h1 h2=>h t h1 (by lia),yi (h _ (by lia) (by lia))]
  rfl
theorem DO {g:Int→Bool} {a:Nat} {acc:o2} (e:runN g a=acc) (hl: ∀ p,acc.getLast?=some p→p.2≠(a:Int)) (k:Nat) (h: ∀ t:Int,a≤t→t < a+(k+1:Nat)→g t=true):runN g (a+(k+1))=acc++[((a:Int),((a+(k+1):Nat):Int))]:=by
 have e1:runN g (a+1)=acc++[((a:Int),((a+1:Nat):Int))]:=by
  show uF g (runN g a) a=_
  rw[e,sR (h _ (Int.le_refl _) (by lia)) hl]
  rfl
 have:=sZ e1 k fun t h1 h2=>h t (by lia) (by lia)
 rw[show a+1+k=a+(k+1) by lia] at this
 exact this
noncomputable def Ba (g:Int→Bool) (m:Int) (s:o2×Option Int):o2×Option Int:=if g m=true then(s.1,some (s.2.getD m)) else(s.1++s.2.toList.map fun x=>(x,m),none)
noncomputable def Fu (g:Int→Bool):List Int→o2×Option Int→o2×Option Int
 |[],s=>s
 |m::r,s=>Fu g r (Ba g m s)
noncomputable def Lj (dark:Int) (s:o2×Option Int):o2:=s.1++s.2.toList.map fun x=>(x,dark+1)
def Kl (g:Int→Bool) (m:Int) (s:o2×Option Int):Prop:=runN g m.toNat=s.1++(s.2.toList.map fun x=>(x,m))∧(s.2=none→∀ p,s.1.getLast?=some p→p.2 < m)
theorem ze {g:Int→Bool} {m n:Int} {s:o2×Option Int} (m0:0≤m) (hmn:m < n) (hc: ∀ t,m≤t→t < n→g t=g m) (h:Kl g m s):Kl g n (Ba g m s):=by
 obtain⟨acc,b⟩:=s
 obtain⟨h1,h2⟩:=h
 obtain⟨a,rfl⟩: ∃ a:Nat,m=a:=⟨m.toNat,by lia⟩
 obtain⟨k,rfl⟩: ∃ k:Nat,n=((a+(k+1):Nat):Int):=⟨(n - a - 1).toNat,by lia⟩
 have ea:((a:Nat):Int).toNat=a:=by lia
 have en:(((a+(k+1):Nat):Int)).toNat=a+(k+1):=by lia
 rw[ea] at h1
 dsimp only at h1 h2
 unfold Kl Ba
 rw[en]
 cases c:g a with
 |true=>
  have hc': ∀ t:Int,a≤t→t < a+(k+1:Nat)→g t=true:=fun t q1 q2=>by rw[hc t q1 (by lia),c]
  rw[Mz rfl]
  refine⟨?_,fun z=>by cases z⟩
  cases b with
  |none=>
   have:=DO (acc:=acc) (h1.trans (by simp)) (fun p hp=>by have:=h2 rfl p hp;lia) k hc'
   rw[this]
   rfl
  |some x=>exact sZ h1 (k+1) hc'
 |false=>
  have hc': ∀ t:Int,a≤t→t < a+(k+1:Nat)→g t=false:=fun t q1 q2=>by rw[hc t q1 (by lia),c]
  rw[MA (by simp),yq (k+1) hc',h1]
  refine⟨by simp,fun _ p hp=>?_⟩
  cases b with
  |none=>
   have:=h2 rfl p (by simpa using hp)
   lia
  |some x=>
   have:p=(x,(a:Int)):=by
    simp at hp
    exact hp.symm
   rw[this]
   show (a:Int) < _
   lia
theorem yj {g:Int→Bool} {dark:Int}: ∀ (r:List Int) (m:Int) (s:o2×Option Int),(m::r).Pairwise (· < ·)→(∀ i∈m::r,0≤i∧i≤dark)→(∀ i∈m::r,∀ t,i≤t→t≤dark→(∀ j∈m::r,j≤t→j≤i)→g t=g i)→Kl g m s→Lj dark (Fu g (m::r) s)=runN g (dark+1).toNat
 |[],m,s,_,hb,hc,h=>by
  have b:=hb m LJ
  have:=ze (n:=dark+1) b.1 (by lia) (fun t q1 q2=>hc m LJ t q1 (by lia) fun j hj _=>by
   rw[Mf] at hj
   lia) h
  exact this.1.symm
 |n::r,m,s,pw,hb,hc,h=>by
  obtain⟨p1,p2⟩:=MC.mp pw
  have hmn:=p1 n LJ
  have b:=hb m LJ
  have bn:=hb n (LM _ LJ)
  have step:=ze (n:=n) b.1 hmn (fun t q1 q2=>hc m LJ t q1 (by lia) fun j hj hjt=>by
   rcases LU.mp hj with rfl|hj
   ·lia
   ·rcases LU.mp hj with rfl|hj
    ·lia
    ·have:=(MC.mp p2).1 j hj
     lia) h
  refine yj r n (Ba g m s) p2 (fun i hi=>hb i (LM _ hi)) (fun i hi t q1 q2 q3=>hc i (LM _ hi) t q1 q2 fun j hj hjt=>?_) step
  rcases LU.mp hj with rfl|hj
  ·have:=p1 i hi
   lia
  ·exact q3 j hj hjt
theorem Hm (x:Str) (zs:List Str) (b:Bool):qh b (.str x) (.tup (zs.map PV.str))= .ret (.bl (xor b (ja zs x))):=mK x zs b
noncomputable def JI:Option Int→PV
 |none=>.aW
 |some x=>.int x
noncomputable def J5:af→M Fl:=(aB (gz (gF (bf (ab (qh false) (fun ρ=>av ρ 1) (fun ρ=>av ρ 6))) (bf (ab (rh false) (fun ρ=>av ρ 4) (fun _=>M.ret .aW))))
  (aH 4 (fun ρ=>av ρ 5))
  (fun ρ=>M.ret (.nx ρ)))
  (gz (gF (bf (ab (qh true) (fun ρ=>av ρ 1) (fun ρ=>av ρ 6))) (bf (ab (rh true) (fun ρ=>av ρ 4) (fun _=>M.ret .aW))))
  (aB (eC 3 (fun ρ=>((aa (fun ρ=>av ρ 4) (aa (fun ρ=>av ρ 5) (fun _=>M.ret []))) ρ).bind bh))
  (aH 4 (fun _=>M.ret .aW)))
  (fun ρ=>M.ret (.nx ρ))))
noncomputable abbrev E7 (P:PV) (w:Str) (dark:Int) (s:o2×Option Int) (e5 e6:Ent):af:=[val P,val (.str w),val (.int dark),Ent.own (s.1.map eR),val (JI s.2),e5,e6]
theorem Gr {P:PV} {w:Str} {dark:Int} {g:Int→Bool} {m:Int} {S:List Str} (hg:g m=ja S w) (s:o2×Option Int) (hz:s.1.length < 90000):J5 (E7 P w dark s (val (.int m)) (val (.tup (S.map PV.str))))= .ret (.nx (E7 P w dark (Ba g m s) (val (.int m)) (val (.tup (S.map PV.str))))):=by
 obtain⟨acc,b⟩:=s
 have hc:(acc.map eR).length < 100000:=by rw[LK];dsimp only at hz;lia
 unfold J5 aB Ba
 rw[hg]
 have t1: ∀ (q:Bool) (y:PV) (e0 e2 e3 e5:Ent),gF (bf (ab (qh q) (fun ρ=>av ρ 1) (fun ρ=>av ρ 6))) (bf (ab (rh q) (fun ρ=>av ρ 4) (fun _=>M.ret .aW))) [e0,val (.str w),e2,e3,val y,e5,val (.tup (S.map PV.str))]=if xor q (ja S w)=true then bf (ab (rh q) (fun ρ=>av ρ 4) (fun _=>M.ret .aW)) [e0,val (.str w),e2,e3,val y,e5,val (.tup (S.map PV.str))] else .ret false:=fun q y e0 e2 e3 e5=>by
  unfold gF
  have:bf (ab (qh q) (fun ρ=>av ρ 1) (fun ρ=>av ρ 6)) [e0,val (.str w),e2,e3,val y,e5,val (.tup (S.map PV.str))]= .ret (xor q (ja S w)):=by
   simp only[bf,ab,bq,bD,M.ret_bind,Hm]
  rw[this,M.ret_bind]
 cases c:ja S w with
 |true=>
  cases b with
  |none=>
   rw[gC (by rw[t1,c];rfl)]
   show (M.ret (Fl.nx (E7 P w dark (acc,some m) (val (.int m)) (val (.tup (S.map PV.str)))))).bind _=_
   rw[M.ret_bind]
   show gz _ _ _ _=_
   rw[gm (by rw[t1,c];rfl)]
   rfl
  |some x=>
   rw[gm (by rw[t1,c];rfl)]
   rw[M.ret_bind]
   show gz _ _ _ _=_
   rw[gm (by rw[t1,c];rfl)]
   rfl
 |false=>
  cases b with
  |none=>
   rw[gm (by rw[t1,c];rfl)]
   rw[M.ret_bind]
   show gz _ _ _ _=_
   rw[gm (by rw[t1,c];rfl)]
   simp
  |some x=>
   rw[gm (by rw[t1,c];rfl)]
   rw[M.ret_bind]
   show gz _ _ _ _=_
   rw[gC (by rw[t1,c];rfl)]
   unfold eC
   simp only[LZ,L0,aa,bq,bD,M.ret_bind,JI,vj,Mz hc,Mt,if_false]
   simp[aH,E7,JI,eR]
theorem yg (g:Int→Bool) (m:Int) (s:o2×Option Int):(Ba g m s).1.length≤s.1.length+1:=by
 unfold Ba
 split
 ·simp
 ·cases s.2<;>simp
theorem yk {P:PV} {w:Str} {dark:Int} {g:Int→Bool} {f:Int→List Str} (hg: ∀ m,g m=ja (f m) w): ∀ (τ:List Int) (s:o2×Option Int) (e5 e6:Ent),s.1.length+τ.length < 90000→
  ∃ e5' e6',cV (gJ [5,6]) J5 (τ.map fun m=>.tup [.int m,.tup ((f m).map PV.str)]) (E7 P w dark s e5 e6)= .ret (.nx (E7 P w dark (Fu g τ s) e5' e6'))
 |[],s,e5,e6,_=>⟨e5,e6,rfl⟩
 |m::τ,s,e5,e6,hz=>by
  have sl:=yg g m s
  simp only[LX] at hz
  obtain⟨e5',e6',ih⟩:=yk hg τ (Ba g m s) (val (.int m)) (val (.tup ((f m).map PV.str))) (by lia)
  refine⟨e5',e6',?_⟩
  rw[LS]
  unfold cV
  have eb:gJ [5,6] (.tup [.int m,.tup ((f m).map PV.str)]) (E7 P w dark s e5 e6)= .ret (E7 P w dark s (val (.int m)) (val (.tup ((f m).map PV.str)))):=rfl
  rw[eb,M.ret_bind,Gr (hg m) s (by lia),M.ret_bind]
  exact ih
theorem zm {w:Str} {dark:Int} {g:Int→Bool} {f:Int→List Str} (hg: ∀ m,g m=ja (f m) w) {τ:List Int} (hz:τ.length < 80000):fO [.lst (τ.map fun m=>.tup [.int m,.tup ((f m).map PV.str)]),.str w,.int dark]= .ret (.tup ((Lj dark (Fu g τ ([],none))).map eR)):=by
 obtain⟨P,eP⟩: ∃ P,P=PV.lst (τ.map fun m=>.tup [.int m,.tup ((f m).map PV.str)]):=⟨_,rfl⟩
 obtain⟨e5,e6,lp⟩:=yk (P:=P) (w:=w) (dark:=dark) hg τ ([],none) un un (by simp;lia)
 have wl: ∀ (τ:List Int) (s:o2×Option Int),(Fu g τ s).1.length≤s.1.length+τ.length:=fun τ=>by
  induction τ with
  |nil=>exact fun s=>LQ _
  |cons m τ ih=>
   intro s
   have h1:=ih (Ba g m s)
   have h2:=yg g m s
   show (Fu g τ (Ba g m s)).1.length≤_
   simp only[LX]
   lia
 have wl':=wl τ ([],none)
 rw[←eP]
 unfold fO fD
 show (aB _ _ [val P,val (.str w),val (.int dark),un,un,un,un]).bind cy=_
 refine aD (ρ':=[val P,val (.str w),val (.int dark),Ent.own [],un,un,un]) rfl ?_
 refine aD (ρ':=E7 P w dark ([],none) un un) rfl ?_
 refine aD (ρ':=E7 P w dark (Fu g τ ([],none)) e5 e6) ?_ ?_
 ·show bF _ (gJ [5,6]) J5 _=_
  unfold bF
  simp only[bq,M.ret_bind]
  rw[eP] at lp ⊢
  simp only[ba,M.ret_bind]
  exact lp
 generalize Fu g τ ([],none)=s at wl' ⊢
 obtain⟨acc,b⟩:=s
 have hc:(acc.map eR).length < 100000:=by
  rw[LK]
  simp at wl'
  lia
 cases b with
 |none=>
  refine aD (ρ':=E7 P w dark (acc,none) e5 e6) (gm rfl) ?_
  refine bV (bw ?_)
  show _=M.ret (PV.tup ((acc++[]).map eR))
  rw[List.append_nil]
  rfl
 |some x=>
  refine aD (ρ':=E7 P w dark (acc++[(x,dark+1)],some x) e5 e6) ?_ ?_
  ·rw[gC rfl]
   have ea:cZ (.int dark) (.int 1)= .ret (.int (dark+1)):=rfl
   unfold eC
   simp only[LZ,L0,aa,ab,bq,bD,M.ret_bind,JI,ea,vj,Mz hc]
   simp[E7,JI,eR]
  ·exact bV (bw rfl)
noncomputable def J6:af→M Fl:=(gz (bf (ab (qh false) (fun ρ=>av ρ 1) (fun ρ=>av ρ 4)))
  (gz (gF (bf (ab (eI true) (fun ρ=>fW ρ 2) (aX (fun ρ=>((fun _=>M.ret []) ρ).bind bc)))) (bf (ab (eI false) (ab aE (ab aE (fun ρ=>fW ρ 2) (fun ρ=>((fun _=>M.ret (.int 1)) ρ).bind jA)) (fun _=>M.ret (.int 1))) (fun ρ=>av ρ 3))))
  (uK 2 (fun ρ=>((fun _=>M.ret (.int 1)) ρ).bind jA) (fun ρ=>((aa (ab aE (ab aE (fun ρ=>fW ρ 2) (fun ρ=>((fun _=>M.ret (.int 1)) ρ).bind jA)) (fun _=>M.ret (.int 0))) (aa (ab cZ (fun ρ=>av ρ 3) (fun _=>M.ret (.int 1))) (fun _=>M.ret []))) ρ).bind bh))
  (eC 2 (fun ρ=>((aa (fun ρ=>av ρ 3) (aa (ab cZ (fun ρ=>av ρ 3) (fun _=>M.ret (.int 1))) (fun _=>M.ret []))) ρ).bind bh)))
  (fun ρ=>M.ret (.nx ρ)))
noncomputable abbrev xX (T:PV) (w:Str) (acc:o2) (e3 e4:Ent):af:=[val T,val (.str w),Ent.own (acc.map eR),e3,e4]
theorem Gx {T:PV} {w:Str} {g:Int→Bool} {t:Int} {S:List Str} (hg:g t=ja S w) {acc:o2} (hz:acc.length < 90000):J6 (xX T w acc (val (.int t)) (val (.lst (S.map PV.str))))= .ret (.nx (xX T w (uF g acc t) (val (.int t)) (val (.lst (S.map PV.str))))):=by
 have hc:(acc.map eR).length < 100000:=by rw[LK];lia
 have e1:bf (ab (qh false) (fun ρ=>av ρ 1) (fun ρ=>av ρ 4)) (xX T w acc (val (.int t)) (val (.lst (S.map PV.str))))= .ret (ja S w):=by
  simp only[bf,ab,bq,bD,M.ret_bind,mK,Bool.false_xor]
 have ea:cZ (.int t) (.int 1)= .ret (.int (t+1)):=rfl
 have en:jA (.int 1)= .ret (.int (-1)):=rfl
 have app:eC 2 (fun ρ=>((aa (fun ρ=>av ρ 3) (aa (ab cZ (fun ρ=>av ρ 3) (fun _=>M.ret (.int 1))) (fun _=>M.ret []))) ρ).bind bh) (xX T w acc (val (.int t)) (val (.lst (S.map PV.str))))= .ret (.nx (xX T w (acc++[(t,t+1)]) (val (.int t)) (val (.lst (S.map PV.str))))):=by
  unfold eC
  simp only[LZ,L0,aa,ab,bq,bD,M.ret_bind,ea,vj,Mz hc]
  simp[xX,eR]
 unfold J6
 cases c:ja S w with
 |false=>
  rw[gm (by rw[e1,c]),yh (by rw[hg,c])]
 |true=>
  rw[gC (by rw[e1,c])]
  rcases List.eq_nil_or_concat acc with rfl|⟨l0,p,rfl⟩
  ·rw[gm rfl,app,sR (by rw[hg,c]) (fun p hp=>by simp at hp)]
  ·rw[List.concat_eq_append] at hc app hz e1 ⊢
   have ne:bf (ab (eI true) (fun ρ=>fW ρ 2) (aX (fun ρ=>((fun _=>M.ret []) ρ).bind bc))) (xX T w (l0++[p]) (val (.int t)) (val (.lst (S.map PV.str))))= .ret true:=by
    simp only[bf,ab,aX,vF,FN,M.ret_bind,Et]
    cases l0<;>rfl
   have ix:aE (.lst ((l0++[p]).map eR)) (.int (-1))= .ret (eR p):=by
    rw[List.map_append]
    simp only[aE,LS,List.map_nil,Dd,M.cY]
   have ix1:aE (eR p) (.int 1)= .ret (.int p.2):=by simp only[eR,aE,o1,M.cY]
   have Ln:aE (eR p) (.int 0)= .ret (.int p.1):=by simp only[eR,aE,ng,M.cY]
   have e2:gF (bf (ab (eI true) (fun ρ=>fW ρ 2) (aX (fun ρ=>((fun _=>M.ret []) ρ).bind bc)))) (bf (ab (eI false) (ab aE (ab aE (fun ρ=>fW ρ 2) (fun ρ=>((fun _=>M.ret (.int 1)) ρ).bind jA)) (fun _=>M.ret (.int 1))) (fun ρ=>av ρ 3))) (xX T w (l0++[p]) (val (.int t)) (val (.lst (S.map PV.str))))= .ret (p.2==t):=by
    unfold gF
    rw[ne,M.ret_bind]
    simp only[bf,ab,vF,FN,bq,bD,M.ret_bind,en,ix,ix1,Lo,if_true]
   by_cases d:p.2=t
   ·rw[gC (by rw[e2];simp[d])]
    have es:uF g (l0++[p]) t=l0++[(p.1,t+1)]:=by
     have:p=(p.1,t):=by rw[←d]
     rw[this]
     exact yi (by rw[hg,c])
    rw[es]
    unfold uK
    have el:uu ((l0++[p]).map eR).length (-1)=some l0.length:=by
     unfold uu
     rw[MA (by decide),Mz (by simp;lia)]
     congr 1
     simp
     lia
    simp only[aa,ab,vF,FN,bq,bD,M.ret_bind,en,ix,Ln,ea,vj,LZ,L0,vC,el,M.cY]
    simp[xX,eR]
   ·rw[gm (by rw[e2];simp[d]),app,sR (by rw[hg,c]) (fun q hq=>by
     simp at hq
     rw[←hq]
     exact d)]
theorem DD (g:Int→Bool) (acc:o2) (t:Int):(uF g acc t).length≤acc.length+1:=by
 unfold uF
 split
 ·split
  ·split
   ·simp
   ·simp
  ·simp
 ·lia
theorem pT (g:Int→Bool): ∀ n:Nat,(runN g n).length≤n
 |0=>LQ _
 |n+1=>by
  have:=pT g n
  have:=DD g (runN g n) n
  show (uF g (runN g n) n).length≤_
  lia
theorem yu {T:PV} {w:Str} {g:Int→Bool} {f:Int→List Str} (hg: ∀ m,g m=ja (f m) w): ∀ (j k:Nat) (e3 e4:Ent),k+j < 80000→
  ∃ e3' e4',cV (gJ [3,4]) J6 ((List.range' k j).map fun i:Nat=>PV.tup [.int i,.lst ((f i).map PV.str)]) (xX T w (runN g k) e3 e4)= .ret (.nx (xX T w (runN g (k+j)) e3' e4'))
 |0,k,e3,e4,_=>⟨e3,e4,rfl⟩
 |j+1,k,e3,e4,hz=>by
  obtain⟨e3',e4',ih⟩:=yu hg j (k+1) (val (.int k)) (val (.lst ((f k).map PV.str))) (by lia)
  refine⟨e3',e4',?_⟩
  rw[List.range'_succ,LS]
  unfold cV
  have eb:gJ [3,4] (.tup [.int k,.lst ((f k).map PV.str)]) (xX T w (runN g k) e3 e4)= .ret (xX T w (runN g k) (val (.int k)) (val (.lst ((f k).map PV.str)))):=rfl
  have:=pT g k
  rw[eb,M.ret_bind,Gx (hg k) (by lia),M.ret_bind]
  rw[show k+1+j=k+(j+1) by lia] at ih
  exact ih
theorem CO (F:Nat→PV) (n:Nat):mS ((List.range n).map F)=(List.range' 0 n).map fun i:Nat=>PV.tup [.int i,F i]:=by
 unfold mS
 apply List.ext_getElem
 ·simp
 ·intro i h1 h2
  simp
theorem DN {w:Str} {g:Int→Bool} {f:Int→List Str} (hg: ∀ m,g m=ja (f m) w) {n:Nat} (hn:n < 80000):iu [.lst ((List.range n).map fun i:Nat=>PV.lst ((f i).map PV.str)),.str w]= .ret (.tup ((runN g n).map eR)):=by
 obtain⟨T,eT⟩: ∃ T,T=PV.lst ((List.range n).map fun i:Nat=>PV.lst ((f i).map PV.str)):=⟨_,rfl⟩
 obtain⟨e3,e4,lp⟩:=yu (T:=T) (w:=w) hg n 0 un un (by lia)
 rw[Nat.zero_add] at lp
 rw[←eT]
 unfold iu jF
 show (aB _ _ [val T,val (.str w),un,un,un]).bind cy=_
 refine aD (ρ':=xX T w [] un un) rfl ?_
 refine aD (ρ':=xX T w (runN g n) e3 e4) ?_ (bV (bw rfl))
 show bF _ (gJ [3,4]) J6 _=_
 unfold bF
 simp only[aa,bq,M.ret_bind]
 rw[eT] at lp ⊢
 simp only[CQ,M.ret_bind,CO]
 exact lp
theorem uG {h:PV} {ws:List (Str×List PV)} {dark:Int} {l:List PV} {ns:List Int} (H:iX h ws dark) (hg:zj ws l ns) (hl:l.length≤14) (hd:dark≤40) {f:Int→List Str} (hf: ∀ t,Az h ws l t (f t)) (w:Str):
  jW [h,.tup (bp l),.str w]= .ret (.tup ((runN (fun t=>ja (f t) w) (dark+1).toNat).map eR)):=by
 obtain⟨h0,h2⟩:=jM H
 obtain⟨τ,et,pw,hτ⟩:=AY H hg hl hd
 obtain⟨hm,_,_,_,_,d0,_⟩:=id H
 have z0:(0:Int)∈τ:=(hτ 0).mpr ⟨⟨Int.le_refl _,by lia⟩,LJ⟩
 have tl:τ.length≤41:=mR 41 τ (pw.imp fun {a b} q z=>by lia) fun i hi=>by
  have:=((hτ i).mp hi).1
  lia
 have cst: ∀ i∈τ,∀ t,i≤t→t≤dark→(∀ j∈τ,j≤t→j≤i)→ja (f t) w=ja (f i) w:=fun i hi t q1 q2 q3=>by
  have c:=E3 hg hτ ((hτ i).mp hi).1.1 q1 q2 q3
  rw[zR (B8 hg c) (hf t) (hf i)]
 obtain⟨r,rfl⟩: ∃ r,τ=0::r:=by
  match τ,z0 with
  |m::r,z0=>
   refine⟨r,?_⟩
   have m0:=((hτ m).mp LJ).1.1
   rcases LU.mp z0 with e|z0
   ·rw[←e]
   ·have:=(MC.mp pw).1 0 z0
    lia
 have sr:=yj (g:=fun t=>ja (f t) w) (dark:=dark) r 0 ([],none) pw (fun i hi=>((hτ i).mp hi).1) cst ⟨rfl,fun _ p hp=>by cases hp⟩
 have st:iY [h,.tup (bp l)]= .ret (.lst ((0::r).map fun m=>.tup [.int m,.tup ((f m).map PV.str)])):=by
  unfold iY iE
  show (bG _ [val h,val (.tup (bp l))]).bind cy=_
  refine bV (bw ?_)
  have ec:gp [none,some 0,some 1] (List.map Ent.freeze [val h,val (.tup (bp l))])=[un,val h,val (.tup (bp l))]:=rfl
  have q:=lg (k:=0) (te:=fun ρ=>((aa (fun ρ=>av ρ 0) (aa (fun ρ=>((aa (fun ρ=>av ρ 1) (aa (fun ρ=>av ρ 2) (aa (fun ρ=>av ρ 0) (fun _=>M.ret [])))) ρ).bind eD) (fun _=>M.ret []))) ρ).bind bh) (f:=fun y=>match y with| .int m=>.tup [.int m,.tup ((f m).map PV.str)]|_=>.aW) (ρ:=[un,val h,val (.tup (bp l))]) ((0::r).map PV.int) [un,val h,val (.tup (bp l))] (fun _=>rfl) (fun y hy=>by
   obtain⟨m,_,rfl⟩:=LW.mp hy
   have ho:=(hf m).2.1
   simp only[LR,aa,bq,bD,M.ret_bind,ho,vj])
  unfold aX cx
  dsimp only
  rw[ec]
  simp only[LS,List.map_nil,Ent.freeze,aa,bq,bD,M.ret_bind] at et q ⊢
  rw[et]
  simp only[M.ret_bind,ba]
  rw[Mz (by simp at tl ⊢;lia),q,M.ret_bind,List.map_map]
  rfl
 have wi:=zm (w:=w) (dark:=dark) (g:=fun t=>ja (f t) w) (f:=f) (fun _=>rfl) (τ:=0::r) (by lia)
 rw[sr] at wi
 unfold jW pz
 show (bG _ [val h,val (.tup (bp l)),val (.str w)]).bind cy=_
 refine bV (bw ?_)
 simp only[LS,List.map_nil,Ent.freeze,aa,ab,bq,bD,M.ret_bind] at st wi ⊢
 rw[st]
 simp only[M.ret_bind,h2,wi]
theorem bI.drop {l:List PV} {ns:List Int} (h:bI l ns):bI (l.drop 1) (ns.drop 1):=by
 obtain⟨g1,g2,g3,g4⟩:=h
 refine⟨by rw[List.length_drop,List.length_drop,g1],List.Pairwise.sublist (List.drop_sublist 1 ns) g2,fun n hn=>g3 n (List.mem_of_mem_drop hn),fun i n z hn hz=>?_⟩
 rw[List.getElem?_drop] at hn hz
 exact g4 _ n z hn hz
theorem JC (l:List PV):ui l (some 1) none=l.drop 1:=by
 unfold ui
 have e:HT.dR l.length 0 (some 1)=min 1 l.length:=HT.o7 _ _ 1
 rw[HT.my,e]
 cases l with
 |nil=>rfl
 |cons a r=>
  rw[show min 1 (a::r).length=1 by simp]
  exact List.take_of_length_le (by simp)
theorem yt (g:Int→Bool): ∀ (n:Nat) (p:Int×Int),p∈runN g n→(0≤p.1∧p.1≤n)∧(0≤p.2∧p.2≤n)
 |0,p,h=>absurd h LV
 |n+1,p,h=>by
  have h':p∈uF g (runN g n) n:=h
  have ih:=yt g n
  have old: ∀ q,q∈runN g n→(0≤q.1∧q.1≤(n+1:Nat))∧(0≤q.2∧q.2≤(n+1:Nat)):=fun q hq=>by
   have:=ih q hq
   lia
  have new: ∀ q:Int×Int,q=((n:Int),(n:Int)+1)→(0≤q.1∧q.1≤(n+1:Nat))∧(0≤q.2∧q.2≤(n+1:Nat)):=fun q hq=>by
   rw[hq]
   dsimp only
   lia
  unfold uF at h'
  split at h'
  ·split at h'
   ·rename_i q e
    have hq:=ih q (List.mem_of_getLast? e)
    split at h'
    ·rcases My.mp h' with h'|h'
     ·exact old p (List.dropLast_subset _ h')
     ·rw[Mf.mp h']
      dsimp only
      lia
    ·rcases My.mp h' with h'|h'
     ·exact old p h'
     ·exact new p (Mf.mp h')
   ·rcases My.mp h' with h'|h'
    ·exact old p h'
    ·exact new p (Mf.mp h')
  ·exact old p h'
theorem uN (g:Int→Bool) {n:Nat} (hn:n≤41):uq 8000 2 (.tup ((runN g n).map eR)):=by
 refine(o5 (c:=171) (dp:=1) (n:=41) (fun z hz=>?_) ?_).mono (by lia) (by lia)
 ·obtain⟨p,hp,rfl⟩:=LW.mp hz
  have b:=yt g n p hp
  refine(o5 (c:=82) (dp:=0) (n:=2) (l:=[.int p.1,.int p.2]) (fun z hz=>?_) (by simp)).mono (by lia) (by lia)
  simp only[LU,LV,or_false] at hz
  rcases hz with rfl|rfl<;>exact si (by lia)
 ·rw[LK]
  exact L6 (pT g n) hn
noncomputable def J7:af→M Fl:=(gz (bf (ab (eI true) (fun ρ=>((aa (fun ρ=>((aa (fun ρ=>av ρ 0) (aa (fun ρ=>av ρ 2) (aa (ab aE (fun ρ=>av ρ 4) (fun _=>M.ret (.int 0))) (fun _=>M.ret [])))) ρ).bind jW) (fun _=>M.ret [])) ρ).bind oB) (fun ρ=>((aa (fun ρ=>((aa (fun ρ=>av ρ 3) (aa (ab aE (fun ρ=>av ρ 4) (fun _=>M.ret (.int 0))) (fun _=>M.ret []))) ρ).bind iu) (fun _=>M.ret [])) ρ).bind oB)))
  (bG (fun _=>M.ret (.bl false)))
  (fun ρ=>M.ret (.nx ρ)))
theorem uO {h:PV} {ws:List (Str×List PV)} {dark:Int} {l:List PV} {ns:List Int} (H:iX h ws dark) (hg:zj ws l ns) (hl:l.length≤14) (hd:dark≤40):gx [h,.lst l]= .ret (.bl true):=by
 obtain⟨h0,h2⟩:=jM H
 obtain⟨f,hf⟩: ∃ f:Int→List Str,∀ t,Az h ws l t (f t):=⟨fun t=>Classical.choose (ph H hg (by lia) t),fun t=>Classical.choose_spec (ph H hg (by lia) t)⟩
 have d0:1≤dark:=by obtain⟨_,_,_,_,_,d0,_⟩:=H;exact d0
 obtain⟨n,hn⟩: ∃ n:Nat,n=(dark+1).toNat:=⟨_,rfl⟩
 have nb:n≤41:=by lia
 obtain⟨T,eT⟩: ∃ T,T=PV.lst ((List.range n).map fun i:Nat=>PV.lst ((f i).map PV.str)):=⟨_,rfl⟩
 unfold gx iJ
 show (aB _ _ [val h,val (.lst l),un,un,un]).bind cy=_
 refine aD (ρ':=[val h,val (.lst l),val (.tup (bp l)),un,un]) ?_ ?_
 ·simp only[aH,aa,bq,bD,M.ret_bind,zb hg.1 (by lia:l.length < 64)]
  rfl
 refine aD (ρ':=[val h,val (.lst l),val (.tup (bp l)),val T,un]) ?_ ?_
 ·have ea:cZ (.int dark) (.int 1)= .ret (.int (dark+1)):=rfl
  have er:dH [.int (dark+1)]= .ret (cn 0 n):=by simp only[dH,Mz (by lia: -1000000≤dark+1∧dark+1≤100000),hn]
  have ec:gp [none,some 0,some 1] [val h,val (.lst l),val (.tup (bp l)),un,un]=[un,val h,val (.lst l)]:=rfl
  have q:=lg (k:=0) (te:=fun ρ=>((aa (fun ρ=>av ρ 1) (aa (fun ρ=>av ρ 2) (aa (fun ρ=>av ρ 0) (fun _=>M.ret [])))) ρ).bind f6) (f:=fun y=>match y with| .int m=>.lst ((f m).map PV.str)|_=>.aW) (ρ:=[un,val h,val (.lst l)]) (cn 0 n) [un,val h,val (.lst l)] (fun _=>rfl) (fun y hy=>by
   obtain⟨m,_,rfl⟩:=LW.mp hy
   have ho:=(hf (0+(m:Int))).1
   simp only[LR,aa,bq,bD,M.ret_bind,ho])
  have em:(cn 0 n).map (fun y=>match y with|PV.int m=>PV.lst ((f m).map PV.str)|_=>.aW)=(List.range n).map fun i:Nat=>PV.lst ((f i).map PV.str):=by
   unfold cn
   rw[List.map_map]
   refine List.map_congr_left fun i _=>?_
   show PV.lst ((f (0+(i:Int))).map PV.str)=_
   rw[Int.zero_add]
  have hlen:(cn 0 n).length≤100000:=by simp[cn];lia
  unfold aH aX cx
  dsimp only
  rw[ec]
  simp only[aa,ab,bq,bD,M.ret_bind,h2,ea,er] at q ⊢
  rw[Mz hlen,q,M.ret_bind,em,←eT]
  rfl
 have one: ∀ p∈ws,J7 [val h,val (.lst l),val (.tup (bp l)),val T,val (dX p)]= .ret (.nx [val h,val (.lst l),val (.tup (bp l)),val T,val (dX p)]):=fun p hp=>by
  have ix:aE (dX p) (.int 0)= .ret (.str p.1):=by simp only[aE,ng,M.cY]
  have e1:=uG H hg hl hd hf p.1
  have e2:=DN (w:=p.1) (g:=fun t=>ja (f t) p.1) (f:=f) (fun _=>rfl) (n:=n) (by lia)
  rw[←hn] at e1
  rw[←eT] at e2
  obtain⟨tx,rx⟩:=Bn (uN (fun t=>ja (f t) p.1) nb) rfl (by lia) (by lia)
  unfold J7
  refine gm ?_
  simp only[bf,aa,ab,bq,bD,M.ret_bind,ix,e1,e2,rx,Lz]
 have lp: ∀ (vs:List (Str×List PV)) (e4:Ent),(∀ p∈vs,p∈ws)→∃ e4',cV (aL 4) J7 (vs.map dX) [val h,val (.lst l),val (.tup (bp l)),val T,e4]= .ret (.nx [val h,val (.lst l),val (.tup (bp l)),val T,e4']):=fun vs=>by
  induction vs with
  |nil=>exact fun e4 _=>⟨e4,rfl⟩
  |cons p vs ih=>
   intro e4 hs
   obtain⟨e4',ih⟩:=ih (val (dX p)) fun q hq=>hs q (LM _ hq)
   refine⟨e4',?_⟩
   rw[LS]
   unfold cV
   simp only[aL,M.ret_bind,Ms,LR]
   rw[one p (hs p LJ),M.ret_bind]
   exact ih
 obtain⟨e4',lp'⟩:=lp ws un fun p hp=>hp
 refine aD (ρ':=[val h,val (.lst l),val (.tup (bp l)),val T,e4']) ?_ (bV (bw rfl))
 show bF _ (aL 4) J7 _=_
 simp only[bF,ab,bq,M.ret_bind,h0,ba]
 exact lp'
theorem Cn:(p6 ((List.replicate 8 un).set 1 (.val .bQ))).wp 1000000 fun f _=>f= .rt (.bl true):=by
 have g:Gen (p6 ((List.replicate 8 un).set 1 (.val .bQ))) 2000 (fun f=>f= .rt (.bl true)):=by
  show Gen (p6 [un,val .bQ,un,un,un,un,un,un]) 2000 _
  unfold p6
  refine Gen.le (mN (c:=300) (d:=1600) (I:=fun ρ=> ∃ (hm:PV) (ws:List (Str×List PV)) (dark:Int),iX (.tup [.tup (ws.map dX),hm,.int dark]) ws dark∧ρ=[un,val .bQ,val (.tup (ws.map dX)),val hm,val (.int dark),un,un,un]) ?_ ?_) (by decide)
  ·simp only[AU,aa,bq,bD,M.ret_bind]
   refine Gen.le (Gen.bind (CB (most:=6) (sc:=1) (by decide) (by decide) (by decide) (by decide)) (d:=0) ?_) (by decide)
   rintro h ⟨ws,dark,H⟩
   obtain⟨hm,rfl,r⟩:=id H
   exact Gen.eq (y:=.nx _) rfl ⟨_,rfl,hm,ws,dark,H,rfl⟩
  rintro _ ⟨hm,ws,dark,H,rfl⟩
  obtain⟨_,_,w0,w1,hw,d0,d1,nd⟩:=id H
  obtain⟨d,ed,db0,db1⟩: ∃ d:Int,p5 [.int dark,.int 20]= .ret (.int d)∧1≤d∧d≤20:=⟨if 20 < dark then 20 else dark,rfl,by split<;>lia,by split<;>lia⟩
  have H':iX (.tup [.tup (ws.map dX),hm,.int d]) ws d:=⟨hm,rfl,w0,w1,hw,db0,by lia,nd⟩
  obtain⟨h,eh⟩: ∃ h,h=PV.tup [.tup (ws.map dX),hm,.int d]:=⟨_,rfl⟩
  rw[←eh] at H'
  refine Gen.le (mN (c:=0) (d:=1600) (I:=fun ρ=>ρ=[un,val .bQ,val (.tup (ws.map dX)),val hm,val (.int dark),val h,un,un]) (An ?_ rfl) ?_) (by decide)
  ·simp only[aH,aa,bq,bD,M.ret_bind,ed,Es,eh]
   rfl
  rintro _ rfl
  refine Gen.le (mN (c:=1500) (d:=100) (I:=fun ρ=> ∃ l ns,l.length≤12∧zj ws l ns∧ρ=[un,val .bQ,val (.tup (ws.map dX)),val hm,val (.int dark),val h,val (.lst l),un]) ?_ ?_) (by decide)
  ·simp only[aH,aa,bq,bD,M.ret_bind,ak,M.bind_assoc]
   refine Gen.le (Gen.bind (Gen.draw (by lia) (by lia)) (d:=1000) ?_) (by decide)
   rintro _ ⟨k,rfl,k0,k1⟩
   refine Gen.le (Gen.bind (Ao (sc:=1) H' (by decide) (by decide) k0 (by lia)) (d:=0) ?_) (by lia)
   rintro _ ⟨l,ns,rfl,hl,hg⟩
   exact Gen.eq (y:=.nx _) rfl ⟨_,rfl,l,ns,by lia,hg,rfl⟩
  rintro _ ⟨l,ns,hl,hg,rfl⟩
  obtain⟨p,ws',rfl⟩: ∃ p ws',ws=p::ws':=by
   match ws,w0 with
   |p::ws',_=>exact⟨p,ws',rfl⟩
  have i0:aE (.tup ((p::ws').map dX)) (.int 0)= .ret (dX p):=by simp only[aE,LS,ng,M.cY]
  have i1:aE (dX p) (.int 0)= .ret (.str p.1):=by simp only[aE,ng,M.cY]
  obtain⟨f,hf⟩: ∃ f:Int→List Str,∀ t,Az h (p::ws') l t (f t):=⟨fun t=>Classical.choose (ph H' hg (by lia) t),fun t=>Classical.choose_spec (ph H' hg (by lia) t)⟩
  have sp:=uG H' hg (by lia) (by lia) hf p.1
  have bk:=zb hg.1 (by lia:l.length < 64)
  have sm:=uN (fun t=>ja (f t) p.1) (n:=(d+1).toNat) (by lia)
  obtain⟨v,ev⟩: ∃ v,v=PV.tup ((runN (fun t=>ja (f t) p.1) (d+1).toNat).map eR):=⟨_,rfl⟩
  rw[←ev] at sp sm
  have eq:eI false v v= .ret (.bl true):=by
   obtain⟨dd,h1,_,_,_,h5⟩:=sm
   unfold eI
   rw[eq_self 20 v dd h1 (by lia)]
   rfl
  refine Gen.le (mN (c:=0) (d:=100) (I:=fun ρ=>ρ=[un,val .bQ,val (.tup ((p::ws').map dX)),val hm,val (.int dark),val h,val (.lst l),val v]) (An ?_ rfl) ?_) (by decide)
  ·simp only[aH,aa,ab,bq,bD,M.ret_bind,i0,i1,bk,sp]
   rfl
  rintro _ rfl
  have r1:=uO H' hg (by lia) (by lia)
  have r2:=uO H' (l:=l.drop 1) (ns:=ns.drop 1) ⟨hg.1.drop,fun y hy=>hg.2 y (List.mem_of_mem_drop hy)⟩ (by rw[List.length_drop];lia) (by lia)
  refine Gen.le (mN (c:=0) (d:=100) (I:=fun ρ=>ρ=[un,val .bQ,val (.tup ((p::ws').map dX)),val hm,val (.int dark),val h,val (.lst l),val v]) (An (gm ?_) rfl) ?_) (by decide)
  ·unfold Eb vc
   simp only[bf,DL,aa,bq,bD,M.ret_bind,vC,Fv,JC,r1,r2,Bool.not_true,Mt,if_false]
  rintro _ rfl
  refine Gen.le (Gen.eq (y:=.rt (.bl true)) (bw ?_) rfl) (Me _)
  simp only[LS,List.map_nil,Ent.freeze,aa,ab,bq,bD,M.ret_bind] at i0 ⊢
  simp only[i0,i1,bk,sp,M.ret_bind,eq]
 exact M.wp_mono (g.h 1000000 (by decide)) fun f n h=>h.2
theorem JX {α:Type} {us:List α} (h:us.length=1): ∃ a,us=[a]:=by
 match us,h with
 |[a],_=>exact⟨_,rfl⟩
theorem Fo {α:Type} {us:List α} (h:us.length=2): ∃ a b,us=[a,b]:=by
 match us,h with
 |[a,b],_=>exact⟨_,_,rfl⟩
theorem zr {α:Type} {us:List α} (h:us.length=3): ∃ a b c,us=[a,b,c]:=by
 match us,h with
 |[a,b,c],_=>exact⟨_,_,_,rfl⟩
theorem HS {α:Type} {us:List α} (h:us.length=4): ∃ a b c d,us=[a,b,c,d]:=by
 match us,h with
 |[a,b,c,d],_=>exact⟨_,_,_,_,rfl⟩
theorem Lu {α:Type} {us:List α} (h:us.length=5): ∃ a b c d e,us=[a,b,c,d,e]:=by
 match us,h with
 |[a,b,c,d,e],_=>exact⟨_,_,_,_,_,rfl⟩
theorem all_mk {l:PySem.W.OpenLaw} {w:World} {K:Frag} {h:Heap} {mg:Str→Option Value} {q:Program} {fa fv h9 fZ fu eM eN dO cX eO ft eL lx fq cW ly iV lT n8 lj oh jj oe ji lr lV lU lu ll og n9 lq sN dw au dv ar:Addr} (X:K.In h) (G:h.Ns mainGlobals mg) (hfa:mg "law"=some (.ref fa))
  {od0 an0 od1 an1 od2 an2 od3 an3 od4 an4 od5 an5 od6 an6 od7 an7 od8 an8 od9 an9 od10 an10 od11 an11 od12 an12 od13 an13 od14 an14 od15 an15 od16 an16 od17 an17 od18 an18 od19 an19 od20 an20 od21 an21 od22 an22 od23 an23 od24 an24 od25 an25 od26 an26 od27 an27 od28 an28 od29 an29 od30 an30 od31 an31:Option Addr} {sl0 sl1 sl2 DL sl4 sl5 sl6 sl7 sl8 sl9 sl10 sl11 sl12 sl13 sl14 sl15 sl16 sl17 sl18 sl19 sl20 sl21 sl22 sl23 sl24 sl25 sl26 sl27 sl28 sl29 sl30 sl31:Array (Option Value)} {oc0 kV0 dc0 pm0 cd0 ct0 oc1 kV1 dc1 pm1 cd1 ct1 oc2 kV2 dc2 pm2 cd2 ct2 oc3 kV3 dc3 pm3 cd3 ct3 oc4 kV4 dc4 pm4 cd4 ct4 oc5 kV5 dc5 pm5 cd5 ct5 oc6 kV6 dc6 pm6 cd6 ct6 oc7 kV7 dc7 pm7 cd7 ct7 oc8 kV8 dc8 pm8 cd8 ct8 oc9 kV9 dc9 pm9 cd9 ct9 oc10 kV10 dc10 pm10 cd10 ct10 oc11 kV11 dc11 pm11 cd11 ct11 oc12 kV12 dc12 pm12 cd12 ct12 oc13 kV13 dc13 pm13 cd13 ct13 oc14 kV14 dc14 pm14 cd14 ct14 oc15 kV15 dc15 pm15 cd15 ct15 oc16 kV16 dc16 pm16 cd16 ct16 oc17 kV17 dc17 pm17 cd17 ct17 oc18 kV18 dc18 pm18 cd18 ct18 oc19 kV19 dc19 pm19 cd19 ct19 oc20 kV20 dc20 pm20 cd20 ct20 oc21 kV21 dc21 pm21 cd21 ct21 oc22 kV22 dc22 pm22 cd22 ct22 oc23 kV23 dc23 pm23 cd23 ct23 oc24 kV24 dc24 pm24 cd24 ct24 oc25 kV25 dc25 pm25 cd25 ct25 oc26 kV26 dc26 pm26 cd26 ct26 oc27 kV27 dc27 pm27 cd27 ct27 oc28 kV28 dc28 pm28 cd28 ct28 oc29 kV29 dc29 pm29 cd29 ct29 oc30 kV30 dc30 pm30 cd30 ct30 oc31 kV31 dc31 pm31 cd31 ct31:Value}
  (x0:nsIn K mainGlobals "last_page"=some (some (.ref fv))) (l0:K.lookup fv=some ⟨oc0,od0,.func (fnOf "last_page" "last_page" (aR du) (aw du) (ae du) .none kV0 dc0 pm0 an0 cd0 ct0),sl0⟩) (c0:codeIn K cd0 "last_page"=true) (k0:keepIn K (.ref fv)=true)
  (x1:nsIn K mainGlobals "reading"=some (some (.ref h9))) (l1:K.lookup h9=some ⟨oc1,od1,.func (fnOf "reading" "reading" (aR fj) (aw fj) (ae fj) .none kV1 dc1 pm1 an1 cd1 ct1),sl1⟩) (c1:codeIn K cd1 "reading"=true) (k1:keepIn K (.ref h9)=true)
  (x2:nsIn K mainGlobals "rules_at"=some (some (.ref fZ))) (l2:K.lookup fZ=some ⟨oc2,od2,.func (fnOf "rules_at" "rules_at" (aR d5) (aw d5) (ae d5) .none kV2 dc2 pm2 an2 cd2 ct2),sl2⟩) (c2:codeIn K cd2 "rules_at"=true) (k2:keepIn K (.ref fZ)=true)
  (x3:nsIn K mainGlobals "looked_at"=some (some (.ref fu))) (l3:K.lookup fu=some ⟨oc3,od3,.func (fnOf "looked_at" "looked_at" (aR df) (aw df) (ae df) .none kV3 dc3 pm3 an3 cd3 ct3),DL⟩) (c3:codeIn K cd3 "looked_at"=true) (k3:keepIn K (.ref fu)=true)
  (x4:nsIn K mainGlobals "post_holds"=some (some (.ref eM))) (l4:K.lookup eM=some ⟨oc4,od4,.func (fnOf "post_holds" "post_holds" (aR cG) (aw cG) (ae cG) .none kV4 dc4 pm4 an4 cd4 ct4),sl4⟩) (c4:codeIn K cd4 "post_holds"=true) (k4:keepIn K (.ref eM)=true)
  (x5:nsIn K mainGlobals "look_holds"=some (some (.ref eN))) (l5:K.lookup eN=some ⟨oc5,od5,.func (fnOf "look_holds" "look_holds" (aR cJ) (aw cJ) (ae cJ) .none kV5 dc5 pm5 an5 cd5 ct5),sl5⟩) (c5:codeIn K cd5 "look_holds"=true) (k5:keepIn K (.ref eN)=true)
  (x6:nsIn K mainGlobals "holds_alone"=some (some (.ref dO))) (l6:K.lookup dO=some ⟨oc6,od6,.func (fnOf "holds_alone" "holds_alone" (aR cg) (aw cg) (ae cg) .none kV6 dc6 pm6 an6 cd6 ct6),sl6⟩) (c6:codeIn K cd6 "holds_alone"=true) (k6:keepIn K (.ref dO)=true)
  (x7:nsIn K mainGlobals "others_asked"=some (some (.ref cX))) (l7:K.lookup cX=some ⟨oc7,od7,.func (fnOf "others_asked" "others_asked" (aR bu) (aw bu) (ae bu) .none kV7 dc7 pm7 an7 cd7 ct7),sl7⟩) (c7:codeIn K cd7 "others_asked"=true) (k7:keepIn K (.ref cX)=true)
  (x8:nsIn K mainGlobals "found_open"=some (some (.ref eO))) (l8:K.lookup eO=some ⟨oc8,od8,.func (fnOf "found_open" "found_open" (aR bX) (aw bX) (ae bX) .none kV8 dc8 pm8 an8 cd8 ct8),sl8⟩) (c8:codeIn K cd8 "found_open"=true) (k8:keepIn K (.ref eO)=true)
  (x9:nsIn K mainGlobals "open_ways"=some (some (.ref ft))) (l9:K.lookup ft=some ⟨oc9,od9,.func (fnOf "open_ways" "open_ways" (aR cH) (aw cH) (ae cH) .none kV9 dc9 pm9 an9 cd9 ct9),sl9⟩) (c9:codeIn K cd9 "open_ways"=true) (k9:keepIn K (.ref ft)=true)
  (x10:nsIn K mainGlobals "rule_turns"=some (some (.ref eL))) (l10:K.lookup eL=some ⟨oc10,od10,.func (fnOf "rule_turns" "rule_turns" (aR bW) (aw bW) (ae bW) .none kV10 dc10 pm10 an10 cd10 ct10),sl10⟩) (c10:codeIn K cd10 "rule_turns"=true) (k10:keepIn K (.ref eL)=true)
  (x11:nsIn K mainGlobals "turns"=some (some (.ref lx))) (l11:K.lookup lx=some ⟨oc11,od11,.func (fnOf "turns" "turns" (aR gN) (aw gN) (ae gN) .none kV11 dc11 pm11 an11 cd11 ct11),sl11⟩) (c11:codeIn K cd11 "turns"=true) (k11:keepIn K (.ref lx)=true)
  (x12:nsIn K mainGlobals "stretches"=some (some (.ref fq))) (l12:K.lookup fq=some ⟨oc12,od12,.func (fnOf "stretches" "stretches" (aR cF) (aw cF) (ae cF) .none kV12 dc12 pm12 an12 cd12 ct12),sl12⟩) (c12:codeIn K cd12 "stretches"=true) (k12:keepIn K (.ref fq)=true)
  (x13:nsIn K mainGlobals "spans_within"=some (some (.ref cW))) (l13:K.lookup cW=some ⟨oc13,od13,.func (fnOf "spans_within" "spans_within" (aR bO) (aw bO) (ae bO) .none kV13 dc13 pm13 an13 cd13 ct13),sl13⟩) (c13:codeIn K cd13 "spans_within"=true) (k13:keepIn K (.ref cW)=true)
  (x14:nsIn K mainGlobals "spans"=some (some (.ref ly))) (l14:K.lookup ly=some ⟨oc14,od14,.func (fnOf "spans" "spans" (aR iD) (aw iD) (ae iD) .none kV14 dc14 pm14 an14 cd14 ct14),sl14⟩) (c14:codeIn K cd14 "spans"=true) (k14:keepIn K (.ref ly)=true)
  (x15:nsIn K mainGlobals "_law_start"=some (some (.ref iV))) (l15:K.lookup iV=some ⟨oc15,od15,.func (fnOf "_law_start" "_law_start" (aR di) (aw di) (ae di) .none kV15 dc15 pm15 an15 cd15 ct15),sl15⟩) (c15:codeIn K cd15 "_law_start"=true) (k15:keepIn K (.ref iV)=true)
  (x16:nsIn K mainGlobals "_law_pick"=some (some (.ref lT))) (l16:K.lookup lT=some ⟨oc16,od16,.func (fnOf "_law_pick" "_law_pick" (aR fU) (aw fU) (ae fU) .none kV16 dc16 pm16 an16 cd16 ct16),sl16⟩) (c16:codeIn K cd16 "_law_pick"=true) (k16:keepIn K (.ref lT)=true)
  (x17:nsIn K mainGlobals "_law_word"=some (some (.ref n8))) (l17:K.lookup n8=some ⟨oc17,od17,.func (fnOf "_law_word" "_law_word" (aR cA) (aw cA) (ae cA) .none kV17 dc17 pm17 an17 cd17 ct17),sl17⟩) (c17:codeIn K cd17 "_law_word"=true) (k17:keepIn K (.ref n8)=true)
  (x18:nsIn K mainGlobals "_law_words"=some (some (.ref lj))) (l18:K.lookup lj=some ⟨oc18,od18,.func (fnOf "_law_words" "_law_words" (aR dh) (aw dh) (ae dh) .none kV18 dc18 pm18 an18 cd18 ct18),sl18⟩) (c18:codeIn K cd18 "_law_words"=true) (k18:keepIn K (.ref lj)=true)
  (x19:nsIn K mainGlobals "_law_hill"=some (some (.ref oh))) (l19:K.lookup oh=some ⟨oc19,od19,.func (fnOf "_law_hill" "_law_hill" (aR dA) (aw dA) (ae dA) .none kV19 dc19 pm19 an19 cd19 ct19),sl19⟩) (c19:codeIn K cd19 "_law_hill"=true) (k19:keepIn K (.ref oh)=true)
  (x20:nsIn K mainGlobals "_law_moment"=some (some (.ref jj))) (l20:K.lookup jj=some ⟨oc20,od20,.func (fnOf "_law_moment" "_law_moment" (aR cL) (aw cL) (ae cL) .none kV20 dc20 pm20 an20 cd20 ct20),sl20⟩) (c20:codeIn K cd20 "_law_moment"=true) (k20:keepIn K (.ref jj)=true)
  (x21:nsIn K mainGlobals "_law_rule"=some (some (.ref oe))) (l21:K.lookup oe=some ⟨oc21,od21,.func (fnOf "_law_rule" "_law_rule" (aR d7) (aw d7) (ae d7) .none kV21 dc21 pm21 an21 cd21 ct21),sl21⟩) (c21:codeIn K cd21 "_law_rule"=true) (k21:keepIn K (.ref oe)=true)
  (x22:nsIn K mainGlobals "_law_number"=some (some (.ref ji))) (l22:K.lookup ji=some ⟨oc22,od22,.func (fnOf "_law_number" "_law_number" (aR bM) (aw bM) (ae bM) .none kV22 dc22 pm22 an22 cd22 ct22),sl22⟩) (c22:codeIn K cd22 "_law_number"=true) (k22:keepIn K (.ref ji)=true)
  (x23:nsIn K mainGlobals "_law_pages"=some (some (.ref lr))) (l23:K.lookup lr=some ⟨oc23,od23,.func (fnOf "_law_pages" "_law_pages" (aR cf) (aw cf) (ae cf) .none kV23 dc23 pm23 an23 cd23 ct23),sl23⟩) (c23:codeIn K cd23 "_law_pages"=true) (k23:keepIn K (.ref lr)=true)
  (x24:nsIn K mainGlobals "_law_book"=some (some (.ref lV))) (l24:K.lookup lV=some ⟨oc24,od24,.func (fnOf "_law_book" "_law_book" (aR dB) (aw dB) (ae dB) .none kV24 dc24 pm24 an24 cd24 ct24),sl24⟩) (c24:codeIn K cd24 "_law_book"=true) (k24:keepIn K (.ref lV)=true)
  (x25:nsIn K mainGlobals "_law_page"=some (some (.ref lU))) (l25:K.lookup lU=some ⟨oc25,od25,.func (fnOf "_law_page" "_law_page" (aR cN) (aw cN) (ae cN) .none kV25 dc25 pm25 an25 cd25 ct25),sl25⟩) (c25:codeIn K cd25 "_law_page"=true) (k25:keepIn K (.ref lU)=true)
  (x26:nsIn K mainGlobals "_law_holds"=some (some (.ref lu))) (l26:K.lookup lu=some ⟨oc26,od26,.func (fnOf "_law_holds" "_law_holds" (aR dq) (aw dq) (ae dq) .none kV26 dc26 pm26 an26 cd26 ct26),sl26⟩) (c26:codeIn K cd26 "_law_holds"=true) (k26:keepIn K (.ref lu)=true)
  (x27:nsIn K mainGlobals "_law_rules"=some (some (.ref ll))) (l27:K.lookup ll=some ⟨oc27,od27,.func (fnOf "_law_rules" "_law_rules" (aR dn) (aw dn) (ae dn) .none kV27 dc27 pm27 an27 cd27 ct27),sl27⟩) (c27:codeIn K cd27 "_law_rules"=true) (k27:keepIn K (.ref ll)=true)
  (x28:nsIn K mainGlobals "_law_open"=some (some (.ref og))) (l28:K.lookup og=some ⟨oc28,od28,.func (fnOf "_law_open" "_law_open" (aR cO) (aw cO) (ae cO) .none kV28 dc28 pm28 an28 cd28 ct28),sl28⟩) (c28:codeIn K cd28 "_law_open"=true) (k28:keepIn K (.ref og)=true)
  (x29:nsIn K mainGlobals "_law_runs"=some (some (.ref n9))) (l29:K.lookup n9=some ⟨oc29,od29,.func (fnOf "_law_runs" "_law_runs" (aR d6) (aw d6) (ae d6) .none kV29 dc29 pm29 an29 cd29 ct29),sl29⟩) (c29:codeIn K cd29 "_law_runs"=true) (k29:keepIn K (.ref n9)=true)
  (x30:nsIn K mainGlobals "_law_right"=some (some (.ref lq))) (l30:K.lookup lq=some ⟨oc30,od30,.func (fnOf "_law_right" "_law_right" (aR cK) (aw cK) (ae cK) .none kV30 dc30 pm30 an30 cd30 ct30),sl30⟩) (c30:codeIn K cd30 "_law_right"=true) (k30:keepIn K (.ref lq)=true)
  (x31:nsIn K mainGlobals "law"=some (some (.ref sN))) (l31:K.lookup sN=some ⟨oc31,od31,.func (fnOf "law" "law" (aR kr) (aw kr) (ae kr) .none kV31 dc31 pm31 an31 cd31 ct31),sl31⟩) (c31:codeIn K cd31 "law"=true) (k31:keepIn K (.ref sN)=true)
  (z0:nsIn K mainGlobals "len"=some none)
  (z1:nsIn K mainGlobals "abs"=some none)
  (z2:nsIn K mainGlobals "all"=some none)
  (z3:nsIn K mainGlobals "range"=some none)
  (z4:nsIn K mainGlobals "int"=some none)
  (z5:nsIn K mainGlobals "tuple"=some none)
  (z6:nsIn K mainGlobals "max"=some none)
  (z7:nsIn K mainGlobals "min"=some none)
  (z8:nsIn K mainGlobals "sorted"=some none)
  (z9:nsIn K mainGlobals "enumerate"=some none)
  (z10:nsIn K mainGlobals "reversed"=some none)
  (z11:nsIn K mainGlobals "repr"=some none)
  {ov24:Value} {oo24:Option Addr} {fv24:Array Value} {os24:Array (Option Value)} (tc24:cd24= .ref dw) (tv24:K.lookup dw=some ⟨ov24,oo24,.fields fv24,os24⟩) (tw24:fv24[11]?=some (Value.ref au)) (tt24:PySem.W.tabIn K "_law_book"=some (dw,au)) (th24:PySem.W.codeHdIn K dw au=true) (tn24:K.lookup au=none) (tr24:((recsOf q).find? fun r=>r.name==("_law_book":Str)).isSome=true)
  {ov25:Value} {oo25:Option Addr} {fv25:Array Value} {os25:Array (Option Value)} (tc25:cd25= .ref dv) (tv25:K.lookup dv=some ⟨ov25,oo25,.fields fv25,os25⟩) (tw25:fv25[11]?=some (Value.ref ar)) (tt25:PySem.W.tabIn K "_law_page"=some (dv,ar)) (th25:PySem.W.codeHdIn K dv ar=true) (tn25:K.lookup ar=none) (tr25:((recsOf q).find? fun r=>r.name==("_law_page":Str)).isSome=true) (tne_law_book_law_page:au≠ar) (tne_law_page_law_book:ar≠au):
  ∃ (fd:FuncData) (ts:List (Str×Addr×Addr)),(∀ e∈ts,PySem.W.tabIn K e.1=some e.2∧K.lookup e.2.2=none∧((recsOf q).find? fun r=>r.name==e.1).isSome=true)∧(∀ (s:Shared) (v:Value),BindsTo s fd ⟨[v],[]⟩ [("_law_script",v)])∧∀ base:Heap,K.In base→base.Ns mainGlobals mg→Dq base mg→bL l.prog w K mg base fS 10 fa fd ["_law_script"] (nC K (ts.map (·.2.2))):=by
 subst tc24
 subst tc25
 have e:=hfa.symm.trans (Mw X G x31)
 cases e
 have F0:=bx (st:=du) l0 c0 k0
 have b0:=F0.binds (ps:=["book","kind","name","t"]) fun _ _ _ _ _ _ us hl=>by obtain⟨_,_,_,_,rfl⟩:=HS hl;rfl
 have F1:=bx (st:=fj) l1 c1 k1
 have b1:=F1.binds (ps:=["book","post","t"]) fun _ _ _ _ _ _ us hl=>by obtain⟨_,_,_,rfl⟩:=zr hl;rfl
 have F2:=bx (st:=d5) l2 c2 k2
 have b2:=F2.binds (ps:=["book","w","t"]) fun _ _ _ _ _ _ us hl=>by obtain⟨_,_,_,rfl⟩:=zr hl;rfl
 have F3:=bx (st:=df) l3 c3 k3
 have b3:=F3.binds (ps:=["book","w","t"]) fun _ _ _ _ _ _ us hl=>by obtain⟨_,_,_,rfl⟩:=zr hl;rfl
 have F4:=bx (st:=cG) l4 c4 k4
 have b4:=F4.binds (ps:=["book","rule","t"]) fun _ _ _ _ _ _ us hl=>by obtain⟨_,_,_,rfl⟩:=zr hl;rfl
 have F5:=bx (st:=cJ) l5 c5 k5
 have b5:=F5.binds (ps:=["book","way","n","t"]) fun _ _ _ _ _ _ us hl=>by obtain⟨_,_,_,_,rfl⟩:=HS hl;rfl
 have F6:=bx (st:=cg) l6 c6 k6
 have b6:=F6.binds (ps:=["book","way","rule","t"]) fun _ _ _ _ _ _ us hl=>by obtain⟨_,_,_,_,rfl⟩:=HS hl;rfl
 have F7:=bx (st:=bu) l7 c7 k7
 have b7:=F7.binds (ps:=["book","way","t"]) fun _ _ _ _ _ _ us hl=>by obtain⟨_,_,_,rfl⟩:=zr hl;rfl
 have F8:=bx (st:=bX) l8 c8 k8
 have b8:=F8.binds (ps:=["asked"]) fun _ _ _ _ _ _ us hl=>by obtain⟨_,rfl⟩:=JX hl;rfl
 have F9:=bx (st:=cH) l9 c9 k9
 have b9:=F9.binds (ps:=["hill","book","t"]) fun _ _ _ _ _ _ us hl=>by obtain⟨_,_,_,rfl⟩:=zr hl;rfl
 have F10:=bx (st:=bW) l10 c10 k10
 have b10:=F10.binds (ps:=["book","w","rule"]) fun _ _ _ _ _ _ us hl=>by obtain⟨_,_,_,rfl⟩:=zr hl;rfl
 have F11:=bx (st:=gN) l11 c11 k11
 have b11:=F11.binds (ps:=["hill","book"]) fun _ _ _ _ _ _ us hl=>by obtain⟨_,_,rfl⟩:=Fo hl;rfl
 have F12:=bx (st:=cF) l12 c12 k12
 have b12:=F12.binds (ps:=["hill","book"]) fun _ _ _ _ _ _ us hl=>by obtain⟨_,_,rfl⟩:=Fo hl;rfl
 have F13:=bx (st:=bO) l13 c13 k13
 have b13:=F13.binds (ps:=["parts","w","dark"]) fun _ _ _ _ _ _ us hl=>by obtain⟨_,_,_,rfl⟩:=zr hl;rfl
 have F14:=bx (st:=iD) l14 c14 k14
 have b14:=F14.binds (ps:=["hill","book","w"]) fun _ _ _ _ _ _ us hl=>by obtain⟨_,_,_,rfl⟩:=zr hl;rfl
 have F15:=bx (st:=di) l15 c15 k15
 have b15:=F15.binds (ps:=["_law_script"]) fun _ _ _ _ _ _ us hl=>by obtain⟨_,rfl⟩:=JX hl;rfl
 have F16:=bx (st:=fU) l16 c16 k16
 have b16:=F16.binds (ps:=["_law_state","_law_many"]) fun _ _ _ _ _ _ us hl=>by obtain⟨_,_,rfl⟩:=Fo hl;rfl
 have F17:=bx (st:=cA) l17 c17 k17
 have b17:=F17.binds (ps:=["_law_state","_law_taken"]) fun _ _ _ _ _ _ us hl=>by obtain⟨_,_,rfl⟩:=Fo hl;rfl
 have F18:=bx (st:=dh) l18 c18 k18
 have b18:=F18.binds (ps:=["_law_state","_law_many"]) fun _ _ _ _ _ _ us hl=>by obtain⟨_,_,rfl⟩:=Fo hl;rfl
 have F19:=bx (st:=dA) l19 c19 k19
 have b19:=F19.binds (ps:=["_law_state","_law_most","_law_scale"]) fun _ _ _ _ _ _ us hl=>by obtain⟨_,_,_,rfl⟩:=zr hl;rfl
 have F20:=bx (st:=cL) l20 c20 k20
 have b20:=F20.binds (ps:=["_law_state","_law_hill_here","_law_scale"]) fun _ _ _ _ _ _ us hl=>by obtain⟨_,_,_,rfl⟩:=zr hl;rfl
 have F21:=bx (st:=d7) l21 c21 k21
 have b21:=F21.binds (ps:=["_law_state","_law_hill_here","_law_posts","_law_scale"]) fun _ _ _ _ _ _ us hl=>by obtain⟨_,_,_,_,rfl⟩:=HS hl;rfl
 have F22:=bx (st:=bM) l22 c22 k22
 have b22:=F22.binds (ps:=["_law_state","_law_taken"]) fun _ _ _ _ _ _ us hl=>by obtain⟨_,_,rfl⟩:=Fo hl;rfl
 have F23:=bx (st:=cf) l23 c23 k23
 have b23:=F23.binds (ps:=["_law_state","_law_hill_here","_law_scale","_law_many"]) fun _ _ _ _ _ _ us hl=>by obtain⟨_,_,_,_,rfl⟩:=HS hl;rfl
 have F24:=bx (st:=dB) l24 c24 k24
 have b24:=F24.binds (ps:=["_law_pages_here"]) fun _ _ _ _ _ _ us hl=>by obtain⟨_,rfl⟩:=JX hl;rfl
 have F25:=bx (st:=cN) l25 c25 k25
 have b25:=F25.binds (ps:=["_law_pages_here","_law_kind","_law_name","_law_t"]) fun _ _ _ _ _ _ us hl=>by obtain⟨_,_,_,_,rfl⟩:=HS hl;rfl
 have F26:=bx (st:=dq) l26 c26 k26
 have b26:=F26.binds (ps:=["_law_pages_here","_law_name","_law_rule_here","_law_t","_law_opened"]) fun _ _ _ _ _ _ us hl=>by obtain⟨_,_,_,_,_,rfl⟩:=Lu hl;rfl
 have F27:=bx (st:=dn) l27 c27 k27
 have b27:=F27.binds (ps:=["_law_pages_here","_law_name","_law_t"]) fun _ _ _ _ _ _ us hl=>by obtain⟨_,_,_,rfl⟩:=zr hl;rfl
 have F28:=bx (st:=cO) l28 c28 k28
 have b28:=F28.binds (ps:=["_law_hill_here","_law_pages_here","_law_t"]) fun _ _ _ _ _ _ us hl=>by obtain⟨_,_,_,rfl⟩:=zr hl;rfl
 have F29:=bx (st:=d6) l29 c29 k29
 have b29:=F29.binds (ps:=["_law_table","_law_w"]) fun _ _ _ _ _ _ us hl=>by obtain⟨_,_,rfl⟩:=Fo hl;rfl
 have F30:=bx (st:=cK) l30 c30 k30
 have b30:=F30.binds (ps:=["_law_hill_here","_law_pages_here"]) fun _ _ _ _ _ _ us hl=>by obtain⟨_,_,rfl⟩:=Fo hl;rfl
 have F31:=bx (st:=kr) l31 c31 k31
 have b31:=F31.binds (ps:=["_law_script"]) fun _ _ _ _ _ _ us hl=>by obtain⟨_,rfl⟩:=JX hl;rfl
 have T:Txt K mg ⟨_,_,_,_,_,_,_,_,_,_,_,_,_,_,_,_,_,_,_,_,_,_,_,_,_,_,_,_,_,_,_,_,dw,au,dv,ar⟩ ⟨_,_,_,_,_,_,_,_,_,_,_,_,_,_,_,_,_,_,_,_,_,_,_,_,_,_,_,_,_,_,_,_⟩:=⟨⟨F0,Mw X G x0,b0⟩,⟨F1,Mw X G x1,b1⟩,⟨F2,Mw X G x2,b2⟩,⟨F3,Mw X G x3,b3⟩,⟨F4,Mw X G x4,b4⟩,⟨F5,Mw X G x5,b5⟩,⟨F6,Mw X G x6,b6⟩,⟨F7,Mw X G x7,b7⟩,⟨F8,Mw X G x8,b8⟩,⟨F9,Mw X G x9,b9⟩,⟨F10,Mw X G x10,b10⟩,⟨F11,Mw X G x11,b11⟩,⟨F12,Mw X G x12,b12⟩,⟨F13,Mw X G x13,b13⟩,⟨F14,Mw X G x14,b14⟩,⟨F15,Mw X G x15,b15⟩,⟨F16,Mw X G x16,b16⟩,⟨F17,Mw X G x17,b17⟩,⟨F18,Mw X G x18,b18⟩,⟨F19,Mw X G x19,b19⟩,⟨F20,Mw X G x20,b20⟩,⟨F21,Mw X G x21,b21⟩,⟨F22,Mw X G x22,b22⟩,⟨F23,Mw X G x23,b23⟩,⟨F24,Mw X G x24,b24⟩,⟨F25,Mw X G x25,b25⟩,⟨F26,Mw X G x26,b26⟩,⟨F27,Mw X G x27,b27⟩,⟨F28,Mw X G x28,b28⟩,⟨F29,Mw X G x29,b29⟩,⟨F30,Mw X G x30,b30⟩,⟨F31,Mw X G x31,b31⟩,Mv X G z0,Mv X G z1,Mv X G z2,Mv X G z3,Mv X G z4,Mv X G z5,Mv X G z6,Mv X G z7,Mv X G z8,Mv X G z9,Mv X G z10,Mv X G z11,⟨⟨_,_,_,_,_,_,_,_,rfl,l24,c24⟩,th24⟩,⟨⟨_,_,_,_,_,_,_,_,rfl,l25,c25⟩,th25⟩,tne_law_book_law_page,tne_law_page_law_book⟩
 refine⟨fnOf "law" "law" (aR kr) (aw kr) (ae kr) .none kV31 dc31 pm31 an31 cd31 ct31,[("_law_book",dw,au),("_law_page",dv,ar)],?_,fun s v=>.of_eq rfl,fun base kb _ hB=>?_⟩
 ·intro e he
  simp only[LU,LV,or_false] at he
  rcases he with rfl|rfl
  ·exact⟨tt24,tn24,tr24⟩
  ·exact⟨tt25,tn25,tr25⟩
 show bL _ _ _ _ _ _ _ _ _ _ (nC K [au,ar])
 have G_law_pick:=Au (φ:=fe au ar K) (Ej (P:=l.prog) (w:=w) (base:=base) T)
 have G_law_start:=B7 (P:=l.prog) (w:=w) (base:=base) T
 exact GY T G_law_pick kb hB G_law_start Cn
theorem walk {l:PySem.W.OpenLaw} {q:Program} {loose:List Str} {XP:(Str→Option Value)→Heap→Prop} {YP:World→Heap→Prop} {d:DefRec} {K:Params→Frag} (hn:l.most=some 63) (hdf:d.params.defaults=[])
  (hY: ∀ (w:World) (h:Heap),YP w h→(K w.params).In h)
  (F: ∀ (w:World) (mg:Str→Option Value) (fa:Addr) (h:Heap),(K w.params).In h→h.Ns mainGlobals mg→mg d.name=some (.ref fa)→
   ∃ (fd:FuncData) (ts:List (Str×Addr×Addr)),(∀ e∈ts,PySem.W.tabIn (K w.params) e.1=some e.2∧(K w.params).lookup e.2.2=none∧((recsOf q).find? fun r=>r.name==e.1).isSome=true)∧(∀ (s:Shared) (u:Value),BindsTo s fd ⟨[u],[]⟩ [("_law_script",u)])∧
    ∀ base:Heap,(K w.params).In base→base.Ns mainGlobals mg→Dq base mg→bL l.prog w (K w.params) mg base fS 10 fa fd ["_law_script"] (nC (K w.params) (ts.map (·.2.2)))):
  PySem.W.WalkO q loose XP YP l.row.toRowW d [] (fun f vs=>PySem.call f vs):=
 L2.zq (n:=63) (k:=10) (x:="_law_script") (CX:=fun _=>fS) (sp:=fun w tbs=>nC (K w.params) tbs) hn (by decide) hdf ⟨rfl,by decide,by decide,rfl⟩ hY F (fun _ _ a ns tbs hl ht hS=>⟨a,ns,rfl,hS,hl,ht,fun _=>rfl⟩) fun _ _ _ _ _ z=>z
end K13
end
def PySem.W.Fast.tw14480881290488291638:=0
open PySem PySem.W PyProof.Rows
set_option maxRecDepth 100000 in
set_option maxHeartbeats 0 in
theorem PySem.Challenge.cw_homeslopes_k13_spans_moment_by_moment_holds : PySem.Challenge.rw_homeslopes_k13_spans_moment_by_moment.Holds := by
 w_on;o_law;k_head;(case hw=>w_witness2)
 k_fill
 refine K13.walk (l:=PySem.Challenge.rw_homeslopes_k13_spans_moment_by_moment) rfl rfl (fun w h Y=>PySem.W.km_in_of Y) ?F
 case F=>
  intro w mg fa h KX G hmg
  refine' K13.all_mk KX G hmg ?x0 ?l0 ?c0 ?k0 ?x1 ?l1 ?c1 ?k1 ?x2 ?l2 ?c2 ?k2 ?x3 ?l3 ?c3 ?k3 ?x4 ?l4 ?c4 ?k4 ?x5 ?l5 ?c5 ?k5 ?x6 ?l6 ?c6 ?k6 ?x7 ?l7 ?c7 ?k7 ?x8 ?l8 ?c8 ?k8 ?x9 ?l9 ?c9 ?k9 ?x10 ?l10 ?c10 ?k10 ?x11 ?l11 ?c11 ?k11 ?x12 ?l12 ?c12 ?k12 ?x13 ?l13 ?c13 ?k13 ?x14 ?l14 ?c14 ?k14 ?x15 ?l15 ?c15 ?k15 ?x16 ?l16 ?c16 ?k16 ?x17 ?l17 ?c17 ?k17 ?x18 ?l18 ?c18 ?k18 ?x19 ?l19 ?c19 ?k19 ?x20 ?l20 ?c20 ?k20 ?x21 ?l21 ?c21 ?k21 ?x22 ?l22 ?c22 ?k22 ?x23 ?l23 ?c23 ?k23 ?x24 ?l24 ?c24 ?k24 ?x25 ?l25 ?c25 ?k25 ?x26 ?l26 ?c26 ?k26 ?x27 ?l27 ?c27 ?k27 ?x28 ?l28 ?c28 ?k28 ?x29 ?l29 ?c29 ?k29 ?x30 ?l30 ?c30 ?k30 ?x31 ?l31 ?c31 ?k31 ?z0 ?z1 ?z2 ?z3 ?z4 ?z5 ?z6 ?z7 ?z8 ?z9 ?z10 ?z11 ?tc24 ?tv24 ?tw24 ?tt24 ?th24 ?tn24 ?tr24 ?tc25 ?tv25 ?tw25 ?tt25 ?th25 ?tn25 ?tr25 ?tne_law_book_law_page ?tne_law_page_law_book
  (case x0=>k_is);(case l0=>k_is);(case c0=>k_is);(case k0=>k_is)
  (case x1=>k_is);(case l1=>k_is);(case c1=>k_is);(case k1=>k_is)
  (case x2=>k_is);(case l2=>k_is);(case c2=>k_is);(case k2=>k_is)
  (case x3=>k_is);(case l3=>k_is);(case c3=>k_is);(case k3=>k_is)
  (case x4=>k_is);(case l4=>k_is);(case c4=>k_is);(case k4=>k_is)
  (case x5=>k_is);(case l5=>k_is);(case c5=>k_is);(case k5=>k_is)
  (case x6=>k_is);(case l6=>k_is);(case c6=>k_is);(case k6=>k_is)
  (case x7=>k_is);(case l7=>k_is);(case c7=>k_is);(case k7=>k_is)
  (case x8=>k_is);(case l8=>k_is);(case c8=>k_is);(case k8=>k_is)
  (case x9=>k_is);(case l9=>k_is);(case c9=>k_is);(case k9=>k_is)
  (case x10=>k_is);(case l10=>k_is);(case c10=>k_is);(case k10=>k_is)
  (case x11=>k_is);(case l11=>k_is);(case c11=>k_is);(case k11=>k_is)
  (case x12=>k_is);(case l12=>k_is);(case c12=>k_is);(case k12=>k_is)
  (case x13=>k_is);(case l13=>k_is);(case c13=>k_is);(case k13=>k_is)
  (case x14=>k_is);(case l14=>k_is);(case c14=>k_is);(case k14=>k_is)
  (case x15=>k_is);(case l15=>k_is);(case c15=>k_is);(case k15=>k_is)
  (case x16=>k_is);(case l16=>k_is);(case c16=>k_is);(case k16=>k_is)
  (case x17=>k_is);(case l17=>k_is);(case c17=>k_is);(case k17=>k_is)
  (case x18=>k_is);(case l18=>k_is);(case c18=>k_is);(case k18=>k_is)
  (case x19=>k_is);(case l19=>k_is);(case c19=>k_is);(case k19=>k_is)
  (case x20=>k_is);(case l20=>k_is);(case c20=>k_is);(case k20=>k_is)
  (case x21=>k_is);(case l21=>k_is);(case c21=>k_is);(case k21=>k_is)
  (case x22=>k_is);(case l22=>k_is);(case c22=>k_is);(case k22=>k_is)
  (case x23=>k_is);(case l23=>k_is);(case c23=>k_is);(case k23=>k_is)
  (case x24=>k_is);(case l24=>k_is);(case c24=>k_is);(case k24=>k_is)
  (case x25=>k_is);(case l25=>k_is);(case c25=>k_is);(case k25=>k_is)
  (case x26=>k_is);(case l26=>k_is);(case c26=>k_is);(case k26=>k_is)
  (case x27=>k_is);(case l27=>k_is);(case c27=>k_is);(case k27=>k_is)
  (case x28=>k_is);(case l28=>k_is);(case c28=>k_is);(case k28=>k_is)
  (case x29=>k_is);(case l29=>k_is);(case c29=>k_is);(case k29=>k_is)
  (case x30=>k_is);(case l30=>k_is);(case c30=>k_is);(case k30=>k_is)
  (case x31=>k_is);(case l31=>k_is);(case c31=>k_is);(case k31=>k_is)
  (case z0=>k_is)
  (case z1=>k_is)
  (case z2=>k_is)
  (case z3=>k_is)
  (case z4=>k_is)
  (case z5=>k_is)
  (case z6=>k_is)
  (case z7=>k_is)
  (case z8=>k_is)
  (case z9=>k_is)
  (case z10=>k_is)
  (case z11=>k_is)
  (case tc24=>rfl);(case tv24=>k_is);(case tw24=>rfl);(case tt24=>kernel_rfl);(case th24=>kernel_rfl);(case tn24=>kernel_rfl);(case tr24=>rfl)
  (case tc25=>rfl);(case tv25=>k_is);(case tw25=>rfl);(case tt25=>kernel_rfl);(case th25=>kernel_rfl);(case tn25=>kernel_rfl);(case tr25=>rfl)
  (case tne_law_book_law_page=>decide)
  (case tne_law_page_law_book=>decide)
