import PyProof.Rows.All
import PyProof.StrLawsIdx
import Wide.All
import OpenK.AllK
import Wide.FinOn
import Lean
import PyProof.EqAt
import PyProof.EqKinds
import PyProof.TupleCall
import PyProof.NeKinds
import PySem.Challenge.RW_homeslopes_k80_whole_open_at_every_momen
set_option Elab.async false
set_option linter.all false
set_option maxRecDepth 100000
set_option maxHeartbeats 4000000
set_option genSizeOf false
set_option genInjectivity false
noncomputable section
open PySem PySem.Spec PyProof.Rows
open PySem.W (Frag nsIn keepIn codeIn fnOf)
abbrev Py:=@List.getElem?_eq_getElem
abbrev Pz:=@wpAny_bind
abbrev PB:=@List.mem_cons_self
abbrev PD:=@List.length_map
abbrev PF:=@Heap.get?_push_of_some
abbrev PH:=@List.mem_cons_of_mem
abbrev PJ:=@wpAny_pure
abbrev PK:=@List.size_toArray
abbrev PL:=@List.getElem?_eq_some_iff
abbrev PM:=@Nat.le_refl
abbrev PN:=@List.set_cons_zero
abbrev PQ:=@List.map_cons
abbrev PR:=@List.mem_cons
abbrev PU:=@List.not_mem_nil
abbrev PX:=@List.mem_map
abbrev PY:=@List.length_cons
abbrev PZ:=@Heap.get?_push_size
abbrev P0:=@List.getElem?_cons_succ
abbrev P1:=@List.getElem?_cons_zero
abbrev P2:=@Heap.lt_size
abbrev P4:=@List.getD_eq_getElem?_getD
abbrev P5:=@List.mem_append_right
abbrev P6:=@List.getElem?_map
abbrev P7:=@Nat.le_trans
abbrev P8:=@Array.getD_eq_getD_getElem?
abbrev P9:=@Nat.lt_of_lt_of_le
abbrev Qa:=@Option.map_eq_some_iff
abbrev Qb:=@decide_eq_false
abbrev Qc:=@List.length_append
abbrev Qd:=@Array.getElem?_eq_getElem
abbrev Qe:=@Nat.zero_le
abbrev Qf:=@List.mem_singleton
abbrev Qg:=@Nat.ne_of_lt
abbrev Qh:=@List.mem_map_of_mem
abbrev Qi:=@List.getElem?_set_ne
abbrev Qj:=@Array.length_toList
abbrev Qk:=@Bool.and_eq_true
abbrev Ql:=@List.eq_nil_of_length_eq_zero
abbrev Qm:=@sizeLine_eq
abbrev Qn:=@List.getElem?_append_left
abbrev Qo:=@List.set_cons_succ
abbrev Qp:=@Bool.false_eq_true
abbrev Qq:=@List.getElem_mem
abbrev Qr:=@PySem.W.mg_none_of
abbrev Qs:=@PySem.W.mg_of
abbrev Qt:=@List.mem_filter
abbrev Qu:=@List.mem_append
abbrev Qv:=@if_pos
abbrev Qw:=@if_neg
abbrev Qx:=@List.getElem?_set_self
abbrev Qy:=@List.pairwise_cons
abbrev Qz:=@Option.some.inj
section
namespace L2
open PySem PySem.Spec PyProof.Rows
abbrev Key:=Sum Int Str
def lI:Key->Value->Bool
 | .inl k,v=>Value.isInt k v
 | .inr x,v=>Value.isStrOf x v
def OL (w:World):Key->Int
 | .inl k=>hashInt k
 | .inr x=>hashStr w x
theorem bw: ∀ {k:Key} {v:Value},lI k v=true->(∃ i t,k=Sum.inl i/\v=Value.int i t)\/(∃ x t,k=Sum.inr x/\v=Value.str x t)
 | .inl i,v,h=>by
  obtain⟨t,e⟩:=Value.isInt_shape (k:=i) (v:=v) h
  exact .inl ⟨i,t,rfl,e⟩
 | .inr x,v,h=>by
  obtain⟨t,e⟩:=Value.isStrOf_shape (x:=x) (v:=v) h
  exact .inr ⟨x,t,rfl,e⟩
def rQ (i:Int) (t:Tok):lI (.inl i) (.int i t)=true:=by simp[lI,Value.isInt]
def rP (x:Str) (t:Tok):lI (.inr x) (.str x t)=true:=by simp[lI,Value.isStrOf]
def KI (a b:Int):decide ((Sum.inl a:Key)=Sum.inl b)=(a==b):=by
 by_cases e:a=b
 ·subst e;simp
 ·have h: ¬ (Sum.inl a:Key)=Sum.inl b:=λq=>e (Sum.inl.inj q)
  rw[Qb h]
  exact(beq_eq_false_iff_ne.mpr e).symm
def D1 (a b:Str):decide ((Sum.inr a:Key)=Sum.inr b)=decide (a=b):=by
 by_cases e:a=b
 ·subst e;simp
 ·have h: ¬ (Sum.inr a:Key)=Sum.inr b:=λq=>e (Sum.inr.inj q)
  rw[Qb h,Qb e]
def KH (a:Int) (b:Str):decide ((Sum.inl a:Key)=Sum.inr b)=false:=Qb (λq=>nomatch q)
def KD (a:Str) (b:Int):decide ((Sum.inr a:Key)=Sum.inl b)=false:=Qb (λq=>nomatch q)
noncomputable def aY (prog:Program) (w:World):PySem.KeyKind prog w Key where
 is:=lI
 hash:=OL w
 inj:=λv a b ha hb=>by
  rcases bw ha with⟨i,t,rfl,rfl⟩|⟨x,t,rfl,rfl⟩
  ·rcases bw hb with⟨j,u,rfl,e⟩|⟨y,u,rfl,e⟩
   ·injection e with e1 _;rw[e1]
   ·exact nomatch e
  ·rcases bw hb with⟨j,u,rfl,e⟩|⟨y,u,rfl,e⟩
   ·exact nomatch e
   ·injection e with e1 _;rw[e1]
 byValue:=λk v h=>by
  rcases bw h with⟨i,t,rfl,rfl⟩|⟨x,t,rfl,rfl⟩<;>rfl
 pyHash:=λhv h=>by
  rcases bw hv with⟨i,t,rfl,rfl⟩|⟨x,t,rfl,rfl⟩
  ·exact wpAny_pyHash_int h
  ·exact wpAny_pyHash_str h
 eqBool:=λhu hv h=>by
  rcases bw hu with⟨i,t,rfl,rfl⟩|⟨x,t,rfl,rfl⟩
  ·rcases bw hv with⟨j,u,rfl,rfl⟩|⟨y,u,rfl,rfl⟩
   ·rw[KI] at h;exact wpAny_eqBool_int h
   ·rw[KH] at h;exact SeqAt.EqAt.int_str i t y u _ _ _ _ h
  ·rcases bw hv with⟨j,u,rfl,rfl⟩|⟨y,u,rfl,rfl⟩
   ·rw[KD] at h;exact SeqAt.EqAt.str_int x t j u _ _ _ _ h
   ·rw[D1] at h;exact wpAny_eqBool_str h
 «strs»:=λk x t v h=>by
  rcases bw h with⟨i,u,rfl,e⟩|⟨y,u,rfl,e⟩
  ·exact nomatch e
  ·injection e with e1 _
   subst e1
   cases v<;>rfl
def yo (prog:Program) (w:World) (k:Key) (v:Value):(aY prog w).is k v=lI k v:=rfl
def vU (prog:Program) (w:World) (i:Int) (t:Tok):(aY prog w).is (.inl i) (.int i t)=true:=rQ i t
def vT (prog:Program) (w:World) (x:Str) (t:Tok):(aY prog w).is (.inr x) (.str x t)=true:=rP x t
end L2
namespace L2
open PySem PySem.Spec PyProof.Rows
set_option genInjectivity true in
inductive V where
 |aD|bl (b:Bool)|int (i:Int)|str (x:Str)|Nn (b:Array UInt8)|OU (b:UInt64)|ref (a:Addr)|ty (n:String)
 deriving DecidableEq
noncomputable def RelV:V->Value->Prop
 | .aD,u=>u=Value.none
 | .bl b,u=>u=Value.bool b
 | .int i,u=> ∃ t,u=Value.int i t
 | .str x,u=> ∃ t,u=Value.str x t
 | .Nn b,u=> ∃ t,u=Value.bytes b t
 | .OU b,u=> ∃ t,u=Value.float b t
 | .ref a,u=>u=Value.ref a
 | .ty n,u=>u=Value.type n
abbrev Vals:List V->List Value->Prop:=Paired RelV
theorem Vals.length (r:Vals xs us):xs.length=us.length:=Paired.length r
theorem Vals.get: ∀ {xs:List V} {us:List Value} {i:Nat} {x:V},Vals xs us->xs[i]?=some x->∃ u,us[i]?=some u/\RelV x u
 |_,_,_,_,.nil,e=>by simp at e
 |_,_,0,_,.cons r _,e=>by simp at e;subst e;exact⟨_,rfl,r⟩
 |_,_,i+1,x,.cons _ t,e=>by
  obtain⟨u,h1,h2⟩:=Vals.get (i:=i) (x:=x) t (by simpa using e)
  exact⟨u,by simpa using h1,h2⟩
theorem Vals.set (r:RelV x u): ∀ {xs:List V} {us:List Value} (i:Nat),Vals xs us->Vals (xs.set i x) (us.set i u)
 |_,_,_,.nil=>.nil
 |_,_,0,.cons _ t=>.cons r t
 |_,_,i+1,.cons q t=>.cons q (Vals.set r i t)
theorem Vals.append: ∀ {xs ys:List V} {us ws:List Value},Vals xs us->Vals ys ws->Vals (xs++ys) (us++ws)
 |_,_,_,_,.nil,s=>s
 |_,_,_,_,.cons r t,s=>.cons r (Vals.append t s)
theorem Vals.take: ∀ {xs:List V} {us:List Value} (n:Nat),Vals xs us->Vals (xs.take n) (us.take n)
 |_,_,0,_=>.nil
 |_,_,_+1,.nil=>.nil
 |_,_,n+1,.cons r t=>.cons r (Vals.take n t)
theorem Vals.drop: ∀ {xs:List V} {us:List Value} (n:Nat),Vals xs us->Vals (xs.drop n) (us.drop n)
 |_,_,0,r=>r
 |_,_,_+1,.nil=>.nil
 |_,_,n+1,.cons _ t=>Vals.drop n t
def qT:Option V->Option Value->Prop
 |some v,some u=>RelV v u
 |none,none=>True
 |_,_=>False
def KV {κ:Type}:List (κ×V)->List (κ×Value)->Prop:=Paired λ(p:κ×V) (q:κ×Value)=>p.1=q.1/\RelV p.2 q.2
def kV:Key->V
 | .inl i=>.int i
 | .inr x=>.str x
inductive HO where
  |lst (xs:List V)
  |tup (xs:List V)
  |dK (kvs:List (Key×V))|dT (kvs:List (List Key×V))
  |set (S:Int->Bool) (n:Nat)
  |ins (C dx:Addr) (fs:List (Str×V))
  |own (x:Addr)
  |xd (fs:List (Str×V))
  |met (f x:Addr)
  |xt (lo hi:Int)
  |fc (o:Obj) (u:HO)
  |nE (ps:Array Value)
  |ext (φ:Heap->Prop)
abbrev Hp:=Addr->Option HO
def upd (H:Hp) (a:Addr) (o:HO):Hp:=λb=>if b=a then some o else H b
def av:upd H a o a=some o:=by unfold upd;rw[Qv rfl]
def ag (h:b≠a):upd H a o b=H b:=by unfold upd;rw[Qw h]
def FG:upd (upd H a o) a u=upd H a u:=by
 funext b;unfold upd;split<;>rfl
def DL {H:Hp} (h:H a=some o) (h':H b=some u) (d:o≠u):a≠b:=by
 intro e;subst e;rw[h] at h';exact d (Qz h')
def aG {H:Hp} (h:H a=some o) (h':H b=none):a≠b:=by
 intro e;subst e;rw[h] at h';cases h'
section
variable (P:Program) (w:World)
noncomputable def cg (H:Hp) (h:Heap) (a:Addr):HO->Prop
 | .lst xs=>xs.length<=sizeLine/\∃ (aC:List Value) (n:Nat),Vals xs aC/\h.get? a=some {cls:=.type "list",data:=.seq aC.toArray n}
 | .tup xs=>xs.length<=sizeLine/\∃ aC:List Value,Vals xs aC/\IsTup h a aC.toArray
 | .dK kvs=>kvs.length<=sizeLine/\(a==sysModules)=false/\∃ vs,KV kvs vs/\h.DictOf (aY P w) a vs
 | .dT kvs=>kvs.length<=sizeLine/\(a==sysModules)=false/\∃ xs:List (List Key×Addr×Value),
   Paired (λ(p:List Key×V) (q:List Key×Addr×Value)=>p.1=q.1/\H q.2.1=some (.tup (p.1.map kV))/\RelV p.2 q.2.2) kvs xs/\
   ∃ o es ep,h.get? a=some o/\o.ExactDict/\o.data= .dict es ep/\es.toList=xs.map (entryOfKey (tupleKind (aY P w)))/\(xs.map (·.1)).Nodup
 | .set S n=>h.SetOf (intKind P w) a S n
 | .ins C dx fs=>H dx=some (.own a)/\fs.length<=1000/\dx≠a/\h.get? a=some (PySem.W.instObj C dx)/\
   ∃ mA,h.Ns1 dx mA/\(∀ f,qT (fs.lookup f) (mA f))/\PySem.Within mA (fs.map (·.1))
 | .own _=> ∃ o,h.get? a=some o
 | .xd fs=> ∃ mA,h.Ns1 a mA/\∀ f,qT (fs.lookup f) (mA f)
 | .xt lo hi=> ∃ t u v,h.get? a=some {cls:=.type "range",data:=.fields #[.int lo t,.int hi u,.int 1 v]}
 | .fc o u=>h.get? a=some o/\cg H h a u
 | .nE ps=>h.get? a=some {cls:=.none,data:=.fields ps}
 | .met f x=>h.get? a=some (PySem.W.methodObj (.ref f) (.ref x))
 | .ext φ=>φ h/\(∃ o,h.get? a=some o)/\∀ h1 h2:Heap,φ h1->(∀ o,h1.get? a=some o->h2.get? a=some o)->φ h2
def jU (H:Hp) (h:Heap):Prop:= ∀ a o,H a=some o->cg P w H h a o
end
section
variable {P:Program} {w:World} {H H':Hp} {h h':Heap} {a:Addr} {o:HO}
theorem cg.lt (x:cg P w H h a o):a < h.objs.size:=by
 cases o with
 |lst xs=>obtain⟨_,_,_,_,e⟩:=x;exact P2 e
 |tup xs=>obtain⟨_,_,_,p⟩:=x;exact p.lt
 |dK kvs=>obtain⟨_,_,_,_,o,_,_,e,_⟩:=x;exact P2 e
 |dT kvs=>obtain⟨_,_,_,_,o,_,_,e,_⟩:=x;exact P2 e
 |set S n=>obtain⟨o,_,_,_,e,_⟩:=x;exact P2 e
 |ins C dx fs=>obtain⟨_,_,_,e,_⟩:=x;exact P2 e
 |own y=>obtain⟨_,e⟩:=x;exact P2 e
 |xd fs=>obtain⟨_,⟨_,_,_,e,_⟩,_⟩:=x;exact P2 e
 |xt lo hi=>obtain⟨_,_,_,e⟩:=x;exact P2 e
 |fc ob u=>obtain⟨e,_⟩:=x;exact P2 e
 |nE ps=>exact P2 (show h.get? a=some _ from x)
 |met f y=>exact P2 (show h.get? a=some _ from x)
 |ext φ=>obtain⟨_,⟨_,e⟩,_⟩:=x;exact P2 e
theorem Paired.Kx: ∀ {l₁:List α} {l₂:List β},Paired F l₁ l₂->(∀ a b,F a b->G a b)->Paired G l₁ l₂
 |_,_,.nil,_=>.nil
 |_,_,.cons r t,f=>.cons (f _ _ r) (Paired.Kx t f)
def cg.oM (x:cg P w H h a o) (k: ∀ b u,(b=a\/H b=some (.own a))->h.get? b=some u->h'.get? b=some u)
  (ho: ∀ b,H b=some (.own a)->H' b=some (.own a)) (ht: ∀ b xs,H b=some (.tup xs)->H' b=some (.tup xs)):cg P w H' h' a o:=by
 induction o with
 |lst xs=>obtain⟨z,aC,n,r,e⟩:=x;exact⟨z,aC,n,r,k _ _ (.inl rfl) e⟩
 |tup xs=>obtain⟨z,aC,r,ob,e,c⟩:=x;exact⟨z,aC,r,ob,k _ _ (.inl rfl) e,c⟩
 |dK kvs=>obtain⟨z,y,vs,r,ob,es,ep,e,c⟩:=x;exact⟨z,y,vs,r,ob,es,ep,k _ _ (.inl rfl) e,c⟩
 |dT kvs=>
  obtain⟨z,y,xs,r,ob,es,ep,e,c⟩:=x
  exact⟨z,y,xs,Paired.Kx r λp q z=>⟨z.1,ht _ _ z.2.1,z.2.2⟩,ob,es,ep,k _ _ (.inl rfl) e,c⟩
 |set S n=>obtain⟨ob,es,ep,t,e,c⟩:=x;exact⟨ob,es,ep,t,k _ _ (.inl rfl) e,c⟩
 |ins C dx fs=>
  obtain⟨d,z,ne,e,mA,⟨od,es,ep,e2,c⟩,r⟩:=x
  exact⟨ho _ d,z,ne,k _ _ (.inl rfl) e,mA,⟨od,es,ep,k _ _ (.inr d) e2,c⟩,r⟩
 |own y=>obtain⟨ob,e⟩:=x;exact⟨ob,k _ _ (.inl rfl) e⟩
 |xd fs=>obtain⟨mA,⟨od,es,ep,e,c⟩,r⟩:=x;exact⟨mA,⟨od,es,ep,k _ _ (.inl rfl) e,c⟩,r⟩
 |xt lo hi=>obtain⟨t,u,v,e⟩:=x;exact⟨t,u,v,k _ _ (.inl rfl) e⟩
 |fc ob u ih=>obtain⟨e,q⟩:=x;exact⟨k _ _ (.inl rfl) e,ih q⟩
 |nE ps=>
  have e:h.get? a=some {cls:=.none,data:=.fields ps}:=x
  show h'.get? a=some {cls:=.none,data:=.fields ps}
  exact k a _ (.inl rfl) e
 |met f y=>
  have e:h.get? a=some (PySem.W.methodObj (.ref f) (.ref y)):=x
  show h'.get? a=some (PySem.W.methodObj (.ref f) (.ref y))
  exact k a _ (.inl rfl) e
 |ext φ=>obtain⟨p,⟨o,e⟩,st⟩:=x;exact⟨st _ _ p λo q=>k _ _ (.inl rfl) q,⟨o,k _ _ (.inl rfl) e⟩,st⟩
theorem jU.lt (x:jU P w H h) (e:H a=some o):a < h.objs.size:=(x a o e).lt
def jU.fresh (x:jU P w H h) (e:h.objs.size<=a):H a=none:=by
 cases q:H a with
 |none=>rfl
 |some u=>exact absurd (P9 (x.lt q) e) (Nat.lt_irrefl _)
def jU.kept (x:jU P w H h) (k: ∀ b u,h.get? b=some u->h'.get? b=some u):jU P w H h':=λa o e=>
 (x a o e).oM (λb u _ q=>k b u q) (λ_ q=>q) λ_ _ q=>q
def jU.laid (x:jU P w H h) (k: ∀ b u,h.get? b=some u->h'.get? b=some u) (hp:h.objs.size<=a) (new:cg P w (upd H a o) h' a o):jU P w (upd H a o) h':=λb u e=>by
 have hn:=x.fresh hp
 by_cases hb:b=a
 ·subst hb;rw[av] at e;cases e;exact new
 ·rw[ag hb] at e
  exact(x b u e).oM (λc v _ q=>k c v q) (λc q=>by rw[ag (aG q hn)];exact q) λc xs q=>by rw[ag (aG q hn)];exact q
end
def Rd (H:Hp) (a:Addr) (u:HO):Prop:=H a=some u\/∃ o,H a=some (.fc o u)
def Rd.ok (r:Rd H a u) (x:jU P w H h):cg P w H h a u:=by
 rcases r with r|⟨o,r⟩
 ·exact x a u r
 ·obtain⟨_,q⟩:=x a _ r
  exact q
def NB:Option HO->Prop
 |some (.lst _)=>True
 |some (.dK _)=>True
 |some (.dT _)=>True
 |some (.set _ _)=>True
 |some (.ins _ _ _)=>True
 |some (.ext _)=>True
 |_=>False
section
variable {P:Program} {w:World} {H:Hp} {h h':Heap} {x e:Addr} {o':HO}
def jU.write (ok:jU P w H h) (mu:NB (H x)) (he:e=x\/H e=some (.own x)) (k: ∀ b u,b≠e->h.get? b=some u->h'.get? b=some u) (heo: ∃ u,h'.get? e=some u)
  (new:cg P w (upd H x o') h' x o'):jU P w (upd H x o') h':=λb u q=>by
 have nown: ∀ c y,H c=some (.own y)->c≠x:=λc y r z=>by subst z;rw[r] at mu;exact mu
 have ntup: ∀ c xs,H c=some (.tup xs)->c≠x:=λc xs r z=>by subst z;rw[r] at mu;exact mu
 by_cases hb:b=x
 ·subst hb;rw[av] at q;cases q;exact new
 ·rw[ag hb] at q
  by_cases hbe:b=e
  ·have q':H b=some (.own x):=by
    rcases he with z|z
    ·exact absurd (hbe.trans z) hb
    ·rw[hbe];exact z
   rw[q] at q';cases q'
   obtain⟨v,hv⟩:=heo
   exact⟨v,by rw[hbe];exact hv⟩
  ·refine(ok b u q).oM (λc v hc r=>k c v ?_ r) (λc r=>by rw[ag (nown c b r)];exact r) λc xs r=>by rw[ag (ntup c xs r)];exact r
   rcases hc with rfl|hc
   ·exact hbe
   ·rintro rfl
    rcases he with z|z
    ·exact nown c b hc z
    ·rw[hc] at z;cases z;exact hb rfl
end
structure Un (fs ex:List Addr) (H H':Hp) (h h':Heap):Prop where
 keep: ∀ b o,h.get? b=some o->H b=none->b∉fs->b∉ex->h'.get? b=some o
 slot: ∀ b o,h.get? b=some o->H b=none->b∈fs->b∉ex->∃ sl,h'.get? b=some {o with slots:=sl}
 free: ∀ b o,h.get? b=some o->H b=none->b∉ex->H' b=none
 there: ∀ b o,h.get? b=some o->b∉ex->∃ o',h'.get? b=some o'
 sD: ∀ b xs,H b=some (.tup xs)->H' b=some (.tup xs)
 lM: ∀ b o u,H b=some (.fc o u)->H' b=some (.fc o u)
 qx: ∀ b ps,H b=some (.nE ps)->∃ more,H' b=some (.nE (ps++more))
section
variable {fs fs' ex ex':List Addr} {H H1 H2:Hp} {h h1 h2 h':Heap} {a x e:Addr} {o:HO}
def Un.any (u:Un fs ex H H1 h h1) (q:h.get? b=some ob) (n:H b=none) (hx:b∉ex): ∃ sl,h1.get? b=some {ob with slots:=sl}:=by
 by_cases hb:b∈fs
 ·exact u.slot b ob q n hb hx
 ·exact⟨ob.slots,u.keep b ob q n hb hx⟩
def Un.kept (k: ∀ b u,h.get? b=some u->h'.get? b=some u):Un fs ex H H h h':=
 ⟨λb ob q _ _ _=>k b ob q,λb ob q _ _ _=>⟨ob.slots,k b ob q⟩,λ_ _ _ n _=>n,λb ob q _=>⟨ob,k b ob q⟩,λ_ _ q=>q,λ_ _ _ q=>q,λ_ ps q=>⟨#[],by rw[q];simp⟩⟩
def Un.refl:Un fs ex H H h h:=Un.kept λ_ _ q=>q
def Un.laid (k: ∀ b u,h.get? b=some u->h'.get? b=some u) (hp:h.objs.size<=a) (hn:H a=none):Un fs ex H (upd H a o) h h' where
 keep:=λb u q _ _ _=>k b u q
 slot:=λb u q _ _ _=>⟨u.slots,k b u q⟩
 free:=λb u q n _=>by rw[ag (Qg (P9 (P2 q) hp))];exact n
 there:=λb u q _=>⟨u,k b u q⟩
 sD:=λb xs q=>by rw[ag (aG q hn)];exact q
 lM:=λb u xs q=>by rw[ag (aG q hn)];exact q
 qx:=λb ps q=>⟨#[],by rw[ag (aG q hn),q];simp⟩
def Un.write (mu:NB (H x)) (he:e=x\/H e=some (.own x)) (k: ∀ b u,b≠e->h.get? b=some u->h'.get? b=some u) (heo: ∃ u,h'.get? e=some u):Un fs ex H (upd H x o) h h':=by
 have hx: ∀ b,H b=none->b≠x:=λb n z=>by subst z;rw[n] at mu;exact mu
 have hb: ∀ b,H b=none->b≠e:=λb n z=>by
  subst z
  rcases he with r|r
  ·exact hx b n r
  ·rw[n] at r;cases r
 have hm: ∀ b u,H b=some u->¬ NB (some u)->b≠x:=λb u q nm z=>by subst z;rw[q] at mu;exact nm mu
 refine⟨λb u q n _ _=>k b u (hb b n) q,λb u q n _ _=>⟨u.slots,k b u (hb b n) q⟩,λb u q n _=>by rw[ag (hx b n)];exact n,λb u q _=>?_,
  λb xs q=>by rw[ag (hm b _ q λz=>z)];exact q,λb u xs q=>by rw[ag (hm b _ q λz=>z)];exact q,λb ps q=>⟨#[],by rw[ag (hm b _ q λz=>z),q];simp⟩⟩
 by_cases hbe:b=e
 ·subst hbe;exact heo
 ·exact⟨u,k b u hbe q⟩
end
def NO (h:Heap) (H:Hp):List Addr:=(List.range h.objs.size).filter λa=>(H a).isSome
def ud (h:Heap) (H:Hp):Heap:=PySem.W.hideAll h (NO h H)
def BR (h:Heap) (H:Hp):(ud h H).objs.size=h.objs.size:=PySem.W.hideAll_size _ _
def pP (e:h.get? b=some o) (n:H b=none):(ud h H).get? b=some o:=
 PySem.W.hideAll_get _ e λhm=>by
  have q:(H b).isSome=true:=(Qt.mp hm).2
  rw[n] at q;simp at q
def GL (e:(ud h H).get? b=some o):h.get? b=some o/\H b=none:=by
 have e':h.get? b=some o:=PySem.W.of_hideAll (NO h H) e
 refine⟨e',?_⟩
 cases q:H b with
 |none=>rfl
 |some x=>
  have hm:b∈NO h H:=Qt.mpr ⟨List.mem_range.mpr (P2 e'),by simp[q]⟩
  have z:(ud h H).get? b=none:=PySem.W.hideAll_none (NO h H) hm
  rw[z] at e;cases e
def HK (g h:Heap) (L:Addr):List (Addr×Obj):=(List.range h.objs.size).filterMap λa=>if a=L\/(g.get? a).isSome=true then none else(h.get? a).map λo=>(a,o)
def rest (g h:Heap) (L d:Addr):List (Addr×Obj):=(HK g h L).filter λp=>decide (p.1≠d)
end L2
namespace L2
open PySem PySem.Spec PyProof.Rows
structure Mod (K:Frag) (mg:Str->Option Value) (base:Heap):Prop where
  OK:K.In base
  glob:base.Ns mainGlobals mg
  blt: ∃ mb,base.Ns builtinsNs mb/\∀ x:Str,x≠"__name__"->mb x=bootBuiltins x
  nolimit:base.NoLimit
structure Cx where
 prog:Program
 w:World
 K:Frag
 mg:Str->Option Value
 base:Heap
 A:Around
 N:List Str
 s₀:Shared
 H₀:Hp
 env:Env
 outer:List Env
 stack:List Env
 ex:List Addr
 fn:Str->Bool
 calm:Bool
 pn:List (Addr×Obj)
 xe:Value->Shared->Prop
def Ek (l:List Env):List Addr:=l.filterMap (·.frame)
abbrev Cx.fs (X:Cx):List Addr:=Ek X.outer
def L8 (sc:Scope) (x:Str):Prop:=sc.names.lookup x=some .local\/sc.names.lookup x=some .cell\/sc.names.lookup x=some .free
def Loc (sc:Scope) (x:Str):Prop:=sc.names.lookup x=some .local\/sc.names.lookup x=some .cell
def Look (env:Env) (h:Heap) (m:Str->Option Value) (x:Str) (u:Value):Prop:=
 (env.kindOf x=some .local/\m x=some u)\/((env.kindOf x=some .cell\/env.kindOf x=some .free)/\∃ c,env.cells.lookup x=some c/\h.IsCell c (some u))
structure Cx.Ok (X:Cx):Prop where
 mod:Mod X.K X.mg X.base
 kind:X.env.scope.kind= .function
 glob:X.env.globals=mainGlobals
 blt:X.env.builtins=builtinsNs
 above:X.s₀.heap.objs.size<=X.env.locals
 inj: ∀ x y c,X.env.cells.lookup x=some c->X.env.cells.lookup y=some c->x=y
 has: ∀ x,(X.env.kindOf x=some .cell\/X.env.kindOf x=some .free)->∃ c,X.env.cells.lookup x=some c
 L6: ∀ x c,X.fn x=true->X.env.cells.lookup x=some c->X.s₀.heap.objs.size<=c
 hd:X.calm=true->X.A.handled=none
 frames:X.A.frames=some X.stack
 Mt:X.stack=X.outer\/(X.stack=X.env::X.outer/\X.env.frame=some X.env.locals)
 OW: ∀ b∈X.ex,b≠X.env.locals/\∀ x c,X.env.cells.lookup x=some c->c≠b
 bs: ∀ b o,X.base.get? b=some o->X.s₀.heap.get? b=some o/\X.H₀ b=none
 Fw:X.base.objs.size<=X.s₀.heap.objs.size
 By: ∀ b o,X.base.get? b=some o->b∉X.ex
 Eo: ∀ b∈X.ex,b∉X.fs
 mK:X.s₀.heap.FunFrames X.base X.outer
 IT: ∀ b∈X.fs,X.H₀ b=none
structure Inv (X:Cx) (pZ:List (Addr×Obj)) (σ:List (Option V)) (H:Hp) (s:Shared):Prop where
 ok:X.Ok
 os:s.os=X.s₀.os
 bare:AllBare s.gens
 base:Un X.fs X.ex X.H₀ H X.s₀.heap s.heap
 loc: ∃ m,s.heap.Ns X.env.locals m/\∀ (i:Nat) (x:Str) (v:V),X.N[i]?=some x->σ[i]?=some (some v)->L8 X.env.scope x->∃ u,RelV v u/\Look X.env s.heap m x u
 cell: ∀ x c,X.env.cells.lookup x=some c->∃ v,s.heap.IsCell c v
 free:H X.env.locals=none
 jD: ∀ x c,X.env.cells.lookup x=some c->H c=none
 pin: ∀ p∈X.pn++pZ,s.heap.get? p.1=some p.2/\H p.1=none/\p.1≠X.env.locals/\p.1∉X.fs/\∀ v,p.2.data≠.cell v
 a9:jU X.prog X.w H s.heap
 len:σ.length=X.N.length
section
variable {X:Cx} {pZ:List (Addr×Obj)} {σ:List (Option V)} {H H':Hp} {s:Shared} {h':Heap}
def Cx.Ok.Ox (ok:X.Ok) (e:X.base.get? b=some o):b∉X.fs:=λhb=>by
 have:=(ok.mK.mem hb).1
 rw[e] at this;cases this
theorem Inv.bs (I:Inv X pZ σ H s): ∀ b o,X.base.get? b=some o->s.heap.get? b=some o/\H b=none:=λb o e=>
 ⟨I.base.keep b o (I.ok.bs b o e).1 (I.ok.bs b o e).2 (I.ok.Ox e) (I.ok.By b o e),I.base.free b o (I.ok.bs b o e).1 (I.ok.bs b o e).2 (I.ok.By b o e)⟩
def Inv.bk (I:Inv X pZ σ H s): ∀ b o,X.base.get? b=some o->s.heap.get? b=some o:=λb o e=>(I.bs b o e).1
theorem Inv.mod (I:Inv X pZ σ H s):Mod X.K X.mg X.base:=I.ok.mod
def Inv.L4 (I:Inv X pZ σ H s):X.K.In s.heap:=I.ok.mod.OK.keeps I.bk
theorem Inv.lt (I:Inv X pZ σ H s):X.env.locals < s.heap.objs.size:=let ⟨_,hn,_⟩:=I.loc;hn.lt
def Inv.sz (I:Inv X pZ σ H s):X.s₀.heap.objs.size<=s.heap.objs.size:=P7 I.ok.above (Nat.le_of_lt I.lt)
def Inv.Ow (I:Inv X pZ σ H s) (h:s.heap.objs.size<=a):a∉X.fs:=λhb=>by
 obtain⟨_,o,ho,_⟩:=I.ok.mK.mem hb
 exact absurd (P9 (P2 ho) (P7 I.sz h)) (Nat.lt_irrefl _)
def Inv.Ls (I:Inv X pZ σ H s): ∀ x c,X.env.cells.lookup x=some c->c≠X.env.locals:=λx c e z=>by
 obtain⟨v,o,ho,hd⟩:=I.cell x c e
 obtain⟨m,⟨o',es,ep,ho',hd',_⟩,_⟩:=I.loc
 rw[z,ho'] at ho;cases ho;rw[hd'] at hd;cases hd
theorem Inv.mK (I:Inv X pZ σ H s):s.heap.FunFrames X.base X.outer:=by
 have all: ∀ (l:List Env),(∀ b∈Ek l,b∈X.fs)->X.s₀.heap.FunFrames X.base l->s.heap.FunFrames X.base l:=by
  intro l
  induction l with
  |nil=>intro _ _;trivial
  |cons env r ih=>
   intro hs hl
   obtain⟨hk,⟨L,o,hf,hn,ho,hd⟩,hr⟩:=hl
   have hL:L∈X.fs:=hs L (by unfold Ek;rw[List.filterMap_cons,hf];exact PB)
   obtain⟨sl,e⟩:=I.base.slot L o ho (I.ok.IT L hL) hL λz=>I.ok.Eo L z hL
   exact⟨hk,⟨L,_,hf,hn,e,hd⟩,ih (λb hb=>hs b (by unfold Ek;rw[List.filterMap_cons,hf];exact PH _ hb)) hr⟩
 exact all X.outer (λ_ hb=>hb) I.ok.mK
def Inv.stack (I:Inv X pZ σ H s):s.heap.FunFrames X.base X.stack:=by
 rcases I.ok.Mt with e|⟨e,hf⟩
 ·rw[e];exact I.mK
 ·rw[e]
  obtain⟨m,hn,_⟩:=I.loc
  refine .cons (by rw[I.ok.kind];decide) hf hn ?_ I.mK
  exact Heap.get?_none_of_le (P7 I.ok.Fw I.ok.above)
def Inv.lZ (I:Inv X pZ σ H s): ∀ b∈Ek X.stack,b∈X.env.locals::X.fs:=λb hb=>by
 rcases I.ok.Mt with e|⟨e,hf⟩
 ·rw[e] at hb;exact PH _ hb
 ·rw[e] at hb
  unfold Ek at hb
  rw[List.filterMap_cons,hf] at hb
  exact hb
def Inv.zB (I:Inv X pZ σ H s): ∀ b∈Ek X.stack,H b=none:=λb hb=>by
 rcases PR.mp (I.lZ b hb) with e|hb
 ·rw[e];exact I.free
 ·obtain⟨_,o,ho,_⟩:=I.ok.mK.mem hb
  exact I.base.free b o ho (I.ok.IT b hb) λz=>I.ok.Eo b z hb
def Inv.step {t':Nat} {d':Drawn} {ch:List Addr} (I:Inv X pZ σ H s)
  (hch: ∀ b∈ch,(b∈X.ex\/X.s₀.heap.objs.size<=b)/\b≠X.env.locals/\(∀ x c,X.env.cells.lookup x=some c->c≠b)/\∀ p∈X.pn++pZ,p.1≠b)
  (keep: ∀ b o,b≠X.env.locals->b∉X.fs->b∉ch->s.heap.get? b=some o->H b=none->h'.get? b=some o)
  (slot: ∀ b o,b≠X.env.locals->b∈X.fs->b∉ch->s.heap.get? b=some o->H b=none->∃ sl,h'.get? b=some {o with slots:=sl}) (free: ∀ b o,b∉ch->s.heap.get? b=some o->H b=none->H' b=none)
  (there: ∀ b o,b∉ch->s.heap.get? b=some o->∃ o',h'.get? b=some o')
  (sD: ∀ b xs,H b=some (.tup xs)->H' b=some (.tup xs)) (lM: ∀ b o u,H b=some (.fc o u)->H' b=some (.fc o u)) (qx: ∀ b ps,H b=some (.nE ps)->∃ more,H' b=some (.nE (ps++more)))
  (ns: ∀ m,s.heap.Ns X.env.locals m->h'.Ns X.env.locals m) (a9:jU X.prog X.w H' h') (hg:AllBare g'):
  Inv X pZ σ H' {s with heap:=h',gens:=g',drawn:=d',toks:=t'}:=by
 have Oz: ∀ b o,X.s₀.heap.get? b=some o->b≠X.env.locals:=λb o e=>Qg (P9 (P2 e) I.ok.above)
 have neC: ∀ b o,X.s₀.heap.get? b=some o->b∉X.ex->b∉ch:=λb o e hx hb=>by
  rcases(hch b hb).1 with z|z
  ·exact hx z
  ·exact absurd (P9 (P2 e) z) (Nat.lt_irrefl _)
 have cellK: ∀ x c,X.env.cells.lookup x=some c->∀ v,s.heap.IsCell c v->h'.IsCell c v:=λx c e v bu=>by
  obtain⟨o,ho,hd⟩:=bu
  have nch:c∉ch:=λz=>(hch c z).2.2.1 x c e rfl
  by_cases hc:c∈X.fs
  ·obtain⟨sl,q⟩:=slot c o (I.Ls x c e) hc nch ho (I.jD x c e)
   exact⟨_,q,hd⟩
  ·exact⟨o,keep c o (I.Ls x c e) hc nch ho (I.jD x c e),hd⟩
 refine⟨I.ok,I.os,hg,⟨λb o e n hb hx=>?_,λb o e n hb hx=>?_,λb o e n hx=>?_,λb o e hx=>?_,λb xs e=>sD b xs (I.base.sD b xs e),λb o xs e=>lM b o xs (I.base.lM b o xs e),λb ps e=>?_⟩,?_,λx c e=>?_,?_,λx c e=>?_,λp hp=>?_,a9,I.len⟩
 ·exact keep b o (Oz b o e) hb (neC b o e hx) (I.base.keep b o e n hb hx) (I.base.free b o e n hx)
 ·obtain⟨sl,e1⟩:=I.base.slot b o e n hb hx
  obtain⟨sl',e2⟩:=slot b _ (Oz b o e) hb (neC b o e hx) e1 (I.base.free b o e n hx)
  exact⟨sl',e2⟩
 ·obtain⟨o',e1⟩:=I.base.there b o e hx
  exact free b o' (neC b o e hx) e1 (I.base.free b o e n hx)
 ·obtain⟨o',e1⟩:=I.base.there b o e hx
  exact there b o' (neC b o e hx) e1
 ·obtain⟨m1,e1⟩:=I.base.qx b ps e
  obtain⟨m2,e2⟩:=qx b _ e1
  exact⟨m1++m2,by rw[e2,Array.append_assoc]⟩
 ·obtain⟨m,hn,hl⟩:=I.loc
  refine⟨m,ns m hn,λi x v e1 e2 e3=>?_⟩
  obtain⟨u,r,l⟩:=hl i x v e1 e2 e3
  refine⟨u,r,?_⟩
  rcases l with l|⟨k,c,e,z⟩
  ·exact .inl l
  ·exact .inr ⟨k,c,e,cellK x c e _ z⟩
 ·obtain⟨v,z⟩:=I.cell x c e
  exact⟨v,cellK x c e v z⟩
 ·obtain⟨m,⟨o,_,_,ho,_⟩,_⟩:=I.loc
  exact free _ o (λz=>(hch _ z).2.1 rfl) ho I.free
 ·obtain⟨v,o,ho,hd⟩:=I.cell x c e
  exact free c o (λz=>(hch c z).2.2.1 x c e rfl) ho (I.jD x c e)
 ·obtain⟨e,n,ne,nf,d⟩:=I.pin p hp
  have nch:p.1∉ch:=λz=>(hch p.1 z).2.2.2 p hp rfl
  exact⟨keep p.1 p.2 ne nf nch e n,free p.1 p.2 nch e n,ne,nf,d⟩
def Inv.un {t':Nat} (I:Inv X pZ σ H s) (u:Un X.fs [] H H' s.heap h') (a9:jU X.prog X.w H' h'):Inv X pZ σ H' {s with heap:=h',toks:=t'}:=by
 obtain⟨m,⟨o,es,ep,ho,r⟩,_⟩:=id I.loc
 obtain⟨sl,hL⟩:=u.any ho I.free (by simp)
 exact I.step (g':=s.gens) (d':=s.drawn) (ch:=[]) (λ_ z=>nomatch z) (λb o _ hb _ e n=>u.keep b o e n hb (by simp)) (λb o _ hb _ e n=>u.slot b o e n hb (by simp)) (λb o _ e n=>u.free b o e n (by simp)) (λb o _ e=>u.there b o e (by simp)) u.sD u.lM u.qx (λm' hm=>by
  obtain⟨o',es',ep',ho',r'⟩:=hm
  rw[ho] at ho';cases ho'
  exact⟨_,es',ep',hL,r'⟩) a9 I.bare
def Inv.call {t':Nat} {d':Drawn} (I:Inv X pZ σ H s) (u:Un (Ek X.stack) ch H H' s.heap h') (a9:jU X.prog X.w H' h') (hg:AllBare g')
  (hch: ∀ b∈ch,(b∈X.ex\/X.s₀.heap.objs.size<=b)/\b≠X.env.locals/\(∀ x c,X.env.cells.lookup x=some c->c≠b)/\∀ p∈X.pn++pZ,p.1≠b):
  Inv X pZ σ H' {s with heap:=h',gens:=g',drawn:=d',toks:=t'}:=by
 obtain⟨m,⟨o,es,ep,ho,r⟩,_⟩:=id I.loc
 obtain⟨sl,hL⟩:=u.any ho I.free λz=>(hch _ z).2.1 rfl
 exact I.step (ch:=ch) hch (λb o hL hb hc e n=>u.keep b o e n (λz=>(PR.mp (I.lZ b z)).elim hL hb) hc) (λb o _ _ hc e n=>u.any e n hc) (λb o hc e n=>u.free b o e n hc) (λb o hc e=>u.there b o e hc) u.sD u.lM u.qx (λm' hm=>by
  obtain⟨o',es',ep',ho',r'⟩:=hm
  rw[ho] at ho';cases ho'
  exact⟨_,es',ep',hL,r'⟩) a9 hg
def Inv.turned {t':Nat} {it:Addr} (I:Inv X pZ σ H s) (k: ∀ b o,b≠it->s.heap.get? b=some o->h'.get? b=some o) (hn:H it=none) (hL:it≠X.env.locals)
  (h1:it∈X.ex\/X.s₀.heap.objs.size<=it) (h2: ∀ x c,X.env.cells.lookup x=some c->c≠it) (h3: ∀ p∈X.pn++pZ,p.1≠it):Inv X pZ σ H {s with heap:=h',toks:=t'}:=by
 have nit: ∀ b u,H b=some u->b≠it:=λb u e z=>by rw[z,hn] at e;cases e
 refine I.step (g':=s.gens) (d':=s.drawn) (ch:=[it]) (λb hb=>?_) (λb o _ _ hc e _=>k b o (λz=>hc (by simp[z])) e) (λb o _ _ hc e _=>⟨o.slots,k b o (λz=>hc (by simp[z])) e⟩) (λ_ _ _ _ n=>n)
  (λb o hc e=>⟨o,k b o (λz=>hc (by simp[z])) e⟩) (λ_ _ e=>e) (λ_ _ _ e=>e) (λb ps e=>⟨#[],by rw[e];simp⟩) (λm hm=>?_) (λb u e=>?_) I.bare
 ·have e:b=it:=by simpa using hb
  subst e
  exact⟨h1,hL,h2,h3⟩
 ·obtain⟨o,es,ep,ho,r⟩:=hm
  exact⟨o,es,ep,k _ o (Ne.symm hL) ho,r⟩
 ·refine(I.a9 b u e).oM (λc v hc q=>k c v ?_ q) (λ_ q=>q) λ_ _ q=>q
  rcases hc with z|z
  ·rw[z];exact nit b u e
  ·exact nit c _ z
def Inv.tok (I:Inv X pZ σ H s) (t:Nat):Inv X pZ σ H {s with toks:=t}:=I.un (h':=s.heap) (t':=t) Un.refl I.a9
theorem Inv.kept (I:Inv X pZ σ H s) (k: ∀ b u,s.heap.get? b=some u->h'.get? b=some u):Inv X pZ σ H {s with heap:=h',toks:=t'}:=I.un (Un.kept k) (I.a9.kept k)
theorem Inv.laid (I:Inv X pZ σ H s) (k: ∀ b u,s.heap.get? b=some u->h'.get? b=some u) (hp:s.heap.objs.size<=a) (new:cg X.prog X.w (upd H a o) h' a o):
  Inv X pZ σ (upd H a o) {s with heap:=h',toks:=t'}:=I.un (Un.laid k hp (I.a9.fresh hp)) (I.a9.laid k hp new)
theorem Inv.write (I:Inv X pZ σ H s) (mu:NB (H x)) (he:e=x\/H e=some (.own x)) (k: ∀ b u,b≠e->s.heap.get? b=some u->h'.get? b=some u) (heo: ∃ u,h'.get? e=some u)
  (new:cg X.prog X.w (upd H x o) h' x o):Inv X pZ σ (upd H x o) {s with heap:=h',toks:=t'}:=I.un (Un.write mu he k heo) (I.a9.write mu he k heo new)
def Inv.j3 (I:Inv X pZ σ H s) (h: ∀ p∈fo,s.heap.get? p.1=some p.2/\H p.1=none/\p.1≠X.env.locals/\p.1∉X.fs/\∀ v,p.2.data≠.cell v):Inv X fo σ H s:=
 ⟨I.ok,I.os,I.bare,I.base,I.loc,I.cell,I.free,I.jD,λp hp=>(Qu.mp hp).elim (λz=>I.pin p (List.mem_append_left _ z)) (h p),I.a9,I.len⟩
def vM {N:List Str} (hN:N.Nodup) {i j:Nat} (a:N[i]?=some x) (b:N[j]?=some x):i=j:=by
 obtain⟨h1,e1⟩:=PL.mp a
 obtain⟨h2,e2⟩:=PL.mp b
 exact(List.getElem_inj hN).mp (e1.trans e2.symm)
def rg {i:Nat} {Q:Unit->Shared->Prop} (I:Inv X pZ σ H s) (hN:X.N.Nodup) (hi:X.N[i]?=some x) (hx:Loc X.env.scope x) (r:RelV v u)
  (h: ∀ s',Inv X pZ (σ.set i (some v)) H s'->(∃ a,Heap.SameBut a s.heap s'.heap/\(a=X.env.locals\/X.env.cells.lookup x=some a))->Q () s') (hf:X.fn x=true\/X.env.scope.names.lookup x=some .local:=by first|exact .inl rfl|exact .inr rfl|assumption):wpAny M A (storeName X.env x u) Q E s:=by
 obtain⟨m,hn,hl⟩:=id I.loc
 have hcls:(X.env.scope.kind== .class||(X.env.scope.kind== .module&&X.env.locals !=X.env.globals))=false:=by rw[I.ok.kind];rfl
 have hiσ:i < σ.length:=by rw[I.len];exact(PL.mp hi).1
 have Ls:=I.Ls
 have tracked: ∀ {a:Addr} {h':Heap},(∃ o,s.heap.get? a=some o/\H a=none)->Heap.SameBut a s.heap h'->jU X.prog X.w H h':=λ{a h'} ha hs b ob e=>by
  obtain⟨_,_,hfree⟩:=ha
  refine(I.a9 b ob e).oM (λc w' hc q=>(hs.2 c ?_).trans q) (λ_ q=>q) λ_ _ q=>q
  rintro rfl
  rcases hc with rfl|hc
  ·rw[hfree] at e;cases e
  ·rw[hfree] at hc;cases hc
 rcases hx with hk|hk
 ·refine wpAny_storeName_local hk hn (λh' hn' hs=>?_) hcls
  obtain⟨oL,_,_,hoL,_⟩:=id hn
  refine h _ ⟨I.ok,I.os,I.bare,⟨λb o e n hb hx=>?_,λb o e n hb hx=>?_,I.base.free,λb o e hx=>?_,I.base.sD,I.base.lM,I.base.qx⟩,⟨_,hn',λj y v' e1 e2 e3=>?_⟩,λy c e=>?_,I.free,I.jD,λp hp=>?_,tracked ⟨oL,hoL,I.free⟩ hs,by simpa using I.len⟩ ⟨_,hs,.inl rfl⟩
  ·exact(hs.2 b (Qg (P9 (P2 e) I.ok.above))).trans (I.base.keep b o e n hb hx)
  ·obtain⟨sl,e1⟩:=I.base.slot b o e n hb hx
   exact⟨sl,(hs.2 b (Qg (P9 (P2 e) I.ok.above))).trans e1⟩
  ·obtain⟨o',e1⟩:=I.base.there b o e hx
   exact⟨o',(hs.2 b (Qg (P9 (P2 e) I.ok.above))).trans e1⟩
  ·by_cases hj:j=i
   ·subst hj
    rw[hi] at e1;cases e1
    rw[Qx hiσ] at e2
    cases e2
    exact⟨u,r,.inl ⟨hk,by simp⟩⟩
   ·rw[Qi (Ne.symm hj)] at e2
    obtain⟨u',r',q⟩:=hl j y v' e1 e2 e3
    refine⟨u',r',?_⟩
    rcases q with⟨k,e⟩|⟨k,c,e,z⟩
    ·refine .inl ⟨k,?_⟩
     have:y≠x:=λe=>hj (vM hN e1 (e▸hi))
     simp[this,e]
    ·exact .inr ⟨k,c,e,z.sameBut hs (Ls y c e)⟩
  ·obtain⟨w',z⟩:=I.cell y c e
   exact⟨w',z.sameBut hs (Ls y c e)⟩
  ·obtain⟨e,n,ne,nf,d⟩:=I.pin p hp
   exact⟨(hs.2 p.1 ne).trans e,n,ne,nf,d⟩
 ·have hfn:X.fn x=true:=by
   rcases hf with z|z
   ·exact z
   ·rw[z] at hk;cases hk
  obtain⟨c,hc⟩:=I.ok.has x (.inl hk)
  obtain⟨w',z⟩:=I.cell x c hc
  refine wpAny_storeName_cell I.ok.kind hk hc z (λh' hc' hs=>?_)
  obtain⟨oc,hoc,hocd⟩:=id z
  refine h {s with heap:=h'} ⟨I.ok,I.os,I.bare,⟨λb o e n hb hx=>?_,λb o e n hb hx=>?_,I.base.free,λb o e hx=>?_,I.base.sD,I.base.lM,I.base.qx⟩,⟨m,hn.sameBut hs (Ne.symm (Ls x c hc)),λj y v' e1 e2 e3=>?_⟩,λy c' e=>?_,I.free,I.jD,λp hp=>?_,tracked ⟨oc,hoc,I.jD x c hc⟩ hs,by simpa using I.len⟩ ⟨c,hs,.inr hc⟩
  ·exact(hs.2 b (Qg (P9 (P2 e) (I.ok.L6 x c hfn hc)))).trans (I.base.keep b o e n hb hx)
  ·obtain⟨sl,e1⟩:=I.base.slot b o e n hb hx
   exact⟨sl,(hs.2 b (Qg (P9 (P2 e) (I.ok.L6 x c hfn hc)))).trans e1⟩
  ·obtain⟨o',e1⟩:=I.base.there b o e hx
   exact⟨o',(hs.2 b (Qg (P9 (P2 e) (I.ok.L6 x c hfn hc)))).trans e1⟩
  ·by_cases hj:j=i
   ·subst hj
    rw[hi] at e1;cases e1
    rw[Qx hiσ] at e2
    cases e2
    exact⟨u,r,.inr ⟨.inl hk,c,hc,hc'⟩⟩
   ·rw[Qi (Ne.symm hj)] at e2
    obtain⟨u',r',q⟩:=hl j y v' e1 e2 e3
    refine⟨u',r',?_⟩
    rcases q with q|⟨k,c',e,z'⟩
    ·exact .inl q
    ·refine .inr ⟨k,c',e,z'.sameBut hs ?_⟩
     rintro rfl
     exact hj (vM hN e1 (I.ok.inj _ _ _ e hc▸hi))
  ·by_cases hcc:c'=c
   ·subst hcc;exact⟨_,hc'⟩
   ·obtain⟨w2,z2⟩:=I.cell y c' e
    exact⟨w2,z2.sameBut hs hcc⟩
  ·obtain⟨e,n,ne,nf,d⟩:=I.pin p hp
   refine⟨(hs.2 p.1 ?_).trans e,n,ne,nf,d⟩
   intro q
   rw[q,hoc] at e
   have q':oc=p.2:=Qz e
   exact d w' (by rw[<-q'];exact hocd)
def ly (I:Inv X pZ σ H s) (hN:X.N.Nodup) (hi:X.N[i]?=some x) (hx:Loc X.env.scope x) (r:RelV v u)
  (h: ∀ s',Inv X pZ (σ.set i (some v)) H s'->Q () s') (hf:X.fn x=true\/X.env.scope.names.lookup x=some .local:=by first|exact .inl rfl|exact .inr rfl|assumption):wpAny M A (storeName X.env x u) Q E s:=
 rg I hN hi hx r (λs' I' _=>h s' I') hf
def Inv.Nk (I:Inv X pZ σ H s) (ho:s'.os=s.os) (u:Un (Ek X.stack) ch H H' s.heap s'.heap) (a9:jU X.prog X.w H' s'.heap) (hg:AllBare s'.gens)
  (hch: ∀ b∈ch,(b∈X.ex\/X.s₀.heap.objs.size<=b)/\b≠X.env.locals/\(∀ x c,X.env.cells.lookup x=some c->c≠b)/\∀ p∈X.pn++pZ,p.1≠b):Inv X pZ σ H' s':=by
 obtain⟨h',g',d',t',o'⟩:=s'
 have e:o'=s.os:=ho
 subst e
 exact I.call (g':=g') (t':=t') (d':=d') u a9 hg hch
end
abbrev XK:=Value->Option Addr->Hp->Prop
abbrev St:=List (Option V)
abbrev VK:=V->Hp->Prop
abbrev TE:=St->Hp->VK->Prop
abbrev TT:=St->Hp->(Bool->Hp->Prop)->Prop
abbrev TA:=St->Hp->(List V->Hp->Prop)->Prop
structure Ends where
 nx:St->Hp->Prop
 rt:VK
 bk:St->Hp->Prop:=λ_ _=>False
 ct:St->Hp->Prop:=λ_ _=>False
abbrev TS:=Ends->St->Hp->Prop
def EP (X:Cx) (pZ:List (Addr×Obj)) (σ:St) (Q:VK) (u:Value) (s':Shared):Prop:= ∃ v H',Inv X pZ σ H' s'/\RelV v u/\Q v H'
def TP (X:Cx) (pZ:List (Addr×Obj)) (σ:St) (Q:Bool->Hp->Prop) (b:Bool) (s':Shared):Prop:= ∃ H',Inv X pZ σ H' s'/\Q b H'
def AP (X:Cx) (pZ:List (Addr×Obj)) (σ:St) (Q:List V->Hp->Prop) (us:List Value) (s':Shared):Prop:= ∃ vs H',Inv X pZ σ H' s'/\Vals vs us/\Q vs H'
def SP (X:Cx) (pZ:List (Addr×Obj)) (D:Ends) (f:Flow) (s':Shared):Prop:=
 match f with
 | .next=> ∃ σ' H',Inv X pZ σ' H' s'/\D.nx σ' H'
 | .brk=> ∃ σ' H',Inv X pZ σ' H' s'/\D.bk σ' H'
 | .cont=> ∃ σ' H',Inv X pZ σ' H' s'/\D.ct σ' H'
 | .ret u=> ∃ v σ' H',Inv X pZ σ' H' s'/\RelV v u/\D.rt v H'
def PE (X:Cx) (e:Expr) (t:TE):Prop:=
 ∀ (pZ:List (Addr×Obj)) (s:Shared) (σ:St) (H:Hp) (Q:VK),Inv X pZ σ H s->t σ H Q->wpAny (model X.prog X.w) X.A (eval e X.env) (EP X pZ σ Q) X.xe s
def PT (X:Cx) (e:Expr) (t:TT):Prop:=
 ∀ (pZ:List (Addr×Obj)) (s:Shared) (σ:St) (H:Hp) (Q:Bool->Hp->Prop),Inv X pZ σ H s->t σ H Q->wpAny (model X.prog X.w) X.A (isTrue e X.env (eval e X.env)) (TP X pZ σ Q) X.xe s
def PW (X:Cx) (e:Expr) (t:TT):Prop:=
 ∀ (whole:Sem Value) (pZ:List (Addr×Obj)) (s:Shared) (σ:St) (H:Hp) (Q:Bool->Hp->Prop),Inv X pZ σ H s->t σ H Q->wpAny (model X.prog X.w) X.A (isTrue e X.env whole) (TP X pZ σ Q) X.xe s
def PW.pt (h:PW X e t):PT X e t:=h _
def PA (X:Cx) (es:List Expr) (t:TA):Prop:=
 ∀ (pos:Pos) (pZ:List (Addr×Obj)) (s:Shared) (σ:St) (H:Hp) (Q:List V->Hp->Prop),Inv X pZ σ H s->t σ H Q->wpAny (model X.prog X.w) X.A (spliced (backTo pos (starEach es X.env))) (AP X pZ σ Q) X.xe s
def PS (X:Cx) (st:Stmt) (t:TS):Prop:=
 ∀ (pZ:List (Addr×Obj)) (s:Shared) (σ:St) (H:Hp) (D:Ends),Inv X pZ σ H s->t D σ H->wpAny (model X.prog X.w) X.A (exec st X.env) (SP X pZ D) X.xe s
def xx (X:Cx) (st:List Stmt) (t:TS):Prop:=
 ∀ (pZ:List (Addr×Obj)) (s:Shared) (σ:St) (H:Hp) (D:Ends),Inv X pZ σ H s->t D σ H->wpAny (model X.prog X.w) X.A (execs st X.env) (SP X pZ D) X.xe s
def bq (h:wpAny M A t Q E s) (hQ: ∀ a s,Q a s->Q' a s):wpAny M A t Q' E s:=wpAny_mono h hQ λ_ _ x=>x
end L2
namespace L2
open PySem PySem.Spec PyProof.Rows
section
variable {X:Cx}
def nF (i:Nat):TE:=λσ H Q=> ∃ v,σ[i]?=some (some v)/\Q v H
def tC (v:V):TE:=λ_ H Q=>Q v H
def Dp (hN:X.N[i]?=some x) (hv:L8 X.env.scope x) (hd:(x==("__debug__":Str))=false:=by decide) (hcd:(x==("__classdict__":Str))=false:=by decide):PE X (.Name x pos) (nF i):=by
 intro pZ s σ H Q I h
 obtain⟨v,e,h⟩:=h
 obtain⟨m,hn,hl⟩:=I.loc
 obtain⟨u,r,l⟩:=hl i x v hN e hv
 have fin:EP X pZ σ Q u s:=⟨v,H,I,r,h⟩
 rcases l with⟨hk,hm⟩|⟨hk,c,hc,hcell⟩
 ·exact wpAny_Name (wpAny_loadName_local I.ok.kind hk hn hm fin) hd
 ·rcases hk with hk|hk
  ·exact wpAny_Name (wpAny_loadName_cell I.ok.kind hk hc hcell fin) hd
  ·exact wpAny_Name (wpAny_loadName_free I.ok.kind hk hc hcell fin hcd) hd
def aP {i j pos}:PE X (.Constant (.int i) j pos) (tC (.int i)):=λ_ _ _ H _ I h=>wpAny_Constant_int ⟨.int i,H,I.tok _,⟨_,rfl⟩,h⟩
def MQ {b j pos}:PE X (.Constant (.bool b) j pos) (tC (.bl b)):=λ_ _ _ H _ I h=>Constant_bool ⟨.bl b,H,I,rfl,h⟩
def J6 {j pos}:PE X (.Constant .none j pos) (tC .aD):=λ_ _ _ H _ I h=>Constant_none ⟨.aD,H,I,rfl,h⟩
def J4 {x j pos}:PE X (.Constant (.str x) j pos) (tC (.str x)):=λ_ _ _ H _ I h=>Calls.Constant_str ⟨.str x,H,I.tok _,⟨_,rfl⟩,h⟩
def Gl (X:Cx) (x:Str):Prop:=X.env.kindOf x=some .globalImplicit
def G1 (I:Inv X pZ σ H s) (hg:Gl X x) (hm:X.mg x=some u) (h:Q u s)
  (hd:(x==("__debug__":Str))=false:=by decide):wpAny (model X.prog X.w) X.A (eval (.Name x pos) X.env) Q E s:=
 Calls.Name_function_global I.ok.kind hg (Calls.loadGlobal_global (by rw[I.ok.glob];exact I.mod.glob.keeps I.bk) hm h) hd
def iq (I:Inv X pZ σ H s) (hg:Gl X x) (hm:X.mg x=none) (hv:bootBuiltins x=some u) (h:Q u s)
  (hn:x≠"__name__":=by decide) (hd:(x==("__debug__":Str))=false:=by decide):wpAny (model X.prog X.w) X.A (eval (.Name x pos) X.env) Q E s:=by
 obtain⟨mb,h1,h2⟩:=I.mod.blt
 exact Calls.Name_function_global I.ok.kind hg (Calls.loadGlobal_builtin (by rw[I.ok.glob];exact I.mod.glob.keeps I.bk) hm (by rw[I.ok.blt];exact h1.keeps I.bk) ((h2 x hn).trans hv) h) hd
variable {a b:Expr} {ta tb:TE} {pos:Pos}
def PC (X:Cx) (op:CmpOp) (a b:Expr) (t:TE):Prop:=
 ∀ (pZ:List (Addr×Obj)) (s:Shared) (σ:St) (H:Hp) (Q:VK),Inv X pZ σ H s->t σ H Q->
  wpAny (model X.prog X.w) X.A (eval a X.env) (λv s₁=>wpAny (model X.prog X.w) X.A (eval b X.env) (λu s₂=>wpAny (model X.prog X.w) X.A (compareOp op v u) (EP X pZ σ Q) X.xe s₂) X.xe s₁) X.xe s
def vN (b:Expr) (h:op≠.In) (h2:op≠.NotIn):behindInMarks op b=false:=by
 have e1:(op==CmpOp.In)=false:=by cases op<;>first|rfl|exact absurd rfl h
 have e2:(op==CmpOp.NotIn)=false:=by cases op<;>first|rfl|exact absurd rfl h2
 cases b<;>simp[behindInMarks,e1,e2]
def tB (t:TE):TT:=λσ H Q=>t σ H λx H1=> ∃ c,x= .bl c/\Q c H1
def J7 (h:PC X op a b t) (h1:behindInMarks op b=false:=by first|exact vN _ (by decide) (by decide)|rfl):PE X (.Compare a [op] [b] pos) t:=λpZ s σ H Q I hw=>wpAny_Compare1 (h pZ s σ H Q I hw) h1
def JY (h:PC X op a b t) (h1:behindInMarks op b=false:=by first|exact vN _ (by decide) (by decide)|rfl):PT X (.Compare a [op] [b] pos) (tB t):=by
 intro pZ s σ H Q I hw
 refine wpAny_isTrue_Compare1 (bq (h pZ s σ H _ I hw) λv s1 h1=>bq h1 λu s2 h2=>bq h2 λc s3 ⟨x,H1,I1,r1,q1⟩=>?_) h1
 obtain⟨d,rfl,q⟩:=q1
 cases r1
 exact wpAny_truthy_bool ⟨H1,I1,q⟩
def JW (h:PE X e t) (he: ∀ whole,isTrue e X.env whole=(do let v <-whole;standAt e.pos;holding [v] (truthy v)):=by intro _;rfl):PT X e (tB t):=by
 intro pZ s σ H Q I hw
 refine isTrue_plain (bq (h pZ s σ H _ I hw) λv s1 ⟨x,H1,I1,r1,q1⟩=>?_) (he _)
 obtain⟨d,rfl,q⟩:=q1
 cases r1
 exact wpAny_truthy_bool ⟨H1,I1,q⟩
variable {tA tB':TT} {rest:List Expr}
def Oh (t u:TT):TT:=λσ H Q=>t σ H λc H1=>if c=true then u σ H1 Q else Q false H1
def Pm (t u:TT):TT:=λσ H Q=>t σ H λc H1=>if c=true then Q true H1 else u σ H1 Q
def Of (t:TT):TT:=λσ H Q=>t σ H λc H1=>Q (!c) H1
def zU (ha:PT X a tA):PW X (.BoolOp .And [a] pos) tA:=by
 intro wh pZ s σ H Q I h
 refine isTrue_and (bq (ha pZ s σ H Q I h) λc s1 e=>?_)
 cases c with
 |true=>exact isTrue_and_nil e
 |false=>exact e
def JV (ha:PT X a tA):PW X (.BoolOp .Or [a] pos) tA:=by
 intro wh pZ s σ H Q I h
 refine isTrue_or (bq (ha pZ s σ H Q I h) λc s1 e=>?_)
 cases c with
 |false=>exact isTrue_or_nil e
 |true=>exact e
def C8 (ha:PT X a tA) (hb:PW X (.BoolOp .And (b::rest) pos) tB'):PW X (.BoolOp .And (a::b::rest) pos) (Oh tA tB'):=by
 intro wh pZ s σ H Q I h
 refine isTrue_and (bq (ha pZ s σ H _ I h) λc s1 ⟨H1,I1,q1⟩=>?_)
 cases c with
 |true=>exact hb wh pZ s1 σ H1 Q I1 q1
 |false=>exact⟨H1,I1,q1⟩
def MK (ha:PT X a tA) (hb:PW X (.BoolOp .Or (b::rest) pos) tB'):PW X (.BoolOp .Or (a::b::rest) pos) (Pm tA tB'):=by
 intro wh pZ s σ H Q I h
 refine isTrue_or (bq (ha pZ s σ H _ I h) λc s1 ⟨H1,I1,q1⟩=>?_)
 cases c with
 |true=>exact⟨H1,I1,q1⟩
 |false=>exact hb wh pZ s1 σ H1 Q I1 q1
def JX (ha:PT X a tA):PT X (.UnaryOp .Not a pos) (Of tA):=by
 intro pZ s σ H Q I h
 exact isTrue_not (ha pZ s σ H (λc H1=>Q (!c) H1) I h)
def Ms (ta tb:TE):TE:=λσ H Q=>ta σ H λx H1=> ∃ c,x= .bl c/\if c=true then tb σ H1 Q else Q (.bl false) H1
def J5 {op} (h:PE X a t):PE X (.BoolOp op [a] pos) t:=λpZ s σ H Q I hw=>BoolOp_one (h pZ s σ H Q I hw)
def J8 (ha:PE X a ta) (hb:PE X (.BoolOp .And (b::rest) pos) tb):PE X (.BoolOp .And (a::b::rest) pos) (Ms ta tb):=by
 intro pZ s σ H Q I h
 refine BoolOp_and (bq (ha pZ s σ H _ I h) λv s1 ⟨x,H1,I1,r1,q1⟩=>?_)
 obtain⟨c,rfl,q1⟩:=q1
 cases r1
 refine wpAny_truthy_bool ?_
 cases c with
 |true=>exact hb pZ s1 σ H1 Q I1 q1
 |false=>exact⟨.bl false,H1,I1,rfl,q1⟩
def Pn (t:TT) (ta tb:TE):TE:=λσ H Q=>t σ H λc H1=>if c=true then ta σ H1 Q else tb σ H1 Q
def Dr (hc:PT X c tA) (ha:PE X a ta) (hb:PE X b tb):PE X (.IfExp c a b pos) (Pn tA ta tb):=by
 intro pZ s σ H Q I h
 refine wpAny_IfExp (bq (hc pZ s σ H _ I h) λd s1 ⟨H1,I1,q1⟩=>?_)
 cases d with
 |true=>exact ha pZ s1 σ H1 Q I1 q1
 |false=>exact hb pZ s1 σ H1 Q I1 q1
end
end L2
namespace L2
open PySem PySem.Spec PyProof.Rows
def bU (K:Frag) (H:Hp) (a:Addr) (xs:List V):Prop:=
 Rd H a (.lst xs)\/
  ∃ (o:Obj) (aC:Array Value) (n:Nat),K.lookup a=some o/\o.cls= .type "list"/\o.dict=none/\o.data= .seq aC n/\aC.size<=sizeLine/\Vals xs aC.toList
def dh (K:Frag) (H:Hp) (a:Addr) (xs:List V):Prop:=
 Rd H a (.tup xs)\/
  ∃ (o:Obj) (aC:Array Value) (n:Nat),K.lookup a=some o/\o.cls= .type "tuple"/\o.data= .seq aC n/\aC.size<=sizeLine/\Vals xs aC.toList
noncomputable def O6:Value->Option V
 | .none=>some .aD
 | .bool b=>some (.bl b)
 | .int i _=>some (.int i)
 | .str x _=>some (.str x)
 | .bytes b _=>some (.Nn b)
 | .float b _=>some (.OU b)
 | .ref a=>some (.ref a)
 | .type n=>some (.ty n)
 |_=>none
def RelV.abs (r:RelV x u):O6 u=some x:=by
 cases x with
 |aD=>cases r;rfl
 |bl _=>cases r;rfl
 |int _=>obtain⟨t,rfl⟩:=r;rfl
 |str _=>obtain⟨t,rfl⟩:=r;rfl
 |Nn _=>obtain⟨t,rfl⟩:=r;rfl
 |OU _=>obtain⟨t,rfl⟩:=r;rfl
 |ref _=>cases r;rfl
 |ty _=>cases r;rfl
def RelV.inj (r:RelV x u) (q:RelV y u):x=y:=Qz (r.abs.symm.trans q.abs)
theorem Vals.inj: ∀ {xs ys:List V} {us:List Value},Vals xs us->Vals ys us->xs=ys
 |_,_,_,.nil,.nil=>rfl
 |_,_,_,.cons r t,.cons r' t'=>by rw[r.inj r',Vals.inj t t']
section
variable {X:Cx} {pZ:List (Addr×Obj)} {σ:St} {H:Hp} {s:Shared} {a:Addr} {xs ys:List V}
def bU.of {K:Frag} (h:H a=some (.lst xs)):bU K H a xs:=.inl (.inl h)
def dh.of {K:Frag} (h:H a=some (.tup xs)):dh K H a xs:=.inl (.inl h)
def Inv.list (I:Inv X pZ σ H s) (h:bU X.K H a xs): ∃ aC:List Value,Vals xs aC/\PlainL s.heap a aC.toArray/\xs.length<=sizeLine:=by
 rcases h with h|⟨o,aC,n,hk,hc,hd,hs,hz,r⟩
 ·obtain⟨z,aC,n,r,e⟩:=h.ok I.a9
  exact⟨aC,r,⟨_,n,e,rfl,rfl,rfl⟩,z⟩
 ·refine⟨aC.toList,r,⟨o,n,I.L4 a o hk,hc,hd,by simpa using hs⟩,?_⟩
  have e:=r.length
  simp only[Qj] at e
  lia
def Inv.tuple (I:Inv X pZ σ H s) (h:dh X.K H a xs): ∃ aC:List Value,Vals xs aC/\IsTup s.heap a aC.toArray/\xs.length<=sizeLine:=by
 rcases h with h|⟨o,aC,n,hk,hc,hs,hz,r⟩
 ·obtain⟨z,aC,r,p⟩:=h.ok I.a9
  exact⟨aC,r,p,z⟩
 ·refine⟨aC.toList,r,⟨o,I.L4 a o hk,hc,n,by simpa using hs⟩,?_⟩
  have e:=r.length
  simp only[Qj] at e
  lia
def Inv.vX (I:Inv X pZ σ H s) (h:bU X.K H a xs) (h':bU X.K H a ys):xs=ys:=by
 obtain⟨aC,r,⟨o,n,e,_,_,d⟩,_⟩:=I.list h
 obtain⟨bc,r',⟨o',n',e',_,_,d'⟩,_⟩:=I.list h'
 rw[e] at e';cases e'
 rw[d] at d'
 injection d' with d1 _
 have:aC=bc:=by simpa using congrArg Array.toList d1
 subst this
 exact r.inj r'
def Inv.qZ (I:Inv X pZ σ H s) (h:dh X.K H a xs) (h':dh X.K H a ys):xs=ys:=by
 obtain⟨aC,r,⟨o,e,_,n,d⟩,_⟩:=I.tuple h
 obtain⟨bc,r',⟨o',e',_,n',d'⟩,_⟩:=I.tuple h'
 rw[e] at e';cases e'
 rw[d] at d'
 injection d' with d1 _
 have:aC=bc:=by simpa using congrArg Array.toList d1
 subst this
 exact r.inj r'
end
abbrev Cx.oH (X:Cx) (E:Value->Shared->Prop):Cx:={X with xe:=E}
abbrev Cx.rH (X:Cx):Cx:=X.oH λ_ _=>False
def Cx.Ok.oH {X:Cx} (ok:X.Ok) (E:Value->Shared->Prop):(X.oH E).Ok:=
 ⟨ok.mod,ok.kind,ok.glob,ok.blt,ok.above,ok.inj,ok.has,ok.L6,ok.hd,ok.frames,ok.Mt,ok.OW,ok.bs,ok.Fw,ok.By,ok.Eo,ok.mK,ok.IT⟩
def Cx.Ok.gK {X:Cx} (ok:(X.oH E).Ok):X.Ok:=
 ⟨ok.mod,ok.kind,ok.glob,ok.blt,ok.above,ok.inj,ok.has,ok.L6,ok.hd,ok.frames,ok.Mt,ok.OW,ok.bs,ok.Fw,ok.By,ok.Eo,ok.mK,ok.IT⟩
section
variable {X:Cx} {pZ:List (Addr×Obj)} {σ:St} {H:Hp} {s:Shared} {E:Value->Shared->Prop}
theorem Inv.oH (I:Inv X pZ σ H s) (E:Value->Shared->Prop):Inv (X.oH E) pZ σ H s:=⟨I.ok.oH E,I.os,I.bare,I.base,I.loc,I.cell,I.free,I.jD,I.pin,I.a9,I.len⟩
theorem Inv.gK (I:Inv (X.oH E) pZ σ H s):Inv X pZ σ H s:=⟨I.ok.gK,I.os,I.bare,I.base,I.loc,I.cell,I.free,I.jD,I.pin,I.a9,I.len⟩
theorem SP.gK (h:SP (X.oH E) pZ D f s'):SP X pZ D f s':=by
 cases f with
 |next=>obtain⟨σ',H',I,q⟩:=h;exact⟨σ',H',I.gK,q⟩
 |brk=>obtain⟨σ',H',I,q⟩:=h;exact⟨σ',H',I.gK,q⟩
 |cont=>obtain⟨σ',H',I,q⟩:=h;exact⟨σ',H',I.gK,q⟩
 |ret u=>obtain⟨v,σ',H',I,r,q⟩:=h;exact⟨v,σ',H',I.gK,r,q⟩
def PE.rH (h:PE X.rH e t):PE X e t:=λpZ s σ H Q I hw=>
 wpAny_mono (h pZ s σ H Q (I.oH _) hw) (λ_ _ ⟨v,H',I',r,q⟩=>⟨v,H',I'.gK,r,q⟩) λ_ _ z=>False.elim z
def xx.rH {st:List Stmt} {t:TS} (h:xx X.rH st t):xx X st t:=λpZ s σ H D I hw=>
 wpAny_mono (h pZ s σ H D (I.oH _) hw) (λ_ _ q=>q.gK) λ_ _ z=>False.elim z
end
section
variable {X:Cx} {st:Stmt} {rest:List Stmt} {t u:TS} {e:Expr} {te:TE} {pos:Pos}
def Mq:TS:=λD σ H=>D.nx σ H
def Oe (t u:TS):TS:=λD σ H=>t {D with nx:=u D} σ H
def tF:xx X [] Mq:=λ_ _ σ H _ I h=>wpAny_execs_nil ⟨σ,H,I,h⟩
def cq (h1:PS X st t) (h2:xx X rest u):xx X (st::rest) (Oe t u):=by
 intro pZ s σ H D I h
 refine wpAny_execs_cons (bq (h1 pZ s σ H {D with nx:=u D} I h) λf s1 q=>?_)
 cases f with
 |next=>
  obtain⟨σ',H',I',q⟩:=q
  exact h2 pZ s1 σ' H' D I' q
 |ret v=>exact q
 |brk=>exact q
 |cont=>exact q
def g9 (h1:PS X st t):xx X [st] t:=by
 intro pZ s σ H D I h
 refine wpAny_execs_cons (bq (h1 pZ s σ H D I h) λf s1 q=>?_)
 cases f with
 |next=>exact wpAny_execs_nil q
 |ret v=>exact q
 |brk=>exact q
 |cont=>exact q
def Inv.quiet (I:Inv X pZ σ H s):interactive X.env=false:=by simp[interactive,I.ok.kind]
def zz (te:TE):TS:=λD σ H=>te σ H λ_ H1=>D.nx σ H1
def Gp (he:PE X e te) (hs:swapsWith e none pos.line X.env=pure false:=by rfl):PS X (.Expr e pos) (zz te):=by
 intro pZ s σ H D I h
 exact wpAny_Expr_any (bq (he pZ s σ H _ I h) λv s1 ⟨x,H1,I1,r1,q1⟩=>⟨σ,H1,I1,q1⟩) I.quiet hs
def JA (te:TE):TS:=λD σ H=>te σ H D.rt
def tG (he:PE X e te):PS X (.Return (some e) pos) (JA te):=by
 intro pZ s σ H D I h
 exact wpAny_Return_some (bq (he pZ s σ H _ I h) λv s1 ⟨x,H1,I1,r1,q1⟩=>⟨x,σ,H1,I1,r1,q1⟩)
def JC (c:TT) (t u:TS):TS:=λD σ H=>c σ H λb H1=>if b=true then t D σ H1 else u D σ H1
def Df (hc:PT X c tc) (ha:xx X a t) (hb:xx X b u):PS X (.If c a b pos) (JC tc t u):=by
 intro pZ s σ H D I h
 refine wpAny_If (bq (hc pZ s σ H _ I h) λd s1 ⟨H1,I1,q1⟩=>?_)
 cases d with
 |true=>exact ha pZ s1 σ H1 D I1 q1
 |false=>exact hb pZ s1 σ H1 D I1 q1
end
abbrev TG:=V->St->Hp->(St->Hp->Prop)->Prop
abbrev HN:=List V->St->Hp->(St->Hp->Prop)->Prop
def PG (X:Cx) (target:Expr) (t:TG):Prop:=
 ∀ (pZ:List (Addr×Obj)) (s:Shared) (σ:St) (H:Hp) (v:V) (u:Value) (Q:St->Hp->Prop),Inv X pZ σ H s->RelV v u->t v σ H Q->
  wpAny (model X.prog X.w) X.A (assign target X.env u) (λ_ s'=> ∃ σ' H',Inv X pZ σ' H' s'/\Q σ' H') X.xe s
def NA (X:Cx) (ts:List Expr) (t:HN):Prop:=
 ∀ (pZ:List (Addr×Obj)) (s:Shared) (σ:St) (H:Hp) (vs:List V) (us:List Value) (Q:St->Hp->Prop),Inv X pZ σ H s->Vals vs us->t vs σ H Q->
  wpAny (model X.prog X.w) X.A (assignInOrder ((assignEach ts X.env).map (·.2)) us) (λ_ s'=> ∃ σ' H',Inv X pZ σ' H' s'/\Q σ' H') X.xe s
abbrev LI:=V->V->V->Hp->(Hp->Prop)->Prop
def LK (X:Cx) (t:LI):Prop:=
 ∀ (pZ:List (Addr×Obj)) (s:Shared) (σ:St) (H:Hp) (o i v:V) (ov iv u:Value) (Q:Hp->Prop),Inv X pZ σ H s->RelV o ov->RelV i iv->RelV v u->t o i v H Q->
  wpAny (model X.prog X.w) X.A (setItem ov iv u) (λ_ s'=> ∃ H',Inv X pZ σ H' s'/\Q H') X.xe s
section
variable {X:Cx} {pos:Pos}
def c7 (i:Nat):TG:=λv σ H Q=>Q (σ.set i (some v)) H
def oe (hN:X.N.Nodup) (hi:X.N[i]?=some x) (hx:Loc X.env.scope x) (hf:X.fn x=true\/X.env.scope.names.lookup x=some .local:=by first|exact .inl rfl|exact .inr rfl|assumption):PG X (.Name x pos) (c7 i):=by
 intro pZ s σ H v u Q I r h
 exact wpAny_assign_Name (ly I hN hi hx r (λs' I'=>⟨_,H,I',h⟩) hf)
def KZ:HN:=λvs σ H Q=>vs=[]/\Q σ H
def Eh (t:TG) (u:HN):HN:=λvs σ H Q=> ∃ v r,vs=v::r/\t v σ H λσ' H'=>u r σ' H' Q
def zX:NA X [] KZ:=by
 intro pZ s σ H vs us Q I r h
 obtain⟨e,h⟩:=h
 subst e
 cases r
 exact assignInOrder_nil ⟨σ,H,I,h⟩
def o7 (h1:PG X e t) (h2:NA X es u)
  (hs:(assignEach (e::es) X.env).map (·.2)=assign e X.env::(assignEach es X.env).map (·.2):=by rfl):NA X (e::es) (Eh t u):=by
 intro pZ s σ H vs us Q I r h
 obtain⟨v,vr,e1,h⟩:=h
 subst e1
 cases r with
 |cons r rr=>
  rw[hs]
  refine assignInOrder_cons (bq (h1 pZ s σ H _ _ _ I r h) λ_ s1 ⟨σ1,H1,I1,q1⟩=>?_)
  exact h2 pZ s1 σ1 H1 _ _ Q I1 rr q1
def yx (K:Frag) (n:Nat) (t:HN):TG:=λv σ H Q=> ∃ a xs,v= .ref a/\dh K H a xs/\xs.length=n/\t xs σ H Q
def Dn (hc:X.calm=true) (h:NA X es t)
  (hn:(assignEach es X.env).length=n:=by rfl) (hst:(assignEach es X.env).findIdx? (·.1)=none:=by rfl):PG X (.Tuple es k pos) (yx X.K n t):=by
 intro pZ s σ H v u Q I r hw
 obtain⟨a,xs,e1,hq,hl,hw⟩:=hw
 subst e1
 cases r
 obtain⟨aC,rv,ht,hz⟩:=I.tuple hq
 refine assign_Tuple_tuple (I.ok.hd hc) ht (by simp[hn,<-hl,rv.length]) hst λh' hx=>?_
 have I1:Inv X pZ σ H {s with heap:=h'}:=I.kept (t':=s.toks) λb o e=>hx b o (Qg (P2 e)) e
 exact h pZ _ σ H xs _ Q I1 (by simpa using rv) hw
def He (to ti:TE) (t:LI):TG:=λv σ H Q=>to σ H λo H1=>ti σ H1 λi H2=>t o i v H2 λH3=>Q σ H3
def tI (ho:PE X o to) (hi:PE X i ti) (hs:LK X t)
  (ha: ∀ v,assign (.Subscript o i pos) X.env v=(do
   let ov <-holding [v] (eval o X.env)
   let iv <-holding [v,ov] (eval i X.env)
   standAt pos
   holding [v,ov,iv] (setItem ov iv v)
   release [v,ov,iv] []):=by intro _;rfl):PG X (.Subscript o i pos) (He to ti t):=by
 intro pZ s σ H v u Q I r h
 rw[ha]
 refine Pz (wpAny_holding (bq (ho pZ s σ H _ I h) λov s1 ⟨x,H1,I1,r1,q1⟩=>?_))
 refine Pz (wpAny_holding (bq (hi pZ s1 σ H1 _ I1 q1) λiv s2 ⟨y,H2,I2,r2,q2⟩=>?_))
 refine Pz (wpAny_standAt (Pz (wpAny_holding (bq (hs pZ s2 σ H2 x y v ov iv u _ I2 r1 r2 r q2) λ_ s3 ⟨H3,I3,q3⟩=>?_))))
 exact wpAny_release ⟨σ,H3,I3,q3⟩
def gL (te:TE) (g:TG):TS:=λD σ H=>te σ H λx H1=>g x σ H1 D.nx
def ya (he:PE X e te) (hg:PG X tg g) (hs:swapsWithSole [tg] e pos.line X.env=pure false:=by rfl) (hw:swappedStores [tg] e X.env=pure none:=by rfl)
  (h1:(assignEach [tg] X.env).map (·.2)=[assign tg X.env]:=by rfl):PS X (.Assign [tg] e pos) (gL te g):=by
 intro pZ s σ H D I h
 refine wpAny_Assign_stores (bq (he pZ s σ H _ I h) λv s1 ⟨x,H1,I1,r1,q1⟩=>?_) hs hw
 rw[h1]
 exact bq (hg pZ s1 σ H1 x v _ I1 r1 q1) λ_ s2 q=>q
def jl (hN:X.N.Nodup) (hi:X.N[i]?=some x) (hx:Loc X.env.scope x) (he:PE X e te) (hs:swapsWith e (some (.Name x pos')) pos.line X.env=pure false:=by rfl) (hf:X.fn x=true\/X.env.scope.names.lookup x=some .local:=by first|exact .inl rfl|exact .inr rfl|assumption):
  PS X (.Assign [.Name x pos'] e pos) (gL te (c7 i)):=by
 intro pZ s σ H D I h
 refine wpAny_Assign_Name (bq (he pZ s σ H _ I h) λv s1 ⟨y,H1,I1,r1,q1⟩=>?_) hs
 exact ly I1 hN hi hx r1 (λs2 I2=>⟨_,H1,I2,q1⟩) hf
def JB (i j:Nat) (ta:TA):TS:=λD σ H=>ta σ H λvs H1=> ∃ v w,vs=[v,w]/\D.nx ((σ.set i (some v)).set j (some w)) H1
def JZ {kt k2 pt2} (hc:X.calm=true) (hN:X.N.Nodup) (hi:X.N[i]?=some x) (hj:X.N[j]?=some y) (hij:i≠j)
  (hx:X.env.scope.names.lookup x=some .local) (hy:X.env.scope.names.lookup y=some .local) (ha:PA X [a,b] ta)
  (hw:swappedStores [.Tuple [.Name x px,.Name y py] kt pt] (.Tuple [a,b] k2 pt2) X.env=pure (some [x,y]))
  (hs:swapsWithSole [.Tuple [.Name x px,.Name y py] kt pt] (.Tuple [a,b] k2 pt2) pos.line X.env=pure false:=by rfl):
  PS X (.Assign [.Tuple [.Name x px,.Name y py] kt pt] (.Tuple [a,b] k2 pt2) pos) (JB i j ta):=by
 intro pZ s σ H D I h
 rw[exec_Assign_arm]
 refine Pz (wpAny_standAt ?_)
 rw[hs]
 refine Pz (PJ ?_)
 rw[Qw (by decide)]
 refine Pz (Tuple_ (bq (ha _ pZ s σ H _ I h) λus s1 ⟨vs,H1,I1,r1,q1⟩=>?_))
 obtain⟨v,w,e1,q1⟩:=q1
 subst e1
 obtain⟨u1,u2,rfl,rv,rw'⟩: ∃ u1 u2,us=[u1,u2]/\RelV v u1/\RelV w u2:=by
  cases r1 with
  |cons p q=>
   cases q with
   |cons p' q'=>
    cases q'
    exact⟨_,_,rfl,p,p'⟩
 refine wpAny_newObj_type ?_ (by show 2<=sizeLine;decide)
 have I2:Inv X pZ σ H1 {s1 with heap:=s1.heap.push {cls:=.type "tuple",data:=.seq [u1,u2].toArray}}:=I1.kept (t':=s1.toks) λb o e=>PF _ e
 rw[hw]
 refine Pz (PJ ?_)
 show wpAny (model X.prog X.w) X.A (do rule "assign.swapped-stores";let items <-unpackItems (.ref s1.heap.objs.size) 2 none;assignInOrder [λv=>bindName X.env y v,λv=>bindName X.env x v] items.reverse;pure Flow.next) _ _ _
 refine Pz (wpAny_rule (Pz (unpackItems_tuple (items:= #[u1,u2]) (I.ok.hd hc) (IsTup.new s1.heap _) λh' hx'=>?_)))
 have I3:=I2.kept (h':=h') (t':=s1.toks) λb o e=>hx' b o (Qg (P2 e)) e
 show wpAny _ _ (assignInOrder [λv=>bindName X.env y v,λv=>bindName X.env x v] [u2,u1] >>= λ_=>pure Flow.next) _ _ _
 refine Pz (assignInOrder_cons (wpAny_bindName (ly I3 hN hj (.inl hy) rw' (λs2 I4=>?_) (.inr hy))))
 refine assignInOrder_cons (wpAny_bindName (ly I4 hN hi (.inl hx) rv (λs3 I5=>assignInOrder_nil (PJ ?_)) (.inr hx)))
 rw[List.set_comm _ _ (Ne.symm hij)] at I5
 exact⟨_,H1,I5,q1⟩
end
section
variable {X:Cx} {pos:Pos}
noncomputable def xJ (c:TT) (tb:TS):TS:=λD σ H=> ∃ W:Nat->St->Hp->Prop,(∃ m,W m σ H)/\∀ m σ H,W m σ H->
 c σ H λb H1=>if b=true then ∃ N:St->Hp->Prop,(∀ σ' H',N σ' H'->∃ m',m' < m/\W m' σ' H')/\tb {D with nx:=N,ct:=N,bk:=D.nx} σ H1 else D.nx σ H1
def De (hp:PassesOwn (model X.prog X.w) X.A X.env X.xe) (hc:PT X c tc) (hb:xx X body tb):PS X (.While c body [] pos) (xJ tc tb):=by
 intro pZ s σ H D I h
 obtain⟨W,⟨m0,w0⟩,turn⟩:=h
 refine wpAny_While (codeAny_whileLoop (λn s'=> ∃ σ' H',Inv X pZ σ' H' s'/\W n σ' H') ?_ m0 ⟨σ,H,I,w0⟩)
 rintro n s1 ⟨σ1,H1,I1,w1⟩
 refine wpAny_passesOwn hp (bq (hc pZ s1 σ1 H1 _ I1 (turn n σ1 H1 w1)) λb s2 ⟨H2,I2,q2⟩=>?_)
 cases b with
 |true=>
  obtain⟨N,hN,q2⟩:=q2
  rw[Qv rfl]
  refine wpAny_passesOwn hp (bq (hb pZ s2 σ1 H2 _ I2 q2) λf s3 q3=>?_)
  cases f with
  |next=>
   obtain⟨σ3,H3,I3,n3⟩:=q3
   obtain⟨m',hm,w3⟩:=hN σ3 H3 n3
   exact⟨m',hm,σ3,H3,I3,w3⟩
  |cont=>
   obtain⟨σ3,H3,I3,n3⟩:=q3
   obtain⟨m',hm,w3⟩:=hN σ3 H3 n3
   exact⟨m',hm,σ3,H3,I3,w3⟩
  |brk=>exact q3
  |ret v=>exact q3
 |false=>
  rw[Qw Bool.false_ne_true]
  exact wpAny_execs_nil ⟨σ1,H2,I2,q2⟩
end
structure It where
 go:Nat->Hp->Prop
 Ci:Nat->Hp->V->Hp->Prop
 stop:Nat->Hp->Prop
def cW (X:Cx) (pZ:List (Addr×Obj)) (H:Hp) (b:Addr):Prop:=
 H b=none/\b≠X.env.locals/\b∉X.fs/\(b∈X.ex\/X.s₀.heap.objs.size<=b)/\(∀ x c,X.env.cells.lookup x=some c->c≠b)/\∀ p∈X.pn++pZ,p.1≠b
def Inv.pQ (I:Inv X pZ σ H s) (hb:s.heap.objs.size<=b) (hn:H' b=none):cW X pZ H' b:=by
 refine⟨hn,Nat.ne_of_gt (P9 I.lt hb),I.Ow hb,.inr (P7 I.sz hb),λx c e z=>?_,λp hp z=>?_⟩
 ·obtain⟨v,q⟩:=I.cell x c e
  exact absurd (P9 q.lt (by rw[z];exact hb)) (Nat.lt_irrefl _)
 ·exact absurd (P9 (P2 (I.pin p hp).1) (by rw[z];exact hb)) (Nat.lt_irrefl _)
structure Turn (P:Program) (w:World) (K:Frag) (tg:Expr) (J:It) (fp:List Addr) (it:Addr) (tn:Nat->Heap->Prop):Prop where
 mem:it∈fp
 obj: ∀ i h,tn i h->∀ b∈fp,∃ o,h.get? b=some o/\∀ v,o.data≠.cell v
 keep: ∀ i h h',tn i h->(∀ b∈fp,∀ o,h.get? b=some o->h'.get? b=some o)->tn i h'
 item: ∀ (X:Cx),X.prog=P->X.w=w->X.K=K->X.calm=true->∀ (i:Nat) (pZ:List (Addr×Obj)) (s:Shared) (σ:St) (H:Hp) (E:Value->Shared->Prop),Inv X pZ σ H s->(∀ b∈fp,cW X pZ H b)->tn i s.heap->J.go i H->
  wpAny (model P w) X.A (pyNext (.ref it)) (λr s1=> ∃ u,r=some u/\
   wpAny (model P w) X.A (letOwnedTupleGo tg (.ref it) u) (λ_ s2=> ∃ x H',Inv X pZ σ H' s2/\RelV x u/\J.Ci i H x H'/\tn (i+1) s2.heap/\∀ b∈fp,H' b=none) E s1) E s
 done: ∀ (X:Cx),X.prog=P->X.w=w->X.K=K->X.calm=true->∀ (i:Nat) (pZ:List (Addr×Obj)) (s:Shared) (σ:St) (H:Hp) (E:Value->Shared->Prop),Inv X pZ σ H s->(∀ b∈fp,cW X pZ H b)->tn i s.heap->J.stop i H->
  wpAny (model P w) X.A (pyNext (.ref it)) (λr s1=>r=none/\Inv X pZ σ H s1) E s
 self: ∀ (A:Around) (i:Nat) (s:Shared) (Q:Value->Shared->Prop) (E:Value->Shared->Prop),tn i s.heap->Q (.ref it) s->wpAny (model P w) A (pyIter (.ref it)) Q E s
abbrev TI:=St->Hp->(It->Hp->Prop)->Prop
def Nz (X:Cx) (pZ:List (Addr×Obj)) (σ:St) (tg:Expr) (R:It->Hp->Prop) (itv:Value) (s2:Shared):Prop:=
 ∃ (it:Addr) (fp:List Addr) (tn:Nat->Heap->Prop) (J:It) (H':Hp),itv= .ref it/\Inv X pZ σ H' s2/\Turn X.prog X.w X.K tg J fp it tn/\tn 0 s2.heap/\(∀ b∈fp,cW X pZ H' b)/\R J H'
def PI (X:Cx) (tg iter:Expr) (wi:TI):Prop:=
 ∀ (pZ:List (Addr×Obj)) (s:Shared) (σ:St) (H:Hp) (R:It->Hp->Prop),Inv X pZ σ H s->wi σ H R->
  wpAny (model X.prog X.w) X.A (eval iter X.env) (λv s1=>wpAny (model X.prog X.w) X.A (pyIter v) (Nz X pZ σ tg R) X.xe s1) X.xe s
def rV (ho : s.heap.get? it = some o) (hc : o.cls = .type n) (hd : o.data = .fields vs)
    (hn : ["enumerate", "zip", "dict_itemiterator", "dict_reverseitemiterator", "odict_iterator", "itertools.zip_longest", "itertools.pairwise"].contains n = false) (hQ : Q () s): wpAny M A (letOwnedTupleGo tg (.ref it) u) Q E s := by
  unfold letOwnedTupleGo
  cases tg <;> first
    | exact PJ hQ
    | (cases u <;> first
        | exact PJ hQ
        | (refine Pz (wpAny_load ho ?_)
           rw [hc, hd]
           show wpAny M A (if (["enumerate", "zip", "dict_itemiterator", "dict_reverseitemiterator", "odict_iterator", "itertools.zip_longest", "itertools.pairwise"].contains n && vs[0]? == some (rawInt _)) = true then _ else _) Q E s
           rw [Qw (by intro h; rw [hn, Bool.false_and] at h; cases h)]
           exact PJ hQ))
def N3 (K:Frag) (a:Addr):It:=
 ⟨λi H=> ∃ xs x,bU K H a xs/\xs[i]?=some x,λi H x H'=>H'=H/\∀ xs,bU K H a xs->xs[i]?=some x,λi H=> ∃ xs,bU K H a xs/\xs.length<=i⟩
def N2 (K:Frag) (a:Addr):It:=
 ⟨λi H=> ∃ xs x,dh K H a xs/\xs[i]?=some x,λi H x H'=>H'=H/\∀ xs,dh K H a xs->xs[i]?=some x,λi H=> ∃ xs,dh K H a xs/\xs.length<=i⟩
def NH (lo:Int) (n:Nat):It:=⟨λi _=>i < n,λi H x H'=>H'=H/\x= .int (lo+i),λi _=>n<=i⟩
def A3 {P:Program} {w:World} {K:Frag} {tg:Expr} (a it:Addr):Turn P w K tg (N3 K a) [it] it (λi h=>h.IsListIter it a i) where
 mem:=by simp
 obj:=λi h st b hb=>by
  have e:b=it:=by simpa using hb
  subst e
  obtain⟨o,e,c,d⟩:=st
  exact⟨o,e,λv z=>by rw[d] at z;cases z⟩
 keep:=λi h h' st k=>st.at λo e=>k it (by simp) o e
 item:=by
  intro X hP hw hK hc i pZ s σ H E I hf st hg
  subst hP hw hK
  obtain⟨xs,x,hq,hx⟩:=hg
  obtain⟨aC,rv,p,hz⟩:=I.list hq
  obtain⟨u,hu,ru⟩:=rv.get hx
  obtain⟨f0,f1,f2,f3,f4,f5⟩:=hf it (by simp)
  refine wpAny_pyNext_list_item st p.isList (x:=u) (by simpa using hu) λh' st' sb=>?_
  have I1:Inv X pZ σ H {s with heap:=h'}:=I.turned (t':=s.toks) (λb o hb e=>(sb.2 b hb).trans e) f0 f1 f3 f4 f5
  obtain⟨o,e,c,d⟩:=id st'
  exact⟨u,rfl,rV (s:={s with heap:=h'}) e c d (by decide) ⟨x,H,I1,ru,⟨rfl,λys hy=>by rw[I.vX hy hq];exact hx⟩,st',λb hb=>(hf b hb).1⟩⟩
 done:=by
  intro X hP hw hK hc i pZ s σ H E I hf st hg
  subst hP hw hK
  obtain⟨xs,hq,hx⟩:=hg
  obtain⟨aC,rv,p,hz⟩:=I.list hq
  obtain⟨f0,f1,f2,f3,f4,f5⟩:=hf it (by simp)
  have hl:=rv.length
  exact wpAny_pyNext_list_end (I.ok.hd hc) st p.isList (by simp;lia) λh' eb=>⟨rfl,I.turned (t':=s.toks) (λb o hb e=>eb b o hb e) f0 f1 f3 f4 f5⟩
 self:=λ_ _ _ _ _ st h=>wpAny_pyIter_listiter st h
def xC {P:Program} {w:World} {K:Frag} {tg:Expr} (a it:Addr):Turn P w K tg (N2 K a) [it] it (λi h=>h.IsTupleIter it a i) where
 mem:=by simp
 obj:=λi h st b hb=>by
  have e:b=it:=by simpa using hb
  subst e
  obtain⟨o,e,c,d⟩:=st
  exact⟨o,e,λv z=>by rw[d] at z;cases z⟩
 keep:=λi h h' st k=>st.at λo e=>k it (by simp) o e
 item:=by
  intro X hP hw hK hc i pZ s σ H E I hf st hg
  subst hP hw hK
  obtain⟨xs,x,hq,hx⟩:=hg
  obtain⟨aC,rv,p,hz⟩:=I.tuple hq
  obtain⟨u,hu,ru⟩:=rv.get hx
  obtain⟨f0,f1,f2,f3,f4,f5⟩:=hf it (by simp)
  refine wpAny_pyNext_tuple_item st (show s.heap.IsTuple a aC.toArray from p) (x:=u) (by simpa using hu) λh' st' sb=>?_
  have I1:Inv X pZ σ H {s with heap:=h'}:=I.turned (t':=s.toks) (λb o hb e=>(sb.2 b hb).trans e) f0 f1 f3 f4 f5
  obtain⟨o,e,c,d⟩:=id st'
  exact⟨u,rfl,rV (s:={s with heap:=h'}) e c d (by decide) ⟨x,H,I1,ru,⟨rfl,λys hy=>by rw[I.qZ hy hq];exact hx⟩,st',λb hb=>(hf b hb).1⟩⟩
 done:=by
  intro X hP hw hK hc i pZ s σ H E I hf st hg
  subst hP hw hK
  obtain⟨xs,hq,hx⟩:=hg
  obtain⟨aC,rv,p,hz⟩:=I.tuple hq
  obtain⟨f0,f1,f2,f3,f4,f5⟩:=hf it (by simp)
  have hl:=rv.length
  exact wpAny_pyNext_tuple_end (I.ok.hd hc) st (show s.heap.IsTuple a aC.toArray from p) (by simp;lia) λh' eb=>⟨rfl,I.turned (t':=s.toks) (λb o hb e=>eb b o hb e) f0 f1 f3 f4 f5⟩
 self:=λ_ _ _ _ _ st h=>wpAny_pyIter_tupleiter st h
def xD {P:Program} {w:World} {K:Frag} {tg:Expr} (it:Addr) (lo:Int) (n:Nat):Turn P w K tg (NH lo n) [it] it (λi h=>IsRangeIter h it (lo+(i:Nat) * 1) ((n:Int) - (i:Nat)) 1) where
 mem:=by simp
 obj:=λi h st b hb=>by
  have e:b=it:=by simpa using hb
  subst e
  exact⟨_,st,λv z=>by
   have z':Data.fields _=Data.cell v:=z
   cases z'⟩
 keep:=λi h h' st k=>k it (by simp) _ st
 item:=by
  intro X hP hw hK hc i pZ s σ H E I hf st hg
  subst hP hw hK
  obtain⟨f0,f1,f2,f3,f4,f5⟩:=hf it (by simp)
  have W:=Walks.range (prog:=X.prog) (w:=X.w) (I.ok.hd hc) it lo 1 n
  refine W.item i s _ _ hg st λv h' tk hv st' kk=>?_
  obtain⟨t,rfl⟩:=hv
  have I1:Inv X pZ σ H {s with heap:=h',toks:=tk}:=I.turned (λb o hb e=>kk b o (by simpa using hb) e) f0 f1 f3 f4 f5
  refine⟨_,rfl,rV (s:={s with heap:=h',toks:=tk}) (n:="range_iterator") st' rfl rfl (by decide) ⟨.int (lo+i),H,I1,⟨t,?_⟩,⟨rfl,rfl⟩,st',λb hb=>(hf b hb).1⟩⟩
  rw[Int.mul_one]
 done:=by
  intro X hP hw hK hc i pZ s σ H E I hf st hg
  subst hP hw hK
  obtain⟨f0,f1,f2,f3,f4,f5⟩:=hf it (by simp)
  exact wpAny_pyNext_range_end (I.ok.hd hc) st (by have:n<=i:=hg;lia) λh' eb=>⟨rfl,I.turned (t':=s.toks) (λb o hb e=>eb b o hb e) f0 f1 f3 f4 f5⟩
 self:=λ_ _ _ _ _ st h=>wpAny_pyIter_rangeiter st h
end L2
namespace L2
open PySem PySem.Spec PyProof.Rows
section
variable {X:Cx} {tg:Expr}
def vw {R:It->Hp->Prop} {lo hi:Int} {t u v:Tok} {tk:Nat} (I:Inv X pZ σ H s) (h1: -(2 ^ 62)<=lo) (h2:lo < 2 ^ 62) (h3: -(2 ^ 62)<=hi) (h4:hi < 2 ^ 62)
  (q:R (NH lo (hi - lo).toNat) H):wpAny (model X.prog X.w) X.A (pyIter (.ref s.heap.objs.size)) (Nz X pZ σ tg R) E {s with heap:=s.heap.push {cls:=.type "range",data:=.fields #[.int lo t,.int hi u,.int 1 v]},toks:=tk}:=by
 refine wpAny_pyIter_range (IsRange.new ..) (small_one h1 h2 h3 h4) ?_
 have I1:Inv X pZ σ H {s with heap:=s.heap.push {cls:=.type "range",data:=.fields #[.int lo t,.int hi u,.int 1 v]},toks:=tk}:=I.kept λb o e=>PF _ e
 refine⟨(s.heap.push {cls:=.type "range",data:=.fields #[.int lo t,.int hi u,.int 1 v]}).objs.size,[(s.heap.push {cls:=.type "range",data:=.fields #[.int lo t,.int hi u,.int 1 v]}).objs.size],_,_,H,rfl,
  I1.kept (t':=tk) λb o e=>PF _ e,xD _ lo (hi - lo).toNat,?_,λb hb=>?_,q⟩
 ·have e1:lo+((0:Nat):Int) * 1=lo:=by simp
  have e2:(((hi - lo).toNat:Nat):Int) - ((0:Nat):Int)=Builtin.Range.rangeSize lo hi 1:=by rw[rangeSize_one];split<;>lia
  show IsRangeIter _ _ (lo+((0:Nat):Int) * 1) ((((hi - lo).toNat:Nat):Int) - ((0:Nat):Int)) 1
  rw[e1,e2]
  exact PZ _ rfl
 ·have e:b=(s.heap.push {cls:=.type "range",data:=.fields #[.int lo t,.int hi u,.int 1 v]}).objs.size:=by simpa using hb
  subst e
  exact I1.pQ (PM _) (I1.a9.fresh (PM _))
def D8 (ta:TA):TI:=λσ H R=>ta σ H λvs H1=> ∃ j:Int,vs=[.int j]/\-(2 ^ 62)<=j/\j < 2 ^ 62/\R (NH 0 j.toNat) H1
def D7 (ta:TA):TI:=λσ H R=>ta σ H λvs H1=> ∃ i j:Int,vs=[.int i,.int j]/\(-(2 ^ 62)<=i/\i < 2 ^ 62/\-(2 ^ 62)<=j/\j < 2 ^ 62)/\R (NH i (j - i).toNat) H1
def Bm {a:Expr} {p:Pos} (hg:Gl X "range") (hm:X.mg "range"=none) (ha:PA X [a] ta) (hs:starEach [a] X.env=[(false,eval a X.env)]:=by rfl):PI X tg (.Call (.Name "range" p) [a] [] pos) (D8 ta):=by
 intro pZ s σ H R I h
 refine Call_ (iq I hg hm boot_range (PyProof.Rows.callWith_type1 (bq (ha pos pZ s σ H _ I h) λus s1 ⟨vs,H1,I1,r1,q1⟩=>?_) hs rfl))
 obtain⟨j,e,q1,q2,q⟩:=q1
 subst e
 cases r1 with
 |cons r rr=>
  cases rr
  obtain⟨t,rfl⟩:=r
  exact call_range_1 (vw I1 (by lia) (by lia) q1 q2 (by simpa using q))
def Bl (hg:Gl X "range") (hm:X.mg "range"=none) (ha:PA X [a,b] ta) (hs:starEach [a,b] X.env=[(false,eval a X.env),(false,eval b X.env)]:=by rfl) (hs2:starEach [b] X.env=[(false,eval b X.env)]:=by rfl):
  PI X tg (.Call (.Name "range" p) [a,b] [] pos) (D7 ta):=by
 intro pZ s σ H R I h
 refine Call_ (iq I hg hm boot_range (PyProof.Rows.callWith_type1 (bq (ha pos pZ s σ H _ I h) λus s1 ⟨vs,H1,I1,r1,q1⟩=>?_) (by rw[hs,hs2]) (by rw[hs2];rfl)))
 obtain⟨i,j,e,⟨q1,q2,q3,q4⟩,q⟩:=q1
 subst e
 cases r1 with
 |cons r rr=>
  cases rr with
  |cons r' rr=>
   cases rr
   obtain⟨t,rfl⟩:=r
   obtain⟨t',rfl⟩:=r'
   exact call_range_2 (vw I1 q1 q2 q3 q4 q)
noncomputable def A6 (wi:TI) (g:TG) (tb:TS):TS:=λD σ H=>wi σ H λJ H1=> ∃ W:Nat->Nat->St->Hp->Prop,(∃ m,W 0 m σ H1)/\∀ i m σ H,W i m σ H->
 (J.stop i H/\D.nx σ H)\/(J.go i H/\∃ N:St->Hp->Prop,(∀ σ' H',N σ' H'->∃ m',m' < m/\W (i+1) m' σ' H')/\∀ x H',J.Ci i H x H'->g x σ H' λσ2 H2=>tb {D with nx:=N,ct:=N,bk:=D.nx} σ2 H2)
def mq (fp:List Addr) (h:Heap):List (Addr×Obj):=fp.filterMap λb=>(h.get? b).map λo=>(b,o)
def dX (hb:b∈fp) (e:h.get? b=some o):(b,o)∈mq fp h:=List.mem_filterMap.mpr ⟨b,hb,by rw[e];rfl⟩
def Bw (hp:p∈mq fp h):p.1∈fp/\h.get? p.1=some p.2:=by
 obtain⟨b,hb,e⟩:=List.mem_filterMap.mp hp
 cases q:h.get? b with
 |none=>rw[q] at e;cases e
 |some o=>
  rw[q] at e
  have e':(b,o)=p:=Qz e
  subst e'
  exact⟨hb,q⟩
def Inv.pinned (I:Inv X pZ σ H s) (hf: ∀ b∈fp,cW X pZ H b) (ho: ∀ b∈fp,∃ o,s.heap.get? b=some o/\∀ v,o.data≠.cell v):Inv X (pZ++mq fp s.heap) σ H s:=
 I.j3 λp hp=>(Qu.mp hp).elim (λz=>I.pin p (P5 _ z)) λz=>by
  obtain⟨hb,e⟩:=Bw z
  obtain⟨f0,f1,f2,_⟩:=hf p.1 hb
  obtain⟨o,e',d⟩:=ho p.1 hb
  rw[e] at e';cases e'
  exact⟨e,f0,f1,f2,d⟩
def Inv.i6 (I:Inv X (pZ++pl) σ H s):Inv X pZ σ H s:=I.j3 λp hp=>I.pin p (P5 _ (List.mem_append_left _ hp))
def tH (hp:PassesOwn (model X.prog X.w) X.A X.env X.xe) (hc:X.calm=true) (hi:PI X tg iter wi) (hg:PG X tg g) (hb:xx X body tb)
  (hs: ∀ x,foldedSetIterable iter X.env x=pure x:=by intro _;rfl):PS X (.For tg iter body [] pos) (A6 wi g tb):=by
 intro pZ s σ H D I h
 refine wpAny_For (bq (hi pZ s σ H _ I h) λv s1 h1=>bq h1 λitv s2 h2=>?_) hs
 obtain⟨it,fp,tn,J,H2,e,I2,T,st2,f2,W,⟨m0,w0⟩,turn⟩:=h2
 subst e
 have oN: ∀ {H':Hp},(∀ b∈fp,H' b=none)->∀ b∈fp,cW X pZ H' b:=λhn b hb=>⟨hn b hb,(f2 b hb).2⟩
 refine codeAny_forLoop_any (λn s'=> ∃ i σ' H',Inv X pZ σ' H' s'/\tn i s'.heap/\(∀ b∈fp,H' b=none)/\W i n σ' H') ?_ m0 ⟨0,σ,H2,I2,st2,λb hb=>(f2 b hb).1,w0⟩
 rintro n s3 ⟨i,σ3,H3,I3,st3,fr3,w3⟩
 rcases turn i n σ3 H3 w3 with⟨stop,qn⟩|⟨go,N,hN,step⟩
 ·refine wpAny_passesOwn hp (bq (T.done X rfl rfl rfl hc i pZ s3 σ3 H3 X.xe I3 (oN fr3) st3 stop) λr s4 ⟨hr,I4⟩=>?_)
  subst hr
  exact wpAny_execs_nil ⟨σ3,H3,I4,qn⟩
 ·refine wpAny_passesOwn hp (bq (T.item X rfl rfl rfl hc i pZ s3 σ3 H3 X.xe I3 (oN fr3) st3 go) λr s4 ⟨u,hr,h4⟩=>?_)
  subst hr
  refine wpAny_passesOwn hp (bq h4 λ_ s5 ⟨x,H5,I5,r5,y5,st5,fr5⟩=>?_)
  have I5':=I5.pinned (oN fr5) (T.obj _ _ st5)
  refine wpAny_passesOwn hp (bq (hg _ s5 σ3 H5 x u _ I5' r5 (step x H5 y5)) λ_ s6 ⟨σ6,H6,I6,q6⟩=>?_)
  refine wpAny_passesOwn hp (bq (hb _ s6 σ6 H6 _ I6 q6) λf s7 q7=>?_)
  have again: ∀ {σ7:St} {H7:Hp},Inv X (pZ++mq fp s5.heap) σ7 H7 s7->N σ7 H7->∃ m,m < n/\∃ i σ' H',Inv X pZ σ' H' s7/\tn i s7.heap/\(∀ b∈fp,H' b=none)/\W i m σ' H':=λ{σ7 H7} I7 n7=>by
   obtain⟨m',hm,w7⟩:=hN σ7 H7 n7
   refine⟨m',hm,i+1,σ7,H7,I7.i6,T.keep _ _ _ st5 λb hb o e=>(I7.pin (b,o) (P5 _ (P5 _ (dX hb e)))).1,λb hb=>?_,w7⟩
   obtain⟨o,e,d⟩:=T.obj _ _ st5 b hb
   exact(I7.pin (b,o) (P5 _ (P5 _ (dX hb e)))).2.1
  cases f with
  |next=>obtain⟨σ7,H7,I7,n7⟩:=q7;exact again I7 n7
  |cont=>obtain⟨σ7,H7,I7,n7⟩:=q7;exact again I7 n7
  |brk=>obtain⟨σ7,H7,I7,q7⟩:=q7;exact⟨σ7,H7,I7.i6,q7⟩
  |ret v=>obtain⟨x7,σ7,H7,I7,r7,q7⟩:=q7;exact⟨x7,σ7,H7,I7.i6,r7,q7⟩
end
end L2
namespace L2
open PySem PySem.Spec PyProof.Rows
abbrev R2:=V->V->Hp->VK->Prop
def dS (X:Cx) (f:Value->Value->Sem Value) (r:R2):Prop:=
 ∀ (pZ:List (Addr×Obj)) (s:Shared) (σ:St) (H:Hp) (x y:V) (v u:Value) (Q:VK),Inv X pZ σ H s->RelV x v->RelV y u->r x y H Q->
  wpAny (model X.prog X.w) X.A (f v u) (EP X pZ σ Q) X.xe s
def N0 (X:Cx) (f:Value->Sem Value) (r:V->Hp->VK->Prop):Prop:=
 ∀ (pZ:List (Addr×Obj)) (s:Shared) (σ:St) (H:Hp) (x:V) (v:Value) (Q:VK),Inv X pZ σ H s->RelV x v->r x H Q->
  wpAny (model X.prog X.w) X.A (f v) (EP X pZ σ Q) X.xe s
def fL (X:Cx) (f:Value) (r:List V->Hp->VK->Prop):Prop:=
 ∀ (pZ:List (Addr×Obj)) (s:Shared) (σ:St) (H:Hp) (xs:List V) (us:List Value) (Q:VK),Inv X pZ σ H s->Vals xs us->r xs H Q->
  wpAny (model X.prog X.w) X.A (call f us) (EP X pZ σ Q) X.xe s
def FI (r:R2) (ta tb:TE):TE:=λσ H Q=>ta σ H λx H1=>tb σ H1 λy H2=>r x y H2 Q
def Oc (r:V->Hp->VK->Prop) (ta:TE):TE:=λσ H Q=>ta σ H λx H1=>r x H1 Q
def rI (C:Int->Int->Prop) (g:Int->Int->V):R2:=λx y H Q=> ∃ i j,x= .int i/\y= .int j/\C i j/\Q (g i j) H
def x8 (g:Int->Int->V):R2:=λx y H Q=> ∃ i j,x= .int i/\y= .int j/\Q (g i j) H
def rU (g:Int->V):V->Hp->VK->Prop:=λx H Q=> ∃ i,x= .int i/\Q (g i) H
section
variable {X:Cx} {a b c:Expr} {ta tb tc:TE} {pos:Pos}
def Lx (ha:PE X a ta) (hb:PE X b tb) {R:V->V->Hp->Prop} (I:Inv X pZ σ H s)
  (h:ta σ H λx H1=>tb σ H1 λy H2=>R x y H2) {f:Value->Value->Sem Value}
  (hf: ∀ v u s2 x y H2,Inv X pZ σ H2 s2->RelV x v->RelV y u->R x y H2->wpAny (model X.prog X.w) X.A (f v u) Q X.xe s2):
  wpAny (model X.prog X.w) X.A (eval a X.env) (λv s₁=>wpAny (model X.prog X.w) X.A (eval b X.env) (λu s₂=>wpAny (model X.prog X.w) X.A (f v u) Q X.xe s₂) X.xe s₁) X.xe s:=by
 refine bq (ha pZ s σ H _ I h) λv s1 ⟨x,H1,I1,r1,q1⟩=>?_
 refine bq (hb pZ s1 σ H1 _ I1 q1) λu s2 ⟨y,H2,I2,r2,q2⟩=>?_
 exact hf v u s2 x y H2 I2 r1 r2 q2
def bG (ho:dS X (binaryOp op) r) (ha:PE X a ta) (hb:PE X b tb):PE X (.BinOp a op b pos) (FI r ta tb):=by
 intro pZ s σ H Q I h
 exact wpAny_BinOp (Lx ha hb I h λv u s2 x y H2 I2 rx ry q=>ho pZ s2 σ H2 x y v u Q I2 rx ry q)
def MM (ho:N0 X (unaryOp op) r) (ha:PE X a ta):PE X (.UnaryOp op a pos) (Oc r ta):=by
 intro pZ s σ H Q I h
 exact UnaryOp_ (bq (ha pZ s σ H _ I h) λv s1 ⟨x,H1,I1,r1,q1⟩=>ho pZ s1 σ H1 x v Q I1 r1 q1)
def L0 {f:Value->Value->Sem Value} {C:Int->Int->Prop} {g:Int->Int->Int}
  (rule: ∀ (i j:Int) (t u:Tok) (s:Shared) (Q:Value->Shared->Prop) (E:Value->Shared->Prop),C i j->Q (.int (g i j) s.toks) {s with toks:=s.toks+1}->wpAny (model X.prog X.w) X.A (f (.int i t) (.int j u)) Q E s):
  dS X f (rI C λi j=>.int (g i j)):=by
 intro pZ s σ H x y v u Q I rx ry h
 obtain⟨i,j,rfl,rfl,hc,q⟩:=h
 obtain⟨t,rfl⟩:=rx
 obtain⟨t',rfl⟩:=ry
 exact rule i j t t' s _ _ hc ⟨.int (g i j),H,I.tok _,⟨_,rfl⟩,q⟩
def MU {f:Value->Value->Sem Value} {g:Int->Int->Int}
  (rule: ∀ (i j:Int) (t u:Tok) (s:Shared) (Q:Value->Shared->Prop) (E:Value->Shared->Prop),Q (.int (g i j) s.toks) {s with toks:=s.toks+1}->wpAny (model X.prog X.w) X.A (f (.int i t) (.int j u)) Q E s):
  dS X f (x8 λi j=>.int (g i j)):=by
 intro pZ s σ H x y v u Q I rx ry h
 obtain⟨i,j,rfl,rfl,q⟩:=h
 obtain⟨t,rfl⟩:=rx
 obtain⟨t',rfl⟩:=ry
 exact rule i j t t' s _ _ ⟨.int (g i j),H,I.tok _,⟨_,rfl⟩,q⟩
def GJ {f:Value->Value->Sem Value} {g:Int->Int->Bool}
  (rule: ∀ (i j:Int) (t u:Tok) (s:Shared) (Q:Value->Shared->Prop) (E:Value->Shared->Prop),Q (.bool (g i j)) s->wpAny (model X.prog X.w) X.A (f (.int i t) (.int j u)) Q E s):
  dS X f (x8 λi j=>.bl (g i j)):=by
 intro pZ s σ H x y v u Q I rx ry h
 obtain⟨i,j,rfl,rfl,q⟩:=h
 obtain⟨t,rfl⟩:=rx
 obtain⟨t',rfl⟩:=ry
 exact rule i j t t' s _ _ ⟨.bl (g i j),H,I,rfl,q⟩
def LS (i j:Int):Prop:=0 < j/\j < 1073741824
def Fp (i j:Int):Prop:=0<=j/\j<=1000000/\i.natAbs < 2 ^ 64
def mW (i j:Int):Prop:=(-(2 ^ 64) < i/\i < 2 ^ 64)\/(-(2 ^ 64) < j/\j < 2 ^ 64)
def mW.ok (h:mW i j):IntMulOk i j:=by
 rcases h with⟨h1,h2⟩|⟨h1,h2⟩
 ·exact .of_left (intBits_le_64 h1 h2)
 ·exact .of_right (intBits_le_64 h1 h2)
def hZ:dS X (binaryOp .Add) (x8 λi j=>.int (i+j)):=MU λ_ _ _ _ _ _ _ q=>add_int q
def Ke:dS X (binaryOp .Sub) (x8 λi j=>.int (i - j)):=MU λ_ _ _ _ _ _ _ q=>sub_int q
def my:dS X (binaryOp .Mult) (rI mW λi j=>.int (i * j)):=L0 λ_ _ _ _ _ _ _ hc q=>mul_int q hc.ok
def tR:dS X (binaryOp .FloorDiv) (rI LS λi j=>.int (i / j)):=L0 λi j _ _ _ _ _ hc q=>by
 have h1:(0:Int) < j:=hc.1
 have h2:j < 1073741824:=hc.2
 exact floordiv_int (by lia) (by rw[Int.fdiv_eq_ediv_of_nonneg i (by lia)];exact q) (.inl (PyProof.noPylong_small (by lia)))
def hV:dS X (binaryOp .Mod) (rI (λ_ j=>0 < j) λi j=>.int (i % j)):=L0 λi j _ _ _ _ _ hc q=>by
 have h1:(0:Int) < j:=hc
 exact mod_int' (by lia) (by rw[Int.fmod_eq_emod_of_nonneg i (by lia)];exact q)
def Kg:dS X (binaryOp .Pow) (rI Fp λi j=>.int (i ^ j.toNat)):=L0 λ_ _ _ _ _ _ _ hc q=>pow_int_small hc.1 hc.2.1 hc.2.2 q
def Pk {f:Value->Sem Value} {g:Int->Int}
  (rule: ∀ (i:Int) (t:Tok) (s:Shared) (Q:Value->Shared->Prop) (E:Value->Shared->Prop),Q (.int (g i) s.toks) {s with toks:=s.toks+1}->wpAny (model X.prog X.w) X.A (f (.int i t)) Q E s):
  N0 X f (rU λi=>.int (g i)):=by
 intro pZ s σ H x v Q I rx h
 obtain⟨i,rfl,q⟩:=h
 obtain⟨t,rfl⟩:=rx
 exact rule i t s _ _ ⟨.int (g i),H,I.tok _,⟨_,rfl⟩,q⟩
def Jt:N0 X (unaryOp .USub) (rU λi=>.int (-i)):=Pk λ_ _ _ _ _ q=>neg_int q
end
section
variable {X:Cx} {a b c:Expr} {ta tb tc:TE} {pos:Pos}
def jE (I:Inv X pZ σ H s) (q:Q (.bl k) H) (e:k=k'):EP X pZ σ Q (.bool k') s:=by
 subst e
 exact⟨.bl k,H,I,rfl,q⟩
def Ag:dS X (compareOp .Lt) (x8 λi j=>.bl (decide (i < j))):=GJ λ_ _ _ _ _ _ _ q=>lt_int q
def MT:dS X (compareOp .LtE) (x8 λi j=>.bl (decide (i<=j))):=GJ λ_ _ _ _ _ _ _ q=>le_int q
def DE:dS X (compareOp .Gt) (x8 λi j=>.bl (decide (j < i))):=GJ λ_ _ _ _ _ _ _ q=>gt_int q
def DF:dS X (compareOp .GtE) (x8 λi j=>.bl (decide (j<=i))):=GJ λ_ _ _ _ _ _ _ q=>ge_int q
def Bu:dS X (compareOp .In) (λx y H Q=> ∃ i j,x= .str i/\y= .str j/\Q (.bl (!(Builtin.Str.occurrences j i 0 j.length 1).isEmpty)) H):=by
 intro pZ s σ H x y v u Q I rx ry h
 obtain⟨i,j,rfl,rfl,q⟩:=h
 obtain⟨t,rfl⟩:=rx
 obtain⟨t',rfl⟩:=ry
 exact in_str (jE I q rfl)
def DC:dS X (compareOp .Is) (λx y H Q=>y= .aD/\Q (.bl (decide (x= .aD))) H):=by
 intro pZ s σ H x y v u Q I rx ry h
 obtain⟨rfl,q⟩:=h
 cases ry
 refine is_none_gen (jE I q ?_)
 cases x<;>first
  |(cases rx;rfl)
  |(obtain⟨t,rfl⟩:=rx;rfl)
def Af:dS X (compareOp .IsNot) (λx y H Q=>y= .aD/\Q (.bl (!decide (x= .aD))) H):=by
 intro pZ s σ H x y v u Q I rx ry h
 obtain⟨rfl,q⟩:=h
 cases ry
 refine isnot_none_gen (jE I q ?_)
 cases x<;>first
  |(cases rx;rfl)
  |(obtain⟨t,rfl⟩:=rx;rfl)
def dS.or (h:dS X f r) (h':dS X f r'):dS X f (λx y H Q=>r x y H Q\/r' x y H Q):=by
 intro pZ s σ H x y v u Q I rx ry q
 rcases q with q|q
 ·exact h pZ s σ H x y v u Q I rx ry q
 ·exact h' pZ s σ H x y v u Q I rx ry q
def fq (b:Expr) (h:op≠.In:=by decide) (h2:op≠.NotIn:=by decide):behindInMarks op b=false:=by
 have e1:(op==CmpOp.In)=false:=by cases op<;>first|rfl|exact absurd rfl h
 have e2:(op==CmpOp.NotIn)=false:=by cases op<;>first|rfl|exact absurd rfl h2
 cases b<;>simp[behindInMarks,e1,e2]
def Gw (ho:dS X (compareOp op) r) (ha:PE X a ta) (hb:PE X b tb) (hm:behindInMarks op b=false):PE X (.Compare a [op] [b] pos) (FI r ta tb):=by
 intro pZ s σ H Q I h
 exact wpAny_Compare1 (Lx ha hb I h λv u s2 x y H2 I2 rx ry q=>ho pZ s2 σ H2 x y v u Q I2 rx ry q) hm
def Ip (t:TE):TT:=λσ H Q=>t σ H λx H'=> ∃ k,x= .bl k/\Q k H'
def n6 (ho:dS X (compareOp op) r) (ha:PE X a ta) (hb:PE X b tb) (hm:behindInMarks op b=false):PT X (.Compare a [op] [b] pos) (Ip (FI r ta tb)):=by
 intro pZ s σ H Q I h
 refine wpAny_isTrue_Compare1 (bq (ha pZ s σ H _ I h) λv s1 ⟨x,H1,I1,r1,q1⟩=>bq (hb pZ s1 σ H1 _ I1 q1) λu s2 ⟨y,H2,I2,r2,q2⟩=>
  bq (ho pZ s2 σ H2 x y v u _ I2 r1 r2 q2) λc s3 ⟨z,H3,I3,r3,k,e,q3⟩=>?_) hm
 subst e
 cases r3
 exact wpAny_truthy_bool ⟨H3,I3,q3⟩
noncomputable def xM (r r':R2) (ta tb tc:TE):TE:=λσ H Q=>ta σ H λx H1=>tb σ H1 λy H2=>r x y H2 λz H3=> ∃ k,z= .bl k/\
 (if k=true then tc σ H3 λw' H4=>r' y w' H4 Q else Q (.bl false) H3)
def Dt (ho:dS X (compareOp op) r) (ho':dS X (compareOp op') r') (ha:PE X a ta) (hb:PE X b tb) (hc:PE X c tc)
  (hm:lastMarks [op,op'] [b,c]=false:=by with_unfolding_all rfl):PE X (.Compare a [op,op'] [b,c] pos) (xM r r' ta tb tc):=by
 intro pZ s σ H Q I h
 refine Compare_chain (bq (ha pZ s σ H _ I h) λv s1 ⟨x,H1,I1,r1,q1⟩=>chain_link (bq (hb pZ s1 σ H1 _ I1 q1) λu s2 ⟨y,H2,I2,r2,q2⟩=>
  bq (ho pZ s2 σ H2 x y v u _ I2 r1 r2 q2) λd s3 ⟨z,H3,I3,r3,k,e,q3⟩=>?_)) hm
 subst e
 cases r3
 refine wpAny_truthy_bool ?_
 cases k with
 |false=>exact ite_ff ⟨.bl false,H3,I3,rfl,q3⟩
 |true=>exact ite_tt (chain_last (bq (hc pZ s3 σ H3 _ I3 q3) λw' s4 ⟨z',H4,I4,r4,q4⟩=>ho' pZ s4 σ H4 y z' u w' Q I4 r2 r4 q4))
def Dd (ho:dS X (compareOp op) r) (ho':dS X (compareOp op') r') (ha:PE X a ta) (hb:PE X b tb) (hc:PE X c tc)
  (hm:lastMarks [op,op'] [b,c]=false:=by with_unfolding_all rfl):PT X (.Compare a [op,op'] [b,c] pos) (Ip (xM r r' ta tb tc)):=by
 intro pZ s σ H Q I h
 refine isTrue_chain (bq (ha pZ s σ H _ I h) λv s1 ⟨x,H1,I1,r1,q1⟩=>test_link (bq (hb pZ s1 σ H1 _ I1 q1) λu s2 ⟨y,H2,I2,r2,q2⟩=>
  bq (ho pZ s2 σ H2 x y v u _ I2 r1 r2 q2) λd s3 ⟨z,H3,I3,r3,k,e,q3⟩=>?_)) hm
 subst e
 cases r3
 refine wpAny_truthy_bool ?_
 cases k with
 |false=>
  obtain⟨k',e',q'⟩:=q3
  cases e'
  exact ite_ff ⟨H3,I3,q'⟩
 |true=>
  refine ite_tt (test_last (bq (hc pZ s3 σ H3 _ I3 q3) λw' s4 ⟨z',H4,I4,r4,q4⟩=>bq (ho' pZ s4 σ H4 y z' u w' _ I4 r2 r4 q4) λd' s5 ⟨z2,H5,I5,r5,k2,e2,q5⟩=>?_))
  subst e2
  cases r5
  exact wpAny_truthy_bool ⟨H5,I5,q5⟩
def pk:(sizeLine:Nat) < 2 ^ 63:=by rw[Qm];decide
def yg:dS X (binaryOp .Add) (λx y H Q=> ∃ i j,x= .str i/\y= .str j/\i.length+j.length<=sizeLine/\Q (.str (i++j)) H):=by
 intro pZ s σ H x y v u Q I rx ry h
 obtain⟨i,j,rfl,rfl,hz,q⟩:=h
 obtain⟨t,rfl⟩:=rx
 obtain⟨t',rfl⟩:=ry
 exact add_str (λt' tk=>⟨.str (i++j),H,I.tok _,⟨_,rfl⟩,q⟩) hz
def vals1 (r:Vals [x] us): ∃ u,us=[u]/\RelV x u:=by
 cases r with
 |cons r1 r2=>cases r2;exact⟨_,rfl,r1⟩
def vals2 (r:Vals [x,y] us): ∃ u w',us=[u,w']/\RelV x u/\RelV y w':=by
 cases r with
 |cons r1 r2=>
  cases r2 with
  |cons r3 r4=>cases r4;exact⟨_,_,rfl,r1,r3⟩
def ET:fL X (.builtin "abs") (λxs H Q=> ∃ i,xs=[.int i]/\Q (.int (if i < 0 then -i else i)) H):=by
 intro pZ s σ H xs us Q I r h
 obtain⟨i,rfl,q⟩:=h
 obtain⟨u,rfl,t,rfl⟩:=vals1 r
 exact call_abs_int λu tk=>⟨.int (if i < 0 then -i else i),H,I.tok _,⟨_,rfl⟩,q⟩
def B7 (hc:X.calm=true):fL X (.builtin "max") (λxs H Q=> ∃ i j,xs=[.int i,.int j]/\Q (.int (if j > i then j else i)) H):=by
 intro pZ s σ H xs us Q I r h
 obtain⟨i,j,rfl,q⟩:=h
 obtain⟨u,w',rfl,⟨t,rfl⟩,⟨t',rfl⟩⟩:=vals2 r
 refine max_two_ints (I.ok.hd hc) λh' tk k=>⟨_,H,I.kept k,?_,q⟩
 by_cases hj:j > i
 ·rw[Qv hj,Qv hj];exact⟨_,rfl⟩
 ·rw[Qw hj,Qw hj];exact⟨_,rfl⟩
def sk (hc:X.calm=true):fL X (.builtin "min") (λxs H Q=> ∃ i j,xs=[.int i,.int j]/\Q (.int (if j < i then j else i)) H):=by
 intro pZ s σ H xs us Q I r h
 obtain⟨i,j,rfl,q⟩:=h
 obtain⟨u,w',rfl,⟨t,rfl⟩,⟨t',rfl⟩⟩:=vals2 r
 refine min_two_ints (I.ok.hd hc) λh' tk k=>⟨_,H,I.kept k,?_,q⟩
 by_cases hj:j < i
 ·rw[Qv hj,Qv hj];exact⟨_,rfl⟩
 ·rw[Qw hj,Qw hj];exact⟨_,rfl⟩
def B8:fL X (.type "int") (λxs H Q=>(∃ i,xs=[.int i]/\Q (.int i) H)\/∃ k,xs=[.bl k]/\Q (.int (if k then 1 else 0)) H):=by
 intro pZ s σ H xs us Q I r h
 rcases h with⟨i,rfl,q⟩|⟨k,rfl,q⟩
 ·obtain⟨u,rfl,t,rfl⟩:=vals1 r
  exact call_int_int ⟨.int i,H,I,⟨_,rfl⟩,q⟩
 ·obtain⟨u,rfl,r1⟩:=vals1 r
  cases r1
  exact call_int_bool ⟨.int (if k then 1 else 0),H,I.tok _,⟨_,rfl⟩,q⟩
def NG (K:Frag) (x:V) (H:Hp) (n:Nat):Prop:=
 match x with
 | .str y=>y.length<=sizeLine/\n=y.length
 | .Nn y=>y.size<=sizeLine/\n=y.size
 | .ref p=>(∃ xs,bU K H p xs/\n=xs.length)\/∃ xs,dh K H p xs/\n=xs.length
 |_=>False
def EO:fL X (.builtin "len") (λxs H Q=> ∃ x n,xs=[x]/\NG X.K x H n/\Q (.int n) H):=by
 intro pZ s σ H xs us Q I r h
 obtain⟨x,n,rfl,e,q⟩:=h
 obtain⟨u,rfl,rx⟩:=vals1 r
 have hl:=pk
 have hs:sizeLine=16777216:=Qm
 cases x with
 |str y=>
  obtain⟨t,rfl⟩:=rx
  obtain⟨hy,e'⟩:y.length<=sizeLine/\n=y.length:=e
  subst e'
  exact len_str (by lia) ⟨.int _,H,I.tok _,⟨_,rfl⟩,q⟩
 |Nn y=>
  obtain⟨t,rfl⟩:=rx
  obtain⟨hy,e'⟩:y.size<=sizeLine/\n=y.size:=e
  subst e'
  exact PySem.W.len_bytes (by lia) ⟨.int _,H,I.tok _,⟨_,rfl⟩,q⟩
 |ref p=>
  cases rx
  have e':(∃ xs,bU X.K H p xs/\n=xs.length)\/∃ xs,dh X.K H p xs/\n=xs.length:=e
  rcases e' with⟨xs,hx,e'⟩|⟨xs,hx,e'⟩
  ·subst e'
   obtain⟨aC,r',pl,hz⟩:=I.list hx
   have hlen:=r'.length
   exact Calls.call_len_list pl.isList (by simp only[PK];lia) ⟨.int xs.length,H,I.tok _,⟨_,by simp only[PK];rw[hlen]⟩,q⟩
  ·subst e'
   obtain⟨aC,r',pl,hz⟩:=I.tuple hx
   have hlen:=r'.length
   exact len_tuple pl (by simp only[PK];lia) ⟨.int xs.length,H,I.tok _,⟨_,by simp only[PK];rw[hlen]⟩,q⟩
 |_=>exact(show False from e).elim
end
end L2
namespace L2
open PySem PySem.Spec PyProof.Rows
def qT.some_of (r:qT (some v) o): ∃ u,o=some u/\RelV v u:=by
 cases o with
 |none=>exact(show False from r).elim
 |some u=>exact⟨u,rfl,r⟩
end L2
namespace L2
open PySem PySem.Spec PyProof.Rows
structure cM (k:Nat) (A:Around):Prop where
 hd:A.handled=none
 dp:A.depth+3 * k+5 < recursionLimit
 un:A.units+16 * k+200 < cLine
 gd:A.guards=some []
def cM.mono (r:cM k A) (h:j<=k):cM j A:=⟨r.hd,by have:=r.dp;lia,by have:=r.un;lia,r.gd⟩
def cM.deeper (r:cM (k+1) A) (env:Env):cM k (A.deeper env):=
 ⟨r.hd,by have:=r.dp;show A.depth+1+3 * k+5 < _;lia,by have:=r.un;show A.units+3+16 * k+200 < _;lia,r.gd⟩
theorem cM.in1 (r:cM (k+1) A):cM k A.in1:=
 ⟨r.hd,by have:=r.dp;show A.depth+3 * k+5 < _;lia,by have:=r.un;show A.units+1+16 * k+200 < _;lia,by first|exact r.gd|(simp[Around.in1,r.gd])⟩
def cM.depth (r:cM k A):A.depth < recursionLimit:=by have:=r.dp;lia
def cM.units (r:cM k A):A.units+64 < cLine:=by have:=r.un;lia
def xK:TA:=λ_ H Q=>Q [] H
def lu (ta:TE) (tr:TA):TA:=λσ H Q=>ta σ H λx H1=>tr σ H1 λxs H2=>Q (x::xs) H2
section
variable {X:Cx} {e:Expr} {es:List Expr} {te:TE} {t:TA} {pos:Pos}
def eL:PA X [] xK:=λ_ _ _ _ H Q I h=>Calls.spliced_nil ⟨[],H,I,.nil,h⟩
def cD (ha:PE X e te) (hr:PA X es t) (hs:starEach (e::es) X.env=(false,eval e X.env)::starEach es X.env:=by rfl):PA X (e::es) (lu te t):=by
 intro pos pZ s σ H Q I h
 rw[hs]
 show wpAny _ _ (spliced ((false,eval e X.env)::backTo pos (starEach es X.env))) _ _ s
 refine Calls.spliced_cons (bq (ha pZ s σ H _ I h) λu s1 ⟨x,H1,I1,r1,q1⟩=>?_)
 exact bq (hr pos pZ s1 σ H1 _ I1 q1) λus s2 ⟨xs,H2,I2,r2,q2⟩=>⟨x::xs,H2,I2,.cons r1 r2,q2⟩
def Mm (t:TA):TE:=λσ H Q=>t σ H λxs H1=>xs.length<=sizeLine/\∀ p,H1 p=none->Q (.ref p) (upd H1 p (.tup xs))
def Og (t:TA):TE:=λσ H Q=>t σ H λxs H1=>xs.length<=sizeLine/\∀ p,H1 p=none->Q (.ref p) (upd H1 p (.lst xs))
def yc {x1} (h:PA X es t):PE X (.Tuple es x1 pos) (Mm t):=by
 intro pZ s σ H Q I hq
 refine wpAny_Tuple_spliced (bq (h pos pZ s σ H _ I hq) λus s1 ⟨xs,H1,I1,r,z,q⟩=>⟨by rw[<-r.length];exact z,?_⟩)
 have hf:H1 s1.heap.objs.size=none:=I1.a9.fresh (PM _)
 refine⟨.ref s1.heap.objs.size,upd H1 s1.heap.objs.size (.tup xs),I1.laid (t':=s1.toks) (λb u e=>PF _ e) (PM _) ?_,rfl,q _ hf⟩
 exact⟨z,us,r,⟨_,PZ _ rfl,rfl,_,rfl⟩⟩
def yd (h:PA X es t):PE X (.List es pos) (Og t):=by
 intro pZ s σ H Q I hq
 refine wpAny_List_spliced (bq (h pos pZ s σ H _ I hq) λus s1 ⟨xs,H1,I1,r,z,q⟩=>⟨by rw[<-r.length];exact z,?_⟩)
 have hf:H1 s1.heap.objs.size=none:=I1.a9.fresh (PM _)
 refine⟨.ref s1.heap.objs.size,upd H1 s1.heap.objs.size (.lst xs),I1.laid (t':=s1.toks) (λb u e=>PF _ e) (PM _) ?_,rfl,q _ hf⟩
 exact⟨z,us,0,r,PZ _ rfl⟩
end
abbrev Sp:=List V->Hp->VK->XK->Prop
abbrev Fo:=List Env->Hp->Shared->XK->Value->Shared->Prop
structure Ce (P:Program) (w:World) (K:Frag) (mg:Str->Option Value) (base:Heap) (A:Around) (outer:List Env) (s:Shared) (H:Hp):Prop where
 frames:A.frames=some outer
 mod:Mod K mg base
 bs: ∀ b o,base.get? b=some o->s.heap.get? b=some o/\H b=none
 Fw:base.objs.size<=s.heap.objs.size
 mK:s.heap.FunFrames base outer
 IT: ∀ b∈Ek outer,H b=none
 a9:jU P w H s.heap
 bare:AllBare s.gens
def CE (outer:List Env) (P:Program) (w:World) (H:Hp) (s:Shared) (Q:VK) (u:Value) (s':Shared):Prop:=
 ∃ v H',s'.os=s.os/\AllBare s'.gens/\Un (Ek outer) [] H H' s.heap s'.heap/\jU P w H' s'.heap/\RelV v u/\Q v H'
def CR (CX:Fo) (outer:List Env) (P:Program) (w:World) (H:Hp) (s:Shared) (Q:VK) (E:XK) (r:Result) (s':Shared):Prop:=
 match r with
 | .ok (.ret u)=>CE outer P w H s Q u s'
 | .ok _=>False
 | .error e=>CX outer H s E e s'
structure di (P:Program) (w:World) (K:Frag) (mg:Str->Option Value) (base:Heap) (CX:Fo) (k:Nat) (f:Addr) (fd:FuncData) (ps:List Str) (sp:Sp):Prop where
 len: ∀ vs H Q E,sp vs H Q E->vs.length=ps.length
 run: ∀ (A:Around) (outer:List Env) (s:Shared) (H:Hp) (args:Args) (us:List Value) (vs:List V) (Q:VK) (E:XK),cM k A->Ce P w K mg base A outer s H->BindsTo s fd args (ps.zip us)->Vals vs us->sp vs H Q E->
  codeAny (model P w) A (.call (.ref f) args) (CR CX outer P w H s Q E) s
def di.imp {P:Program} {w:World} {K:Frag} {mg:Str->Option Value} {base:Heap} {CX:Fo} {k:Nat} {f:Addr} {fd:FuncData} {ps:List Str} {sp sp':Sp} (F:di P w K mg base CX k f fd ps sp)
  (h: ∀ vs H Q E,sp' vs H Q E->sp vs H Q E):di P w K mg base CX k f fd ps sp':=
 ⟨λvs H Q E q=>F.len vs H Q E (h _ _ _ _ q),λA outer s H args us vs Q E hr he hb hv hs=>F.run A outer s H args us vs Q E hr he hb hv (h _ _ _ _ hs)⟩
section
variable {X:Cx} {pZ:List (Addr×Obj)} {σ:St} {H:Hp} {s s':Shared}
def Inv.ui (I:Inv X pZ σ H s):Ce X.prog X.w X.K X.mg X.base X.A X.stack s H:=
 ⟨I.ok.frames,I.ok.mod,I.bs,P7 I.ok.Fw I.sz,I.stack,I.zB,I.a9,I.bare⟩
def Inv.after (I:Inv X pZ σ H s) (h:CE X.stack X.prog X.w H s Q u s'):EP X pZ σ Q u s':=by
 obtain⟨v,H',os,bare,un,a9,r,q⟩:=h
 obtain⟨hh,g,d,t,os'⟩:=s'
 obtain rfl:os'=s.os:=os
 exact⟨v,H',I.call (h':=hh) (g':=g) (d':=d) (t':=t) (ch:=[]) un a9 bare (λb z=>absurd z (by simp)),r,q⟩
end
def uX (sp:Sp) (dvs:List V) (E:XK) (t:TA):TE:=λσ H Q=>t σ H λvs H1=>sp (vs++dvs) H1 Q E
def Binds (K:Frag) (fd:FuncData) (ps:List Str) (ds:List Value):Prop:=
 ∀ (s:Shared) (us:List Value),K.In s.heap->(us++ds).length=ps.length->BindsTo s fd ⟨us,[]⟩ (ps.zip (us++ds))
def Binds.all {K:Frag} {fd:FuncData} {ps:List Str} (h: ∀ us:List Value,us.length=ps.length->bindArgs fd ⟨us,[]⟩=pure (ps.zip us)):Binds K fd ps []:=λs us _ hl=>by
 rw[List.append_nil] at hl ⊢
 exact .of_eq (h us hl)
def Passes (CX:Fo) (X:Cx) (E:XK):Prop:= ∀ (pZ:List (Addr×Obj)) (σ:St) (H:Hp) (s:Shared) (e:Value) (s':Shared),Inv X pZ σ H s->CX X.stack H s E e s'->X.xe e s'
section
variable {X:Cx} {CX:Fo} {k:Nat} {f C:Addr} {fd:FuncData} {ps:List Str} {sp:Sp} {dvs:List V} {ds:List Value} {E:XK} {x m:Str} {p pos apos:Pos} {e o:Expr} {es:List Expr} {ta:TE} {t:TA}
def JO (F:di X.prog X.w X.K X.mg X.base CX k f fd ps sp) (hr:cM k X.A) (hb:Binds X.K fd ps ds) (hd:Vals dvs ds) (hx:Passes CX X E)
  (I:Inv X pZ σ H s) (r:Vals vs us) (h:sp (vs++dvs) H Q E):wpAny (model X.prog X.w) X.A (call (.ref f) us) (EP X pZ σ Q) X.xe s:=by
 have r2:Vals (vs++dvs) (us++ds):=r.append hd
 have hl:(us++ds).length=ps.length:=by rw[<-r2.length];exact F.len _ _ _ _ h
 refine wpAny_call (codeAny_mono (F.run X.A X.stack s H ⟨us,[]⟩ (us++ds) (vs++dvs) Q E hr I.ui (hb s us I.L4 hl) r2 h) λr s' hq=>?_)
 cases r with
 |error e=>exact hx pZ σ H s e s' I hq
 |ok fl=>
  cases fl with
  |ret u=>exact I.after hq
  |next=>exact False.elim hq
  |brk=>exact False.elim hq
  |cont=>exact False.elim hq
def Gx (F:di X.prog X.w X.K X.mg X.base CX k f fd ps sp) (hr:cM k X.A) (hg:Gl X x) (hm:X.mg x=some (.ref f)) (hk:keepIn X.K (.ref f)=true) (hb:Binds X.K fd ps ds) (hd:Vals dvs ds) (hx:Passes CX X E)
  (ha:PA X (e::es) t) (nV:(x==("__debug__":Str))=false:=by decide) (he:starEach (e::es) X.env=(false,eval e X.env)::starEach es X.env:=by rfl) (ke:(backTo pos (starEach es X.env)).any (·.1)=false:=by rfl):
  PE X (.Call (.Name x p) (e::es) [] pos) (uX sp dvs E t):=by
 intro pZ s σ H Q I h
 refine wpAny_Call_Name_kw (G1 I hg hm ?_ nV)
 refine PySem.W.callWith_K (h₀:=X.base) I.ok.mod.OK hk (bq (ha pos pZ s σ H _ I h) λus s1 ⟨vs,H1,I1,r,q⟩=>⟨I1.L4,?_⟩) he ke
 exact JO F hr hb hd hx I1 r q
end
structure aB (N P:List Str) (sc:Scope):Prop where
 kind:sc.kind= .function
 co:sc.isCoroutine=false
 gen:sc.isGenerator=false
 nd:N.Nodup
 pre:N.take P.length=P
 par: ∀ x∈P,sc.names.lookup x=some .local\/sc.names.lookup x=some .cell
 Ko: ∀ y∈sc.names,y.2≠.free
theorem su {kindOf:Str->Option NameKind} {x:Str}: ∀ {binds:List (Str×Value)} {m:Str->Option Value},(∀ v,(x,v)∉binds)->bindL kindOf binds m x=m x
 |[],_,_=>rfl
 |(n,v)::r,m,h=>by
  unfold bindL
  rw[su λw hw=>h w (PH _ hw)]
  split
  ·have:x≠n:=by rintro rfl;exact h v PB
   simp[this]
  ·rfl
theorem sx {kindOf:Str->Option NameKind} {x:Str}: ∀ {binds:List (Str×Value)} {m:Str->Option Value},(∀ v,(x,v)∉binds)->bindC kindOf binds m x=m x
 |[],_,_=>rfl
 |(n,v)::r,m,h=>by
  unfold bindC
  rw[sx λw hw=>h w (PH _ hw)]
  split
  ·rfl
  ·have:x≠n:=by rintro rfl;exact h v PB
   simp[this]
theorem sv {kindOf:Str->Option NameKind}: ∀ {P:List Str} {vs:List Value} {i:Nat} {m:Str->Option Value},P.Nodup->P[i]?=some x->vs[i]?=some v->kindOf x=some .local->
  bindL kindOf (P.zip vs) m x=some v
 |[],_,_,_,_,h,_,_=>by simp at h
 |_::_,[],_,_,_,_,h,_=>by simp at h
 |p::P,w::vs,0,m,nd,h1,h2,hk=>by
  simp at h1 h2;subst h1;subst h2
  show bindL kindOf ((p,w)::P.zip vs) m p=_
  unfold bindL
  rw[su λv hv=>(List.nodup_cons.mp nd).1 (List.of_mem_zip hv).1,Qv hk]
  simp
 |p::P,w::vs,i+1,m,nd,h1,h2,hk=>by
  show bindL kindOf ((p,w)::P.zip vs) m x=_
  unfold bindL
  exact sv (i:=i) (List.nodup_cons.mp nd).2 (by simpa using h1) (by simpa using h2) hk
theorem sy {kindOf:Str->Option NameKind}: ∀ {P:List Str} {vs:List Value} {i:Nat} {m:Str->Option Value},P.Nodup->P[i]?=some x->vs[i]?=some v->kindOf x≠some .local->
  bindC kindOf (P.zip vs) m x=some v
 |[],_,_,_,_,h,_,_=>by simp at h
 |_::_,[],_,_,_,_,h,_=>by simp at h
 |p::P,w::vs,0,m,nd,h1,h2,hk=>by
  simp at h1 h2;subst h1;subst h2
  show bindC kindOf ((p,w)::P.zip vs) m p=_
  unfold bindC
  rw[sx λv hv=>(List.nodup_cons.mp nd).1 (List.of_mem_zip hv).1,Qw hk]
  simp
 |p::P,w::vs,i+1,m,nd,h1,h2,hk=>by
  show bindC kindOf ((p,w)::P.zip vs) m x=_
  unfold bindC
  exact sy (i:=i) (List.nodup_cons.mp nd).2 (by simpa using h1) (by simpa using h2) hk
def start (N:List Str) (vs:List V):St:=vs.map some++List.replicate (N.length - vs.length) none
noncomputable def gE (CX:Fo) (P:Program) (w:World) (K:Frag) (mg:Str->Option Value) (base:Heap) (N:List Str) (qual:Str) (scope:Scope) (f:Addr) (cd:Value) (A:Around) (outer:List Env) (s:Shared) (H:Hp) (E:XK):Cx where
 prog:=P
 w:=w
 K:=K
 mg:=mg
 base:=base
 A:=A.deeper (envOfC qual scope s.heap.objs.size f cd)
 N:=N
 s₀:=s
 H₀:=H
 env:=envOfC qual scope s.heap.objs.size f cd
 outer:=outer
 stack:=envOfC qual scope s.heap.objs.size f cd::outer
 ex:=[]
 calm:=true
 fn:=λ_=>true
 pn:=[]
 xe:=λe s'=>wpAny (model P w) (A.deeper (envOfC qual scope s.heap.objs.size f cd)) (leaving (envOfC qual scope s.heap.objs.size f cd) e) (λ_ s''=>CX outer H s E e s'') (λe' s''=>CX outer H s E e' s'') s'
def wR {sc:Scope} (h:sc.names.lookup x=some .cell): ∃ c,(cellsFrom n sc.names []).lookup x=some c:=by
 have q:=PySem.W.cellsFrom_some sc.names n [] (.inl h)
 exact Option.isSome_iff_exists.mp q
def rT {CX:Fo} {P:Program} {w:World} {K:Frag} {mg:Str->Option Value} {base:Heap} {N ps:List Str} {qual:Str} {scope:Scope} {f:Addr} {cd:Value} {A:Around} {outer:List Env} {s s1:Shared} {H:Hp} {E:XK} {us:List Value} {vs:List V}
  (S:aB N ps scope) (hd:A.handled=none) (e0:Ce P w K mg base A outer s H) (hl:vs.length=ps.length) (r:Vals vs us)
  (x:InCallC s s.heap.objs.size (bindL (envOfC qual scope s.heap.objs.size f cd).kindOf (ps.zip us) λ_=>none) (cellsFrom (s.heap.objs.size+1) scope.names []) (bindC (envOfC qual scope s.heap.objs.size f cd).kindOf (ps.zip us) λ_=>none) s1):
  Inv (gE CX P w K mg base N qual scope f cd A outer s H E) [] (start N vs) H s1:=by
 have ke:ps.length<=N.length:=by have:=congrArg List.length S.pre;rw[List.length_take] at this;lia
 obtain⟨h1,tk,rfl,hk⟩:=x.done
 have noA: ∀ b:Addr,b∉(gE CX P w K mg base N qual scope f cd A outer s H E).ex:=λb z=>absurd (show b∈([]:List Addr) from z) (by simp)
 refine⟨⟨e0.mod,S.kind,rfl,rfl,PM _,λy z c h1 h2=>?_,λy hy=>?_,λy c _ h=>?_,λ_=>hd,Around.frames_deeper e0.frames,.inr ⟨rfl,rfl⟩,λb z=>absurd z (noA b),e0.bs,e0.Fw,λb _ _=>noA b,λb z=>absurd z (noA b),e0.mK,e0.IT⟩,
  rfl,e0.bare,Un.kept hk,⟨_,x.toInCall.ns,λi y v h1 h2 h3=>?_⟩,λy c h=>⟨_,x.cell y c h⟩,e0.a9.fresh (PM _),λy c h=>?_,λp hp=>absurd (show p∈([]:List (Addr×Obj)) from hp) (by simp),e0.a9.kept hk,?_⟩
 ·exact name_of_addr x.apart (PySem.mem_of_lookup h1) (PySem.mem_of_lookup h2)
 ·have hy:scope.names.lookup y=some .cell\/scope.names.lookup y=some .free:=hy
  rcases hy with hy|hy
  ·exact wR hy
  ·exact absurd rfl (S.Ko _ (PySem.mem_of_lookup hy))
 ·exact Nat.le_of_lt (x.above y c (PySem.mem_of_lookup h))
 ·have hi:i < vs.length:=by
   unfold start at h2
   by_cases hi:i < vs.length
   ·exact hi
   ·rw[List.getElem?_append_right (by simpa using hi)] at h2
    rw[List.getElem?_replicate] at h2
    split at h2<;>cases h2
  have ha:vs[i]?=some v:=by
   unfold start at h2
   rw[Qn (by simpa using hi),P6] at h2
   cases e:vs[i]? with
   |none=>rw[e] at h2;cases h2
   |some a=>rw[e] at h2;cases h2;rfl
  obtain⟨u,hu,rv⟩:=r.get ha
  have hp:ps[i]?=some y:=by
   rw[<-S.pre,List.getElem?_take_of_lt (by lia)];exact h1
  have ndP:ps.Nodup:=by rw[<-S.pre];exact S.nd.sublist (List.take_sublist _ _)
  refine⟨u,rv,?_⟩
  rcases S.par y (List.mem_of_getElem? hp) with k|k
  ·exact .inl ⟨k,sv ndP hp hu k⟩
  ·obtain⟨c,e⟩:=wR (n:=s.heap.objs.size+1) k
   refine .inr ⟨.inl k,c,e,?_⟩
   have q:=x.cell y c e
   rw[sy ndP hp hu (by show scope.names.lookup y≠_;rw[k];decide)] at q
   exact q
 ·exact e0.a9.fresh (Nat.le_of_lt (x.above y c (PySem.mem_of_lookup h)))
 ·unfold start
  show _=N.length
  rw[Qc,PD,List.length_replicate]
  lia
def IW {CX:Fo} {P:Program} {w:World} {K:Frag} {mg:Str->Option Value} {base:Heap} {k:Nat} {f:Addr} {name qual:Str} {params:Arguments} {body:List Stmt} {scope:Scope} {dV kV doc pm eF ct oc:Value} {an od:Option Addr}
  {osl:Array (Option Value)} {N ps:List Str} {sp:Sp} (lk:K.lookup f=some ⟨oc,od,.func (fnOf name qual params body scope dV kV doc pm an eF ct),osl⟩) (hcd:codeIn K eF qual=true) (S:aB N ps scope)
  (len: ∀ vs H Q E,sp vs H Q E->vs.length=ps.length)
  (gB: ∀ (A:Around) (outer:List Env) (s:Shared) (H:Hp) (vs:List V) (Q:VK) (E:XK),cM k (A.deeper (envOfC qual scope s.heap.objs.size f eF))->sp vs H Q E->
   ∃ t,xx (gE CX P w K mg base N qual scope f eF A outer s H E) body t/\t {nx:=λ_ H'=>Q .aD H',rt:=Q} (start N vs) H):
  di P w K mg base CX (k+1) f (fnOf name qual params body scope dV kV doc pm an eF ct) ps sp:=by
 refine⟨len,λA outer s H args us vs Q E hr e0 hb r hsp=>?_⟩
 have hl:=len _ _ _ _ hsp
 have KX:K.In s.heap:=e0.mod.OK.keeps λb o e=>(e0.bs b o e).1
 have lim:s.heap.NoLimit:=e0.mod.nolimit.keeps λb o e=>(e0.bs b o e).1
 have hkind: ∀ y∈ps.zip us,scope.names.lookup y.1=some .local\/(scope.names.lookup y.1=some .cell/\((cellsFrom (s.heap.objs.size+1) scope.names []).lookup y.1).isSome=true):=λbu hy=>by
  obtain⟨n,v⟩:=bu
  rcases S.par n (List.of_mem_zip hy).1 with q|q
  ·exact .inl q
  ·exact .inr ⟨q,PySem.W.cellsFrom_some _ _ _ (.inl q)⟩
 refine codeAny_call_function hr.depth (KX _ _ lk) rfl S.co S.gen rfl (PySem.W.codeRec_of KX hcd) (hb _ _ _ _ ?_)
 refine wpAny_newFunctionEnv_cells S.kind hkind λenv he s1 x=>?_
 subst he
 refine⟨lim.keeps x.toInCall.keep,codeAny_func ?_⟩
 obtain⟨t,ht,hq⟩:=gB A outer s H vs Q E (hr.deeper _) hsp
 have I:Inv (gE CX P w K mg base N qual scope f eF A outer s H E) [] (start N vs) H s1:=rT S hr.hd e0 hl r x
 refine wpAny_mono (ht [] s1 (start N vs) H _ I hq) (λfl s' hs=>?_) λe s' hs=>hs
 have fin: ∀ {σ':St} {H':Hp} {v:V} {u:Value},Inv (gE CX P w K mg base N qual scope f eF A outer s H E) [] σ' H' s'->RelV v u->Q v H'->CE outer P w H s Q u s':=
  λ{σ' H' v u} J rv q=>⟨v,H',J.os,J.bare,J.base,J.a9,rv,q⟩
 cases fl with
 |ret u=>
  obtain⟨v,σ',H',J,rv,q⟩:=hs
  exact fin J rv q
 |next=>
  obtain⟨σ',H',J,q⟩:=hs
  exact fin (v:=V.aD) (u:=Value.none) J rfl q
 |brk=>
  obtain⟨_,_,_,q⟩:=hs
  exact False.elim q
 |cont=>
  obtain⟨_,_,_,q⟩:=hs
  exact False.elim q
end L2
namespace L2
open PySem PySem.Spec PyProof.Rows
section
variable {X:Cx} {x:Str} {p pos:Pos} {e:Expr} {es:List Expr} {t:TA} {id T:String} {r:List V->Hp->VK->Prop}
def LZ (r:List V->Hp->VK->Prop) (t:TA):TE:=λσ H Q=>t σ H λvs H1=>r vs H1 Q
def vx (hc:fL X (.builtin id) r) (hg:Gl X x) (hm:X.mg x=none) (hv:bootBuiltins x=some (.builtin id)) (ha:PA X (e::es) t) (hn:x≠"__name__":=by decide) (nV:(x==("__debug__":Str))=false:=by decide)
  (he:starEach (e::es) X.env=(false,eval e X.env)::starEach es X.env:=by rfl) (ke:(backTo pos (starEach es X.env)).any (·.1)=false:=by rfl):PE X (.Call (.Name x p) (e::es) [] pos) (LZ r t):=by
 intro pZ s σ H Q I h
 refine wpAny_Call_Name_kw (iq I hg hm hv ?_ hn nV)
 exact PyProof.Rows.callWith_builtin1 (bq (ha pos pZ s σ H _ I h) λus s1 ⟨vs,H1,I1,r1,q1⟩=>hc pZ s1 σ H1 vs us Q I1 r1 q1) he ke
def Bo (hc:fL X (.type T) r) (hg:Gl X x) (hm:X.mg x=none) (hv:bootBuiltins x=some (.type T)) (ha:PA X (e::es) t) (hn:x≠"__name__":=by decide) (nV:(x==("__debug__":Str))=false:=by decide)
  (he:starEach (e::es) X.env=(false,eval e X.env)::starEach es X.env:=by rfl) (ke:(backTo pos (starEach es X.env)).any (·.1)=false:=by rfl):PE X (.Call (.Name x p) (e::es) [] pos) (LZ r t):=by
 intro pZ s σ H Q I h
 refine wpAny_Call_Name_kw (iq I hg hm hv ?_ hn nV)
 exact PyProof.Rows.callWith_type1 (bq (ha pos pZ s σ H _ I h) λus s1 ⟨vs,H1,I1,r1,q1⟩=>hc pZ s1 σ H1 vs us Q I1 r1 q1) he ke
end
end L2
namespace HT
open PySem PyProof.Rows
def lexLt:List Int->List Int->Bool
 |[],[]=>false
 |[],_::_=>true
 |_::_,[]=>false
 |x::xs,y::ys=>if x=y then lexLt xs ys else decide (x < y)
def kR (x y:Int) (xs ys:List Int):lexLt (x::xs) (y::ys)=if x=y then lexLt xs ys else decide (x < y):=rfl
def kl:lexLt [] []=false:=rfl
def pq (y:Int) (ys:List Int):lexLt [] (y::ys)=true:=rfl
def pz (x:Int) (xs:List Int):lexLt (x::xs) []=false:=rfl
def Et (A:Around) (s:Shared) (a:Int) (t:Tok) (c:Int) (u:Tok): ∃ e,SeqAt.EqAt A s (.int a t) (.int c u) e/\(e=true↔a=c):=
 ⟨(a==c),SeqAt.EqAt.int_int a t c u,by simp⟩
section
variable {prog : Program} {w : World} {A : Around} {E : Value -> Shared -> Prop} {s : Shared}
def HB (ht:IsTup s.heap t vs.toArray) (hb:IsTup s.heap b ws.toArray) (hv:vs≠[])
  (h1:ws=[]->Q (.ref t) s) (h2:ws≠[]->Q (.ref s.heap.objs.size) {s with heap:=s.heap.push {cls:=.type "tuple",data:=.seq (vs++ws).toArray}})
  (hsz:vs.length+ws.length<=sizeLine):wpAny (model prog w) A (binaryOp .Add (.ref t) (.ref b)) Q E s:=by
 obtain⟨⟨cls,dd,data,sl⟩,ho,hc,n,hd⟩:=id ht
 obtain⟨⟨cls2,dd2,data2,sl2⟩,ho2,hc2,n2,hd2⟩:=id hb
 simp only at hc hd hc2 hd2
 subst hc hd hc2 hd2
 have e:vs.toArray++ws.toArray=(vs++ws).toArray:=by simp
 by_cases hw:ws=[]
 ·exact concat_meets ⟨_,ho,rfl⟩ ⟨_,ho2,rfl⟩ noFill_tuple_add seq_tuple_add PySem.F.slot_tuple_add PySem.F.entry_tuple_add (PySem.F.args_tuple_add_2 _ _)
   (tuple_addW1 t b vs.toArray ws.toArray n n2 dd dd2 sl sl2 (by simpa using hv) (by simp[hw])) ⟨ho,ho2,h1 hw⟩
 ·refine concat_meets ⟨_,ho,rfl⟩ ⟨_,ho2,rfl⟩ noFill_tuple_add seq_tuple_add PySem.F.slot_tuple_add PySem.F.entry_tuple_add (PySem.F.args_tuple_add_2 _ _)
   (tuple_addW2 t b vs.toArray ws.toArray n n2 dd dd2 sl sl2 (by simpa using hv) (by simpa using hw) (by rw[PK,PK];exact hsz)) ⟨ho,ho2,?_⟩
  rw[e]
  exact h2 hw
def cL (n d:Nat):Option Int->Nat
 |none=>d
 |some v=>if v < 0 then(v+(n:Int)).toNat else min v.toNat n
def oX (n d:Nat):cL n d none=d:=rfl
def tm (n d k:Nat):cL n d (some (k:Int))=min k n:=by
 show (if(k:Int) < 0 then((k:Int)+(n:Int)).toNat else min (k:Int).toNat n)=min k n
 rw[Qw (by lia),Int.toNat_natCast]
def JN (n d:Nat) (hd:d<=n) (o:Option Int):cL n d o<=n:=by
 cases o with
 |none=>exact hd
 |some v=>
  show (if v < 0 then(v+(n:Int)).toNat else min v.toNat n)<=n
  by_cases hv:v < 0
  ·rw[Qv hv];lia
  ·rw[Qw hv];exact Nat.min_le_right _ _
def AJ (v:Int) (n d:Nat):(if v < 0 then max (v+(n:Int)) 0 else min v (n:Int))=((cL n d (some v):Nat):Int):=by
 show (if v < 0 then max (v+(n:Int)) 0 else min v (n:Int))=(((if v < 0 then(v+(n:Int)).toNat else min v.toNat n):Nat):Int)
 by_cases hv:v < 0
 ·simp only[Qv hv];lia
 ·simp only[Qw hv];lia
def y8 (lo hi:Option Int) (n:Nat):Builtin.Slice.sliceAdjust lo hi 1 (n:Int)=(((cL n 0 lo:Nat):Int),((cL n n hi:Nat):Int)):=by
 have h1: ¬ ((1:Int) < 0):=by lia
 unfold Builtin.Slice.sliceAdjust
 simp only[h1,if_false]
 refine Prod.ext ?_ ?_
 ·cases lo with
  |none=>rfl
  |some v=>exact AJ v n 0
 ·cases hi with
  |none=>rfl
  |some v=>exact AJ v n n
def yb (i j:Nat):Builtin.Slice.slicePlaces (i:Int) (j:Int) 1=j - i:=by
 unfold Builtin.Slice.slicePlaces
 have h1:(1:Int) > 0:=by lia
 simp only[h1,if_true,Int.ediv_one]
 split<;>lia
def oR (p:IsPart v o) (h:Q o s):wpAny (model prog w) A (Builtin.Slice.slicePartIndex v) Q E s:=by
 cases p with
 |none=>exact slicePart_none h
 |int i t=>exact slicePart_int h
def gs {sl:Addr} {vl vu:Value} {lo hi:Option Int} {n:Nat} {Q:Int×Int×Nat->Shared->Prop} (hs:s.heap.IsSliceOf sl vl vu .none) (pl:IsPart vl lo) (pu:IsPart vu hi)
  (h:Q (((cL n 0 lo:Nat):Int),1,cL n n hi - cL n 0 lo) s):wpAny (model prog w) A (Builtin.Slice.sliceApplied (.ref sl) (pure (n:Int))) Q E s:=by
 obtain⟨os,hos,hcs,hds⟩:=id hs
 unfold Builtin.Slice.sliceApplied Builtin.Slice.sliceFields
 refine Pz (Pz (wpAny_field hos hds (x:=vl) rfl (Pz (wpAny_field hos hds (x:=vu) rfl (Pz (wpAny_field hos hds (x:=.none) rfl (PJ ?_)))))))
 refine Pz (slicePart_none ?_)
 show wpAny _ _ (if((1:Int)==0)=true then _ else _) _ _ s
 rw[Qw (by decide)]
 refine Pz (oR pl (Pz (oR pu (Pz (PJ ?_)))))
 show wpAny _ _ (match Builtin.Slice.sliceAdjust lo hi 1 (n:Int) with|(lo,hi)=>pure (lo,(1:Int),Builtin.Slice.slicePlaces lo hi 1)) _ _ s
 rw[y8 lo hi n]
 show wpAny _ _ (pure (((cL n 0 lo:Nat):Int),(1:Int),Builtin.Slice.slicePlaces ((cL n 0 lo:Nat):Int) ((cL n n hi:Nat):Int) 1)) _ _ s
 rw[yb]
 exact PJ h
def Dj (xs:Array Value) (i k:Nat):((List.range k).filterMap λ(m:Nat)=>xs[((i:Int)+(m:Int) * 1).toNat]?).toArray=((xs.toList.drop i).take k).toArray:=by
 have e:(λ(m:Nat)=>xs[((i:Int)+(m:Int) * 1).toNat]?)=λm=>xs[i+m]?:=by
  funext m
  have:((i:Int)+(m:Int) * 1).toNat=i+m:=by lia
  rw[this]
 rw[e]
 have:=pick_run xs i k
 rw[List.filterMap_map] at this
 have e2:((λx=>xs[x]?)∘λx=>i+x)=λm=>xs[i+m]?:=rfl
 rw[e2] at this
 rw[this]
def lL {t sl:Addr} {items:Array Value} {vl vu:Value} {lo hi:Option Int} {Q:Value->Shared->Prop} (ht:IsTup s.heap t items) (hs:s.heap.IsSliceOf sl vl vu .none) (pl:IsPart vl lo) (pu:IsPart vu hi)
  (hw: ¬ (cL items.size 0 lo=0/\cL items.size items.size hi=items.size))
  (h:Q (.ref s.heap.objs.size) {s with heap:=s.heap.push {cls:=.type "tuple",data:=.seq ((items.toList.drop (cL items.size 0 lo)).take (cL items.size items.size hi - cL items.size 0 lo)).toArray}})
  (hsz:items.size<=sizeLine):wpAny (model prog w) A (getItem (.ref t) (.ref sl)) Q E s:=by
 have htake:sizeOk (.seq ((items.toList.drop (cL items.size 0 lo)).take (cL items.size items.size hi - cL items.size 0 lo)).toArray):=by
  show ((items.toList.drop (cL items.size 0 lo)).take (cL items.size items.size hi - cL items.size 0 lo)).toArray.size<=sizeLine
  rw[PK,List.length_take,List.length_drop,Qj]
  lia
 have hj:cL items.size items.size hi<=items.size:=JN _ _ (PM _) hi
 obtain⟨os,hos,hcs,hds⟩:=id hs
 have hTs:s.TypeIs (.ref sl) "slice":=⟨os,hos,hcs⟩
 unfold getItem
 try with_reducible refine wpAny_holding ?_
 first|refine Pz (PJ ?_)|skip
 refine Pz (wpAny_sequenceKey ht.typeIs (by decide) ?_)
 refine Pz (wpAny_callSpecial?_slot (name:=Str.ofString "__getitem__") ht.typeIs PyProof.Rows.slot_tuple_getitem
  (wpAny_call_entry PyProof.Rows.slot_tuple_getitem ht.typeIs entry_tuple_getitem ?_ (args_tuple_getitem _ _)))
 show wpAny _ _ (Builtin.Tuple.tupleItemsOf (.ref t) >>= _) _ _ s
 refine Pz (tupleItemsOf_ ht ?_)
 refine Pz (wpAny_typeOf hTs ?_)
 rw[Qv (by decide)]
 refine Pz (gs hs pl pu ?_)
 have hno: ¬ ((((cL items.size 0 lo:Nat):Int)==0&&(1:Int)==1&&(cL items.size items.size hi - cL items.size 0 lo)==items.size)=true):=by
  intro q
  rw[Qk,Qk] at q
  have q1:((cL items.size 0 lo:Nat):Int)=0:=eq_of_beq q.1.1
  have q2:cL items.size items.size hi - cL items.size 0 lo=items.size:=eq_of_beq q.2
  exact hw ⟨by lia,by lia⟩
 show wpAny _ _ (if(((cL items.size 0 lo:Nat):Int)==0&&(1:Int)==1&&(cL items.size items.size hi - cL items.size 0 lo)==items.size)=true then _ else _) _ _ s
 rw[Qw hno,Dj]
 first
  |exact Pz (m:=Builtin.Tuple.tupleExact _) (wpAny_newObj_type (PJ ⟨_,rfl,PJ h⟩) htake)
  |exact Pz (m:=Builtin.Tuple.tupleExact _) (wpAny_newObj_type (Pz (PJ (PJ ⟨_,rfl,PJ h⟩))) htake)
  |exact Pz (Pz (m:=Builtin.Tuple.tupleExact _) (wpAny_newObj_type (PJ (PJ ⟨_,rfl,PJ h⟩)) htake))
  |exact Pz (Pz (m:=Builtin.Tuple.tupleExact _) (wpAny_newObj_type (PJ ⟨_,rfl,PJ h⟩) htake))
end
end HT
namespace L2
open PySem PySem.Spec PyProof.Rows
abbrev TO:=St->Hp->(Option Int->Hp->Prop)->Prop
def PO (X:Cx) (e:Option Expr) (t:TO):Prop:=
 ∀ (pZ:List (Addr×Obj)) (s:Shared) (σ:St) (H:Hp) (Q:Option Int->Hp->Prop),Inv X pZ σ H s->t σ H Q->
  wpAny (model X.prog X.w) X.A (evalPart e X.env) (λu s'=> ∃ o H',Inv X pZ σ H' s'/\IsPart u o/\Q o H') X.xe s
def FJ:TO:=λ_ H Q=>Q none H
def Mo (t:TE):TO:=λσ H Q=>t σ H λx H1=> ∃ i,x= .int i/\Q (some i) H1
section
variable {X:Cx} {e:Expr} {te:TE} {lo hi:Option Expr} {tl th:TO} {pos p2:Pos}
def n9:PO X none FJ:=by
 intro pZ s σ H Q I h
 rw[evalPart_none]
 exact PJ ⟨none,H,I,.none,h⟩
def n8 (h:PE X e te):PO X (some e) (Mo te):=by
 intro pZ s σ H Q I hw
 rw[evalPart_some]
 refine bq (h pZ s σ H _ I hw) λu s1 ⟨x,H1,I1,r1,q1⟩=>?_
 obtain⟨i,rfl,q⟩:=q1
 obtain⟨t,rfl⟩:=r1
 exact⟨some i,H1,I1,.int i t,q⟩
def Cn (X:Cx) (r:V->Option Int->Option Int->Hp->VK->Prop):Prop:=
 ∀ (pZ:List (Addr×Obj)) (s:Shared) (σ:St) (H:Hp) (x:V) (v vl vu:Value) (lo hi:Option Int) (sl:Addr) (Q:VK),Inv X pZ σ H s->RelV x v->s.heap.IsSliceOf sl vl vu .none->IsPart vl lo->IsPart vu hi->r x lo hi H Q->
  ∃ T id,typeLookup (.type T) "__getitem__"=pure (some (.builtin id))/\s.TypeIs v T/\wpAny (model X.prog X.w) X.A (getItem v (.ref sl)) (EP X pZ σ Q) X.xe s
def Cn.or (h:Cn X r) (h':Cn X r'):Cn X (λx lo hi H Q=>r x lo hi H Q\/r' x lo hi H Q):=by
 intro pZ s σ H x v vl vu lo hi sl Q I rx hs pl pu q
 rcases q with q|q
 ·exact h pZ s σ H x v vl vu lo hi sl Q I rx hs pl pu q
 ·exact h' pZ s σ H x v vl vu lo hi sl Q I rx hs pl pu q
def Od (r:V->Option Int->Option Int->Hp->VK->Prop) (te:TE) (tl th:TO):TE:=λσ H Q=>te σ H λx H1=>tl σ H1 λl H2=>th σ H2 λu H3=>r x l u H3 Q
def lB (hr:Cn X r) (he:PE X e te) (hl:PO X lo tl) (hu:PO X hi th):PE X (.Subscript e (.Slice lo hi none p2) pos) (Od r te tl th):=by
 intro pZ s σ H Q I h
 refine Subscript_ (bq (he pZ s σ H _ I h) λv s1 ⟨x,H1,I1,r1,q1⟩=>?_)
 refine wpAny_Slice (bq (hl pZ s1 σ H1 _ I1 q1) λvl s2 ⟨l,H2,I2,pl,q2⟩=>bq (hu pZ s2 σ H2 _ I2 q2) λvu s3 ⟨u,H3,I3,pu,q3⟩=>?_)
 rw[evalPart_none]
 refine PJ ?_
 have I4:Inv X pZ σ H3 {s3 with heap:=s3.heap.push {cls:=.type "slice",data:=.fields #[vl,vu,.none]}}:=I3.kept (t':=s3.toks) λb ob q=>PF _ q
 obtain⟨T,id,hT,ht,hg⟩:=hr pZ {s3 with heap:=s3.heap.push {cls:=.type "slice",data:=.fields #[vl,vu,.none]}} σ H3 x v vl vu l u s3.heap.objs.size Q I4 r1 (Heap.IsSliceOf.new ..) pl pu q3
 show wpAny (model X.prog X.w) X.A (subscriptTail e (.Slice lo hi none p2) v (.ref s3.heap.objs.size)) (EP X pZ σ Q) X.xe {s3 with heap:=s3.heap.push {cls:=.type "slice",data:=.fields #[vl,vu,.none]}}
 exact tail_any (ops:=[.ref s3.heap.objs.size,v]) ht hT hg (by with_unfolding_all rfl)
def lQ (xs:List V) (lo hi:Option Int):List V:=(xs.drop (HT.cL xs.length 0 lo)).take (HT.cL xs.length xs.length hi - HT.cL xs.length 0 lo)
def nr (xs:List V) (lo hi:Option Int):(lQ xs lo hi).length<=xs.length:=by
 unfold lQ
 rw[List.length_take,List.length_drop]
 lia
noncomputable def MA (K:Frag):V->Option Int->Option Int->Hp->VK->Prop:=λx lo hi H Q=> ∃ a xs,x= .ref a/\dh K H a xs/\
 ¬ (HT.cL xs.length 0 lo=0/\HT.cL xs.length xs.length hi=xs.length)/\∀ p,H p=none->Q (.ref p) (upd H p (.tup (lQ xs lo hi)))
def JK:Cn X (MA X.K):=by
 intro pZ s σ H x v vl vu lo hi sl Q I rx hs pl pu h
 obtain⟨a,xs,rfl,hx,hw,q⟩:=h
 cases rx
 obtain⟨aC,r,ht,hz⟩:=I.tuple hx
 have hlen:aC.toArray.size=xs.length:=by rw[PK];exact r.length.symm
 refine⟨"tuple",_,PyProof.Rows.slot_tuple_getitem.lookup,ht.typeIs,?_⟩
 refine HT.lL ht hs pl pu (by rw[hlen];exact hw) ?_ (by rw[hlen];exact hz)
 rw[hlen]
 refine⟨.ref s.heap.objs.size,_,I.laid (t':=s.toks) (o:=.tup (lQ xs lo hi)) (λb ob q=>PF _ q) (PM _) ?_,rfl,q _ (I.a9.fresh (PM _))⟩
 exact⟨P7 (nr xs lo hi) hz,_,(r.drop (HT.cL xs.length 0 lo)).take (HT.cL xs.length xs.length hi - HT.cL xs.length 0 lo),IsTup.new _ _⟩
noncomputable def IF (K:Frag):R2:=λx y H Q=> ∃ a b xs ys,x= .ref a/\y= .ref b/\dh K H a xs/\dh K H b ys/\xs≠[]/\xs.length+ys.length<=sizeLine/\
 (ys=[]->Q (.ref a) H)/\(ys≠[]->∀ p,H p=none->Q (.ref p) (upd H p (.tup (xs++ys))))
def Vals.om (r:Vals xs us):us=[]↔xs=[]:=by
 cases r with
 |nil=>simp
 |cons _ _=>simp
def GI:dS X (binaryOp .Add) (IF X.K):=by
 intro pZ s σ H x y v u Q I rx ry h
 obtain⟨a,b,xs,ys,rfl,rfl,ha,hb,hx,hz,q1,q2⟩:=h
 cases rx
 cases ry
 obtain⟨aC,r1,p1,_⟩:=I.tuple ha
 obtain⟨nR,r2,p2,_⟩:=I.tuple hb
 refine HT.HB p1 p2 (λz=>hx (r1.om.mp z)) (λz=>⟨.ref a,H,I,rfl,q1 (r2.om.mp z)⟩) (λz=>?_) (by rw[<-r1.length,<-r2.length];exact hz)
 refine⟨.ref s.heap.objs.size,_,I.laid (t':=s.toks) (o:=.tup (xs++ys)) (λb ob q=>PF _ q) (PM _) ?_,rfl,q2 (λw=>z (r2.om.mpr w)) _ (I.a9.fresh (PM _))⟩
 exact⟨by rw[Qc];exact hz,_,r1.append r2,IsTup.new _ _⟩
end
end L2
namespace L2
open PySem PySem.Spec PyProof.Rows
def uN (n:Nat) (i:Int):Option Nat:=if 0<=i then(if i < n then some i.toNat else none) else if -(n:Int)<=i then some (i+n).toNat else none
def k8 {α:Type} (xs:List α) (i:Int):Option α:=(uN xs.length i).bind λj=>xs[j]?
def Am (h:uN n i=some j):seqIndex? i n=some j/\j < n/\-(n:Int)<=i/\i < n:=by
 unfold uN at h
 by_cases h0:0<=i
 ·rw[Qv h0] at h
  by_cases h1:i < n
  ·rw[Qv h1] at h
   have e:i.toNat=j:=Qz h
   exact⟨by rw[seqIndex_of h0 h1,e],by lia,by lia,h1⟩
  ·rw[Qw h1] at h;cases h
 ·rw[Qw h0] at h
  by_cases h1: -(n:Int)<=i
  ·rw[Qv h1] at h
   have e:(i+n).toNat=j:=Qz h
   exact⟨by rw[seqIndex_neg (by lia) h1,e],by lia,h1,by lia⟩
  ·rw[Qw h1] at h;cases h
def uG (h:k8 xs i=some v): ∃ j,seqIndex? i xs.length=some j/\xs[j]?=some v/\j < xs.length/\-(xs.length:Int)<=i/\i < xs.length:=by
 unfold k8 at h
 cases e:uN xs.length i with
 |none=>rw[e] at h;cases h
 |some j=>
  rw[e] at h
  obtain⟨h1,h2,h3,h4⟩:=Am e
  exact⟨j,h1,h,h2,h3,h4⟩
def AR {α:Type} {xs:List α} {j:Nat} {v:α} (h:xs[j]?=some v):k8 xs (j:Int)=some v:=by
 have hj:j < xs.length:=(PL.mp h).1
 have e:uN xs.length (j:Int)=some j:=by
  unfold uN
  rw[Qv (by lia),Qv (by lia)];simp
 unfold k8;rw[e];exact h
def uM (b:Expr):Prop:= ∀ o i,subscripted b false o i=operate [o,i] (getItem o i)
def Fy (X:Cx) (r:R2):Prop:=
 ∀ (value slice:Expr) (pZ:List (Addr×Obj)) (s:Shared) (σ:St) (H:Hp) (x y:V) (v u:Value) (Q:VK),Inv X pZ σ H s->RelV x v->RelV y u->r x y H Q->
  subscripted slice false v u=operate [v,u] (getItem v u)->wpAny (model X.prog X.w) X.A (subscriptTail value slice v u) (EP X pZ σ Q) X.xe s
def O8 (X:Cx) (id:String) (r:V->List V->Hp->VK->Prop):Prop:=
 ∀ (pZ:List (Addr×Obj)) (s:Shared) (σ:St) (H:Hp) (x:V) (xs:List V) (v:Value) (us:List Value) (Q:VK),Inv X pZ σ H s->RelV x v->Vals xs us->r x xs H Q->
  wpAny (model X.prog X.w) X.A (call (.builtin id) (v::us)) (EP X pZ σ Q) X.xe s
section
variable {X:Cx} {a b:Expr} {ta tb:TE} {pos:Pos}
def Fy.or (h:Fy X r) (h':Fy X r'):Fy X (λx y H Q=>r x y H Q\/r' x y H Q):=by
 intro value slice pZ s σ H x y v u Q I rx ry q hs
 rcases q with q|q
 ·exact h value slice pZ s σ H x y v u Q I rx ry q hs
 ·exact h' value slice pZ s σ H x y v u Q I rx ry q hs
def gy (hr:Fy X r) (ha:PE X a ta) (hb:PE X b tb) (hs:uM b):PE X (.Subscript a b pos) (FI r ta tb):=by
 intro pZ s σ H Q I h
 exact Subscript_ (Lx ha hb I h λv u s2 x y H2 I2 rx ry q=>hr a b pZ s2 σ H2 x y v u Q I2 rx ry q (hs _ _))
def MI (K:Frag):R2:=λx y H Q=> ∃ p xs i v,x= .ref p/\y= .int i/\bU K H p xs/\k8 xs i=some v/\Q v H
def Gg (K:Frag):R2:=λx y H Q=> ∃ p xs i v,x= .ref p/\y= .int i/\dh K H p xs/\k8 xs i=some v/\Q v H
def MH:R2:=λx y H Q=> ∃ z i c,x= .str z/\y= .int i/\z.length<=sizeLine/\k8 z.cps.toList i=some c/\Q (.str ⟨#[c]⟩) H
def eX:Fy X (MI X.K):=by
 intro value slice pZ s σ H x y v u Q I rx ry h hs
 obtain⟨p,xs,i,z,rfl,rfl,hq,he,q⟩:=h
 cases rx
 obtain⟨t,rfl⟩:=ry
 obtain⟨aC,r,pl,hz⟩:=I.list hq
 obtain⟨j,h1,h2,h3,h4,h5⟩:=uG he
 obtain⟨w,ew,rw'⟩:=r.get h2
 have hl:=r.length
 have hn:=pk
 have fin:EP X pZ σ Q w s:=⟨z,H,I,rw',q⟩
 by_cases h0:0<=i
 ·have hj:i.toNat=j:=by
   rw[seqIndex_of h0 h5] at h1
   exact Qz h1
  exact item_listR pl.isList h0 (by lia) (by rw[hj];simpa using ew) fin hs
 ·have hj:(i+(aC.toArray.size:Int)).toNat=j:=by
   rw[seqIndex_neg (by lia) h4] at h1
   rw[PK,<-hl]
   exact Qz h1
  exact subscriptTail_builtinR (x:=w) pl.isList.typeIs slot_list_getitem.lookup
   (wpAny_getItem_list_neg (Q:=λr s'=>r=w/\EP X pZ σ Q r s') pl.isList (by lia) (by rw[PK]<;>lia) (by lia) (by rw[hj];simpa using ew) ⟨rfl,fin⟩) hs
def pH:Fy X (Gg X.K):=by
 intro value slice pZ s σ H x y v u Q I rx ry h hs
 obtain⟨p,xs,i,z,rfl,rfl,hq,he,q⟩:=h
 cases rx
 obtain⟨t,rfl⟩:=ry
 obtain⟨aC,r,pl,hz⟩:=I.tuple hq
 obtain⟨j,h1,h2,h3,h4,h5⟩:=uG he
 obtain⟨w,ew,rw'⟩:=r.get h2
 have hl:=r.length
 have hn:=pk
 have fin:EP X pZ σ Q w s:=⟨z,H,I,rw',q⟩
 exact subscriptTail_builtinR (x:=w) pl.typeIs slot_tuple_getitem.lookup
  (getItem_tuple (j:=j) (Q:=λr s'=>r=w/\EP X pZ σ Q r s') pl (by lia) (by lia) (by rw[PK,<-hl];exact h1) (by simpa using ew) ⟨rfl,fin⟩) hs
def KJ:Fy X MH:=by
 intro value slice pZ s σ H x y v u Q I rx ry h hs
 obtain⟨z,i,c,rfl,rfl,hz,he,q⟩:=h
 obtain⟨t,rfl⟩:=rx
 obtain⟨t',rfl⟩:=ry
 obtain⟨j,h1,h2,h3,h4,h5⟩:=uG he
 have hl:z.cps.toList.length=z.length:=by simp[Str.length]
 rw[hl] at h1 h4 h5
 have hn:=pk
 exact tail_any (typeIs_str s z t) slot_str_getitem.lookup (getItem_str (c:=c) (by
  have e1:decide (i < -(2 ^ 63:Int))=false:=Qb (by lia)
  have e2:decide (i ≥ 2 ^ 63)=false:=Qb (by lia)
  rw[e1,e2,Bool.or_false]) (by rw[h1];simpa using h2) ⟨.str ⟨#[c]⟩,H,I.tok _,⟨_,rfl⟩,q⟩) hs
def Pa (K:Frag):R2:=λx y H Q=>MI K x y H Q\/Gg K x y H Q\/MH x y H Q
def KL:Fy X (Pa X.K):=eX.or (pH.or KJ)
def yp (aC:List Value) (n j:Nat) (u:Value):Obj.mapSeq (·.setIfInBounds j u) {cls:=.type "list",data:=.seq aC.toArray n}={cls:=.type "list",data:=.seq (aC.set j u).toArray n}:=by
 simp[Obj.mapSeq]
def Inv.lst {pZ:List (Addr×Obj)} {σ:St} {H:Hp} {s:Shared} {p:Addr} {xs:List V} (I:Inv X pZ σ H s) (h:H p=some (.lst xs)):
  ∃ (aC:List Value) (n:Nat),Vals xs aC/\s.heap.get? p=some {cls:=.type "list",data:=.seq aC.toArray n}/\xs.length<=sizeLine:=by
 obtain⟨z,aC,n,r,e⟩:=I.a9 p _ h
 exact⟨aC,n,r,e,z⟩
def Inv.Ky {aC bc:List Value} {f:Obj->Obj} (I:Inv X pZ σ H s) (h:H p=some (.lst xs))
  (ho:s.heap.get? p=some {cls:=.type "list",data:=.seq aC.toArray n}) (hf:f {cls:=.type "list",data:=.seq aC.toArray n}={cls:=.type "list",data:=.seq bc.toArray n'}) (r:Vals ys bc) (hz:ys.length<=sizeLine) (t:Nat):
  Inv X pZ σ (upd H p (.lst ys)) {s with heap:=s.heap.update p f,toks:=t}:=by
 have e:(s.heap.update p f).get? p=some {cls:=.type "list",data:=.seq bc.toArray n'}:=by
  rw[Heap.get?_update_self f ho (by rw[hf]<;>rfl),hf]
 refine I.write (x:=p) (e:=p) (by rw[h];trivial) (.inl rfl) (λb u hb q=>(Heap.get?_update_other _ _ (Ne.symm hb)).trans q) ⟨_,e⟩ ?_
 exact⟨hz,bc,n',r,e⟩
def IA:V->V->V->Hp->(Hp->Prop)->Prop:=λo i v H Q=> ∃ p xs k j,o= .ref p/\i= .int k/\H p=some (.lst xs)/\uN xs.length k=some j/\Q (upd H p (.lst (xs.set j v)))
def set_list:LK X IA:=by
 intro pZ s σ H o i v ov iv u Q I ro ri rv h
 obtain⟨p,xs,k,j,rfl,rfl,hp,hj,q⟩:=h
 cases ro
 obtain⟨t,rfl⟩:=ri
 obtain⟨aC,n,r,ho,hz⟩:=I.lst hp
 obtain⟨h1,h2,h3,h4⟩:=Am hj
 have hl:=r.length
 have hn:=pk
 have I':Inv X pZ σ (upd H p (.lst (xs.set j v))) {s with heap:=s.heap.update p (Obj.mapSeq (·.setIfInBounds j u))}:=
  I.Ky hp ho (yp aC n j u) (r.set rv j) (by rw[List.length_set];exact hz) s.toks
 by_cases h0:0<=k
 ·have hk:k.toNat=j:=by
   rw[seqIndex_of h0 h4] at h1
   exact Qz h1
  exact PySem.W.ki_setAt ho h0 (by lia) (by rw[PK,<-hl];exact h4) (by rw[hk];exact⟨_,I',q⟩)
 ·have hk:(k+(aC.toArray.size:Int)).toNat=j:=by
   rw[seqIndex_neg (by lia) h3] at h1
   rw[PK,<-hl]
   exact Qz h1
  exact PySem.W.ki_setBack ho (by lia) (by rw[PK,<-hl];exact h3) (by lia) (by rw[hk];exact⟨_,I',q⟩)
def sM (lo hi:Option Int) (n:Nat):(sliceBounds lo hi none n).1=((HT.cL n 0 lo:Nat):Int)/\(sliceBounds lo hi none n).2.1=((HT.cL n n hi:Nat):Int)/\(sliceBounds lo hi none n).2.2=1:=by
 refine⟨?_,?_,rfl⟩
 ·cases lo with
  |none=>simp[sliceBounds,HT.cL]
  |some i=>
   simp only[sliceBounds,HT.cL,Option.getD_none,show (1:Int) > 0 by decide,if_true]
   by_cases h:i < 0
   ·simp only[h,if_true]<;>lia
   ·simp only[h,if_false]<;>lia
 ·cases hi with
  |none=>simp[sliceBounds,HT.cL]
  |some i=>
   simp only[sliceBounds,HT.cL,Option.getD_none,show (1:Int) > 0 by decide,if_true]
   by_cases h:i < 0
   ·simp only[h,if_true]<;>lia
   ·simp only[h,if_false]<;>lia
def qy (aC:List Value) (lo hi:Option Int):slicePick aC.toArray lo hi none=((aC.drop (HT.cL aC.length 0 lo)).take (HT.cL aC.length aC.length hi - HT.cL aC.length 0 lo)).toArray:=by
 obtain⟨h1,h2,h3⟩:=sM lo hi aC.toArray.size
 unfold slicePick
 rw[h1,h2,h3]
 simp only[sliceRange_one,pick_run,PK]<;>rfl
def MC (K:Frag):V->Option Int->Option Int->Hp->VK->Prop:=λx lo hi H Q=> ∃ a xs,x= .ref a/\bU K H a xs/\∀ p,H p=none->Q (.ref p) (upd H p (.lst (lQ xs lo hi)))
def nZ:Cn X (MC X.K):=by
 intro pZ s σ H x v vl vu lo hi sl Q I rx hs pl pu h
 obtain⟨a,xs,rfl,hx,q⟩:=h
 cases rx
 obtain⟨aC,r,ht,hz⟩:=I.list hx
 have hlen:=r.length
 refine⟨"list",_,slot_list_getitem.lookup,ht.isList.typeIs,?_⟩
 refine wpAny_getItem_list_slice ht.isList hs pl pu .none (by simp) ?_ (by rw[PK]<;>lia)
 rw[qy,<-hlen]
 refine⟨.ref s.heap.objs.size,_,I.laid (t':=s.toks) (o:=.lst (lQ xs lo hi)) (λb ob q=>PF _ q) (PM _) ?_,rfl,q _ (I.a9.fresh (PM _))⟩
 exact⟨P7 (nr xs lo hi) hz,_,0,(r.drop (HT.cL xs.length 0 lo)).take (HT.cL xs.length xs.length hi - HT.cL xs.length 0 lo),PZ _ rfl⟩
def cH:V->Bool
 | .aD=>true
 | .bl _=>true
 | .int _=>true
 | .str _=>true
 |_=>false
noncomputable def se:V->V->Bool
 | .aD,.aD=>true
 | .bl a,.bl b=>a==b
 | .bl a,.int b=>(if a then 1 else 0)==b
 | .int a,.bl b=>a==(if b then 1 else 0)
 | .int a,.int b=>a==b
 | .str a,.str b=>a==b
 |_,_=>false
def Eu (ry:RelV y u) (rx:RelV x v) (fy:cH y=true) (fx:cH x=true):SeqAt.EqAt A s u v (se y x):=by
 cases y with
 |aD=>
  cases ry
  cases x with
  |aD=>cases rx;exact SeqAt.EqAt.same _
  |bl b=>cases rx;exact SeqAt.EqAt.none_bool b
  |int b=>obtain⟨t,rfl⟩:=rx;exact SeqAt.EqAt.none_int b t
  |str b=>obtain⟨t,rfl⟩:=rx;exact SeqAt.EqAt.none_str b t
  |_=>exact absurd (show false=true from fx) Bool.false_ne_true
 |bl a=>
  cases ry
  cases x with
  |aD=>cases rx;exact SeqAt.EqAt.bool_none a
  |bl b=>cases rx;exact SeqAt.EqAt.bool_bool a b
  |int b=>obtain⟨t,rfl⟩:=rx;exact SeqAt.EqAt.bool_int a b t
  |str b=>obtain⟨t,rfl⟩:=rx;exact SeqAt.EqAt.bool_str a b t
  |_=>exact absurd (show false=true from fx) Bool.false_ne_true
 |int a=>
  obtain⟨t',rfl⟩:=ry
  cases x with
  |aD=>cases rx;exact SeqAt.EqAt.int_none a t'
  |bl b=>cases rx;exact SeqAt.EqAt.int_bool a t' b
  |int b=>obtain⟨t,rfl⟩:=rx;exact SeqAt.EqAt.int_int a t' b t
  |str b=>obtain⟨t,rfl⟩:=rx;exact SeqAt.EqAt.int_str a t' b t
  |_=>exact absurd (show false=true from fx) Bool.false_ne_true
 |str a=>
  obtain⟨t',rfl⟩:=ry
  cases x with
  |aD=>cases rx;exact SeqAt.EqAt.str_none a t'
  |bl b=>cases rx;exact SeqAt.EqAt.str_bool a t' b
  |int b=>obtain⟨t,rfl⟩:=rx;exact SeqAt.EqAt.str_int a t' b t
  |str b=>obtain⟨t,rfl⟩:=rx;exact SeqAt.EqAt.str_str a t' b t
  |_=>exact absurd (show false=true from fx) Bool.false_ne_true
 |_=>exact absurd (show false=true from fy) Bool.false_ne_true
def yz (x:V) (u:Value):Bool:=match u with
 | .none=>se .aD x
 | .bool b=>se (.bl b) x
 | .int i _=>se (.int i) x
 | .str z _=>se (.str z) x
 |_=>false
def Es (r:RelV y u) (f:cH y=true):yz x u=se y x:=by
 cases y with
 |aD=>cases r;rfl
 |bl b=>cases r;rfl
 |int i=>obtain⟨t,rfl⟩:=r;rfl
 |str z=>obtain⟨t,rfl⟩:=r;rfl
 |_=>exact absurd (show false=true from f) Bool.false_ne_true
theorem lT: ∀ {xs:List V} {us:List Value},Vals xs us->xs.all cH=true->us.any (yz x)=xs.any λy=>se y x
 |_,_,.nil,_=>rfl
 |y::xs,u::us,.cons r t,f=>by
  rw[List.all_cons,Qk] at f
  rw[List.any_cons,List.any_cons,Es r f.1,lT t f.2]
theorem jq (rx:RelV x v) (fx:cH x=true): ∀ {xs:List V} {us:List Value},Vals xs us->xs.all cH=true->∀ u∈us,SeqAt.EqAt A s u v (yz x u)
 |_,_,.nil,_=>λu hu=>by cases hu
 |y::xs,u::us,.cons r t,f=>λu' hu=>by
  rw[List.all_cons,Qk] at f
  rcases PR.mp hu with rfl|hu
  ·rw[Es r f.1];exact Eu r rx f.1 fx
  ·exact jq rx fx t f.2 u' hu
def NX (x:V) (xs:List V):Bool:=xs.any λy=>se y x
def Oo (K:Frag) (neg:Bool):R2:=λx y H Q=> ∃ p xs,y= .ref p/\(bU K H p xs\/dh K H p xs)/\cH x=true/\xs.all cH=true/\Q (.bl (if neg then !NX x xs else NX x xs)) H
def Bv:dS X (compareOp .In) (Oo X.K false):=by
 intro pZ s σ H x y v u Q I rx ry h
 obtain⟨p,xs,rfl,hq,fx,fs,q⟩:=h
 cases ry
 rcases hq with hq|hq
 ·obtain⟨aC,r,pl,hz⟩:=I.list hq
  refine SeqAt.in_listAt (yz x) pl.isList (λw hw=>jq rx fx r fs w (by simpa using hw)) ⟨.bl _,H,I,rfl,?_⟩
  rw[show aC.toArray.any (yz x)=aC.any (yz x) by simp,lT r fs]
  exact q
 ·obtain⟨aC,r,pl,hz⟩:=I.tuple hq
  refine SeqAt.in_tupleAt (yz x) pl (λw hw=>jq rx fx r fs w (by simpa using hw)) ⟨.bl _,H,I,rfl,?_⟩
  rw[show aC.toArray.any (yz x)=aC.any (yz x) by simp,lT r fs]
  exact q
def tQ:dS X (compareOp .NotIn) (Oo X.K true):=by
 intro pZ s σ H x y v u Q I rx ry h
 obtain⟨p,xs,rfl,hq,fx,fs,q⟩:=h
 cases ry
 rcases hq with hq|hq
 ·obtain⟨aC,r,pl,hz⟩:=I.list hq
  refine SeqAt.notIn_listAt (yz x) pl.isList (λw hw=>jq rx fx r fs w (by simpa using hw)) ⟨.bl _,H,I,rfl,?_⟩
  rw[show aC.toArray.any (yz x)=aC.any (yz x) by simp,lT r fs]
  exact q
 ·obtain⟨aC,r,pl,hz⟩:=I.tuple hq
  refine SeqAt.notIn_tupleAt (yz x) pl (λw hw=>jq rx fx r fs w (by simpa using hw)) ⟨.bl _,H,I,rfl,?_⟩
  rw[show aC.toArray.any (yz x)=aC.any (yz x) by simp,lT r fs]
  exact q
def tP:dS X (compareOp .NotIn) (λx y H Q=> ∃ i j,x= .str i/\y= .str j/\Q (.bl (!(!(Builtin.Str.occurrences j i 0 j.length 1).isEmpty))) H):=by
 intro pZ s σ H x y v u Q I rx ry h
 obtain⟨i,j,rfl,rfl,q⟩:=h
 obtain⟨t,rfl⟩:=rx
 obtain⟨t',rfl⟩:=ry
 exact notIn_str ⟨.bl _,H,I,rfl,q⟩
def gk:fL X (.type "tuple") (λxs H Q=> ∃ p ys,xs=[.ref p]/\((bU X.K H p ys/\∀ l,H l=none->Q (.ref l) (upd H l (.tup ys)))\/(dh X.K H p ys/\Q (.ref p) H))):=by
 intro pZ s σ H xs us Q I r h
 obtain⟨p,ys,rfl,h⟩:=h
 obtain⟨u,rfl,rx⟩:=vals1 r
 cases rx
 rcases h with⟨hq,q⟩|⟨hq,q⟩
 ·obtain⟨aC,r',pl,hz⟩:=I.list hq
  have hlen:=r'.length
  refine call_tuple_list pl.isList (λh' kp=>?_) (by simp only[PK]<;>lia)
  have I1:Inv X pZ σ H {s with heap:=h'}:=I.kept (t':=s.toks) kp
  have I2:Inv X pZ σ (upd H h'.objs.size (.tup ys)) {s with heap:=h'.push {cls:=.type "tuple",data:=.seq aC.toArray}}:=
   I1.laid (t':=s.toks) (λb o e=>PF _ e) (PM _) (show cg X.prog X.w _ _ _ (.tup ys) from⟨hz,aC,r',IsTup.new _ _⟩)
  exact⟨.ref h'.objs.size,_,I2,rfl,q _ (I1.a9.fresh (PM _))⟩
 ·obtain⟨aC,r',pl,hz⟩:=I.tuple hq
  exact call_tuple_same pl ⟨.ref p,H,I,rfl,q⟩
def N9 (K:Frag) (T:String) (x:V) (H:Hp):Prop:=match x with
 | .str _=>T="str"
 | .int _=>T="int"
 | .ref p=>(T="list"/\∃ xs,bU K H p xs)\/(T="tuple"/\∃ o,K.lookup p=some o/\o.cls= .type "tuple"/\o.dict=none)\/
   (T="dict"/\((∃ kvs,Rd H p (.dK kvs))\/∃ kvs,H p=some (.dT kvs)))\/(T="set"/\∃ S n,H p=some (.set S n))
 |_=>False
def Ju (I:Inv X pZ σ H s) (r:RelV x v) (ty:N9 X.K T x H):
  s.TypeIs v T/\∀ a,v= .ref a->∃ ob,s.heap.get? a=some ob/\ob.dict=none:=by
 cases x with
 |str z=>
  obtain⟨t,rfl⟩:=r
  cases (show T="str" from ty)
  exact⟨typeIs_str s z t,λ_ e=>nomatch e⟩
 |int i=>
  obtain⟨t,rfl⟩:=r
  cases (show T="int" from ty)
  exact⟨typeIs_int s i t,λ_ e=>nomatch e⟩
 |ref p=>
  cases r
  rcases ty with⟨rfl,xs,hq⟩|⟨rfl,o,hk,hc,hd⟩|⟨rfl,hk⟩|⟨rfl,S,n,hk⟩
  ·obtain⟨aC,_,pl,_⟩:=I.list hq
   refine⟨pl.isList.typeIs,λa e=>?_⟩
   cases e
   obtain⟨o,n,e,c,hd,_⟩:=pl
   exact⟨o,e,hd⟩
  ·refine⟨⟨o,I.L4 p o hk,hc⟩,λa e=>?_⟩
   cases e
   exact⟨o,I.L4 _ o hk,hd⟩
  ·have z: ∃ o,s.heap.get? p=some o/\o.ExactDict:=by
    rcases hk with⟨kvs,hk⟩|⟨kvs,hk⟩
    ·obtain⟨_,_,_,_,o,_,_,e,ex,_⟩:=hk.ok I.a9
     exact⟨o,e,ex⟩
    ·obtain⟨_,_,_,_,o,_,_,e,ex,_⟩:=I.a9 p _ hk
     exact⟨o,e,ex⟩
   obtain⟨o,e,ex⟩:=z
   refine⟨⟨o,e,ex.1⟩,λa e2=>?_⟩
   cases e2
   exact⟨o,e,ex.2.1⟩
  ·obtain⟨o,_,_,_,e,ex,_⟩:=I.a9 p _ hk
   refine⟨⟨o,e,ex.1⟩,λa e2=>?_⟩
   cases e2
   exact⟨o,e,ex.2.1⟩
 |_=>exact False.elim ty
def Mr (K:Frag) (T:String) (r:V->List V->Hp->VK->Prop) (to:TE) (t:TA):TE:=λσ H Q=>to σ H λx H1=>N9 K T x H1/\t σ H1 λxs H2=>r x xs H2 Q
variable {o e:Expr} {es:List Expr} {to:TE} {t:TA} {name:Str} {apos mM:Pos} {T id:String} {r:V->List V->Hp->VK->Prop}
def MP (pa:PlainAttrs T) (slot:Slot T name id) (hty:typeOf (.builtin id)=pure (.type "method_descriptor")) (hm:O8 X id r) (ho:PE X o to) (ha:PA X (e::es) t)
  (hbase:attributeBase o name X.env (eval o X.env)=eval o X.env:=by rfl)
  (hfew:((backTo mM (starEach (e::es) X.env)).all (λx=>!x.1)&&(backToKw mM (keywordEach [] X.env)).all (λx=>x.1.isSome)
   &&decide ((e::es).length+([]:List Keyword).length+(if([]:List Keyword).isEmpty then 0 else 1) < 30))=true:=by rfl)
  (hline:(apos.endLine==mM.line)=true:=by rfl) (hs:starEach (e::es) X.env=(false,eval e X.env)::starEach es X.env:=by rfl) (hplain:(backTo mM (starEach es X.env)).any (·.1)=false:=by rfl):
  PE X (.Call (.Attribute o name apos) (e::es) [] mM) (Mr X.K T r to t):=by
 intro pZ s σ H Q I h
 refine wpAny_Call_method_late hbase hfew hline rfl (bq (ho pZ s σ H _ I h) λv s1 ⟨x,H1,I1,r1,ty,q1⟩=>?_)
 obtain⟨h1,h2⟩:=Ju I1 r1 ty
 refine⟨T,id,pa,slot,hty,h1,h2,?_⟩
 have hA:=ha mM pZ s1 σ H1 _ I1 q1
 rw[hs] at hA ⊢
 refine Calls.callWith_builtin (by show (false||(backTo mM (starEach es X.env)).any (·.1))=false;rw[hplain]<;>rfl) (Calls.evalArgs_plain ?_)
 exact bq hA λus s2 ⟨vs,H2,I2,r2,q2⟩=>hm pZ s2 σ H2 x vs v us Q I2 r1 r2 q2
end
end L2
namespace L2
open PySem PySem.Spec PyProof.Rows
def NC (X:Cx) (id:String) (r:V->List V->Hp->VK->Prop):Prop:=
 ∀ (pZ:List (Addr×Obj)) (s:Shared) (σ:St) (H:Hp) (x:V) (xs:List V) (v:Value) (us:List Value) (Q:VK),Inv X pZ σ H s->RelV x v->Vals xs us->r x xs H Q->
  wpAny (model X.prog X.w) X.A (call (.builtin id) (v::us)) (EP X pZ σ Q) X.xe s
theorem Vals.one: ∀ {x:V} {us:List Value},Vals [x] us->∃ u,us=[u]/\RelV x u
 |_,_,.cons r .nil=>⟨_,rfl,r⟩
theorem Vals.rep (h:Vals xs us): ∀ k:Nat,Vals (List.replicate k xs).flatten (List.replicate k us).flatten
 |0=>.nil
 |k+1=>by
  rw[List.replicate_succ,List.replicate_succ,List.flatten_cons,List.flatten_cons]
  exact Vals.append h (Vals.rep h k)
theorem foldl_rep (aC:List Value): ∀ (k:Nat) (acc:List Value),
  List.foldl (λx1 x2=>x1++x2) acc.toArray (List.replicate k aC.toArray)=(acc++(List.replicate k aC).flatten).toArray
 |0,acc=>by simp
 |k+1,acc=>by
  have e:acc.toArray++aC.toArray=(acc++aC).toArray:=by simp
  have e2:(acc++aC)++(List.replicate k aC).flatten=acc++(List.replicate (k+1) aC).flatten:=by
   rw[List.replicate_succ,List.flatten_cons,List.append_assoc]
  rw[<-e2,<-foldl_rep aC k (acc++aC),<-e,List.replicate_succ,List.foldl_cons]
section
variable {X:Cx} {pZ:List (Addr×Obj)} {σ:St} {H:Hp} {s:Shared} {l b:Addr} {xs ys zs:List V}
def Inv.BH {aC bc:List Value} {f:Array Value->Array Value} {t':Nat} (I:Inv X pZ σ H s) (hH:H l=some (.lst xs))
  (e:s.heap.get? l=some {cls:=.type "list",data:=.seq aC.toArray n}) (hf:f aC.toArray=bc.toArray) (hv:Vals ys bc) (hz:ys.length<=sizeLine):
  Inv X pZ σ (upd H l (.lst ys)) {s with heap:=s.heap.update l (Obj.mapSeq f),toks:=t'}:=by
 have q:=PySem.IsL.update e f
 rw[hf] at q
 refine I.write (x:=l) (e:=l) (by rw[hH];exact trivial) (.inl rfl) (λb' u hb hu=>(Heap.get?_update_other s.heap (Obj.mapSeq f) (Ne.symm hb)).trans hu) ⟨_,q⟩ ?_
 exact⟨hz,bc,_,hv,q⟩
def Inv.DS (I:Inv X pZ σ H s) (hv:Vals ys aC) (hz:ys.length<=sizeLine):
  Inv X pZ σ (upd H s.heap.objs.size (.lst ys)) {s with heap:=s.heap.push {cls:=.type "list",data:=.seq aC.toArray},toks:=t'}:=
 I.laid (λ_ _ q=>PF _ q) (PM _) ⟨hz,aC,0,hv,PZ _ rfl⟩
theorem Inv.fresh (I:Inv X pZ σ H s):H s.heap.objs.size=none:=I.a9.fresh (PM _)
def Inv.kc (I:Inv X pZ σ H s) (hH:H l=some (.lst xs)):xs.length<=sizeLine/\∃ (aC:List Value) (n:Nat),Vals xs aC/\xs.length=aC.length/\s.heap.get? l=some {cls:=.type "list",data:=.seq aC.toArray n}:=by
 obtain⟨z,aC,n,r,e⟩:=I.a9 l _ hH
 exact⟨z,aC,n,r,r.length,e⟩
def vL (h:n<=sizeLine):Builtin.List.listTooLong n=false:=by
 unfold Builtin.List.listTooLong
 exact Qb (by lia)
end
section
variable {X:Cx}
def zT:V->List V->Hp->VK->Prop:=λx vs H Q=> ∃ l xs y,x= .ref l/\vs=[y]/\H l=some (.lst xs)/\xs.length < sizeLine/\Q .aD (upd H l (.lst (xs++[y])))
def rJ:NC X "list.append" zT:=by
 intro pZ s σ H x vs v us Q I rx rv h
 obtain⟨l,xs,y,rfl,rfl,hH,hz,q⟩:=h
 cases rx
 obtain⟨u,rfl,ru⟩:=rv.one
 obtain⟨z,aC,n,r,hl,e⟩:=I.kc hH
 refine call_meets F.slot_list_append ⟨_,e,rfl⟩ F.entry_list_append (F.args_list_append_2 _ _) (PySem.list_append l aC.toArray n u (by rw[PK];lia)) ⟨e,?_⟩
 refine⟨.aD,_,I.BH (bc:=aC++[u]) hH e (by simp) (r.append (.cons ru .nil)) ?_,rfl,q⟩
 rw[Qc,List.length_singleton]
 lia
noncomputable def zS:V->List V->Hp->VK->Prop:=λx vs H Q=> ∃ l b xs zs,x= .ref l/\vs=[.ref b]/\H l=some (.lst xs)/\H b=some (.lst zs)/\xs.length+zs.length<=sizeLine/\Q .aD (upd H l (.lst (xs++zs)))
def BB:NC X "list.extend" zS:=by
 intro pZ s σ H x vs v us Q I rx rv h
 obtain⟨l,b,xs,zs,rfl,rfl,hH,hB,hz,q⟩:=h
 cases rx
 obtain⟨u,rfl,ru⟩:=rv.one
 cases ru
 obtain⟨z,aC,n,r,hl,e⟩:=I.kc hH
 obtain⟨z2,nR,n2,r2,hl2,e2⟩:=I.kc hB
 have hsz:aC.toArray.size+nR.toArray.size<=sizeLine:=by rw[PK,PK];lia
 have hlong: ¬ (!aC.toArray.isEmpty&&Builtin.List.listTooLong (aC.toArray.size+nR.toArray.size))=true:=by
  rw[vL hsz,Bool.and_false]
  exact Bool.false_ne_true
 refine call_meets F.slot_list_extend ⟨_,e,rfl⟩ F.entry_list_extend (F.args_list_extend_2 _ _)
  (AutoSeq1.list_extend_list_list_0 l aC.toArray n b nR.toArray n2 hlong (by rw[PK];lia) (by lia)) ⟨e,e2,?_⟩
 refine⟨.aD,_,I.BH (bc:=aC++nR) hH e (by simp) (r.append r2) ?_,rfl,q⟩
 rw[Qc]
 lia
def JU:R2:=λx y H Q=> ∃ l b xs zs,x= .ref l/\y= .ref b/\H l=some (.lst xs)/\H b=some (.lst zs)/\xs.length+zs.length<=sizeLine/\∀ p,H p=none->Q (.ref p) (upd H p (.lst (xs++zs)))
def yf:dS X (binaryOp .Add) JU:=by
 intro pZ s σ H x y v u Q I rx ry h
 obtain⟨l,b,xs,zs,rfl,rfl,hH,hB,hz,q⟩:=h
 cases rx
 cases ry
 obtain⟨z,aC,n,r,hl,e⟩:=I.kc hH
 obtain⟨z2,nR,n2,r2,hl2,e2⟩:=I.kc hB
 refine PySem.P.add_list e e2 ?_ (by rw[PK,PK];lia)
 have ea:aC.toArray++nR.toArray=(aC++nR).toArray:=by simp
 rw[ea]
 exact⟨.ref _,_,I.DS (t':=s.toks) (r.append r2) (by rw[Qc];lia),rfl,q _ I.fresh⟩
noncomputable def MF:R2:=λx y H Q=> ∃ l k xs,x= .ref l/\y= .int k/\H l=some (.lst xs)/\-(2 ^ 63)<=k/\k < 2 ^ 63/\xs.length * k.toNat<=sizeLine/\
 ∀ p,H p=none->Q (.ref p) (upd H p (.lst (List.replicate k.toNat xs).flatten))
def len_rep (xs:List α) (k:Nat):(List.replicate k xs).flatten.length=k * xs.length:=by
 induction k with
 |zero=>simp
 |succ k ih=>rw[List.replicate_succ,List.flatten_cons,Qc,ih,Nat.succ_mul,Nat.add_comm]
def Kf:dS X (binaryOp .Mult) MF:=by
 intro pZ s σ H x y v u Q I rx ry h
 obtain⟨l,k,xs,rfl,rfl,hH,h1,h2,hz,q⟩:=h
 cases rx
 obtain⟨t,rfl⟩:=ry
 obtain⟨z,aC,n,r,hl,e⟩:=I.kc hH
 have hlen:aC.toArray.size * k.toNat<=sizeLine:=by rw[PK,<-hl];exact hz
 have hcap: ¬ aC.toArray.size * k.toNat > (2 ^ 63 - 1) / 8:=by
  have:(sizeLine:Nat)<=(2 ^ 63 - 1) / 8:=by decide
  lia
 have hfit: ¬ (!Builtin.List.listFitsIndex k)=true:=by
  rw[fitsIndex_both h1 h2]
  exact Bool.false_ne_true
 have hlong: ¬ Builtin.List.listTooLong (aC.toArray.size * k.toNat)=true:=by
  rw[vL hlen]
  exact Bool.false_ne_true
 have hnew:List.foldl (λx1 x2=>x1++x2) #[] (List.replicate (if aC.toArray.isEmpty=true then 0 else k.toNat) aC.toArray)=(List.replicate k.toNat aC).flatten.toArray:=by
  have f0: ∀ m:Nat,List.foldl (λx1 x2=>x1++x2) #[] (List.replicate m aC.toArray)=(List.replicate m aC).flatten.toArray:=λm=>by
   have:=foldl_rep aC m []
   rw[List.nil_append] at this
   exact this
  rw[f0]
  cases aC with
  |nil=>simp
  |cons a r'=>rw[Qw (by simp)]
 refine wpAny_binaryOp_repeat_ref (T:="list") (U:="int") (by decide) ⟨_,e,rfl⟩ (λs'=>typeIs_int s' k t) noFill_list_mul F.fills_int_mul F.slot_int_rmul repeat_list F.slot_int_index.lookup
  (call_meets F.slot_int_rmul (typeIs_int s k t) F.entry_int_rmul (F.args_int_rmul_2 _ _) (int___rmul___int_list k t l aC.toArray n)
   ⟨e,rfl,⟨_,e,rfl⟩,call_meets F.slot_list_mul ⟨_,e,rfl⟩ F.entry_list_mul (F.args_list_mul_2 _ _) (AutoListH.list___mul___list_int_3 l aC.toArray n k t hfit hcap hlong) ⟨e,?_⟩⟩)
 rw[hnew]
 exact⟨.ref _,_,I.DS (t':=s.toks) (r.rep k.toNat) (by rw[len_rep,Nat.mul_comm];exact hz),rfl,q _ I.fresh⟩
end
end L2
namespace Att
open PySem PySem.W PySem.Calls PyProof.Rows
def nU: ∀ (ns:List Int) (vs:List Value),WellAll P h vs (ns.map WData.int)->IntsAre vs ns:=by
 intro ns
 induction ns with
 |nil=>
  intro vs w
  rw[List.map_nil] at w
  cases w
  exact .nil
 |cons n ns ih=>
  intro vs w
  rw[PQ] at w
  cases w with
  |cons a b=>
   cases a
   exact .cons _ _ (ih _ b)
def Bh {l:OpenLaw} (hn:l.most=some n)
  (hpre:l.row.toRowW.claim.pre args=true) (hwl:WellAll P h vals args):
  ∃ a vs ns,vals=[Value.ref a]/\args=[WData.list (ns.map WData.int)]/\h.get? a=some {cls:=.type "list",data:=.seq vs.toArray}/\IntsAre vs ns/\ns.length<=n:=by
 have hsh:WShape.hasAll [] args [.list .int]=true:=(pre_splitW hpre).1
 have hc:l.pre.holds [] {args:=args}=true:=(pre_splitW hpre).2
 obtain⟨d,r,rfl,h1,h2⟩:=hasAllW_cons hsh
 obtain rfl:=hasAllW_nil h2
 obtain⟨xs,rfl,h3⟩:=hasW_list h1
 obtain⟨ns,rfl⟩:=items_int h3
 have hlen:ns.length<=n:=by
  unfold OpenLaw.pre at hc
  have h4:(WTm.not (.lt (.lit (.int (n:Int))) (.len (.arg 0)))).holds [] {args:=[.list (ns.map .int)]}=true:=by
   have h4:=(holds_andW hc).1
   rw[hn] at h4
   exact h4
  have h5:=condW_of h4 (w_not (w_lt w_lit (w_len_list (w_arg rfl))))
  rw[PD] at h5
  refine Nat.le_of_not_lt λq=>?_
  have q':(n:Int) < ((ns.length:Nat):Int):=by lia
  first
   |(rw[decide_eq_true q'] at h5;exact absurd h5 (by decide))
   |(simp at h5;lia)
 cases hwl with
 |cons w1 w2=>
  cases w2
  cases w1 with
  |list ho hall=>exact⟨_,_,ns,rfl,rfl,ho,nU ns _ hall,hlen⟩
def Bk (l:OpenLaw) (args:List WData):l.row.toRowW.claim.post args (.bool true) args=true:=
 postW_of (r:=l.row.toRowW) (X:=(true==true))
  (show WShape.has [] (.bool true) .bool=true by first|rfl|decide|simp[WShape.has,WShape.arms,WShape.armsAll])
  (show (WTm.eq .res (.lit (.bool true))).value [] {args:=args,res:=some (.bool true),after:=args}=some (.bool (true==true)) from w_eq_bool (w_res rfl) w_lit) rfl
def wX {l:OpenLaw} {YP:World->Heap->Prop} {d:DefRec}
  (hn:l.most=some n) (hdf:d.params.defaults=[])
  (call: ∀ (w:World) (s₀ s₁:Shared) (mg mb:Str->Option Value) (fa:Addr) (o:Obj) (pm cd doc:Value) (a:Addr) (vs:List Value) (ns:List Int),
   Ground q loose [] XP w s₀ mg mb s₁.heap->YP w s₁.heap->
   s₁.heap.get? fa=some o->o.data= .func (docDef d.name d.params d.body d.scope pm cd doc)->s₁.heap.CodeRec cd d.name->mg d.name=some (.ref fa)->
   s₁.heap.get? a=some {cls:=.type "list",data:=.seq vs.toArray}->IntsAre vs ns->ns.length<=n->s₁.gens= #[]->
   codeAny (model l.prog w) callerA (.call (.ref fa) ⟨[.ref a],[]⟩) (λr s'=>r= .ok (.ret (.bool true))/\OldK s₁.heap s'.heap/\s'.os=s₁.os/\AllBare s'.gens) s₁):
  WalkO q loose XP YP l.row.toRowW d [] (λf vs=>PySem.call f vs):=by
 intro w s₀ s₁ mg mb G Y fa o pm cd doc dV kV ho hd hcd hD hmg hg args vals as hpre hlay hrd hwl hlo
 obtain rfl:dV= .none:=Dflts.none hD hdf
 obtain rfl:kV= .none:=Dflts.noKw hD
 obtain⟨a,vs,ns,rfl,rfl,hobj,hints,hlen⟩:=Bh hn hpre hwl
 refine enter_call (codeAny_mono (call w s₀ s₁ mg mb fa o pm cd doc a vs ns G Y ho (fd_plain hd) hcd hmg hobj hints hlen hg) λr s' hq=>?_)
 obtain⟨rfl,h2,h3,h4⟩:=hq
 exact⟨.inl ⟨.bool true,.bool true,[],rfl,λ_=>rfl,.bool true,Bk l _,λ_=>⟨List.Pairwise.nil,λ_ hm=>(nomatch hm)⟩⟩,h2,h3,h4⟩
end Att
namespace L2
open PySem PySem.Spec PyProof.Rows
theorem jY: ∀ {vs:List Value} {ns:List Int},IntsAre vs ns->Vals (ns.map V.int) vs
 |_,_,.nil=>.nil
 |_,_,.cons n t h=>.cons ⟨t,rfl⟩ (jY h)
end L2
namespace L2
open PySem PySem.Spec PyProof.Rows
end L2
namespace L2
open PySem PySem.Spec PyProof.Rows
noncomputable def d7 (s:Stmt):Arguments:=match s with
 | .FunctionDef _ a _ _ _ _ _ _ _ _=>a
 |_=>{posonlyargs:=[],args:=[],vararg:=none,kwonlyargs:=[],kw_defaults:=[],kwarg:=none,defaults:=[]}
def bo (s:Stmt):List Stmt:=match s with
 | .FunctionDef _ _ b _ _ _ _ _ _ _=>b
 |_=>[]
def ao (s:Stmt):Scope:=match s with
 | .FunctionDef _ _ _ _ _ _ sc _ _ _=>sc
 |_=>{kind:=.function,names:=[],isGenerator:=false,isCoroutine:=false}
abbrev i5:Fo:=λ_ _ _ _ _ _=>False
abbrev E0:XK:=λ_ _ _=>False
def zY:Passes i5 X E0:=λ_ _ _ _ _ _ _ h=>h.elim
structure Fz (K:Frag) (x qual:Str) (st:Stmt) (f:Addr) (fd:FuncData):Prop where
 ex: ∃ (oc:Value) (od:Option Addr) (kV doc pm:Value) (an:Option Addr) (eF ct:Value) (osl:Array (Option Value)),
  fd=fnOf x qual (d7 st) (bo st) (ao st) .none kV doc pm an eF ct/\K.lookup f=some ⟨oc,od,.func fd,osl⟩/\codeIn K eF qual=true
 kp:keepIn K (.ref f)=true
section
variable {P:Program} {w:World} {K:Frag} {mg:Str->Option Value} {base:Heap}
def Fz.ok {x qual:Str} {st:Stmt} {f:Addr} {fd:FuncData} {N ps:List Str} {k:Nat} {sp:Sp} (F:Fz K x qual st f fd) (S:aB N ps (ao st)) (len: ∀ vs H Q E,sp vs H Q E->vs.length=ps.length)
  (gB: ∀ (eF:Value) (A:Around) (outer:List Env) (s:Shared) (H:Hp) (vs:List V) (Q:VK) (E:XK),cM k (A.deeper (envOfC qual (ao st) s.heap.objs.size f eF))->sp vs H Q E->
   ∃ t,xx (gE i5 P w K mg base N qual (ao st) f eF A outer s H E).rH (bo st) t/\t {nx:=λ_ H'=>Q .aD H',rt:=Q} (start N vs) H):di P w K mg base i5 (k+1) f fd ps sp:=by
 obtain⟨oc,od,kV,doc,pm,an,eF,ct,osl,rfl,lk,hcd⟩:=F.ex
 refine IW lk hcd S len λA outer s H vs Q E hr hsp=>?_
 obtain⟨t,h,q⟩:=gB eF A outer s H vs Q E hr hsp
 exact⟨t,h.rH,q⟩
def Fz.binds {x qual:Str} {st:Stmt} {f:Addr} {fd:FuncData} {ps:List Str} (F:Fz K x qual st f fd)
  (h: ∀ (kV doc pm:Value) (an:Option Addr) (eF ct:Value) (us:List Value),us.length=ps.length->bindArgs (fnOf x qual (d7 st) (bo st) (ao st) .none kV doc pm an eF ct) ⟨us,[]⟩=pure (ps.zip us)):Binds K fd ps []:=by
 obtain⟨oc,od,kV,doc,pm,an,eF,ct,osl,rfl,lk,hcd⟩:=F.ex
 exact .all (h kV doc pm an eF ct)
def uf {x qual:Str} {st:Stmt} {f:Addr} {oc:Value} {od an:Option Addr} {osl:Array (Option Value)} {kV doc pm eF ct:Value} (l:K.lookup f=some ⟨oc,od,.func (fnOf x qual (d7 st) (bo st) (ao st) .none kV doc pm an eF ct),osl⟩)
  (c:codeIn K eF qual=true) (k:keepIn K (.ref f)=true):Fz K x qual st f (fnOf x qual (d7 st) (bo st) (ao st) .none kV doc pm an eF ct):=⟨⟨oc,od,kV,doc,pm,an,eF,ct,osl,rfl,l,c⟩,k⟩
end
def Ea (hr:cM k A):A.units+1 < cLine:=Nat.lt_of_le_of_lt (Nat.add_le_add_left (by decide:1<=64) _) hr.units
section
variable {X:Cx}
def pv (i:Nat) (hN:X.N[i]?=some x:=by rfl) (hv:L8 X.env.scope x:=by first|exact Or.inl rfl|exact Or.inr (Or.inl rfl)|exact Or.inr (Or.inr rfl)) (hd:(x==("__debug__":Str))=false:=by decide)
  (hcd:(x==("__classdict__":Str))=false:=by decide):PE X (.Name x pos) (nF i):=Dp hN hv hd hcd
end
def KR {A B:Prop} [Decidable c] (h1:c->A) (h2: ¬ c->B):if c then A else B:=by
 by_cases h:c
 ·rw[Qv h]
  exact h1 h
 ·rw[Qw h]
  exact h2 h
def eJ (H H':Hp):Prop:= ∀ b o,H b=some o->H' b=some o
def eJ.trans (a:eJ H H1) (b:eJ H1 H2):eJ H H2:=λc o h=>b c o (a c o h)
def eJ.seq {K:Frag} {H H':Hp} {a:Addr} {xs:List V} (e:eJ H H') (h:bU K H a xs):bU K H' a xs:=by
 rcases h with(h|⟨o,h⟩)|h
 ·exact .inl (.inl (e _ _ h))
 ·exact .inl (.inr ⟨o,e _ _ h⟩)
 ·exact .inr h
end L2
end
namespace L2
section
variable {κ:Type} [DecidableEq κ]
def lr (kvs:List (κ×V)) (k:κ):Option V:=(kvs.find? λkv=>decide (kv.1=k)).map (·.2)
def putK (kvs:List (κ×V)) (k:κ) (v:V):List (κ×V):=
 if(kvs.any λkv=>decide (kv.1=k))=true then kvs.map (λkv=>if kv.1=k then(kv.1,v) else kv) else kvs++[(k,v)]
def ll {p:κ×V} {r:List (κ×V)} {k:κ} (e:p.1=k):lr (p::r) k=some p.2:=by simp[lr,List.find?_cons,e]
def lq {p:κ×V} {r:List (κ×V)} {k:κ} (e: ¬ p.1=k):lr (p::r) k=lr r k:=by simp[lr,List.find?_cons,e]
theorem uQ (k:κ): ∀ kvs:List (κ×V),(kvs.any λkv=>decide (kv.1=k))=(lr kvs k).isSome
 |[]=>rfl
 |p::r=>by
  rw[List.any_cons]
  by_cases e:p.1=k
  ·simp only[ll e,decide_eq_true e,Bool.true_or,Option.isSome_some]
  ·rw[lq e,Qb e,Bool.false_or];exact uQ k r
def m8 (kvs:List (κ×V)) (k:κ) (v:V):(putK kvs k v).length<=kvs.length+1:=by
 unfold putK
 split
 ·rw[PD];lia
 ·rw[Qc,PY,List.length_nil];lia
def qT.mG (r:qT o u):o.isSome=u.isSome:=by
 cases o with
 |none=>cases u with
  |none=>rfl
  |some _=>exact(show False from r).elim
 |some _=>cases u with
  |none=>exact(show False from r).elim
  |some _=>rfl
def KV.val (r:KV kvs vs) (k:κ):qT (lr kvs k) (valueAt vs k):=by
 unfold KV at r
 induction r with
 |nil=>exact True.intro
 | @cons p q ps qs h t ih=>
  obtain⟨h1,h2⟩:=h
  by_cases e:p.1=k
  ·have e':q.1=k:=h1.symm.trans e
   have b:valueAt (q::qs) k=some q.2:=by simp[valueAt,List.find?_cons,e']
   rw[ll e,b];exact h2
  ·have e': ¬ q.1=k:=λz=>e (h1.trans z)
   have b:valueAt (q::qs) k=valueAt qs k:=by simp[valueAt,List.find?_cons,e']
   rw[lq e,b];exact ih
def KV.any (r:KV kvs vs) (k:κ):(kvs.any λkv=>decide (kv.1=k))=vs.any λkv=>decide (kv.1=k):=by
 unfold KV at r
 induction r with
 |nil=>rfl
 |cons h t ih=>rw[List.any_cons,List.any_cons,ih,h.1]
def KV.xV (r:KV kvs vs) (k:κ) (ry:RelV y u):
  KV (kvs.map λkv=>if kv.1=k then(kv.1,y) else kv) (vs.map λkv=>if kv.1=k then(kv.1,u) else kv):=by
 unfold KV at r ⊢
 induction r with
 |nil=>exact .nil
 | @cons p q ps qs h t ih=>
  rw[PQ,PQ]
  refine .cons ?_ ih
  obtain⟨h1,h2⟩:=h
  by_cases e:p.1=k
  ·rw[Qv e,Qv (h1.symm.trans e)];exact⟨h1,ry⟩
  ·rw[Qw e,Qw (λz=>e (h1.trans z))];exact⟨h1,h2⟩
def KV.put (r:KV kvs vs) (k:κ) (ry:RelV y u):KV (putK kvs k y) (stored vs k u):=by
 unfold putK stored
 rw[r.any k]
 by_cases e:(vs.any λkv=>decide (kv.1=k))=true
 ·rw[Qv e,Qv e];exact r.xV k ry
 ·rw[Qw e,Qw e];exact Paired.snoc r ⟨rfl,ry⟩
def KV.keys {kvs:List (κ×V)} {vs:List (κ×Value)} (r:KV kvs vs):kvs.map (·.1)=vs.map (·.1):=by
 unfold KV at r
 induction r with
 |nil=>rfl
 |cons h t ih=>rw[PQ,PQ,ih,h.1]
theorem KV.length (r:KV kvs vs):kvs.length=vs.length:=Paired.length r
end
def Al (r:RelV (kV k) u):(aY P w).is k u=true:=by
 cases k with
 |inl i=>obtain⟨t,e⟩:=(show ∃ t,u=Value.int i t from r);subst e;exact vU P w i t
 |inr x=>obtain⟨t,e⟩:=(show ∃ t,u=Value.str x t from r);subst e;exact vT P w x t
theorem rS: ∀ {ks:List Key} {us:List Value},Vals (ks.map kV) us->ItemsAre (aY P w) ks us
 |[],_,r=>by rw[List.map_nil] at r;cases r;exact .nil
 |k::ks,_,r=>by
  rw[PQ] at r
  cases r with
  |cons h t=>exact .cons (Al h) (rS t)
abbrev KT (H:Hp):List (List Key×V)->List (List Key×Addr×Value)->Prop:=Paired λp q=>p.1=q.1/\H q.2.1=some (.tup (p.1.map kV))/\RelV p.2 q.2.2
def KT.val (r:KT H kvs xs) (k:List Key):qT (lr kvs k) ((atKey xs k).map (·.2)):=by
 induction r with
 |nil=>exact True.intro
 | @cons p q ps qs h t ih=>
  obtain⟨h1,_,h2⟩:=h
  by_cases e:p.1=k
  ·have e':q.1=k:=h1.symm.trans e
   have b:atKey (q::qs) k=some q.2:=by simp[atKey,List.find?_cons,e']
   rw[ll e,b];exact h2
  ·have e': ¬ q.1=k:=λz=>e (h1.trans z)
   have b:atKey (q::qs) k=atKey qs k:=by simp[atKey,List.find?_cons,e']
   rw[lq e,b];exact ih
def KT.xV (r:KT H kvs xs) (k:List Key) (ry:RelV y u):
  KT H (kvs.map λkv=>if kv.1=k then(kv.1,y) else kv) (xs.map (putAt k u)):=by
 induction r with
 |nil=>exact .nil
 | @cons p q ps qs h t ih=>
  rw[PQ,PQ]
  refine .cons ?_ ih
  obtain⟨h1,h2,h3⟩:=h
  unfold putAt
  by_cases e:p.1=k
  ·rw[Qv e,Qv (h1.symm.trans e)];exact⟨h1,h2,ry⟩
  ·rw[Qw e,Qw (λz=>e (h1.trans z))];exact⟨h1,h2,h3⟩
def KT.put (r:KT H kvs xs) (k:List Key) (hb:H b=some (.tup (k.map kV))) (ry:RelV y u):
  KT H (putK kvs k y) (storedH xs k b u):=by
 have e:(kvs.any λkv=>decide (kv.1=k))=(atKey xs k).isSome:=by
  rw[uQ,(r.val k).mG,Option.isSome_map]
 unfold putK storedH
 rw[e]
 by_cases q:(atKey xs k).isSome=true
 ·rw[Qv q,Qv q];exact r.xV k ry
 ·rw[Qw q,Qw q];exact Paired.snoc r ⟨rfl,hb,ry⟩
def KT.keeps (r:KT H kvs xs) (ht: ∀ b ys,H b=some (.tup ys)->H' b=some (.tup ys)):KT H' kvs xs:=
 Paired.Kx r λ_ _ z=>⟨z.1,ht _ _ z.2.1,z.2.2⟩
section
variable {P:Program} {w:World} {H:Hp} {h:Heap} {a:Addr}
def Iy (ok:jU P w H h) (e:Rd H a u):cg P w H h a u:=e.ok ok
def wB (ok:jU P w H h) (e:Rd H a (.dK kvs)):kvs.length<=sizeLine/\(a==sysModules)=false/\∃ vs,KV kvs vs/\h.DictOf (aY P w) a vs:=
 show cg P w H h a (.dK kvs) from Iy ok e
def Ng (ok:jU P w H h) (e:H a=some (.dK kvs)):kvs.length<=sizeLine/\(a==sysModules)=false/\∃ vs,KV kvs vs/\h.DictOf (aY P w) a vs:=wB ok (.inl e)
def t8 (ok:jU P w H h) (e:H a=some (.tup (ks.map kV))):(tupleKind (aY P w)).is h ks a:=by
 obtain⟨_,aC,r,o,h1,h2,n,h3⟩:=(show cg P w H h a (.tup (ks.map kV)) from ok a _ e)
 exact⟨o,aC.toArray,n,h1,h2,h3,by simpa using rS r⟩
def AA (ok:jU P w H h) (e:Rd H a (.dT kvs)):kvs.length<=sizeLine/\(a==sysModules)=false/\
  ∃ xs,KT H kvs xs/\h.DictOfH (tupleKind (aY P w)) a xs:=by
 obtain⟨z,y,xs,r,o,es,ep,h1,h2,h3,h4,h5⟩:=(show cg P w H h a (.dT kvs) from Iy ok e)
 refine⟨z,y,xs,r,o,es,ep,h1,h2,h3,h4,λx hx=>?_,h5⟩
 have all: ∀ {l:List (List Key×V)} {m:List (List Key×Addr×Value)},KT H l m->∀ x∈m,(tupleKind (aY P w)).is h x.1 x.2.1:=by
  intro l m q
  induction q with
  |nil=>intro x hx;exact nomatch hx
  | @cons p q ps qs hq t ih=>
   intro x hx
   rcases PR.mp hx with e|hx
   ·subst e
    exact t8 ok (by rw[<-hq.1];exact hq.2.1)
   ·exact ih x hx
 exact all r x hx
def Nf (ok:jU P w H h) (e:H a=some (.dT kvs)):kvs.length<=sizeLine/\(a==sysModules)=false/\
  ∃ xs,KT H kvs xs/\h.DictOfH (tupleKind (aY P w)) a xs:=AA ok (.inl e)
end
def Cg (H:Hp) (a:Addr) (y:V) (r:Option V):Prop:=
 (∃ kvs k,Rd H a (.dK kvs)/\y=kV k/\r=lr kvs k)\/∃ kvs k b,Rd H a (.dT kvs)/\y= .ref b/\H b=some (.tup (k.map kV))/\r=lr kvs k
def NK (H:Hp) (a:Addr) (y v:V) (H':Hp):Prop:=
 (∃ kvs k,H a=some (.dK kvs)/\y=kV k/\kvs.length < sizeLine/\H'=upd H a (.dK (putK kvs k v)))\/
 ∃ kvs k b,H a=some (.dT kvs)/\y= .ref b/\H b=some (.tup (k.map kV))/\kvs.length < sizeLine/\H'=upd H a (.dT (putK kvs k v))
section
variable {X:Cx} {pZ:List (Addr×Obj)} {σ:St} {H:Hp} {s:Shared} {a:Addr} {y v:V} {u r:Value} {o:Option V} {A:Around} {E:Value->Shared->Prop}
def Inv.big (I:Inv X pZ σ H s):sysModules < s.heap.objs.size:=by
 have h:mainGlobals < s.heap.objs.size:=(I.mod.glob.keeps I.bk).lt
 exact Nat.lt_trans (by decide) h
def B5 (hu:A.units+1 < cLine) (I:Inv X pZ σ H s) (g:Cg H a y (some v)) (ry:RelV y u) (h: ∀ w' s',Inv X pZ σ H s'->RelV v w'->Q w' s'):
  wpAny (model X.prog X.w) A (getItem (.ref a) u) Q E s:=by
 rcases g with⟨kvs,k,e,ey,l⟩|⟨kvs,k,b,e,ey,eb,l⟩
 ·subst ey
  obtain⟨z,hd,vs,rel,dd⟩:=wB I.a9 e
  obtain⟨w',hw,rw'⟩:=qT.some_of (v:=v) (o:=valueAt vs k) (by rw[l];exact rel.val k)
  exact wpAny_getItem_of (Al ry) dd.mapOf hw (h w' _ (I.tok _) rw')
 ·subst ey
  cases (show u=Value.ref b from ry)
  obtain⟨z,hd,xs,rel,dd⟩:=AA I.a9 e
  obtain⟨w',hw,rw'⟩:=qT.some_of (v:=v) (o:=(atKey xs k).map (·.2)) (by rw[l];exact rel.val k)
  obtain⟨p,hp,hp2⟩:=Qa.mp hw
  refine wpAny_getItem_heap (tupleKind_room_in1 hu) (t8 I.a9 eb) dd hp ?_
  rw[hp2]
  exact h w' _ (I.tok _) rw'
def OZ (hu:A.units+1 < cLine) (I:Inv X pZ σ H s) (g:Cg H a y o) (ry:RelV y u) (h: ∀ s',Inv X pZ σ H s'->Q (.bool o.isSome) s'):
  wpAny (model X.prog X.w) A (compareOp .In u (.ref a)) Q E s:=by
 rcases g with⟨kvs,k,e,ey,l⟩|⟨kvs,k,b,e,ey,eb,l⟩
 ·subst ey
  obtain⟨z,hd,vs,rel,dd⟩:=wB I.a9 e
  refine wpAny_in_of (Al ry) hd dd.mapOf ?_
  rw[<-(rel.val k).mG,<-l]
  exact h _ (I.tok _)
 ·subst ey
  cases (show u=Value.ref b from ry)
  obtain⟨z,hd,xs,rel,dd⟩:=AA I.a9 e
  refine wpAny_in_heap (tupleKind_room_in1 hu) (t8 I.a9 eb) hd dd ?_
  have q:=(rel.val k).mG
  rw[Option.isSome_map] at q
  rw[<-q,<-l]
  exact h _ (I.tok _)
def AG (I:Inv X pZ σ H s) (mu:NB (H a)) (hs:Heap.SameBut a s.heap h') (he: ∃ q,h'.get? a=some q) (new:cg X.prog X.w (upd H a ob) h' a ob):
  Inv X pZ σ (upd H a ob) {s with heap:=h',toks:=t'}:=
 I.write (x:=a) (e:=a) mu (.inl rfl) (λb q hb z=>(hs.2 b hb).trans z) he new
def Lm (z:kvs.length<=sizeLine) (hd:(a==sysModules)=false) (rel:KV kvs vs) (dd:h'.DictOf (aY P w) a vs):
  cg P w H' h' a (.dK kvs):=⟨z,hd,vs,rel,dd⟩
def B2 (hu:A.units+1 < cLine) (I:Inv X pZ σ H s) (g:NK H a y v H') (ry:RelV y u) (rv:RelV v r) (h: ∀ s',Inv X pZ σ H' s'->Q () s'):
  wpAny (model X.prog X.w) A (setItem (.ref a) u r) Q E s:=by
 rcases g with⟨kvs,k,e,ey,l,eH⟩|⟨kvs,k,b,e,ey,eb,l,eH⟩
 ·subst ey eH
  obtain⟨z,hd,vs,rel,dd⟩:=Ng I.a9 e
  have hz:vs.length<=sizeLine:=by rw[<-rel.length];exact z
  have hl:(putK kvs k v).length<=sizeLine:=by have:=m8 kvs k v;lia
  refine wpAny_setItem_pairs (hsz:=hz) (Al ry) dd λh' dd' hs=>h _ ?_
  have he: ∃ q,h'.get? a=some q:=let ⟨q,_,_,hq,_⟩:=dd';⟨q,hq⟩
  exact AG I (by rw[e];exact True.intro) hs he (Lm hl hd (rel.put k rv) dd')
 ·subst ey eH
  cases (show u=Value.ref b from ry)
  obtain⟨z,hd,xs,rel,dd⟩:=Nf I.a9 e
  have hz:xs.length<=sizeLine:=by rw[<-Paired.length rel];exact z
  have hl:(putK kvs k v).length<=sizeLine:=by have:=m8 kvs k v;lia
  refine wpAny_setItem_heap (hsz:=hz) (tupleKind_room_in1 hu) (t8 I.a9 eb) dd λh' dd' hs=>h _ ?_
  obtain⟨q,es,ep,hq,h2,h3,h4,_,h5⟩:=dd'
  refine AG I (by rw[e];exact True.intro) hs ⟨q,hq⟩ ⟨hl,hd,_,(rel.put k eb rv).keeps λc ys ec=>?_,q,es,ep,hq,h2,h3,h4,h5⟩
  rw[ag (DL ec e (λz=>nomatch z))]
  exact ec
end
section
variable {X:Cx} {pZ:List (Addr×Obj)} {σ:St} {H:Hp} {s:Shared} {a:Addr} {kvs:List (Key×V)} {k:Key} {u:Value} {A:Around} {E:Value->Shared->Prop}
def Nh (I:Inv X pZ σ H s) (e:Rd H a (.dK kvs)) (h: ∀ t s',Inv X pZ σ H s'->Q (.int kvs.length t) s'):wpAny (model X.prog X.w) A (call (.builtin "len") [.ref a]) Q E s:=by
 obtain⟨z,hd,vs,rel,dd⟩:=wB I.a9 e
 refine call_len_dict hd dd (by rw[<-rel.length];rw[Qm] at z;lia) ?_
 rw[<-rel.length]
 exact h _ _ (I.tok _)
end
def LL (i:Expr):Prop:= ∀ ov iv,subscripted i false ov iv=operate [ov,iv] (getItem ov iv)
def FQ {prog:Program} {w:World} {A:Around} {E:Value->Shared->Prop} {s:Shared} {env:Env} {value slice:Expr} {pos:Pos} {T id:String} {Q:Value->Shared->Prop}
  (hl:typeLookup (.type T) "__getitem__"=pure (some (.builtin id))) (hs:LL slice)
  (h:wpAny (model prog w) A (eval value env) (λo s₁=>wpAny (model prog w) A (eval slice env) (λi s₂=>s₂.TypeIs o T/\wpAny (model prog w) A (getItem o i) Q E s₂) E s₁) E s):
  wpAny (model prog w) A (eval (.Subscript value slice pos) env) Q E s:=by
 refine Subscript_ (wpAny_mono h (λo s₁ h₁=>wpAny_mono h₁ (λi s₂ h₂=>?_) λ_ _ x=>x) λ_ _ x=>x)
 obtain⟨hT,h₂⟩:=h₂
 unfold subscriptTail
 refine Pz ?_
 rw[getitemInPython_of_ne hT.not_modules]
 refine Pz (wpAny_specialOf hT hl ?_)
 have fin:wpAny (model prog w) A (subscripted slice false o i) (λr s₃=>wpAny (model prog w) A (letTemporaryGo value o r >>= λ_=>pure r) Q E s₃) E s₂:=by
  rw[hs o i]
  exact wpAny_operating (wpAny_mono h₂ (λr s₃ h₃=>Pz (wpAny_letTemporaryGo (PJ h₃))) λ_ _ x=>x)
 first
  |exact PJ (Pz fin)
  |exact Pz (PJ (Pz fin))
  |exact Pz fin
def wF (I:Inv X pZ σ H s) (g:Cg H a y o):s.TypeIs (.ref a) "dict":=by
 rcases g with⟨kvs,k,e,_,_⟩|⟨kvs,k,b,e,_,_,_⟩
 ·obtain⟨_,_,vs,_,dd⟩:=wB I.a9 e
  exact dd.typeIs
 ·obtain⟨_,_,xs,_,dd⟩:=AA I.a9 e
  exact dd.typeIs
def Ir (td ty:TE):TE:=λσ H Q=>td σ H λx H1=>ty σ H1 λy H2=> ∃ a v,x= .ref a/\Cg H2 a y (some v)/\Q v H2
def JD (ty td:TE):TE:=λσ H Q=>ty σ H λy H1=>td σ H1 λx H2=> ∃ a o,x= .ref a/\Cg H2 a y o/\Q (.bl o.isSome) H2
def C1 (td ty tv:TE):TS:=λD σ H=>tv σ H λv H1=>td σ H1 λx H2=>ty σ H2 λy H3=> ∃ a H4,x= .ref a/\NK H3 a y v H4/\D.nx σ H4
section
variable {X:Cx} {o i e value:Expr} {pos pos' tpos:Pos} {td ty tv:TE}
def Gv (hu:X.A.units+1 < cLine) (ho:PE X o td) (hi:PE X i ty) (hs:LL i):PE X (.Subscript o i pos) (Ir td ty):=by
 intro pZ s σ H Q I h
 refine FQ PySem.F.slot_dict_getitem.lookup hs (bq (ho pZ s σ H _ I h) λu s1 ⟨x,H1,I1,rx,q1⟩=>bq (hi pZ s1 σ H1 _ I1 q1) λiv s2 ⟨y,H2,I2,ry,a,v,ex,g,q2⟩=>?_)
 subst ex
 obtain rfl:u=Value.ref a:=rx
 exact⟨wF I2 g,B5 hu I2 g ry λw' s3 I3 rw'=>⟨v,H2,I3,rw',q2⟩⟩
def Du (hu:X.A.units+1 < cLine) (hi:PE X i ty) (ho:PE X o td):PC X .In i o (JD ty td):=by
 intro pZ s σ H Q I h
 refine bq (hi pZ s σ H _ I h) λiv s1 ⟨y,H1,I1,ry,q1⟩=>bq (ho pZ s1 σ H1 _ I1 q1) λu s2 ⟨x,H2,I2,rx,a,ov,ex,g,q2⟩=>?_
 subst ex
 obtain rfl:u=Value.ref a:=rx
 exact OZ hu I2 g ry λs3 I3=>⟨.bl ov.isSome,H2,I3,rfl,q2⟩
def Gq (hu:X.A.units+1 < cLine) (ho:PE X o td) (hi:PE X i ty) (hv:PE X value tv) (hs:swapsWith value (some (.Subscript o i pos')) pos.line X.env=pure false):
  PS X (.Assign [.Subscript o i pos'] value pos) (C1 td ty tv):=by
 intro pZ s σ H D I h
 refine wpAny_Assign_Subscript (bq (hv pZ s σ H _ I h) λr s1 ⟨v,H1,I1,rv,q1⟩=>bq (ho pZ s1 σ H1 _ I1 q1) λu s2 ⟨x,H2,I2,rx,q2⟩=>bq (hi pZ s2 σ H2 _ I2 q2) λiv s3 ⟨y,H3,I3,ry,a,H4,ex,g,q3⟩=>?_) hs
 subst ex
 obtain rfl:u=Value.ref a:=rx
 exact B2 hu I3 g ry rv λs4 I4=>⟨σ,H4,I4,q3⟩
end
def EI (h:Heap) (hb:sysModules < h.objs.size):cg P w H (h.push {cls:=.type "dict",data:=.dict #[]}) h.objs.size (.dK []):=
 ⟨Qe _,beq_eq_false_iff_ne.mpr (Ne.symm (Qg hb)),[],.nil,Heap.DictOf.new h⟩
def CI:TE:=λ_ H Q=> ∀ p,H p=none->Q (.ref p) (upd H p (.dK []))
section
variable {X:Cx} {pos:Pos}
def Ds:PE X (.Dict [] [] pos) CI:=λpZ s σ H Q I h=>
 wpAny_Dict_empty ⟨.ref s.heap.objs.size,_,I.laid (a:=s.heap.objs.size) (o:=.dK []) (t':=s.toks) (λ_ _ q=>PF _ q) (PM _) (EI s.heap I.big),rfl,h _ (I.a9.fresh (PM _))⟩
end
def eN (cells:List (Str×Addr)) (cs:List (Str×Addr)) (p:Str×NameKind):List (Str×Addr):=
 if p.2== .free then(match cells.lookup p.1 with|some c=>(p.1,c)::cs|none=>cs) else cs
def wO (names:List (Str×NameKind)) (cells:List (Str×Addr)):List (Str×Addr):=names.foldl (eN cells) []
theorem lS (env:Env): ∀ (names:List (Str×NameKind)) (cs:List (Str×Addr)),(∀ p∈names,p.2= .free->∃ c,env.cells.lookup p.1=some c)->
  (forIn names cs λ(p:Str×NameKind) r=>(if(p.2== .free)=true then do let a <-cellOf env p.1;pure (ForInStep.yield ((p.1,a)::r)) else pure (ForInStep.yield r):Sem (ForInStep (List (Str×Addr)))))=pure (names.foldl (eN env.cells) cs)
 |[],cs,_=>rfl
 |p::r,cs,h=>by
  have ih:=λcs'=>lS env r cs' λq hq=>h q (PH _ hq)
  rw[List.forIn_cons]
  by_cases hp:(p.2== .free)=true
  ·obtain⟨c,hc⟩:=h p PB (by simpa using hp)
   have e:eN env.cells cs p=(p.1,c)::cs:=by unfold eN;rw[Qv hp,hc]
   have e2:cellOf env p.1=pure c:=by unfold cellOf;rw[hc]
   rw[Qv hp,e2,List.foldl_cons,e]
   exact ih _
  ·have e:eN env.cells cs p=cs:=by unfold eN;rw[Qw hp]
   rw[Qw hp,List.foldl_cons,e]
   exact ih _
def kU (h: ∀ p∈scope.names,p.2= .free->∃ c,env.cells.lookup p.1=some c):closureFor scope env=pure (wO scope.names env.cells):=by
 have q:=lS env scope.names [] h
 unfold closureFor
 show (forIn scope.names [] _ >>= λcs=>pure cs)=_
 have e: ∀ m:Sem (List (Str×Addr)),(m >>= λcs=>pure cs)=m:=λm=>bind_pure m
 rw[e]
 exact q
theorem dH (cells:List (Str×Addr)): ∀ (names:List (Str×NameKind)) (cs:List (Str×Addr)),(∀ x c,cs.lookup x=some c->cells.lookup x=some c)->∀ x c,(names.foldl (eN cells) cs).lookup x=some c->cells.lookup x=some c
 |[],_,h=>h
 |p::r,cs,h=>dH cells r _ (λx c e=>by
  unfold eN at e
  split at e
  ·split at e
   ·rename_i c' hc'
    rw[List.lookup_cons] at e
    split at e
    ·rename_i hx
     have hx':x=p.1:=by simpa using hx
     cases e;rw[hx'];exact hc'
    ·exact h x c e
   ·exact h x c e
  ·exact h x c e)
theorem wN (cells:List (Str×Addr)): ∀ (names:List (Str×NameKind)) (cs:List (Str×Addr)) (x:Str),(∃ c,cs.lookup x=some c)->∃ c,(names.foldl (eN cells) cs).lookup x=some c
 |[],_,_,h=>h
 |p::r,cs,x,h=>wN cells r _ x (by
  unfold eN
  split
  ·split
   ·rw[List.lookup_cons]
    split
    ·exact⟨_,rfl⟩
    ·exact h
   ·exact h
  ·exact h)
theorem yK (cells:List (Str×Addr)): ∀ (names:List (Str×NameKind)) (cs:List (Str×Addr)) (x:Str),(x,NameKind.free)∈names->(∃ c,cells.lookup x=some c)->∃ c,(names.foldl (eN cells) cs).lookup x=some c
 |[],_,_,h,_=>by simp at h
 |p::r,cs,x,h,hc=>by
  rcases PR.mp h with e|e
  ·subst e
   refine wN cells r _ x ?_
   obtain⟨c,hc⟩:=hc
   unfold eN
   rw[Qv (by rfl),hc]
   exact⟨c,by rw[List.lookup_cons];simp⟩
  ·exact yK cells r _ x e hc
noncomputable def fN (X:Cx) (scope:Scope) (N:List Str) (s₀:Shared) (H₀:Hp) (ex:List Addr) (pn:List (Addr×Obj)):Cx:=
 {prog:=X.prog,w:=X.w,K:=X.K,mg:=X.mg,base:=X.base,A:=X.A,N:=N,s₀:=s₀,H₀:=H₀,env:=compEnvC scope (wO scope.names X.env.cells) s₀.heap.objs.size X.env,outer:=X.stack,stack:=X.stack,ex:=ex,fn:=λ_=>false,calm:=true,pn:=pn,xe:=λ_ _=>False}
def fT (js:List (Option Nat)) (σ:St):St:=js.map λo=>match o with|some j=>(σ[j]?).getD none|none=>none
def AY (X:Cx) (ifs:List Expr) (t:TT):Prop:=
 ∀ (pZ:List (Addr×Obj)) (s:Shared) (σ:St) (H:Hp) (Q:Bool->Hp->Prop),Inv X pZ σ H s->t σ H Q->
  wpAny (model X.prog X.w) X.A (forIn ifs true λc r=>if r=true then do let ok <-isTrue c X.env (eval c X.env);pure (ForInStep.yield ok) else pure (ForInStep.yield r)) (TP X pZ σ Q) X.xe s
def Mp:TT:=λ_ H Q=>Q true H
def Gm:AY X [] Mp:=λpZ s σ H Q I h=>wpAny_tests_nil ⟨H,I,h⟩
def Gk (h:PT X c t):AY X [c] t:=λpZ s σ H Q I hw=>wpAny_tests_one (h pZ s σ H Q I hw)
def B6 (I:Nat->Shared->Prop)
  (turn: ∀ n s,I n s->wpAny (model prog w) A (pyNext it) (λr s₁=>match r with
   |none=>R (.ok .next) s₁
   |some v=>wpAny (model prog w) A (letOwnedTupleGo target it v) (λ_ s₁'=>wpAny (model prog w) A (assign target env v) (λ_ s₂=>
     wpAny (model prog w) A (forIn ifs true λc r=>if r=true then do let ok <-isTrue c env (eval c env);pure (ForInStep.yield ok) else pure (ForInStep.yield r)) (λok s₃=>
      if ok=true then wpAny (model prog w) A (eval elt env) (λx s₄=>
       wpAny (model prog w) A (call (.builtin "list.append") [acc,x]) (λ_ s₅=> ∃ m,m < n/\I m s₅) (λ_ _=>False) s₄) (λ_ _=>False) s₃
      else ∃ m,m < n/\I m s₃) (λ_ _=>False) s₂) (λ_ _=>False) s₁') (λ_ _=>False) s₁) (λ_ _=>False) s)
  (n:Nat) (h:I n s):
  codeAny (model prog w) A (.compLoop (.ListComp elt [⟨target,iter,ifs,0⟩] scope pos) 0 it acc env) R s:=by
 refine codeAny_loop rfl I (λn s hI=>?_) n h
 show wpAny _ A ((compTurn (.ListComp elt [⟨target,iter,ifs,0⟩] scope pos) 0 it acc env).onRaise (λx=>do noteFrame x env;theTreesLotGoes x)) _ _ s
 refine wpAny_noted ?_
 refine wpAny_mono (E:=λ_ _=>False) ?_ (λ_ _ q=>q) λ_ _ q=>q.elim
 rw[compTurn_list]
 refine Pz (wpAny_standAt (Pz (bq (turn n s hI) λr s₁ h₁=>?_)))
 cases r with
 |none=>exact PJ h₁
 |some v=>
  refine Pz (bq h₁ λ_ s₁' h₁'=>?_)
  refine Pz (bq h₁' λ_ s₂ h₂=>Pz (bq h₂ λok s₃ h₃=>?_))
  cases ok with
  |false=>exact PJ ⟨rfl,h₃⟩
  |true=>exact Pz (Pz (bq h₃ λx s₄ h₄=>Pz (bq h₄ λ_ s₅ h₅=>PJ (PJ ⟨rfl,h₅⟩))))
def Pu (J:It) (D:Addr) (g:TG) (tt:TT) (te:TE) (Q:VK) (σ0:St) (H1:Hp):Prop:=
 ∃ W:Nat->Nat->St->Hp->Prop,(∃ m,W 0 m σ0 (upd H1 D (.lst [])))/\∀ i m σ' H',W i m σ' H'->
  (J.stop i H'/\Q (.ref D) H')\/(J.go i H'/\∀ x H2,J.Ci i H' x H2->g x σ' H2 λσ2 H3=>tt σ2 H3 λok H4=>
   if ok=true then te σ2 H4 λy H5=> ∃ ys,H5 D=some (.lst ys)/\ys.length < sizeLine/\∃ m',m' < m/\W (i+1) m' σ2 (upd H5 D (.lst (ys++[y])))
   else ∃ m',m' < m/\W (i+1) m' σ2 H4)
def Cj (js:List (Option Nat)) (wi:TI) (g:TG) (tt:TT) (te:TE):TE:=λσ H Q=>wi σ H λJ H1=> ∀ D,H1 D=none->Pu J D g tt te Q (fT js σ) H1
structure a7 (X:Cx) (scope:Scope) (N:List Str) (js:List (Option Nat)):Prop where
 kind:scope.kind= .function
 yn: ∀ y∈scope.names,y.2≠.cell
 names: ∀ y∈scope.names,y.2= .local->scope.names.lookup y.1=some .local
 free: ∀ y∈scope.names,y.2= .free->X.env.scope.names.lookup y.1=some .cell\/X.env.scope.names.lookup y.1=some .free
 len:js.length=N.length
 Pq: ∀ (i:Nat) (y:Str) (j:Nat),N[i]?=some y->js[i]?=some (some j)->X.N[j]?=some y/\scope.names.lookup y=some .free
def kG (env:Env) (p:Str×NameKind):Str×NameKind:=if(p.2==NameKind.free&&env.scope.kind== .function&&env.kindOf p.1==some .cell) then(p.1,NameKind.cell) else(p.1,p.2)
def vv (env:Env) (p:Str×NameKind):(kG env p).1=p.1:=by unfold kG;split<;>rfl
theorem vq: ∀ {names:List (Str×NameKind)} {x:Str},names.lookup x=some .free->(names.map (kG env)).lookup x=some .cell\/(names.map (kG env)).lookup x=some .free
 |[],_,h=>by simp at h
 |p::r,x,h=>by
  rw[PQ,List.lookup_cons,vv]
  rw[List.lookup_cons] at h
  cases hx:x==p.1 with
  |true=>
   rw[hx] at h
   have h':p.2= .free:=by simpa using h
   have e:(kG env p).2= .cell\/(kG env p).2= .free:=by
    unfold kG
    split
    ·exact .inl rfl
    ·exact .inr h'
   rcases e with e|e
   ·exact .inl (congrArg some e)
   ·exact .inr (congrArg some e)
  |false=>
   rw[hx] at h
   exact vq (env:=env) h
theorem vt: ∀ {names:List (Str×NameKind)} {x:Str},((names.map (kG env)).lookup x=some .cell\/(names.map (kG env)).lookup x=some .free)->(x,NameKind.free)∈names\/(x,NameKind.cell)∈names
 |[],_,h=>by simp at h
 |p::r,x,h=>by
  rw[PQ,List.lookup_cons,vv] at h
  cases hx:x==p.1 with
  |true=>
   rw[hx] at h
   have hx':x=p.1:=by simpa using hx
   have h2:(kG env p).2= .cell\/(kG env p).2= .free:=h.elim (λz=>.inl (Qz z)) λz=>.inr (Qz z)
   have e:p.2= .free\/p.2= .cell:=by
    by_cases hc:(p.2==NameKind.free&&env.scope.kind== .function&&env.kindOf p.1==some .cell)=true
    ·simp only[Qk] at hc
     exact .inl (by simpa using hc.1.1)
    ·have e2:kG env p=(p.1,p.2):=by unfold kG;rw[Qw hc]
     rw[e2] at h2
     exact h2.symm
   rcases e with e|e
   ·exact .inl (by rw[hx',<-e];exact PB)
   ·exact .inr (by rw[hx',<-e];exact PB)
  |false=>
   rw[hx] at h
   rcases vt h with q|q
   ·exact .inl (PH _ q)
   ·exact .inr (PH _ q)
section
variable {X:Cx} {pZ:List (Addr×Obj)} {σ:St} {H:Hp} {s:Shared} {scope:Scope} {N:List Str} {js:List (Option Nat)} {fp:List Addr}
def a7.HA (L:a7 X scope N js) (ok:X.Ok): ∀ p∈scope.names,p.2= .free->∃ c,X.env.cells.lookup p.1=some c:=λp hp hf=>ok.has p.1 (L.free p hp hf)
theorem a7.ok (L:a7 X scope N js) (I:Inv X pZ σ H s) (hc:X.calm=true) (hf: ∀ b∈fp,cW X pZ H b) (ho: ∀ b∈fp,∃ o,s.heap.get? b=some o):(fN X scope N s H fp (X.pn++pZ)).Ok where
 mod:=I.ok.mod
 kind:=L.kind
 glob:=I.ok.glob
 blt:=I.ok.blt
 above:=PM _
 inj:=λx y c h1 h2=>I.ok.inj x y c (dH _ _ _ (λ_ _ e=>by simp at e) x c h1) (dH _ _ _ (λ_ _ e=>by simp at e) y c h2)
 has:=λx hx=>by
  have hx':(scope.names.map (kG X.env)).lookup x=some .cell\/(scope.names.map (kG X.env)).lookup x=some .free:=hx
  rcases vt hx' with q|q
  ·exact yK _ _ _ x q (L.HA I.ok _ q rfl)
  ·exact absurd rfl (L.yn _ q)
 L6:=λx c h _=>by cases h
 hd:=λ_=>I.ok.hd hc
 frames:=I.ok.frames
 Mt:=.inl rfl
 OW:=λb hb=>by
  obtain⟨o,e⟩:=ho b hb
  refine⟨Qg (P2 e),λx c h=>(hf b hb).2.2.2.2.1 x c (dH _ _ _ (λ_ _ e=>by simp at e) x c h)⟩
 bs:=I.bs
 Fw:=P7 I.ok.Fw I.sz
 By:=λb o e hb=>by
  rcases(hf b hb).2.2.2.1 with z|z
  ·exact I.ok.By b o e z
  ·exact absurd (P9 (P2 e) (P7 I.ok.Fw z)) (Nat.lt_irrefl _)
 Eo:=λb hb z=>by
  rcases PR.mp (I.lZ b z) with e|e
  ·exact(hf b hb).2.1 e
  ·exact(hf b hb).2.2.1 e
 mK:=I.stack
 IT:=I.zB
def a7.start (L:a7 X scope N js) (I:Inv X pZ σ H s) (hc:X.calm=true) (hf: ∀ b∈fp,cW X pZ H b) (ho: ∀ b∈fp,∃ o,s.heap.get? b=some o)
  (hn:h'.Ns s.heap.objs.size (λ_=>none)) (hk: ∀ b o,s.heap.get? b=some o->h'.get? b=some o):
  Inv (fN X scope N s H fp (X.pn++pZ)) [] (fT js σ) H {s with heap:=h',toks:=tk}:=by
 refine⟨L.ok I hc hf ho,rfl,I.bare,Un.kept hk,⟨_,hn,λi y v e1 e2 e3=>?_⟩,λx c e=>?_,I.a9.fresh (PM _),λx c e=>?_,λp hp=>?_,I.a9.kept hk,?_⟩
 ·unfold fT at e2
  rw[P6] at e2
  cases ej:js[i]? with
  |none=>rw[ej] at e2;cases e2
  |some o=>
   rw[ej] at e2
   cases o with
   |none=>simp at e2
   |some j=>
    simp only[Option.map_some,Option.some.injEq] at e2
    have es:σ[j]?=some (some v):=by
     cases q:σ[j]? with
     |none=>rw[q] at e2;simp at e2
     |some z=>rw[q] at e2;simp at e2;rw[e2]
    obtain⟨en,ef⟩:=L.Pq i y j e1 ej
    have em:(y,NameKind.free)∈scope.names:=PySem.mem_of_lookup ef
    have ek:=L.free _ em rfl
    obtain⟨m,_,hl⟩:=I.loc
    obtain⟨u,r,l⟩:=hl j y v en es (ek.elim (λz=>.inr (.inl z)) λz=>.inr (.inr z))
    refine⟨u,r,.inr ⟨vq ef,?_⟩⟩
    rcases l with⟨l,_⟩|⟨_,c,ec,z⟩
    ·have l':X.env.scope.names.lookup y=some .local:=l
     rcases ek with ek|ek<;>(rw[ek] at l';cases l')
    ·obtain⟨c',hc'⟩:=yK X.env.cells scope.names [] y em ⟨c,ec⟩
     have e':=dH X.env.cells scope.names [] (λ_ _ e=>by simp at e) y c' hc'
     rw[ec] at e';cases e'
     obtain⟨o,ho,hd⟩:=z
     exact⟨c,hc',⟨o,hk c o ho,hd⟩⟩
 ·obtain⟨v,o,ho,hd⟩:=I.cell x c (dH _ _ _ (λ_ _ e=>by simp at e) x c e)
  exact⟨v,o,hk c o ho,hd⟩
 ·exact I.jD x c (dH _ _ _ (λ_ _ e=>by simp at e) x c e)
 ·have hp':p∈X.pn++pZ:=by simpa[fN] using hp
  obtain⟨e,n,ne,nf,d⟩:=I.pin p hp'
  refine⟨hk _ _ e,n,Qg (P2 e),λz=>?_,d⟩
  rcases PR.mp (I.lZ _ z) with q|q
  ·exact ne q
  ·exact nf q
 ·unfold fT
  rw[PD]
  exact L.len
def DV (I:Inv X pZ σ H s) (hf: ∀ b∈fp,cW X pZ H b) (J:Inv (fN X scope N s H fp (X.pn++pZ)) ps σ' H' s'):
  Inv X pZ σ H' s'/\cW X pZ H' s.heap.objs.size/\∃ m,s'.heap.Ns s.heap.objs.size m:=by
 refine⟨I.Nk (ch:=fp) J.os J.base J.a9 J.bare λb hb=>⟨(hf b hb).2.2.2.1,(hf b hb).2.1,(hf b hb).2.2.2.2.1,(hf b hb).2.2.2.2.2⟩,I.pQ (PM _) J.free,?_⟩
 obtain⟨m,hn,_⟩:=J.loc
 exact⟨m,hn⟩
def Inv.gone {H':Hp} {s':Shared} {C:Addr} {h':Heap} {m:Str->Option Value} (I:Inv X pZ σ H' s') (f:cW X pZ H' C) (hs:Heap.SameBut C s'.heap h'):Inv X pZ σ H' {s' with heap:=h'}:=
 I.turned (t':=s'.toks) (it:=C) (λb o hb e=>(hs.2 b hb).trans e) f.1 f.2.1 f.2.2.2.1 f.2.2.2.2.1 f.2.2.2.2.2
def G2 {iter:Expr} {Q:VK} {R:Value->Addr->Result->Shared->Prop}
  (L:a7 X scope N js) (hc:X.calm=true)
  (hg: ∀ s₀ H₀ ex pn,PG (fN X scope N s₀ H₀ ex pn) target g) (ht: ∀ s₀ H₀ ex pn,AY (fN X scope N s₀ H₀ ex pn) ifs tt) (he: ∀ s₀ H₀ ex pn,PE (fN X scope N s₀ H₀ ex pn) elt te)
  (I:Inv X pZ σ H s) (T:Turn X.prog X.w X.K target J fp it tn) (st:tn 0 s.heap) (hf: ∀ b∈fp,cW X pZ H b) {h₁:Heap} {tk:Nat} (I3:Inv X pZ σ (upd H D (.lst [])) s3) (hDl: ∀ b o,s.heap.get? b=some o->b≠D) (k3: ∀ b o,s.heap.get? b=some o->s3.heap.get? b=some o)
  (hns₁:h₁.Ns s3.heap.objs.size (λ_=>none)) (kk: ∀ b o,s3.heap.get? b=some o->h₁.get? b=some o)
  (w: ∃ W:Nat->Nat->St->Hp->Prop,(∃ m,W 0 m (fT js σ) (upd H D (.lst [])))/\∀ i m σ' H',W i m σ' H'->
   (J.stop i H'/\Q (.ref D) H')\/(J.go i H'/\∀ x H2,J.Ci i H' x H2->g x σ' H2 λσ2 H3=>tt σ2 H3 λok H4=>
    if ok=true then te σ2 H4 λy H5=> ∃ ys,H5 D=some (.lst ys)/\ys.length < sizeLine/\∃ m',m' < m/\W (i+1) m' σ2 (upd H5 D (.lst (ys++[y])))
    else ∃ m',m' < m/\W (i+1) m' σ2 H4))
  (hR: ∀ C s' H',Inv X pZ σ H' s'->cW X pZ H' C->(∃ m,s'.heap.Ns C m)->Q (.ref D) H'->R (.ref D) C (.ok .next) s'):
  codeAny (model X.prog X.w) X.A (.compStart (.ListComp elt [⟨target,iter,ifs,0⟩] scope pos) 0 (.ref it) (.ref D) {newEnv scope s3.heap.objs.size X.env.globals (wO scope.names X.env.cells) X.env.qual none .none (some X.env) builtinsNs with scope:=relabel scope X.env}) (R (.ref D) s3.heap.objs.size) {s3 with heap:=h₁,toks:=tk}:=by
 have obj:=T.obj 0 s.heap st
 have ho3: ∀ b∈fp,∃ o,s3.heap.get? b=some o:=λb hb=>by obtain⟨o,e,_⟩:=obj b hb;exact⟨o,k3 b o e⟩
 have hf3: ∀ b∈fp,cW X pZ (upd H D (.lst [])) b:=λb hb=>by
  refine⟨?_,(hf b hb).2⟩
  obtain⟨o,e,_⟩:=obj b hb
  rw[ag (hDl b o e)]
  exact(hf b hb).1
 have I4:Inv (fN X scope N s3 (upd H D (.lst [])) fp (X.pn++pZ)) [] (fT js σ) (upd H D (.lst [])) {s3 with heap:=h₁,toks:=tk}:=
  L.start I3 hc hf3 ho3 hns₁ kk
 obtain⟨W,⟨m0,w0⟩,turn⟩:=w
 have st4:tn 0 h₁:=T.keep 0 _ _ st λb _ o e=>kk b o (k3 b o e)
 generalize hX:fN X scope N s3 (upd H D (.lst [])) fp (X.pn++pZ)=Y at I4
 have fpY: ∀ b∈fp,b≠Y.env.locals/\b∉Y.fs/\(b∈Y.ex\/Y.s₀.heap.objs.size<=b)/\(∀ x c,Y.env.cells.lookup x=some c->c≠b)/\∀ p∈Y.pn++[],p.1≠b:=λb hb=>by
  rw[<-hX]
  obtain⟨o,e⟩:=ho3 b hb
  refine⟨Qg (P2 e),λz=>?_,.inl hb,λx c h=>(hf b hb).2.2.2.2.1 x c (dH _ _ _ (λ_ _ e=>by simp at e) x c h),λp hp=>(hf b hb).2.2.2.2.2 p (by simpa[fN] using hp)⟩
  rcases PR.mp (I3.lZ b z) with q|q
  ·exact(hf b hb).2.1 q
  ·exact(hf b hb).2.2.1 q
 have loop:codeAny (model X.prog X.w) X.A (.compLoop (.ListComp elt [⟨target,iter,ifs,0⟩] scope pos) 0 (.ref it) (.ref D) Y.env) (R (.ref D) s3.heap.objs.size) {s3 with heap:=h₁,toks:=tk}:=by
  have pr:Y.prog=X.prog:=by rw[<-hX];rfl
  have pw:Y.w=X.w:=by rw[<-hX];rfl
  have pK:Y.K=X.K:=by rw[<-hX];rfl
  have pA:Y.A=X.A:=by rw[<-hX];rfl
  have pc:Y.calm=true:=by rw[<-hX];rfl
  have px:Y.xe=λ_ _=>False:=by rw[<-hX];rfl
  have oN: ∀ {H':Hp},(∀ b∈fp,H' b=none)->∀ b∈fp,cW Y [] H' b:=λhn b hb=>⟨hn b hb,fpY b hb⟩
  refine B6 (λn s'=> ∃ i σ' H',Inv Y [] σ' H' s'/\tn i s'.heap/\(∀ b∈fp,H' b=none)/\W i n σ' H') ?_ m0 ⟨0,_,_,I4,st4,λb hb=>(hf3 b hb).1,w0⟩
  rintro n s5 ⟨i,σ5,H5,I5,st5,fr5,w5⟩
  have gY:PG Y target g:=by rw[<-hX];exact hg _ _ _ _
  have tY:AY Y ifs tt:=by rw[<-hX];exact ht _ _ _ _
  have eY:PE Y elt te:=by rw[<-hX];exact he _ _ _ _
  unfold PG at gY;unfold AY at tY;unfold PE at eY
  rw[pr,pw,pA,px] at gY tY eY
  have ap:=rJ (X:=Y)
  unfold NC at ap
  rw[pr,pw,pA,px] at ap
  rcases turn i n σ5 H5 w5 with⟨stop,q⟩|⟨go,step⟩
  ·have d:=T.done Y pr pw pK pc i [] s5 σ5 H5 (λ_ _=>False) I5 (oN fr5) st5 stop
   rw[pA] at d
   refine bq d λr s6 ⟨hr,I6⟩=>?_
   subst hr
   have I6':Inv (fN X scope N s3 (upd H D (.lst [])) fp (X.pn++pZ)) [] σ5 H5 s6:=by rw[hX];exact I6
   obtain⟨a1,a2,a3⟩:=DV I3 hf3 I6'
   exact hR _ s6 H5 a1 a2 a3 q
  ·have d:=T.item Y pr pw pK pc i [] s5 σ5 H5 (λ_ _=>False) I5 (oN fr5) st5 go
   rw[pA] at d
   refine bq d λr s6 ⟨u,hr,h6⟩=>?_
   subst hr
   refine bq h6 λ_ s7 ⟨x,H7,I7,r7,y7,st7,fr7⟩=>?_
   have I7':=I7.pinned (oN fr7) (T.obj _ _ st7)
   refine bq (gY _ s7 σ5 H7 x u _ I7' r7 (step x H7 y7)) λ_ s8 ⟨σ8,H8,I8,q8⟩=>?_
   have again: ∀ {σ9:St} {H9:Hp} {s9:Shared},Inv Y ([]++mq fp s7.heap) σ9 H9 s9->(∃ m',m' < n/\W (i+1) m' σ9 H9)->∃ m,m < n/\∃ i σ' H',Inv Y [] σ' H' s9/\tn i s9.heap/\(∀ b∈fp,H' b=none)/\W i m σ' H':=λ{σ9 H9 s9} I9 ⟨m',hm,w9⟩=>by
    refine⟨m',hm,i+1,σ9,H9,I9.i6,T.keep _ _ _ st7 λb hb o e=>(I9.pin (b,o) (P5 _ (P5 _ (dX hb e)))).1,λb hb=>?_,w9⟩
    obtain⟨o,e,d⟩:=T.obj _ _ st7 b hb
    exact(I9.pin (b,o) (P5 _ (P5 _ (dX hb e)))).2.1
   refine bq (tY _ s8 σ8 H8 _ I8 q8) λok s9 ⟨H9,I9,q9⟩=>?_
   cases ok with
   |false=>
    rw[Qw (by decide)] at q9
    rw[Qw (by decide)]
    exact again I9 q9
   |true=>
    rw[Qv rfl] at q9
    rw[Qv rfl]
    refine bq (eY _ s9 σ8 H9 _ I9 q9) λv s10 ⟨y,H10,I10,r10,ys,eys,lys,q10⟩=>?_
    refine bq (ap _ s10 σ8 H10 (.ref D) [y] (.ref D) [v] (λ_ H'=> ∃ m',m' < n/\W (i+1) m' σ8 H') I10 rfl (.cons r10 .nil) ⟨D,ys,y,rfl,rfl,eys,lys,q10⟩) λv2 s11 ⟨y2,H11,I11,_,q11⟩=>?_
    exact again I11 q11
 have ee:({newEnv scope s3.heap.objs.size X.env.globals (wO scope.names X.env.cells) X.env.qual none .none (some X.env) builtinsNs with scope:=relabel scope X.env}:Env)=Y.env:=by rw[<-hX];rfl
 rw[ee]
 exact codeAny_compStart_list loop (T.self _ 0 _ _ _ st4 loop)
def vY {elt target iter:Expr} {ifs:List Expr} {pos:Pos} {g:TG} {tt:TT} {te:TE} {it:Addr} {tn:Nat->Heap->Prop} {J:It} {Q:VK} {E:Value->Shared->Prop} {R:Value->Addr->Result->Shared->Prop}
  (L:a7 X scope N js) (hc:X.calm=true)
  (hg: ∀ s₀ H₀ ex pn,PG (fN X scope N s₀ H₀ ex pn) target g) (ht: ∀ s₀ H₀ ex pn,AY (fN X scope N s₀ H₀ ex pn) ifs tt) (he: ∀ s₀ H₀ ex pn,PE (fN X scope N s₀ H₀ ex pn) elt te)
  (I:Inv X pZ σ H s) (T:Turn X.prog X.w X.K target J fp it tn) (st:tn 0 s.heap) (hf: ∀ b∈fp,cW X pZ H b)
  (w: ∀ D,H D=none->∃ W:Nat->Nat->St->Hp->Prop,(∃ m,W 0 m (fT js σ) (upd H D (.lst [])))/\∀ i m σ' H',W i m σ' H'->
   (J.stop i H'/\Q (.ref D) H')\/(J.go i H'/\∀ x H2,J.Ci i H' x H2->g x σ' H2 λσ2 H3=>tt σ2 H3 λok H4=>
    if ok=true then te σ2 H4 λy H5=> ∃ ys,H5 D=some (.lst ys)/\ys.length < sizeLine/\∃ m',m' < m/\W (i+1) m' σ2 (upd H5 D (.lst (ys++[y])))
    else ∃ m',m' < m/\W (i+1) m' σ2 H4))
  (hR: ∀ D C s' H',Inv X pZ σ H' s'->cW X pZ H' C->(∃ m,s'.heap.Ns C m)->Q (.ref D) H'->R (.ref D) C (.ok .next) s'):
  wpAny (model X.prog X.w) X.A (newList []) (λacc s₃=>wpAny (model X.prog X.w) X.A (newFunctionEnv scope X.env.globals (wO scope.names X.env.cells) [] X.env.qual none .none (some X.env)) (λcenv s₄=>
   codeAny (model X.prog X.w) X.A (.compStart (.ListComp elt [⟨target,iter,ifs,0⟩] scope pos) 0 (.ref it) acc {cenv with scope:=relabel scope X.env}) (R acc cenv.locals) s₄) E s₃) E s:=by
 have I3:=I.DS (t':=s.toks) (ys:=[]) (aC:=[]) .nil (Qe _)
 have hD:=I.fresh
 refine wpAny_newObj_type (wpAny_newFunctionEnv L.yn (by intro y hy;simp at hy) (λh₁ hns₁ hsb₁=>?_) L.kind)
 dsimp only at hns₁ hsb₁
 exact G2 (Q:=Q) (R:=R) (s3:={s with heap:=s.heap.push {cls:=.type "list",data:=.seq ([]:List Value).toArray},toks:=s.toks}) L hc hg ht he I T st hf I3 (λb o e=>Qg (P2 e)) (λb o e=>PF _ e) hns₁
  (λb o e=>hsb₁.extBut b o (Qg (P2 e)) (PF _ e)) (w _ hD) (λC=>hR _ C)
def MO {elt target iter:Expr} {ifs:List Expr} {pos:Pos} {wi:TI} {g:TG} {tt:TT} {te:TE} (L:a7 X scope N js) (hc:X.calm=true) (hi:PI X target iter wi)
  (hg: ∀ s₀ H₀ ex pn,PG (fN X scope N s₀ H₀ ex pn) target g) (ht: ∀ s₀ H₀ ex pn,AY (fN X scope N s₀ H₀ ex pn) ifs tt) (he: ∀ s₀ H₀ ex pn,PE (fN X scope N s₀ H₀ ex pn) elt te)
  (hs: ∀ x,foldedSetIterable iter X.env x=pure x:=by intro _;rfl):PE X (.ListComp elt [⟨target,iter,ifs,0⟩] scope pos) (Cj js wi g tt te):=by
 intro pZ s σ H Q I h
 rw[eval_ListComp]
 refine wpAny_comprehension_free (use:=none) rfl hs (kU (L.HA I.ok)) L.kind L.names (bq (hi pZ s σ H _ I h) λv s1 h1=>bq h1 λitv s2 h2=>?_)
 obtain⟨it,fp,tn,J,H2,e,I2,T,st2,f2,w⟩:=h2
 subst e
 refine vY (Q:=Q) (R:=λacc C=>compPost (model X.prog X.w) X.A X.xe none (EP X pZ σ Q) acc C) L hc hg ht he I2 T st2 f2 w ?_
 intro D C s' H' I' f' ⟨m,hn⟩ q
 exact⟨m,hn,λh' hs'=>⟨.ref D,H',I'.gone (m:=m) f' hs',rfl,q⟩⟩
def ML {elt target iter:Expr} {ifs:List Expr} {pos spos py:Pos} {y:Str} {k:Nat} {wi:TI} {g:TG} {tt:TT} {te:TE} (hN:X.N.Nodup) (hk:X.N[k]?=some y) (hy:Loc X.env.scope y) (L:a7 X scope N js) (hc:X.calm=true) (hi:PI X target iter wi)
  (hg: ∀ s₀ H₀ ex pn,PG (fN X scope N s₀ H₀ ex pn) target g) (ht: ∀ s₀ H₀ ex pn,AY (fN X scope N s₀ H₀ ex pn) ifs tt) (he: ∀ s₀ H₀ ex pn,PE (fN X scope N s₀ H₀ ex pn) elt te)
  (hsw:swapsWith (.ListComp elt [⟨target,iter,ifs,0⟩] scope pos) (some (.Name y py)) spos.line X.env=pure true:=by rfl)
  (hs: ∀ x,foldedSetIterable iter X.env x=pure x:=by intro _;rfl) (hf:X.fn y=true\/X.env.scope.names.lookup y=some .local:=by first|exact .inl rfl|exact .inr rfl|assumption):
  PS X (.Assign [.Name y py] (.ListComp elt [⟨target,iter,ifs,0⟩] scope pos) spos) (gL (Cj js wi g tt te) (c7 k)):=by
 intro pZ s σ H D I h
 rw[exec_Assign_Name_used _ _ _ _ hsw]
 refine Pz (wpAny_standAt (Pz ?_))
 show wpAny _ X.A (do let _ <-comprehension (.ListComp elt [⟨target,iter,ifs,0⟩] scope pos) scope X.env _ (newList []) false (eval iter X.env) (some (assign (.Name y py) X.env))) _ _ s
 refine Pz (bq (wpAny_comprehension_free (Q:=λ_ s'=>SP X pZ D .next s') rfl hs (kU (L.HA I.ok)) L.kind L.names (bq (hi pZ s σ H _ I h) λv s1 h1=>bq h1 λitv s2 h2=>?_)) λ_ s' hq=>PJ (PJ hq))
 obtain⟨it,fp,tn,J,H2,e,I2,T,st2,f2,w⟩:=h2
 subst e
 refine vY (Q:=λv H1=>D.nx (σ.set k (some v)) H1) (R:=λacc C=>compPost (model X.prog X.w) X.A X.xe (some (assign (.Name y py) X.env)) (λ_ s'=>SP X pZ D .next s') acc C) L hc hg ht he I2 T st2 f2 w ?_
 intro A C s' H' I' f' ⟨m,hn⟩ q
 show wpAny _ _ (assign (.Name y py) X.env (.ref A)) _ _ s'
 refine wpAny_assign_Name (rg (v:=V.ref A) I' hN hk hy rfl (λs2 I3 ⟨a,hsb,ha⟩=>?_) hf)
 have hca:C≠a:=by
  rintro rfl
  rcases ha with z|z
  ·exact f'.2.1 z
  ·exact f'.2.2.2.2.1 y _ z rfl
 exact⟨m,hn.sameBut hsb hca,λh' hs'=>⟨_,H',I3.gone (m:=m) f' hs',q⟩⟩
end
def N1 (x:Str):It:=⟨λi _=>i < x.cps.size,λi H v H'=>H'=H/\∃ c,x.cps[i]?=some c/\v= .str ⟨#[c]⟩,λi _=>i=x.cps.size⟩
def qY {P:Program} {w:World} {K:Frag} {tg:Expr} (it:Addr) (x:Str) (t:Tok) {ty:String}
  (hn:["enumerate","zip","dict_itemiterator","dict_reverseitemiterator","odict_iterator","itertools.zip_longest","itertools.pairwise"].contains ty=false)
  (Wk: ∀ A:Around,A.handled=none->Walks P w A it [it] [it] x.cps.size (SignAt x) (λi h=>h.IsStrIter it ty x t i))
  (Sf: ∀ (A:Around) i (s:Shared) (Q:Value->Shared->Prop) (E:Value->Shared->Prop),s.heap.IsStrIter it ty x t i->Q (.ref it) s->wpAny (model P w) A (pyIter (.ref it)) Q E s):Turn P w K tg (N1 x) [it] it (λi h=>h.IsStrIter it ty x t i) where
 mem:=by simp
 obj:=λi h st b hb=>by
  have e:b=it:=by simpa using hb
  subst e
  obtain⟨o,e,c,d⟩:=st
  exact⟨o,e,λv z=>by rw[d] at z;cases z⟩
 keep:=λi h h' st k=>by
  obtain⟨o,e,c,d⟩:=st
  exact⟨o,k it (by simp) o e,c,d⟩
 item:=by
  intro X hP hw hK hc i pZ s σ H E I hf st hg
  subst hP hw hK
  obtain⟨f0,f1,f2,f3,f4,f5⟩:=hf it (by simp)
  refine(Wk X.A (I.ok.hd hc)).item i s _ _ hg st λv h' tk hv st' kk=>?_
  obtain⟨c,u,hcx,rfl⟩:=hv
  have I1:Inv X pZ σ H {s with heap:=h',toks:=tk}:=I.turned (λb o hb e=>kk b o (by simpa using hb) e) f0 f1 f3 f4 f5
  obtain⟨o,e,oc,d⟩:=id st'
  exact⟨_,rfl,rV (s:={s with heap:=h',toks:=tk}) e oc d hn ⟨.str ⟨#[c]⟩,H,I1,⟨u,rfl⟩,⟨rfl,c,hcx,rfl⟩,st',λb hb=>(hf b hb).1⟩⟩
 done:=by
  intro X hP hw hK hc i pZ s σ H E I hf st hg
  subst hP hw hK
  have hg':i=x.cps.size:=hg
  subst hg'
  obtain⟨f0,f1,f2,f3,f4,f5⟩:=hf it (by simp)
  exact(Wk X.A (I.ok.hd hc)).done s _ _ st λh' tk kk=>⟨rfl,I.turned (λb o hb e=>kk b o (by simpa using hb) e) f0 f1 f3 f4 f5⟩
 self:=λA i s Q E st h=>Sf A i s Q E st h
section
variable {X:Cx} {tg:Expr}
def Bt:dS X (compareOp .LtE) (λx y H Q=> ∃ i j,x= .str i/\y= .str j/\Q (.bl (!decide (j.cps.toList < i.cps.toList))) H):=by
 intro pZ s σ H x y v u Q I rx ry h
 obtain⟨i,j,rfl,rfl,q⟩:=h
 obtain⟨t,rfl⟩:=rx
 obtain⟨t',rfl⟩:=ry
 exact PySem.P.le_str (jE I q rfl)
def GH:dS X (binaryOp .Mult) (rI IntMulOk λi j=>.int (i * j)):=L0 λ_ _ _ _ _ _ _ hc q=>mul_int q hc
def lD:dS X (binaryOp .Pow) (rI (λi j=>0<=j/\(Builtin.Int.intBits i:Int) * j<=2 ^ 27) λi j=>.int (i ^ j.toNat)):=L0 λ_ _ _ _ _ _ _ hc q=>pow_int hc.1 hc.2 q
def Om (K:Frag) (neg:Bool):R2:=λx y H Q=> ∃ p q xs,x= .ref p/\y= .ref q/\bU K H p xs/\bU K H q []/\Q (.bl (xor neg xs.isEmpty)) H
def Br (hu:X.A.units < cLine):dS X (compareOp .NotEq) (Om X.K true):=by
 intro pZ s σ H x y v u Q I rx ry h
 obtain⟨p,q,xs,rfl,rfl,h1,h2,hq⟩:=h
 cases rx;cases ry
 obtain⟨aC,r1,l1,_⟩:=I.list h1
 obtain⟨nR,r2,l2,_⟩:=I.list h2
 cases r2
 cases xs with
 |nil=>
  cases r1
  exact SeqAt.RcNeAt.lists (e:=λ_=>true) l1.isList l2.isList rfl hu (λj a _=>by simp at a) _ _ _ _ (jE I hq rfl)
 |cons y ys=>
  have e:=r1.length
  exact SeqAt.RcNeAt.lists_lengths l1.isList l2.isList (by simp;intro z;subst z;simp at e) hu _ _ _ _ (jE I hq rfl)
def Np {bs:List Bool} (r:Vals (bs.map V.bl) aC) (i:Nat) (v:Value) (e:aC[i]?=some v): ∃ b,bs[i]?=some b/\v= .bool b:=by
 have hl:=r.length
 rw[PD] at hl
 have hi:i < bs.length:=by rw[hl];exact(PL.mp e).1
 obtain⟨u,h1,h2⟩:=r.get (x:=V.bl bs[i]) (by rw[P6,Py hi];rfl)
 rw[e] at h1;cases h1
 exact⟨bs[i],Py hi,h2⟩
def xY (bs:List Bool):((List.range bs.length).all λi=>(bs[i]?).getD true)=bs.all id:=by
 rw[Bool.eq_iff_iff,List.all_eq_true,List.all_eq_true]
 constructor
 ·intro h b hb
  obtain⟨i,hi,e⟩:=List.getElem_of_mem hb
  have:=h i (List.mem_range.mpr hi)
  rw[Py hi,e] at this
  exact this
 ·intro h i hi
  have hi':=List.mem_range.mp hi
  rw[Py hi']
  exact h _ (Qq hi')
def ER (hc:X.calm=true):fL X (.builtin "all") (λxs H Q=> ∃ (p:Addr) (bs:List Bool),xs=[.ref p]/\bU X.K H p (bs.map V.bl)/\Q (.bl (bs.all id)) H):=by
 intro pZ s σ H xs us Q I r h
 obtain⟨p,bs,rfl,hq,q⟩:=h
 obtain⟨u,rfl,rx⟩:=vals1 r
 cases rx
 obtain⟨aC,r',pl,hz⟩:=I.list hq
 have hl:=pl.isList
 have dz:p < s.heap.objs.size:=by obtain⟨_,e,_⟩:=hl;exact P2 e
 have hlen:=r'.length
 rw[PD] at hlen
 refine call_all_walk (wpAny_pyIter_list hl ?_)
 refine⟨s.heap.objs.size,[s.heap.objs.size,p],[s.heap.objs.size],aC.toArray.size,_,_,λi=>(bs[i]?).getD true,rfl,Walks.list (A:=X.A.in1) (I.ok.hd hc) _ p (Qg dz) aC.toArray,
  ⟨⟨_,PZ _ rfl,rfl,rfl⟩,hl.push _⟩,λi v s' Q' E' hP hQ=>?_,λh' tk hk=>?_⟩
 ·obtain⟨b,e,rfl⟩:=Np r' i v (by simpa using hP)
  simp only[e,Option.getD_some] at hQ
  exact wpAny_truthy_bool hQ
 ·refine⟨.bl (bs.all id),H,I.kept (λb o e=>hk b o (λhm=>?_) (PF _ e)),?_,q⟩
  ·rw[Qf.mp hm] at e;exact Nat.lt_irrefl _ (P2 e)
  ·show Value.bool _=Value.bool _
   rw[PK,<-hlen,xY]
theorem zA: ∀ {ys:List Str} {us:List Value},Vals (ys.map V.str) us->StrsAre us ys
 |[],us,r=>by rw[List.map_nil] at r;cases r;exact .nil
 |y::ys,us,r=>by
  rw[PQ] at r
  cases r with
  |cons h t=>obtain⟨t',rfl⟩:=h;exact .cons y t' (zA t)
def GR:O8 X "str.join" (λx xs H Q=> ∃ (sep:Str) (p:Addr) (ys:List Str),x= .str sep/\xs=[.ref p]/\bU X.K H p (ys.map V.str)/\(ys.map (·.length)).sum+ys.length * sep.length<=16777216/\Q (.str (Txt.join sep ys)) H):=by
 intro pZ s σ H x xs v us Q I rx rv h
 obtain⟨sep,p,ys,rfl,rfl,hq,hz,q⟩:=h
 obtain⟨t,rfl⟩:=rx
 obtain⟨u,rfl,ru⟩:=vals1 rv
 cases ru
 obtain⟨aC,r',pl,_⟩:=I.list hq
 exact join_list pl.isList (by simpa using zA r') hz λt' k=>⟨.str (Txt.join sep ys),H,I.tok _,⟨_,rfl⟩,q⟩
end
noncomputable def KC (scope es:Scope) (XN N:List Str) (js:List (Option Nat)):Bool:=
 (scope.kind== .function)&&scope.names.all (λy=>y.2 != .cell&&(y.2 != .local||scope.names.lookup y.1==some .local)&&(y.2 != .free||es.names.lookup y.1==some .cell||es.names.lookup y.1==some .free))&&
 (js.length==N.length)&&(List.range N.length).all (λi=>match N[i]?,js[i]? with|some y,some (some j)=>XN[j]?==some y&&scope.names.lookup y==some .free|_,_=>true)
def a7.Kv (es:Scope) (XN:List Str) (h1:X.env.scope=es) (h2:X.N=XN) (h:KC scope es XN N js=true):a7 X scope N js:=by
 unfold KC at h
 simp only[Qk,List.all_eq_true] at h
 obtain⟨⟨⟨ha,hb⟩,hc⟩,hd⟩:=h
 refine⟨by simpa using ha,λy hy=>?_,λy hy hl=>?_,λy hy hl=>?_,by simpa using hc,λi y j e1 e2=>?_⟩
 ·have:=(hb y hy).1.1
  simpa using this
 ·have:=(hb y hy).1.2
  rw[hl] at this
  simpa using this
 ·have:=(hb y hy).2
  rw[hl] at this
  rw[h1]
  simpa using this
 ·have hi:i < N.length:=(PL.mp e1).1
  have:=hd i (List.mem_range.mpr hi)
  rw[e1,e2] at this
  simp only[Qk] at this
  rw[h2]
  exact⟨by simpa using this.1,by simpa using this.2⟩
def isStar:Expr->Bool
 | .Starred .. =>true
 |_=>false
def Mu (h:isStar e=false):starEach (e::es) env=(false,eval e env)::starEach es env:=by
 cases e<;>first
  |rfl
  |(exfalso;exact Bool.noConfusion h)
def MR (ha:PE X e te) (hr:PA X es t) (h:isStar e=false:=by rfl):PA X (e::es) (lu te t):=cD ha hr (Mu h)
def gx (h:H p=none) (o:HO):eJ H (upd H p o):=λb u q=>by rw[ag (aG q h)];exact q
section
structure Bx (p:Prop):Prop where
 out:p
abbrev BE (X:Cx) (e:Expr) (t:TE):Prop:=Bx (PE X e t)
abbrev BT (X:Cx) (e:Expr) (t:TT):Prop:=Bx (PT X e t)
abbrev BW (X:Cx) (e:Expr) (t:TT):Prop:=Bx (PW X e t)
abbrev BA (X:Cx) (es:List Expr) (t:TA):Prop:=Bx (PA X es t)
abbrev BS (X:Cx) (st:Stmt) (t:TS):Prop:=Bx (PS X st t)
abbrev Fq (X:Cx) (st:List Stmt) (t:TS):Prop:=Bx (xx X st t)
abbrev BI (X:Cx) (tg iter:Expr) (t:TI):Prop:=Bx (PI X tg iter t)
abbrev BG (X:Cx) (tg:Expr) (t:TG):Prop:=Bx (PG X tg t)
abbrev Jl (X:Cx) (ts:List Expr) (t:HN):Prop:=Bx (NA X ts t)
abbrev BO (X:Cx) (e:Option Expr) (t:TO):Prop:=Bx (PO X e t)
abbrev Ih (X:Cx) (ifs:List Expr) (t:TT):Prop:=Bx (AY X ifs t)
set_option genInjectivity true in
inductive PV where
 |aD|bl (b:Bool)|int (i:Int)|str (x:Str)|tup (l:List PV)|lst (l:List PV)|cU (kvs:List (Key×PV))|sP (ns:List Int)|bD
set_option genInjectivity true in
inductive M (α:Type) where
 |fail|ret (a:α)|draw (m:Int) (k:Int->M α)
namespace M
variable {α β γ:Type}
def bind:M α->(α->M β)->M β
 |fail,_=>fail
 |ret a,f=>f a
 |draw m k,f=>draw m λd=>(k d).bind f
def wp:M α->Nat->(α->Nat->Prop)->Prop
 |fail,_,_=>False
 |ret a,n,Q=>Q a n
 |draw m k,n,Q=>0 < m/\m < 1073741824/\∃ n',n=n'+1/\∀ d,0<=d->d < m->(k d).wp n' Q
def wZ (m:M α) (f:α->M β): ∀ (n:Nat) (Q:β->Nat->Prop),(m.bind f).wp n Q=m.wp n λa n'=>(f a).wp n' Q:=by
 induction m with
 |fail=>intro n Q;rfl
 |ret a=>intro n Q;rfl
 |draw m k ih=>intro n Q;simp only[bind,wp,ih]
def wp_mono {m:M α}: ∀ {n:Nat} {Q Q':α->Nat->Prop},m.wp n Q->(∀ a n',Q a n'->Q' a n')->m.wp n Q':=by
 induction m with
 |fail=>intro n Q Q' h _;exact h
 |ret a=>intro n Q Q' h f;exact f _ _ h
 |draw m k ih=>
  intro n Q Q' h f
  obtain⟨h1,h2,n',e,h3⟩:=h
  exact⟨h1,h2,n',e,λd a b=>ih d (h3 d a b) f⟩
def bZ (m:M α) (f:α->M β) (g:β->M γ):(m.bind f).bind g=m.bind λa=>(f a).bind g:=by
 induction m with
 |fail=>rfl
 |ret a=>rfl
 |draw m k ih=>simp only[bind,ih]
@[simp] theorem rY (a:α) (f:α->M β):(ret a).bind f=f a:=rfl
def bK:Option α->M α
 |some a=>ret a
 |none=>fail
end M
def rZ (a:α) (f:α->M β):(M.ret a).bind f=f a:=rfl
inductive Rep (B:Addr) (O:Addr->Prop) (H:Hp):PV->V->Prop where
 |aD:Rep B O H .aD .aD
 |bl (b:Bool):Rep B O H (.bl b) (.bl b)
 |int (i:Int):Rep B O H (.int i) (.int i)
 |str (x:Str):Rep B O H (.str x) (.str x)
 |tup {p:Addr} {xs:List V} {l:List PV} (hO: ¬ O p) (h:H p=some (.tup xs)) (hl:l.length=xs.length) (hr: ∀ (i:Nat) (y:PV) (x:V),l[i]?=some y->xs[i]?=some x->Rep B O H y x):Rep B O H (.tup l) (.ref p)
 |lst {p:Addr} {xs:List V} {l:List PV} (hO: ¬ O p) (h:H p=some (.lst xs)) (hl:l.length=xs.length) (hr: ∀ (i:Nat) (y:PV) (x:V),l[i]?=some y->xs[i]?=some x->Rep B O H y x):Rep B O H (.lst l) (.ref p)
 |cU {p:Addr} {ks:List (Key×V)} {l:List (Key×PV)} (hO: ¬ O p) (h:Rd H p (.dK ks)) (hk:l.map (·.1)=ks.map (·.1)) (hr: ∀ (i:Nat) (y:Key×PV) (x:Key×V),l[i]?=some y->ks[i]?=some x->Rep B O H y.2 x.2):Rep B O H (.cU l) (.ref p)
 |sP {p:Addr} {ns:List Int} (hO: ¬ O p) (h: ∃ o,H p=some (.fc o (.lst (ns.map V.int)))):Rep B O H (.sP ns) (.ref p)
 |bD:Rep B O H .bD (.ref B)
def aO (B:Addr) (O:Addr->Prop) (H:Hp) (l:List PV) (xs:List V):Prop:=l.length=xs.length/\∀ (i:Nat) (y:PV) (x:V),l[i]?=some y->xs[i]?=some x->Rep B O H y x
def aX (B:Addr) (O:Addr->Prop) (H:Hp) (l:List (Key×PV)) (ks:List (Key×V)):Prop:=l.map (·.1)=ks.map (·.1)/\∀ (i:Nat) (y:Key×PV) (x:Key×V),l[i]?=some y->ks[i]?=some x->Rep B O H y.2 x.2
def fG (H':Hp) (p:Addr):HO->Prop
 | .nE _=> ∃ qs,H' p=some (.nE qs)
 |o=>H' p=some o
def fG.of (h:H' p=some o):fG H' p o:=by
 cases o<;>first|exact h|exact⟨_,h⟩
def fG.there (h:fG H' p o): ∃ u,H' p=some u:=by
 cases o<;>first|exact⟨_,h⟩|(obtain⟨qs,e⟩:=h;exact⟨_,e⟩)
def fG.to (h:fG H' p o) (k: ∀ u,H' p=some u->fG H2 p u):fG H2 p o:=by
 cases o<;>first|exact k _ h|(obtain⟨qs,e⟩:=h;have q:=k (.nE qs) e;exact q)
def Ext (B:Addr) (H H':Hp):Prop:= ∀ p o,p≠B->H p=some o->fG H' p o
def Ext.refl (B:Addr) (H:Hp):Ext B H H:=λ_ _ _ h=>.of h
def Ext.trans (a:Ext B H H1) (b:Ext B H1 H2):Ext B H H2:=λp o n h=>(a p o n h).to λu e=>b p u n e
def Ext.new (h:H p=none) (o:HO):Ext B H (upd H p o):=λq u _ e=>.of (by rw[ag (aG e h)];exact e)
section
variable {B:Addr} {O O':Addr->Prop} {H H':Hp} {y:PV} {x:V} {l l':List PV} {xs xs':List V}
def Rep.cE (h:Rep B O H y x) (hH: ∀ p o,¬ O p->H p=some o->fG H' p o/\¬ O' p):Rep B O' H' y x:=by
 induction h with
 |aD=>exact .aD
 |bl b=>exact .bl b
 |int i=>exact .int i
 |str x=>exact .str x
 |tup hO h hl hr ih=>exact .tup (hH _ _ hO h).2 (hH _ _ hO h).1 hl ih
 |lst hO h hl hr ih=>exact .lst (hH _ _ hO h).2 (hH _ _ hO h).1 hl ih
 |sP hO h=>
  obtain⟨o,e⟩:=h
  exact .sP (hH _ _ hO e).2 ⟨o,(hH _ _ hO e).1⟩
 |cU hO h hl hr ih=>
  rcases h with h|⟨o,h⟩
  ·exact .cU (hH _ _ hO h).2 (.inl (hH _ _ hO h).1) hl ih
  ·exact .cU (hH _ _ hO h).2 (.inr ⟨o,(hH _ _ hO h).1⟩) hl ih
 |bD=>exact .bD
def Rep.keep (h:Rep B O H y x) (hH: ∀ p o,¬ O p->H p=some o->H' p=some o/\¬ O' p):Rep B O' H' y x:=h.cE λp o n q=>⟨.of (hH p o n q).1,(hH p o n q).2⟩
def Rep.ext (h:Rep B O H y x) (hB:O B) (e:Ext B H H'):Rep B O H' y x:=h.cE λp o n q=>⟨e p o (λz=>n (z▸hB)) q,n⟩
def Rep.less (h:Rep B O H y x) (hO: ∀ p,O' p->O p):Rep B O' H y x:=h.keep λp o n q=>⟨q,λz=>n (hO p z)⟩
def Rep.grow (h:Rep B O H y x) (hO: ∀ p,O' p->O p\/H p=none):Rep B O' H y x:=h.keep λp o n q=>⟨q,λz=>by
 rcases hO p z with w|w
 ·exact n w
 ·rw[w] at q;cases q⟩
theorem aO.cE (h:aO B O H l xs) (hH: ∀ p o,¬ O p->H p=some o->fG H' p o/\¬ O' p):aO B O' H' l xs:=⟨h.1,λi y x a b=>(h.2 i y x a b).cE hH⟩
theorem aO.keep (h:aO B O H l xs) (hH: ∀ p o,¬ O p->H p=some o->H' p=some o/\¬ O' p):aO B O' H' l xs:=⟨h.1,λi y x a b=>(h.2 i y x a b).keep hH⟩
theorem aO.ext (h:aO B O H l xs) (hB:O B) (e:Ext B H H'):aO B O H' l xs:=⟨h.1,λi y x a b=>(h.2 i y x a b).ext hB e⟩
theorem aO.less (h:aO B O H l xs) (hO: ∀ p,O' p->O p):aO B O' H l xs:=⟨h.1,λi y x a b=>(h.2 i y x a b).less hO⟩
theorem aO.grow (h:aO B O H l xs) (hO: ∀ p,O' p->O p\/H p=none):aO B O' H l xs:=⟨h.1,λi y x a b=>(h.2 i y x a b).grow hO⟩
def aO.nil:aO B O H [] []:=⟨rfl,λi y x a=>by simp at a⟩
def aO.cons (h:Rep B O H y x) (t:aO B O H l xs):aO B O H (y::l) (x::xs):=⟨by simp[t.1],λi y' x' a b=>by
 cases i with
 |zero=>simp at a b;subst a b;exact h
 |succ i=>simp at a b;exact t.2 i y' x' a b⟩
def aO.head (h:aO B O H (y::l) (x::xs)):Rep B O H y x:=h.2 0 y x rfl rfl
def aO.tail (h:aO B O H (y::l) (x::xs)):aO B O H l xs:=⟨by simpa using h.1,λi y' x' a b=>h.2 (i+1) y' x' (by simpa using a) (by simpa using b)⟩
def aO.nil_inv (h:aO B O H [] xs):xs=[]:=Ql h.1.symm
def aO.cons_inv (h:aO B O H (y::l) xs): ∃ x r,xs=x::r/\Rep B O H y x/\aO B O H l r:=by
 cases xs with
 |nil=>have:=h.1;simp at this
 |cons x r=>exact⟨x,r,rfl,h.head,h.tail⟩
def aO.at (h:aO B O H l xs) {i:Nat} (e:l[i]?=some y): ∃ x,xs[i]?=some x/\Rep B O H y x:=by
 have hi:i < l.length:=(PL.mp e).1
 have hx:i < xs.length:=h.1▸hi
 exact⟨xs[i],Py hx,h.2 i y _ e (Py hx)⟩
def aO.at' (h:aO B O H l xs) {i:Nat} (e:xs[i]?=some x): ∃ y,l[i]?=some y/\Rep B O H y x:=by
 have hi:i < xs.length:=(PL.mp e).1
 have hx:i < l.length:=h.1▸hi
 exact⟨l[i],Py hx,h.2 i _ x (Py hx) e⟩
theorem aO.append: ∀ {l:List PV} {xs:List V},aO B O H l xs->aO B O H l' xs'->aO B O H (l++l') (xs++xs')
 |[],xs,h,t=>by rw[h.nil_inv];exact t
 |y::l,xs,h,t=>by
  obtain⟨x,r,rfl,h1,h2⟩:=h.cons_inv
  exact .cons h1 (aO.append h2 t)
theorem aO.drop: ∀ (k:Nat) {l:List PV} {xs:List V},aO B O H l xs->aO B O H (l.drop k) (xs.drop k)
 |0,_,_,h=>h
 |_+1,[],_,h=>by have e:=h.nil_inv;subst e;simpa using aO.nil
 |k+1,y::l,xs,h=>by
  obtain⟨x,r,rfl,h1,h2⟩:=h.cons_inv
  exact aO.drop k h2
theorem aO.take: ∀ (k:Nat) {l:List PV} {xs:List V},aO B O H l xs->aO B O H (l.take k) (xs.take k)
 |0,_,_,h=>.nil
 |_+1,[],_,h=>by have e:=h.nil_inv;subst e;simpa using aO.nil
 |k+1,y::l,xs,h=>by
  obtain⟨x,r,rfl,h1,h2⟩:=h.cons_inv
  exact .cons h1 (aO.take k h2)
def aO.set (h:aO B O H l xs) (i:Nat) (hr:Rep B O H y x):aO B O H (l.set i y) (xs.set i x):=by
 refine⟨by simp[h.1],λj y' x' a b=>?_⟩
 by_cases e:i=j
 ·subst e
  rw[List.getElem?_set] at a b
  simp at a b
  obtain⟨_,rfl⟩:=a
  obtain⟨_,rfl⟩:=b
  exact hr
 ·rw[Qi e] at a b
  exact h.2 j y' x' a b
theorem aX.keep {l:List (Key×PV)} {ks:List (Key×V)} (h:aX B O H l ks) (hH: ∀ p o,¬ O p->H p=some o->H' p=some o/\¬ O' p):aX B O' H' l ks:=⟨h.1,λi y x a b=>(h.2 i y x a b).keep hH⟩
theorem aX.ext {l:List (Key×PV)} {ks:List (Key×V)} (h:aX B O H l ks) (hB:O B) (e:Ext B H H'):aX B O H' l ks:=⟨h.1,λi y x a b=>(h.2 i y x a b).ext hB e⟩
end
structure dn where
 K:Frag
 sp:Sp
 tabs:List (Addr×Str)
def LM:HO->Prop
 | .fc _ (.dK _)=>False
 | .fc _ _=>True
 |_=>False
def TabAt (H:Hp) (e:Addr×Str):Prop:= ∃ ps,H e.1=some (.nE ps)/\TriplesOk ps.toList/\∀ pos cv,codeAmong pos ps.toList=some cv->∃ c oc vs t,cv= .ref c/\H c=some (.fc oc (.own c))/\oc.data= .fields vs/\vs[1]?=some (.str e.2 t)
def TabAt.keep (h:TabAt H e) (k1: ∀ ps,H e.1=some (.nE ps)->H' e.1=some (.nE ps)) (k2: ∀ p ob u,H p=some (.fc ob (.own u))->H' p=some (.fc ob (.own u))):TabAt H' e:=by
 obtain⟨ps,h1,h2,h3⟩:=h
 refine⟨ps,k1 _ h1,h2,λpos cv e1=>?_⟩
 obtain⟨c,oc,vs,t,rfl,g1,g2⟩:=h3 pos cv e1
 exact⟨c,oc,vs,t,rfl,k2 _ _ _ g1,g2⟩
structure Bg (φ:dn) where
 B:Addr
 cu:Addr->Prop
 ok:Hp->Nat->Prop
 pB:cu B
 keep: ∀ H H' n,(∀ p o,(cu p\/LM o)->H p=some o->H' p=some o)->ok H n->ok H' n
 tp: ∀ e∈φ.tabs,cu e.1
 tab: ∀ H n,ok H n->∀ e∈φ.tabs,TabAt H e
 xF: ∀ H H' n,ok H n->(∀ e∈φ.tabs,TabAt H' e)->(∀ p o,p∉φ.tabs.map (·.1)->H p=some o->H' p=some o)->ok H' n
 EH: ∀ H n p,ok H n->cu p->∃ o,H p=some o
 dr: ∀ (H:Hp) (n:Nat) (m:Int) (Q:VK) (E:XK),ok H (n+1)->0 < m->m < 1073741824->(∀ (d:Int) (H':Hp),0<=d->d < m->Ext B H H'->ok H' n->Q (.int d) H')->φ.sp [.ref B,.int m] H Q E
variable {φ:dn}
set_option genInjectivity true in
inductive Ent where
 |un|val (y:PV)|own (l:List PV)|bt (kvs:List (Key×PV))
abbrev ae:=List Ent
noncomputable def mV (G:Bg φ) (O:Addr->Prop) (H:Hp):Ent->Option V->Prop
 | .un,_=>True
 | .val y,o=> ∃ x,o=some x/\Rep G.B O H y x
 | .own l,o=> ∃ p xs,o=some (.ref p)/\O p/\¬ G.cu p/\H p=some (.lst xs)/\aO G.B O H l xs
 | .bt l,o=> ∃ p ks,o=some (.ref p)/\O p/\¬ G.cu p/\H p=some (.dK ks)/\aX G.B O H l ks
def lj (G:Bg φ) (O:Addr->Prop) (H:Hp) (σ:St) (ρ:ae):Prop:=σ.length=ρ.length/\∀ (i:Nat) (e:Ent),ρ[i]?=some e->mV G O H e ((σ[i]?).getD none)
structure ES (G:Bg φ) (O:Addr->Prop) (H:Hp) (σ:St) (ρ:ae) (n:Nat):Prop where
 er:lj G O H σ ρ
 ok:G.ok H n
 pr: ∀ p,G.cu p->O p
 dm: ∀ p,O p->∃ o,H p=some o
def ES.B (s:ES G O H σ ρ n):O G.B:=s.pr _ G.pB
theorem mV.ext (h:mV G O H e o) (hB:O G.B) (x:Ext G.B H H'):mV G O H' e o:=by
 cases e with
 |un=>trivial
 |val y=>obtain⟨v,e,r⟩:=h;exact⟨v,e,r.ext hB x⟩
 |own l=>obtain⟨p,xs,e,hp,np,hl,r⟩:=h;exact⟨p,xs,e,hp,np,x p _ (λz=>np (z▸G.pB)) hl,r.ext hB x⟩
 |bt l=>obtain⟨p,xs,e,hp,np,hl,r⟩:=h;exact⟨p,xs,e,hp,np,x p _ (λz=>np (z▸G.pB)) hl,r.ext hB x⟩
theorem ES.ext (s:ES G O H σ ρ n) (x:Ext G.B H H') (ok:G.ok H' n'):ES G O H' σ ρ n' where
 er:=⟨s.er.1,λi e h=>(s.er.2 i e h).ext s.B x⟩
 ok:=ok
 pr:=s.pr
 dm:=λp h=>by
  by_cases e:p=G.B
  ·subst e;exact G.EH _ _ _ ok G.pB
  ·obtain⟨o,q⟩:=s.dm p h;exact(x p o e q).there
def Bg.new {G:Bg φ} (ok:G.ok H n) (h:H p=none) (o:HO):G.ok (upd H p o) n:=G.keep _ _ _ (λq u _ e=>by rw[ag (aG e h)];exact e) ok
def mT (G:Bg φ) (O:Addr->Prop) (H:Hp) (R:PV->Nat->Prop) (Q:VK):Prop:= ∀ (y:PV) (x:V) (H':Hp) (n':Nat),Ext G.B H H'->G.ok H' n'->Rep G.B O H' y x->R y n'->Q x H'
def oK (φ:dn) (m:ae->M PV):TE:=λσ H Q=> ∃ (G:Bg φ) (O:Addr->Prop) (ρ:ae) (n:Nat) (R:PV->Nat->Prop),ES G O H σ ρ n/\(m ρ).wp n R/\mT G O H R Q
def EV (φ:dn) (X:Cx) (e:Expr) (m:ae->M PV):Prop:=BE X e (oK φ m)
def BE.mono (h:BE X e t) (f: ∀ σ H Q,t' σ H Q->t σ H Q):BE X e t':=⟨λpZ s σ H Q I q=>h.out pZ s σ H Q I (f σ H Q q)⟩
inductive bH (G:Bg φ) (O:Addr->Prop) (H:Hp):PV->V->Prop where
 |full {y:PV} {x:V} (h:Rep G.B O H y x):bH G O H y x
 |top {p:Addr} {xs:List V} {l:List PV} (np: ¬ G.cu p) (h:H p=some (.lst xs)) (r:aO G.B O H l xs):bH G O H (.lst l) (.ref p)
 |xI {p:Addr} {ks:List (Key×V)} {l:List (Key×PV)} (np: ¬ G.cu p) (h:H p=some (.dK ks)) (r:aX G.B O H l ks):bH G O H (.cU l) (.ref p)
theorem bH.ext (h:bH G O H y x) (hB:O G.B) (e:Ext G.B H H'):bH G O H' y x:=by
 cases h with
 |full h=>exact .full (h.ext hB e)
 | @top p xs l np h r=>exact .top np (e p (.lst xs) (λz=>np (z▸G.pB)) h) (r.ext hB e)
 | @xI p ks l np h r=>exact .xI np (e p (.dK ks) (λz=>np (z▸G.pB)) h) (r.ext hB e)
def Nw (G:Bg φ) (O:Addr->Prop) (H:Hp) (R:PV->Nat->Prop) (Q:VK):Prop:= ∀ (y:PV) (x:V) (H':Hp) (n':Nat),Ext G.B H H'->G.ok H' n'->bH G O H' y x->R y n'->Q x H'
def rf (φ:dn) (m:ae->M PV):TE:=λσ H Q=> ∃ (G:Bg φ) (O:Addr->Prop) (ρ:ae) (n:Nat) (R:PV->Nat->Prop),ES G O H σ ρ n/\(m ρ).wp n R/\Nw G O H R Q
def EB (φ:dn) (X:Cx) (e:Expr) (m:ae->M PV):Prop:=BE X e (rf φ m)
theorem EV.b (h:EV φ X e m):EB φ X e m:=BE.mono h λσ H Q ⟨G,O,ρ,n,R,s,w,q⟩=>⟨G,O,ρ,n,R,s,w,λy x H' n' a b c d=>q y x H' n' a b (.full c) d⟩
def Nu (G:Bg φ) (H:Hp) (R:Bool->Nat->Prop) (Q:Bool->Hp->Prop):Prop:= ∀ (b:Bool) (H':Hp) (n':Nat),Ext G.B H H'->G.ok H' n'->R b n'->Q b H'
def zy (φ:dn) (m:ae->M Bool):TT:=λσ H Q=> ∃ (G:Bg φ) (O:Addr->Prop) (ρ:ae) (n:Nat) (R:Bool->Nat->Prop),ES G O H σ ρ n/\(m ρ).wp n R/\Nu G H R Q
def TV (φ:dn) (X:Cx) (e:Expr) (m:ae->M Bool):Prop:=BT X e (zy φ m)
def WV (φ:dn) (X:Cx) (e:Expr) (m:ae->M Bool):Prop:=BW X e (zy φ m)
def Nx (G:Bg φ) (O:Addr->Prop) (H:Hp) (R:List PV->Nat->Prop) (Q:List V->Hp->Prop):Prop:= ∀ (l:List PV) (xs:List V) (H':Hp) (n':Nat),Ext G.B H H'->G.ok H' n'->aO G.B O H' l xs->R l n'->Q xs H'
def Mk (φ:dn) (m:ae->M (List PV)):TA:=λσ H Q=> ∃ (G:Bg φ) (O:Addr->Prop) (ρ:ae) (n:Nat) (R:List PV->Nat->Prop),ES G O H σ ρ n/\(m ρ).wp n R/\Nx G O H R Q
def AV (φ:dn) (X:Cx) (es:List Expr) (m:ae->M (List PV)):Prop:=BA X es (Mk φ m)
def eK (G:Bg φ) (O:Addr->Prop) (H:Hp) (l:List PV) (xs:List V):Prop:=l.length=xs.length/\∀ (i:Nat) (y:PV) (x:V),l[i]?=some y->xs[i]?=some x->bH G O H y x
def LH (G:Bg φ) (O:Addr->Prop) (H:Hp) (R:List PV->Nat->Prop) (Q:List V->Hp->Prop):Prop:= ∀ (l:List PV) (xs:List V) (H':Hp) (n':Nat),Ext G.B H H'->G.ok H' n'->eK G O H' l xs->R l n'->Q xs H'
def LY (φ:dn) (m:ae->M (List PV)):TA:=λσ H Q=> ∃ (G:Bg φ) (O:Addr->Prop) (ρ:ae) (n:Nat) (R:List PV->Nat->Prop),ES G O H σ ρ n/\(m ρ).wp n R/\LH G O H R Q
def AB (φ:dn) (X:Cx) (es:List Expr) (m:ae->M (List PV)):Prop:=BA X es (LY φ m)
def AX (G:Bg φ) (O:Addr->Prop) (H:Hp) (R:List PV->Nat->Prop) (Q:VK):Prop:= ∀ (l:List PV) (p:Addr) (xs:List V) (H':Hp) (n':Nat),Ext G.B H H'->G.ok H' n'->H p=none->H' p=some (.lst xs)->aO G.B (λq=>O q\/q=p) H' l xs->R l n'->Q (.ref p) H'
def Io (φ:dn) (m:ae->M (List PV)):TE:=λσ H Q=> ∃ (G:Bg φ) (O:Addr->Prop) (ρ:ae) (n:Nat) (R:List PV->Nat->Prop),ES G O H σ ρ n/\(m ρ).wp n R/\AX G O H R Q
def EF (φ:dn) (X:Cx) (e:Expr) (m:ae->M (List PV)):Prop:=BE X e (Io φ m)
def EF.v (h:EF φ X e m):EV φ X e (λρ=>(m ρ).bind λl=>.ret (.lst l)):=BE.mono h λσ H Q bu=>by
 obtain⟨G,O,ρ,n,R,s,w,q⟩:=bu
 rw[M.wZ] at w
 refine⟨G,O,ρ,n,_,s,w,λl p xs H' n' a b c d e f=>q (.lst l) _ H' n' a b (.lst (λz=>?_) d e.1 (e.less λq z=>.inl z).2) f⟩
 obtain⟨o,g⟩:=s.dm p z
 rw[c] at g;cases g
end
open Ent (val un)
section
variable {φ:dn}
def dY:100000<=sizeLine:=by rw[Qm];decide
section
variable {G:Bg φ} {O:Addr->Prop} {H:Hp} {n:Nat} {R:PV->Nat->Prop} {Q:VK} {x x':V}
def mT.sc (w:mT G O H R Q) (ok:G.ok H n) (r:Rep G.B O H y x) (h:R y n):Q x H:=w y x H n (Ext.refl _ _) ok r h
theorem mT.tup (w:mT G O H R Q) (ok:G.ok H n) (dm: ∀ p,O p->∃ o,H p=some o) {p:Addr} (hp:H p=none) {l:List PV} {xs:List V} (hB:O G.B) (r:aO G.B O H l xs) (h:R (.tup l) n):Q (.ref p) (upd H p (.tup xs)):=by
 have e:=Ext.new (B:=G.B) hp (.tup xs)
 refine w (.tup l) _ _ n e (Bg.new ok hp _) (.tup (λz=>?_) av r.1 (r.ext hB e).2) h
 obtain⟨o,g⟩:=dm p z
 rw[hp] at g;cases g
theorem mT.lst (w:mT G O H R Q) (ok:G.ok H n) (dm: ∀ p,O p->∃ o,H p=some o) {p:Addr} (hp:H p=none) {l:List PV} {xs:List V} (hB:O G.B) (r:aO G.B O H l xs) (h:R (.lst l) n):Q (.ref p) (upd H p (.lst xs)):=by
 have e:=Ext.new (B:=G.B) hp (.lst xs)
 refine w (.lst l) _ _ n e (Bg.new ok hp _) (.lst (λz=>?_) av r.1 (r.ext hB e).2) h
 obtain⟨o,g⟩:=dm p z
 rw[hp] at g;cases g
def AX.mk {R:List PV->Nat->Prop} (w:AX G O H R Q) (ok:G.ok H n) {p:Addr} (hp:H p=none) {l:List PV} {xs:List V} (hB:O G.B) (r:aO G.B O H l xs) (h:R l n):Q (.ref p) (upd H p (.lst xs)):=by
 have e:=Ext.new (B:=G.B) hp (.lst xs)
 refine w l p xs _ n e (Bg.new ok hp _) hp av ((r.grow λq z=>?_).ext (.inl hB) e) h
 rcases z with z|z
 ·exact .inl z
 ·subst z;exact .inr hp
def C4 (h:Rd H p (.dK a)) (g:Rd H p (.dK b)):a=b:=by
 rcases h with h|⟨o,h⟩<;>rcases g with g|⟨o',g⟩<;>(rw[h] at g;cases g)<;>rfl
def bH.IJ (h:bH G O H .aD x):x= .aD:=by cases h with|full h=>cases h;rfl
def bH.O4 (h:bH G O H (.bl b) x):x= .bl b:=by cases h with|full h=>cases h;rfl
def bH.bL (h:bH G O H (.int i) x):x= .int i:=by cases h with|full h=>cases h;rfl
def bH.fO (h:bH G O H (.str z) x):x= .str z:=by cases h with|full h=>cases h;rfl
def bH.i7 (h:bH G O H (.tup l) x): ∃ p xs,x= .ref p/\H p=some (.tup xs)/\aO G.B O H l xs:=by cases h with|full h=>cases h with|tup a b c d=>exact⟨_,_,rfl,b,c,d⟩
def bH.eQ (h:bH G O H (.lst l) x): ∃ p xs,x= .ref p/\H p=some (.lst xs)/\aO G.B O H l xs:=by
 cases h with
 |full h=>cases h with|lst a b c d=>exact⟨_,_,rfl,b,c,d⟩
 |top a b c=>exact⟨_,_,rfl,b,c⟩
def bH.AF (h:bH G O H (.cU l) x): ∃ p ks,x= .ref p/\Rd H p (.dK ks)/\aX G.B O H l ks:=by
 cases h with
 |full h=>cases h with|cU a b c d=>exact⟨_,_,rfl,b,c,d⟩
 |xI a b c=>exact⟨_,_,rfl,.inl b,c⟩
def bH.Mx (h:bH G O H (.sP ns) x): ∃ p o,x= .ref p/\H p=some (.fc o (.lst (ns.map V.int))):=by cases h with|full h=>cases h with|sP a b=>obtain⟨o,b⟩:=b;exact⟨_,o,rfl,b⟩
def bH.low (h:bH G O H y x) (pr: ∀ p,G.cu p->O p):Rep G.B G.cu H y x:=by
 cases h with
 |full h=>exact h.less pr
 |top np h r=>exact .lst np h r.1 (r.less pr).2
 |xI np h r=>exact .cU np (.inl h) r.1 λi y x a b=>(r.2 i y x a b).less pr
end
def aq (ρ:ae) (i:Nat):M PV:=match ρ[i]? with|some (.val y)=>.ret y|_=>.fail
def eZ (ρ:ae) (i:Nat):M PV:=match ρ[i]? with|some (.val y)=>.ret y|some (.own l)=>.ret (.lst l)|some (.bt l)=>.ret (.cU l)|_=>.fail
section
variable {X:Cx} {a b c:Expr} {pos:Pos} {ma mb mc:ae->M PV}
def Ay (h:BE X e (tC v)) (r: ∀ B O H,Rep B O H y v):EV φ X e (λ_=>.ret y):=BE.mono h λσ H Q ⟨G,O,ρ,n,R,s,w,q⟩=>q.sc s.ok (r _ _ _) w
def gg:EV φ X (.Constant (.int i) j pos) (λ_=>.ret (.int i)):=Ay ⟨aP⟩ λ_ _ _=>.int i
def sa:EV φ X (.Constant (.bool i) j pos) (λ_=>.ret (.bl i)):=Ay ⟨MQ⟩ λ_ _ _=>.bl i
def K7:EV φ X (.Constant .none j pos) (λ_=>.ret .aD):=Ay ⟨J6⟩ λ_ _ _=>.aD
def K5:EV φ X (.Constant (.str x) j pos) (λ_=>.ret (.str x)):=Ay ⟨J4⟩ λ_ _ _=>.str x
def dA {i:Nat} (h:lj G O H σ ρ) (he:ρ[i]?=some e) (hx:(σ[i]?).getD none=some x):σ[i]?=some (some x):=by
 cases q:σ[i]? with
 |none=>rw[q] at hx;cases hx
 |some o=>rw[q] at hx;cases o with
  |none=>cases hx
  |some z=>simp at hx;rw[hx]
def Hk (i:Nat) (h:BE X (.Name x pos) (nF i)):EV φ X (.Name x pos) (λρ=>aq ρ i):=BE.mono h λσ H Q bu=>by
 obtain⟨G,O,ρ,n,R,s,w,q⟩:=bu
 replace w:(aq ρ i).wp n R:=w
 unfold aq at w
 cases e:ρ[i]? with
 |none=>rw[e] at w;exact w.elim
 |some t=>
  rw[e] at w
  cases t with
  |val y=>
   obtain⟨x,hx,r⟩:=s.er.2 i _ e
   exact⟨x,dA s.er e hx,q.sc s.ok r w⟩
  |_=>exact w.elim
def Ho (i:Nat) (h:BE X (.Name x pos) (nF i)):EB φ X (.Name x pos) (λρ=>eZ ρ i):=BE.mono h λσ H Q bu=>by
 obtain⟨G,O,ρ,n,R,s,w,q⟩:=bu
 replace w:(eZ ρ i).wp n R:=w
 unfold eZ at w
 cases e:ρ[i]? with
 |none=>rw[e] at w;exact w.elim
 |some t=>
  rw[e] at w
  cases t with
  |val y=>
   obtain⟨x,hx,r⟩:=s.er.2 i _ e
   exact⟨x,dA s.er e hx,q _ _ _ _ (Ext.refl _ _) s.ok (.full r) w⟩
  |own l=>
   obtain⟨p,xs,hx,_,np,hl,r⟩:=s.er.2 i _ e
   exact⟨_,dA s.er e hx,q _ _ _ _ (Ext.refl _ _) s.ok (.top np hl r) w⟩
  |bt l=>
   obtain⟨p,xs,hx,_,np,hl,r⟩:=s.er.2 i _ e
   exact⟨_,dA s.er e hx,q _ _ _ _ (Ext.refl _ _) s.ok (.xI np hl r) w⟩
  |un=>exact w.elim
def lX (r:R2) (op:PV->PV->M PV):Prop:= ∀ (φ:dn) (G:Bg φ) (O:Addr->Prop) (H:Hp) (n:Nat) (R:PV->Nat->Prop) (Q:VK) (y y':PV) (x x':V),
 (∀ p,G.cu p->O p)->(∀ p,O p->∃ o,H p=some o)->G.ok H n->bH G O H y x->bH G O H y' x'->(op y y').wp n R->mT G O H R Q->r x x' H Q
def ab (op:PV->PV->M PV) (ma mb:ae->M PV):ae->M PV:=λρ=>(ma ρ).bind λx=>(mb ρ).bind λy=>op x y
def two (hv:lX r op): ∀ σ H Q,oK φ (ab op ma mb) σ H Q->FI r (rf φ ma) (rf φ mb) σ H Q:=λσ H Q bu=>by
 obtain⟨G,O,ρ,n,R,s,w,q⟩:=bu
 unfold ab at w
 rw[M.wZ] at w
 refine⟨G,O,ρ,n,_,s,w,λy x H1 n1 e1 ba r1 w1=>?_⟩
 rw[M.wZ] at w1
 refine⟨G,O,ρ,n1,_,s.ext e1 ba,w1,λy' x' H2 n2 e2 nM r2 w2=>?_⟩
 exact hv φ G O H2 n2 R Q y y' x x' s.pr (s.ext (e1.trans e2) nM).dm nM (r1.ext s.B e2) r2 w2 λy x H' n' e o r h=>q y x H' n' (e1.trans (e2.trans e)) o r h
def jF (ho:dS X (binaryOp o) r) (hv:lX r op) (ha:EB φ X a ma) (hb:EB φ X b mb):EV φ X (.BinOp a o b pos) (ab op ma mb):=
 BE.mono ⟨bG ho ha.out hb.out⟩ (two hv)
def gh (ho:dS X (compareOp o) r) (hv:lX r op) (ha:EB φ X a ma) (hb:EB φ X b mb) (hm:behindInMarks o b=false):EV φ X (.Compare a [o] [b] pos) (ab op ma mb):=
 BE.mono ⟨Gw ho ha.out hb.out hm⟩ (two hv)
def Na (hr:Fy X r) (hv:lX r op) (ha:EB φ X a ma) (hb:EB φ X b mb) (hs:uM b):EV φ X (.Subscript a b pos) (ab op ma mb):=
 BE.mono ⟨gy hr ha.out hb.out hs⟩ (two hv)
def aF (m:ae->M PV):ae->M Bool:=λρ=>(m ρ).bind λy=>match y with| .bl b=>.ret b|_=>.fail
def uI {t:TE} (f: ∀ σ H Q,oK φ m σ H Q->t σ H Q): ∀ σ H Q,zy φ (aF m) σ H Q->t σ H (λx H1=> ∃ k,x= .bl k/\Q k H1):=λσ H Q bu=>by
 obtain⟨G,O,ρ,n,R,s,w,q⟩:=bu
 unfold aF at w
 rw[M.wZ] at w
 refine f σ H _ ⟨G,O,ρ,n,_,s,w,λy x H1 n1 e1 ba r1 w1=>?_⟩
 cases y with
 |bl k=>cases r1;exact⟨k,rfl,q k H1 n1 e1 ba w1⟩
 |_=>exact w1.elim
def BT.mono (h:BT X e t) (f: ∀ σ H Q,t' σ H Q->t σ H Q):BT X e t':=⟨λpZ s σ H Q I q=>h.out pZ s σ H Q I (f σ H Q q)⟩
def BW.mono (h:BW X e t) (f: ∀ σ H Q,t' σ H Q->t σ H Q):BW X e t':=⟨λw pZ s σ H Q I q=>h.out w pZ s σ H Q I (f σ H Q q)⟩
def cy (ho:dS X (compareOp o) r) (hv:lX r op) (ha:EB φ X a ma) (hb:EB φ X b mb) (hm:behindInMarks o b=false):TV φ X (.Compare a [o] [b] pos) (aF (ab op ma mb)):=
 BT.mono ⟨n6 ho ha.out hb.out hm⟩ (uI (two hv))
def Jv (h:EV φ X e m) (he: ∀ whole,isTrue e X.env whole=(do let v <-whole;standAt e.pos;holding [v] (truthy v)):=by intro _;rfl):TV φ X e (aF m):=
 BT.mono ⟨JW h.out he⟩ (uI λ_ _ _ h=>h)
def pd (m:ae->M Bool):ae->M Bool:=λρ=>(m ρ).bind λb=>.ret (!b)
def Jw (h:TV φ X a m):TV φ X (.UnaryOp .Not a pos) (pd m):=BT.mono ⟨JX h.out⟩ λσ H Q bu=>by
 obtain⟨G,O,ρ,n,R,s,w,q⟩:=bu
 unfold pd at w
 rw[M.wZ] at w
 exact⟨G,O,ρ,n,_,s,w,λb H1 n1 e1 ba w1=>q (!b) H1 n1 e1 ba w1⟩
def cC (ma mb:ae->M Bool):ae->M Bool:=λρ=>(ma ρ).bind λb=>if b=true then mb ρ else .ret false
def Kd (ma mb:ae->M Bool):ae->M Bool:=λρ=>(ma ρ).bind λb=>if b=true then .ret true else mb ρ
def WV.t (h:WV φ X e m):TV φ X e m:=⟨PW.pt h.out⟩
def zm (h:TV φ X a m):WV φ X (.BoolOp .And [a] pos) m:=⟨zU h.out⟩
def Jp (h:TV φ X a m):WV φ X (.BoolOp .Or [a] pos) m:=⟨JV h.out⟩
def xA {rest:List Expr} (h:TV φ X a m) (h':WV φ X (.BoolOp .And (b::rest) pos) m'):WV φ X (.BoolOp .And (a::b::rest) pos) (cC m m'):=BW.mono ⟨C8 h.out h'.out⟩ λσ H Q bu=>by
 obtain⟨G,O,ρ,n,R,s,w,q⟩:=bu
 unfold cC at w
 rw[M.wZ] at w
 refine⟨G,O,ρ,n,_,s,w,λb H1 n1 e1 ba w1=>?_⟩
 cases b with
 |true=>exact⟨G,O,ρ,n1,R,s.ext e1 ba,w1,λb H' n' e o h=>q b H' n' (e1.trans e) o h⟩
 |false=>exact q false H1 n1 e1 ba w1
def Mf {rest:List Expr} (h:TV φ X a m) (h':WV φ X (.BoolOp .Or (b::rest) pos) m'):WV φ X (.BoolOp .Or (a::b::rest) pos) (Kd m m'):=BW.mono ⟨MK h.out h'.out⟩ λσ H Q bu=>by
 obtain⟨G,O,ρ,n,R,s,w,q⟩:=bu
 unfold Kd at w
 rw[M.wZ] at w
 refine⟨G,O,ρ,n,_,s,w,λb H1 n1 e1 ba w1=>?_⟩
 cases b with
 |true=>exact q true H1 n1 e1 ba w1
 |false=>exact⟨G,O,ρ,n1,R,s.ext e1 ba,w1,λb H' n' e o h=>q b H' n' (e1.trans e) o h⟩
def gG (ma mb:ae->M PV):ae->M PV:=λρ=>(aF ma ρ).bind λb=>if b=true then mb ρ else .ret (.bl false)
def LD {m:ae->M PV} {f:Bool->M PV} {σ:St} {H:Hp} {Q:VK} {G:Bg φ} {O:Addr->Prop} {ρ:ae} {n:Nat} {R:PV->Nat->Prop} {T:V->Hp->Prop} (s:ES G O H σ ρ n) (w:((aF m ρ).bind f).wp n R)
  (k: ∀ (b:Bool) (H1:Hp) (n1:Nat),Ext G.B H H1->G.ok H1 n1->(f b).wp n1 R->T (.bl b) H1):oK φ m σ H T:=by
 rw[M.wZ] at w
 unfold aF at w
 rw[M.wZ] at w
 refine⟨G,O,ρ,n,_,s,w,λy x H1 n1 e1 ba r1 w1=>?_⟩
 cases y with
 |bl b=>cases r1;exact k b H1 n1 e1 ba w1
 |_=>exact w1.elim
def K6 (ha:EV φ X a ma):EV φ X (.BoolOp op [a] pos) ma:=⟨J5 ha.out⟩
def K9 {rest:List Expr} (ha:EV φ X a ma) (hb:EV φ X (.BoolOp .And (b::rest) pos) mb):EV φ X (.BoolOp .And (a::b::rest) pos) (gG ma mb):=BE.mono ⟨J8 ha.out hb.out⟩ λσ H Q ⟨G,O,ρ,n,R,s,w,q⟩=>
 LD (Q:=Q) s w λb H1 n1 e1 ba w1=>⟨b,rfl,by
  cases b with
  |true=>exact⟨G,O,ρ,n1,R,s.ext e1 ba,w1,λy x H' n' e o r h=>q y x H' n' (e1.trans e) o r h⟩
  |false=>exact q _ _ _ _ e1 ba (.bl _) w1⟩
def pM (mc:ae->M Bool) (ma mb:ae->M PV):ae->M PV:=λρ=>(mc ρ).bind λb=>if b=true then ma ρ else mb ρ
def Nb (hc:TV φ X c t) (ha:EV φ X a ma) (hb:EV φ X b mb):EV φ X (.IfExp c a b pos) (pM t ma mb):=BE.mono ⟨Dr hc.out ha.out hb.out⟩ λσ H Q bu=>by
 obtain⟨G,O,ρ,n,R,s,w,q⟩:=bu
 unfold pM at w
 rw[M.wZ] at w
 refine⟨G,O,ρ,n,_,s,w,λb H1 n1 e1 ba w1=>?_⟩
 cases b with
 |true=>exact⟨G,O,ρ,n1,R,s.ext e1 ba,w1,λy x H' n' e o r h=>q y x H' n' (e1.trans e) o r h⟩
 |false=>exact⟨G,O,ρ,n1,R,s.ext e1 ba,w1,λy x H' n' e o r h=>q y x H' n' (e1.trans e) o r h⟩
noncomputable def chain (op op':PV->PV->M PV) (ma mb mc:ae->M PV):ae->M PV:=λρ=>(ma ρ).bind λx=>(mb ρ).bind λy=>(op x y).bind λz=>match z with
 | .bl true=>(mc ρ).bind λu=>op' y u
 | .bl false=>.ret (.bl false)
 |_=>.fail
def wQ (hv:lX r op) (hv':lX r' op'): ∀ σ H Q,oK φ (chain op op' ma mb mc) σ H Q->xM r r' (rf φ ma) (rf φ mb) (rf φ mc) σ H Q:=λσ H Q bu=>by
 obtain⟨G,O,ρ,n,R,s,w,q⟩:=bu
 unfold chain at w
 rw[M.wZ] at w
 refine⟨G,O,ρ,n,_,s,w,λy x H1 n1 e1 ba r1 w1=>?_⟩
 rw[M.wZ] at w1
 refine⟨G,O,ρ,n1,_,s.ext e1 ba,w1,λy' x' H2 n2 e2 nM r2 w2=>?_⟩
 rw[M.wZ] at w2
 refine hv φ G O H2 n2 _ _ y y' x x' s.pr (s.ext (e1.trans e2) nM).dm nM (r1.ext s.B e2) r2 w2 λz u H3 n3 e3 ok3 r3 w3=>?_
 cases z with
 |bl k=>
  cases r3
  refine⟨k,rfl,?_⟩
  cases k with
  |true=>
   show rf φ mc σ H3 _
   rw[M.wZ] at w3
   refine⟨G,O,ρ,n3,_,s.ext (e1.trans (e2.trans e3)) ok3,w3,λy4 x4 H4 n4 e4 ok4 r4 w4=>?_⟩
   exact hv' φ G O H4 n4 R Q y' y4 x' x4 s.pr (s.ext (e1.trans (e2.trans (e3.trans e4))) ok4).dm ok4 (r2.ext s.B (e3.trans e4)) r4 w4 λy x H' n' e o r h=>q y x H' n' (e1.trans (e2.trans (e3.trans (e4.trans e)))) o r h
  |false=>exact q _ _ _ _ (e1.trans (e2.trans e3)) ok3 (.bl _) w3
 |_=>exact w3.elim
def wk (ho:dS X (compareOp o) r) (hv:lX r op) (ho':dS X (compareOp o') r') (hv':lX r' op') (ha:EB φ X a ma) (hb:EB φ X b mb) (hc:EB φ X c mc) (hm:lastMarks [o,o'] [b,c]=false:=by with_unfolding_all rfl):EV φ X (.Compare a [o,o'] [b,c] pos) (chain op op' ma mb mc):=
 BE.mono ⟨Dt ho ho' ha.out hb.out hc.out hm⟩ (wQ hv hv')
def uR (ho:dS X (compareOp o) r) (hv:lX r op) (ho':dS X (compareOp o') r') (hv':lX r' op') (ha:EB φ X a ma) (hb:EB φ X b mb) (hc:EB φ X c mc) (hm:lastMarks [o,o'] [b,c]=false:=by with_unfolding_all rfl):TV φ X (.Compare a [o,o'] [b,c] pos) (aF (chain op op' ma mb mc)):=
 BT.mono ⟨Dd ho ho' ha.out hb.out hc.out hm⟩ (uI (wQ hv hv'))
end
end
section
variable {φ:dn}
def toV:PV->V
 | .aD=>.aD
 | .bl b=>.bl b
 | .int i=>.int i
 | .str x=>.str x
 |_=>.ty ""
def aV (y:PV):Bool:=cH (toV y)
def fA (h:Rep B O H y x) (f:aV y=true):x=toV y:=by
 cases h<;>first|rfl|(exact absurd f (by decide))|(simp[aV,toV,cH] at f)
def r9 (h:bH G O H y x) (f:aV y=true):x=toV y:=by
 cases h with
 |full h=>exact fA h f
 |_=>simp[aV,toV,cH] at f
noncomputable def eqs (f:PV->PV->Option Bool):List PV->List PV->Option Bool
 |[],[]=>some true
 |[],_::_=>some false
 |_::_,[]=>some false
 |a::r,b::t=>(f a b).bind λx=>(eqs f r t).bind λy=>some (x&&y)
noncomputable def qv:Nat->PV->PV->Option Bool
 |k+1,.lst a,.lst b=>eqs (qv k) a b
 |k+1,.tup a,.tup b=>eqs (qv k) a b
 |_+1,.lst _,.tup _=>some false
 |_+1,.tup _,.lst _=>some false
 |_+1,.lst _,y=>if aV y then some false else none
 |_+1,.tup _,y=>if aV y then some false else none
 |_+1,y,.lst _=>if aV y then some false else none
 |_+1,y,.tup _=>if aV y then some false else none
 |_,y,z=>if aV y&&aV z then some (se (toV y) (toV z)) else none
theorem pV: ∀ {a b:List PV} {c:Bool},eqs f a b=some c->∃ e:Nat->Bool,(∀ j y z,a[j]?=some y->b[j]?=some z->f y z=some (e j))/\c=((List.range (min a.length b.length)).all e&&a.length==b.length)
 |[],[],c,h=>⟨λ_=>true,λj y z e=>by simp at e,by simp[eqs] at h;simp[h]⟩
 |[],_::_,c,h=>⟨λ_=>true,λj y z e=>by simp at e,by simp[eqs] at h;simp[h]⟩
 |_::_,[],c,h=>⟨λ_=>true,λj y z _ e=>by simp at e,by simp[eqs] at h;simp[h]⟩
 |y::r,z::t,c,h=>by
  simp only[eqs] at h
  cases h1:f y z with
  |none=>rw[h1] at h;simp at h
  |some x=>
   rw[h1] at h
   simp only[Option.bind_some] at h
   cases h2:eqs f r t with
   |none=>rw[h2] at h;simp at h
   |some w=>
    rw[h2] at h
    simp only[Option.bind_some,Option.some.injEq] at h
    obtain⟨e,he,hw⟩:=pV h2
    refine⟨λj=>match j with|0=>x|j+1=>e j,λj y' z' a b=>?_,?_⟩
    ·cases j with
     |zero=>simp at a b;subst a b;exact h1
     |succ j=>simp at a b;exact he j y' z' a b
    ·have e0:min (y::r).length (z::t).length=min r.length t.length+1:=by simp only[PY];lia
     rw[e0,List.range_succ_eq_map,List.all_cons,List.all_map,<-h,hw]
     simp only[PY,Function.comp_def,Bool.and_assoc]
     congr 2
     rw[Bool.eq_iff_iff];simp
def ug {α β:Type} {l l':List α} {xs:List β} (h1:l.length=xs.length) (h2:l'.length=xs.length) (hh: ∀ (i:Nat) (y y':α) (x:β),l[i]?=some y->l'[i]?=some y'->xs[i]?=some x->y=y'):l=l':=by
 apply List.ext_getElem (h1.trans h2.symm)
 intro i a b
 exact hh i _ _ _ (Py a) (Py b) (Py (h1▸a))
theorem Aq: ∀ {a b:List Int},a.map V.int=b.map V.int->a=b
 |[],[],_=>rfl
 |[],_::_,h=>by simp at h
 |_::_,[],h=>by simp at h
 |x::a,y::b,h=>by
  simp only[PQ,List.cons.injEq,V.int.injEq] at h
  rw[h.1,Aq h.2]
def Rep.uniq {O:Addr->Prop} (hB:O B) (h:Rep B O H y x): ∀ {y':PV},Rep B O H y' x->y=y':=by
 induction h with
 |aD=>intro y' h;cases h;rfl
 |bl b=>intro y' h;cases h;rfl
 |int i=>intro y' h;cases h;rfl
 |str x=>intro y' h;cases h;rfl
 |tup hO h hl hr ih=>
  intro y' g
  cases g with
  |tup gO g gl gr=>
   rw[h] at g;cases g
   congr 1
   exact ug hl gl λi y y' x a b c=>ih i y x a c (gr i y' x b c)
  |lst gO g gl gr=>rw[h] at g;cases g
  |cU gO g gl gr=>rcases g with g|⟨o',g⟩<;>(rw[h] at g;cases g)
  |sP gO g=>obtain⟨o,g⟩:=g;rw[h] at g;cases g
  |bD=>exact absurd hB hO
 |lst hO h hl hr ih=>
  intro y' g
  cases g with
  |lst gO g gl gr=>
   rw[h] at g;cases g
   congr 1
   exact ug hl gl λi y y' x a b c=>ih i y x a c (gr i y' x b c)
  |tup gO g gl gr=>rw[h] at g;cases g
  |cU gO g gl gr=>rcases g with g|⟨o',g⟩<;>(rw[h] at g;cases g)
  |sP gO g=>obtain⟨o,g⟩:=g;rw[h] at g;cases g
  |bD=>exact absurd hB hO
 |cU hO h hl hr ih=>
  intro y' g
  cases g with
  |cU gO g gl gr=>
   obtain rfl:=C4 h g
   congr 1
   refine ug (by simpa using congrArg List.length hl) (by simpa using congrArg List.length gl) λi y y' x a b c=>?_
   have k1:y.1=x.1:=by
    have:=congrArg (·[i]?) hl
    simp only[P6,a,c] at this
    simpa using this
   have k2:y'.1=x.1:=by
    have:=congrArg (·[i]?) gl
    simp only[P6,b,c] at this
    simpa using this
   exact Prod.ext (k1.trans k2.symm) (ih i y x a c (gr i y' x b c))
  |tup gO g gl gr=>rcases h with h|⟨o',h⟩<;>(rw[h] at g;cases g)
  |lst gO g gl gr=>rcases h with h|⟨o',h⟩<;>(rw[h] at g;cases g)
  |sP gO g=>obtain⟨o,g⟩:=g;rcases h with h|⟨o',h⟩<;>(rw[h] at g;cases g)
  |bD=>exact absurd hB hO
 |sP hO h=>
  intro y' g
  obtain⟨o,h⟩:=h
  cases g with
  |sP gO g=>
   obtain⟨o',g⟩:=g
   rw[h] at g
   injection g with g;injection g with g1 g2;injection g2 with g2
   congr 1
   exact Aq g2
  |tup gO g gl gr=>rw[h] at g;cases g
  |lst gO g gl gr=>rw[h] at g;cases g
  |cU gO g gl gr=>rcases g with g|⟨o',g⟩<;>(rw[h] at g;cases g)
  |bD=>exact absurd hB hO
 |bD=>
  intro y' g
  cases g with
  |bD=>rfl
  |tup gO g gl gr=>exact absurd hB gO
  |lst gO g gl gr=>exact absurd hB gO
  |cU gO g gl gr=>exact absurd hB gO
  |sP gO g=>exact absurd hB gO
theorem pU (hf: ∀ y c,f y y=some c->c=true): ∀ {a:List PV} {c:Bool},eqs f a a=some c->c=true
 |[],c,h=>by simp[eqs] at h;exact h
 |y::r,c,h=>by
  simp only[eqs] at h
  cases h1:f y y with
  |none=>rw[h1] at h;simp at h
  |some x=>
   rw[h1] at h
   simp only[Option.bind_some] at h
   cases h2:eqs f r r with
   |none=>rw[h2] at h;simp at h
   |some w=>
    rw[h2] at h
    simp only[Option.bind_some,Option.some.injEq] at h
    rw[<-h,hf _ _ h1,pU hf h2];rfl
def pW (h1:aV y=true) (h2:aV z=true):qv k y z=some (se (toV y) (toV z)):=by
 cases k<;>cases y<;>cases z<;>first|rfl|(simp[aV,toV,cH] at h1;done)|(simp[aV,toV,cH] at h2;done)
def wo: ∀ (k:Nat) (y:PV) (c:Bool),qv k y y=some c->c=true:=by
 intro k
 induction k with
 |zero=>
  intro y c h
  cases y<;>simp[qv,aV,toV,cH,se] at h<;>(try exact h)<;>(try exact h.symm)
 |succ k ih=>
  intro y c h
  cases y with
  |lst a=>exact pU ih h
  |tup a=>exact pU ih h
  |_=>simp[qv,aV,toV,cH,se] at h<;>(try exact h)<;>(try exact h.symm)
section
variable {X:Cx} {pZ:List (Addr×Obj)} {σ:St} {H:Hp} {s:Shared} {B:Addr} {O:Addr->Prop}
def sg (h1:aV y=true) (h2:aV z=true) (r1:Rep B O H y x) (r2:Rep B O H z x') (q1:RelV x u) (q2:RelV x' v):SeqAt.EqAt A s u v (se (toV y) (toV z)):=by
 rw[fA r1 h1] at q1
 rw[fA r2 h2] at q2
 exact Eu q1 q2 h1 h2
def IX (I:Inv X pZ σ H s) (hB:O B): ∀ (k:Nat) (A:Around) (y z:PV) (x x':V) (u v:Value) (c:Bool),Rep B O H y x->Rep B O H z x'->RelV x u->RelV x' v->qv k y z=some c->A.units+k < cLine->SeqAt.EqAt A s u v c:=by
 intro k
 induction k with
 |zero=>
  intro A y z x x' u v c r1 r2 q1 q2 e hu
  have f:aV y=true/\aV z=true:=by
   unfold qv at e
   by_cases h:(aV y&&aV z)=true
   ·simpa using h
   ·cases y<;>cases z<;>simp_all [aV,toV,cH]
  rw[pW f.1 f.2] at e
  cases e
  exact sg f.1 f.2 r1 r2 q1 q2
 |succ k ih=>
  intro A y z x x' u v c r1 r2 q1 q2 e hu
  have cZ:A.units < cLine:=by lia
  have hu1:A.in1.units+k < cLine:=by show A.units+1+k < cLine;lia
  by_cases f:aV y=true/\aV z=true
  ·rw[pW f.1 f.2] at e
   cases e
   exact sg f.1 f.2 r1 r2 q1 q2
  cases r1 with
  | @lst p xs l hO h hl hr=>
   cases q1
   obtain⟨aC,v1,p1,_⟩:=I.list (bU.of (K:=X.K) h)
   cases r2 with
   | @lst p' xs' l' hO' h' hl' hr'=>
    cases q2
    by_cases pe:p=p'
    ·subst pe
     have e1:=Rep.uniq hB (.lst hO h hl hr) (.lst hO' h' hl' hr')
     rw[e1] at e
     rw[wo _ _ _ e]
     exact .same _
    ·obtain⟨bc,v2,p2,_⟩:=I.list (bU.of (K:=X.K) h')
     obtain⟨g,hg,hc⟩:=pV e
     refine .of_refs pe ?_
     have e1:aC.toArray.size=l.length:=by rw[PK,<-v1.length,hl]
     have e2:bc.toArray.size=l'.length:=by rw[PK,<-v2.length,hl']
     by_cases hs:l.length=l'.length
     ·have hh:=SeqAt.RcAt.lists (A:=A) (e:=g) p1.isList p2.isList (by rw[e1,e2,hs]) cZ (λj h1 h2=>?_)
      ·rw[hc,<-hs,Nat.min_self,beq_self_eq_true,Bool.and_true,<-e1];exact hh
      ·have j1:j < l.length:=e1▸h1
       have j2:j < l'.length:=e2▸h2
       obtain⟨u1,a1,a2⟩:=v1.get (i:=j) (x:=xs[j]) (Py _)
       obtain⟨u2,b1,b2⟩:=v2.get (i:=j) (x:=xs'[j]) (Py _)
       have a3:aC.toArray[j]=u1:=by
        have:=(PL.mp a1).2
        simpa using this
       have b3:bc.toArray[j]=u2:=by
        have:=(PL.mp b1).2
        simpa using this
       rw[a3,b3]
       exact ih A.in1 l[j] l'[j] _ _ _ _ _ (hr j _ _ (Py j1) (Py _)) (hr' j _ _ (Py j2) (Py _)) a2 b2 (hg j _ _ (Py j1) (Py j2)) hu1
     ·have:c=false:=by rw[hc];simp[hs]
      rw[this]
      exact SeqAt.RcAt.lists_lengths p1.isList p2.isList (by rw[e1,e2];simpa using hs) cZ
   | @tup p' xs' l' hO' h' hl' hr'=>
    cases q2
    obtain⟨bc,v2,p2,_⟩:=I.tuple (dh.of (K:=X.K) h')
    cases e
    exact .list_tuple p1.isList p2 cZ
   |aD=>cases q2;cases e;exact .list_none p1.isList cZ
   |bl b=>cases q2;cases e;exact .list_bool b p1.isList cZ
   |int b=>obtain⟨t,rfl⟩:=q2;cases e;exact .list_int b t p1.isList cZ
   |str b=>obtain⟨t,rfl⟩:=q2;cases e;exact .list_str b t p1.isList cZ
   |_=>cases e
  | @tup p xs l hO h hl hr=>
   cases q1
   obtain⟨aC,v1,p1,_⟩:=I.tuple (dh.of (K:=X.K) h)
   cases r2 with
   | @tup p' xs' l' hO' h' hl' hr'=>
    cases q2
    by_cases pe:p=p'
    ·subst pe
     have e1:=Rep.uniq hB (.tup hO h hl hr) (.tup hO' h' hl' hr')
     rw[e1] at e
     rw[wo _ _ _ e]
     exact .same _
    ·obtain⟨bc,v2,p2,_⟩:=I.tuple (dh.of (K:=X.K) h')
     obtain⟨g,hg,hc⟩:=pV e
     refine .of_refs pe ?_
     have e1:aC.toArray.size=l.length:=by rw[PK,<-v1.length,hl]
     have e2:bc.toArray.size=l'.length:=by rw[PK,<-v2.length,hl']
     have hh:=SeqAt.RcAt.tuples (A:=A) (e:=g) p1 p2 cZ (λj h1 h2=>?_)
     ·rw[hc,<-e1,<-e2];exact hh
     ·have j1:j < l.length:=e1▸h1
      have j2:j < l'.length:=e2▸h2
      obtain⟨u1,a1,a2⟩:=v1.get (i:=j) (x:=xs[j]) (Py _)
      obtain⟨u2,b1,b2⟩:=v2.get (i:=j) (x:=xs'[j]) (Py _)
      have a3:aC.toArray[j]=u1:=by
       have:=(PL.mp a1).2
       simpa using this
      have b3:bc.toArray[j]=u2:=by
       have:=(PL.mp b1).2
       simpa using this
      rw[a3,b3]
      exact ih A.in1 l[j] l'[j] _ _ _ _ _ (hr j _ _ (Py j1) (Py _)) (hr' j _ _ (Py j2) (Py _)) a2 b2 (hg j _ _ (Py j1) (Py j2)) hu1
   | @lst p' xs' l' hO' h' hl' hr'=>
    cases q2
    obtain⟨bc,v2,p2,_⟩:=I.list (bU.of (K:=X.K) h')
    cases e
    exact .tuple_list p1 p2.isList cZ
   |aD=>cases q2;cases e;exact .tuple_none p1 cZ
   |bl b=>cases q2;cases e;exact .tuple_bool b p1 cZ
   |int b=>obtain⟨t,rfl⟩:=q2;cases e;exact .tuple_int b t p1 cZ
   |str b=>obtain⟨t,rfl⟩:=q2;cases e;exact .tuple_str b t p1 cZ
   |_=>cases e
  |aD=>
   cases r2 with
   |lst a h' b c=>cases q1;cases q2;obtain⟨bc,v2,p2,_⟩:=I.list (bU.of (K:=X.K) h');cases e;exact .none_list p2.isList cZ
   |tup a h' b c=>cases q1;cases q2;obtain⟨bc,v2,p2,_⟩:=I.tuple (dh.of (K:=X.K) h');cases e;exact .none_tuple p2 cZ
   |_=>first|exact absurd ⟨rfl,rfl⟩ f|cases e
  |bl b=>
   cases r2 with
   |lst a h' _ c=>cases q1;cases q2;obtain⟨bc,v2,p2,_⟩:=I.list (bU.of (K:=X.K) h');cases e;exact .bool_list b p2.isList cZ
   |tup a h' _ c=>cases q1;cases q2;obtain⟨bc,v2,p2,_⟩:=I.tuple (dh.of (K:=X.K) h');cases e;exact .bool_tuple b p2 cZ
   |_=>first|exact absurd ⟨rfl,rfl⟩ f|cases e
  |int b=>
   cases r2 with
   |lst a h' _ c=>obtain⟨t,rfl⟩:=q1;cases q2;obtain⟨bc,v2,p2,_⟩:=I.list (bU.of (K:=X.K) h');cases e;exact .int_list b t p2.isList cZ
   |tup a h' _ c=>obtain⟨t,rfl⟩:=q1;cases q2;obtain⟨bc,v2,p2,_⟩:=I.tuple (dh.of (K:=X.K) h');cases e;exact .int_tuple b t p2 cZ
   |_=>first|exact absurd ⟨rfl,rfl⟩ f|cases e
  |str b=>
   cases r2 with
   |lst a h' _ c=>obtain⟨t,rfl⟩:=q1;cases q2;obtain⟨bc,v2,p2,_⟩:=I.list (bU.of (K:=X.K) h');cases e;exact .str_list b t p2.isList cZ
   |tup a h' _ c=>obtain⟨t,rfl⟩:=q1;cases q2;obtain⟨bc,v2,p2,_⟩:=I.tuple (dh.of (K:=X.K) h');cases e;exact .str_tuple b t p2 cZ
   |_=>first|exact absurd ⟨rfl,rfl⟩ f|cases e
  |_=>cases z<;>cases e
end
end
section
variable {φ:dn}
section
variable {X:Cx}
def Gf (f1:cH y=true) (f2:cH z=true) (q1:RelV y u) (q2:RelV z v):SeqAt.RcAt A s u v (se y z)/\SeqAt.RcNeAt A s u v (!se y z):=by
 cases y with
 |aD=>
  cases q1
  cases z with
  |aD=>cases q2;exact⟨.none_none,.none_none⟩
  |bl b=>cases q2;exact⟨.none_bool b,.none_bool b⟩
  |int b=>obtain⟨t,rfl⟩:=q2;exact⟨.none_int b t,.none_int b t⟩
  |str b=>obtain⟨t,rfl⟩:=q2;exact⟨.none_str b t,.none_str b t⟩
  |_=>cases f2
 |bl a=>
  cases q1
  cases z with
  |aD=>cases q2;exact⟨.bool_none a,.bool_none a⟩
  |bl b=>cases q2;exact⟨.bool_bool a b,.bool_bool a b⟩
  |int b=>obtain⟨t,rfl⟩:=q2;exact⟨.bool_int a b t,.bool_int a b t⟩
  |str b=>obtain⟨t,rfl⟩:=q2;exact⟨.bool_str a b t,.bool_str a b t⟩
  |_=>cases f2
 |int a=>
  obtain⟨t',rfl⟩:=q1
  cases z with
  |aD=>cases q2;exact⟨.int_none a t',.int_none a t'⟩
  |bl b=>cases q2;exact⟨.int_bool a t' b,.int_bool a t' b⟩
  |int b=>obtain⟨t,rfl⟩:=q2;exact⟨.int_int a t' b t,.int_int a t' b t⟩
  |str b=>obtain⟨t,rfl⟩:=q2;exact⟨.int_str a t' b t,.int_str a t' b t⟩
  |_=>cases f2
 |str a=>
  obtain⟨t',rfl⟩:=q1
  cases z with
  |aD=>cases q2;exact⟨.str_none a t',.str_none a t'⟩
  |bl b=>cases q2;exact⟨.str_bool a t' b,.str_bool a t' b⟩
  |int b=>obtain⟨t,rfl⟩:=q2;exact⟨.str_int a t' b t,.str_int a t' b t⟩
  |str b=>obtain⟨t,rfl⟩:=q2;exact⟨.str_str a t' b t,.str_str a t' b t⟩
  |_=>cases f2
 |_=>cases f1
def Iz (I:Inv X pZ σ H s) (hB:O B) (k:Nat) (A:Around) (y z:PV) (x x':V) (u v:Value) (c:Bool)
  (r1:Rep B O H y x) (r2:Rep B O H z x') (q1:RelV x u) (q2:RelV x' v) (e:qv (k+1) y z=some c) (hu:A.units+(k+1) < cLine):SeqAt.RcAt A s u v c/\SeqAt.RcNeAt A s u v (!c):=by
 have cZ:A.units < cLine:=by lia
 have hu1:A.in1.units+k < cLine:=by show A.units+1+k < cLine;lia
 by_cases f:aV y=true/\aV z=true
 ·rw[pW f.1 f.2] at e
  cases e
  rw[fA r1 f.1] at q1
  rw[fA r2 f.2] at q2
  exact Gf f.1 f.2 q1 q2
 cases r1 with
 | @lst p xs l hO h hl hr=>
  cases q1
  obtain⟨aC,v1,p1,_⟩:=I.list (bU.of (K:=X.K) h)
  cases r2 with
  | @lst p' xs' l' hO' h' hl' hr'=>
   cases q2
   obtain⟨bc,v2,p2,_⟩:=I.list (bU.of (K:=X.K) h')
   obtain⟨g,hg,hc⟩:=pV e
   have e1:aC.toArray.size=l.length:=by rw[PK,<-v1.length,hl]
   have e2:bc.toArray.size=l'.length:=by rw[PK,<-v2.length,hl']
   by_cases hs:l.length=l'.length
   ·have he: ∀ j (h1:j < aC.toArray.size) (h2:j < bc.toArray.size),SeqAt.EqAt A.in1 s aC.toArray[j] bc.toArray[j] (g j):=λj h1 h2=>by
     have j1:j < l.length:=e1▸h1
     have j2:j < l'.length:=e2▸h2
     obtain⟨u1,a1,a2⟩:=v1.get (i:=j) (x:=xs[j]) (Py _)
     obtain⟨u2,b1,b2⟩:=v2.get (i:=j) (x:=xs'[j]) (Py _)
     have a3:aC.toArray[j]=u1:=by
      have:=(PL.mp a1).2
      simpa using this
     have b3:bc.toArray[j]=u2:=by
      have:=(PL.mp b1).2
      simpa using this
     rw[a3,b3]
     exact IX I hB k A.in1 l[j] l'[j] _ _ _ _ _ (hr j _ _ (Py j1) (Py _)) (hr' j _ _ (Py j2) (Py _)) a2 b2 (hg j _ _ (Py j1) (Py j2)) hu1
    have h1:=SeqAt.RcAt.lists (A:=A) (e:=g) p1.isList p2.isList (by rw[e1,e2,hs]) cZ he
    have h2:=SeqAt.RcNeAt.lists (A:=A) (e:=g) p1.isList p2.isList (by rw[e1,e2,hs]) cZ he
    rw[hc,<-hs,Nat.min_self,beq_self_eq_true,Bool.and_true,<-e1];exact⟨h1,h2⟩
   ·have:c=false:=by rw[hc];simp[hs]
    rw[this]
    exact⟨SeqAt.RcAt.lists_lengths p1.isList p2.isList (by rw[e1,e2];simpa using hs) cZ,SeqAt.RcNeAt.lists_lengths p1.isList p2.isList (by rw[e1,e2];simpa using hs) cZ⟩
  | @tup p' xs' l' hO' h' hl' hr'=>
   cases q2
   obtain⟨bc,v2,p2,_⟩:=I.tuple (dh.of (K:=X.K) h')
   cases e
   exact⟨.list_tuple p1.isList p2 cZ,.list_tuple p1.isList p2 cZ⟩
  |aD=>cases q2;cases e;exact⟨.list_none p1.isList cZ,.list_none p1.isList cZ⟩
  |bl b=>cases q2;cases e;exact⟨.list_bool b p1.isList cZ,.list_bool b p1.isList cZ⟩
  |int b=>obtain⟨t,rfl⟩:=q2;cases e;exact⟨.list_int b t p1.isList cZ,.list_int b t p1.isList cZ⟩
  |str b=>obtain⟨t,rfl⟩:=q2;cases e;exact⟨.list_str b t p1.isList cZ,.list_str b t p1.isList cZ⟩
  |_=>cases e
 | @tup p xs l hO h hl hr=>
  cases q1
  obtain⟨aC,v1,p1,_⟩:=I.tuple (dh.of (K:=X.K) h)
  cases r2 with
  | @tup p' xs' l' hO' h' hl' hr'=>
   cases q2
   obtain⟨bc,v2,p2,_⟩:=I.tuple (dh.of (K:=X.K) h')
   obtain⟨g,hg,hc⟩:=pV e
   have e1:aC.toArray.size=l.length:=by rw[PK,<-v1.length,hl]
   have e2:bc.toArray.size=l'.length:=by rw[PK,<-v2.length,hl']
   have he: ∀ j (h1:j < aC.toArray.size) (h2:j < bc.toArray.size),SeqAt.EqAt A.in1 s aC.toArray[j] bc.toArray[j] (g j):=λj h1 h2=>by
    have j1:j < l.length:=e1▸h1
    have j2:j < l'.length:=e2▸h2
    obtain⟨u1,a1,a2⟩:=v1.get (i:=j) (x:=xs[j]) (Py _)
    obtain⟨u2,b1,b2⟩:=v2.get (i:=j) (x:=xs'[j]) (Py _)
    have a3:aC.toArray[j]=u1:=by
     have:=(PL.mp a1).2
     simpa using this
    have b3:bc.toArray[j]=u2:=by
     have:=(PL.mp b1).2
     simpa using this
    rw[a3,b3]
    exact IX I hB k A.in1 l[j] l'[j] _ _ _ _ _ (hr j _ _ (Py j1) (Py _)) (hr' j _ _ (Py j2) (Py _)) a2 b2 (hg j _ _ (Py j1) (Py j2)) hu1
   have h1:=SeqAt.RcAt.tuples (A:=A) (e:=g) p1 p2 cZ he
   have h2:=SeqAt.RcNeAt.tuples (A:=A) (e:=g) p1 p2 cZ he
   rw[hc,<-e1,<-e2];exact⟨h1,h2⟩
  | @lst p' xs' l' hO' h' hl' hr'=>
   cases q2
   obtain⟨bc,v2,p2,_⟩:=I.list (bU.of (K:=X.K) h')
   cases e
   exact⟨.tuple_list p1 p2.isList cZ,.tuple_list p1 p2.isList cZ⟩
  |aD=>cases q2;cases e;exact⟨.tuple_none p1 cZ,.tuple_none p1 cZ⟩
  |bl b=>cases q2;cases e;exact⟨.tuple_bool b p1 cZ,.tuple_bool b p1 cZ⟩
  |int b=>obtain⟨t,rfl⟩:=q2;cases e;exact⟨.tuple_int b t p1 cZ,.tuple_int b t p1 cZ⟩
  |str b=>obtain⟨t,rfl⟩:=q2;cases e;exact⟨.tuple_str b t p1 cZ,.tuple_str b t p1 cZ⟩
  |_=>cases e
 |aD=>
  cases r2 with
  |lst a h' b c=>cases q1;cases q2;obtain⟨bc,v2,p2,_⟩:=I.list (bU.of (K:=X.K) h');cases e;exact⟨.none_list p2.isList cZ,.none_list p2.isList cZ⟩
  |tup a h' b c=>cases q1;cases q2;obtain⟨bc,v2,p2,_⟩:=I.tuple (dh.of (K:=X.K) h');cases e;exact⟨.none_tuple p2 cZ,.none_tuple p2 cZ⟩
  |_=>first|exact absurd ⟨rfl,rfl⟩ f|cases e
 |bl b=>
  cases r2 with
  |lst a h' _ c=>cases q1;cases q2;obtain⟨bc,v2,p2,_⟩:=I.list (bU.of (K:=X.K) h');cases e;exact⟨.bool_list b p2.isList cZ,.bool_list b p2.isList cZ⟩
  |tup a h' _ c=>cases q1;cases q2;obtain⟨bc,v2,p2,_⟩:=I.tuple (dh.of (K:=X.K) h');cases e;exact⟨.bool_tuple b p2 cZ,.bool_tuple b p2 cZ⟩
  |_=>first|exact absurd ⟨rfl,rfl⟩ f|cases e
 |int b=>
  cases r2 with
  |lst a h' _ c=>obtain⟨t,rfl⟩:=q1;cases q2;obtain⟨bc,v2,p2,_⟩:=I.list (bU.of (K:=X.K) h');cases e;exact⟨.int_list b t p2.isList cZ,.int_list b t p2.isList cZ⟩
  |tup a h' _ c=>obtain⟨t,rfl⟩:=q1;cases q2;obtain⟨bc,v2,p2,_⟩:=I.tuple (dh.of (K:=X.K) h');cases e;exact⟨.int_tuple b t p2 cZ,.int_tuple b t p2 cZ⟩
  |_=>first|exact absurd ⟨rfl,rfl⟩ f|cases e
 |str b=>
  cases r2 with
  |lst a h' _ c=>obtain⟨t,rfl⟩:=q1;cases q2;obtain⟨bc,v2,p2,_⟩:=I.list (bU.of (K:=X.K) h');cases e;exact⟨.str_list b t p2.isList cZ,.str_list b t p2.isList cZ⟩
  |tup a h' _ c=>obtain⟨t,rfl⟩:=q1;cases q2;obtain⟨bc,v2,p2,_⟩:=I.tuple (dh.of (K:=X.K) h');cases e;exact⟨.str_tuple b t p2 cZ,.str_tuple b t p2 cZ⟩
  |_=>first|exact absurd ⟨rfl,rfl⟩ f|cases e
 |_=>cases z<;>cases e
def JT (neg:Bool):R2:=λx y H Q=> ∃ (B:Addr) (O:Addr->Prop) (a b:PV) (c:Bool),O B/\Rep B O H a x/\Rep B O H b y/\qv 20 a b=some c/\Q (.bl (xor neg c)) H
def tS (hU:X.A.units+64 < cLine):dS X (compareOp .Eq) (JT false):=by
 intro pZ s σ H x y v u Q I rx ry h
 obtain⟨B,O,a,b,c,hB,r1,r2,e,q⟩:=h
 exact(Iz I hB 19 X.A a b x y v u c r1 r2 rx ry e (by lia)).1 _ _ _ _ (jE I q (by cases c<;>rfl))
def mx (hU:X.A.units+64 < cLine):dS X (compareOp .NotEq) (JT true):=by
 intro pZ s σ H x y v u Q I rx ry h
 obtain⟨B,O,a,b,c,hB,r1,r2,e,q⟩:=h
 exact(Iz I hB 19 X.A a b x y v u c r1 r2 rx ry e (by lia)).2 _ _ _ _ (jE I q (by cases c<;>rfl))
end
def bT (neg:Bool) (y z:PV):M PV:=(M.bK (qv 20 y z)).bind λc=>.ret (.bl (xor neg c))
def kj (neg:Bool):lX (JT neg) (bT neg):=λφ G O H n R Q y z x x' pr dm ok r1 r2 w q=>by
 unfold bT at w
 cases e:qv 20 y z with
 |none=>rw[e] at w;exact w.elim
 |some c=>rw[e] at w;exact⟨G.B,G.cu,y,z,c,G.pB,r1.low pr,r2.low pr,e,q.sc ok (.bl _) w⟩
def yk (C:Int->Int->Prop) [∀ i j,Decidable (C i j)] (f:Int->Int->PV):PV->PV->M PV
 | .int i,.int j=>if C i j then .ret (f i j) else .fail
 |_,_=>.fail
def Dx [∀ i j,Decidable (C i j)] (hf: ∀ B O H i j,Rep B O H (f i j) (g i j)):lX (rI C g) (yk C f):=λφ G O H n R Q y z x x' pr dm ok r1 r2 w q=>by
 cases y<;>cases z<;>first|exact w.elim|skip
 rename_i i j
 rw[r1.bL,r2.bL]
 unfold yk at w
 dsimp only at w
 by_cases hc:C i j
 ·rw[Qv hc] at w;exact⟨i,j,rfl,rfl,hc,q.sc ok (hf _ _ _ _ _) w⟩
 ·rw[Qw hc] at w;exact w.elim
def ym (f:Int->Int->Bool):PV->PV->M PV
 | .int i,.int j=>.ret (.bl (f i j))
 |_,_=>.fail
def tL:lX (x8 λi j=>.bl (f i j)) (ym f):=λφ G O H n R Q y z x x' pr dm ok r1 r2 w q=>by
 cases y<;>cases z<;>first|exact w.elim|skip
 rename_i i j
 rw[r1.bL,r2.bL]
 exact⟨i,j,rfl,rfl,q.sc ok (.bl _) w⟩
def t6:=ym λi j=>decide (i < j)
def Cm:=ym λi j=>decide (j < i)
def OP:=ym λi j=>decide (j<=i)
def Ad:lX (x8 λi j=>.bl (decide (i < j))) t6:=tL
def IH:lX (x8 λi j=>.bl (decide (j < i))) Cm:=tL
def II:lX (x8 λi j=>.bl (decide (j<=i))) OP:=tL
def A7:PV->PV->M PV
 | .int i,.int j=>.ret (.int (i - j))
 |_,_=>.fail
def J9:lX (x8 λi j=>.int (i - j)) A7:=λφ G O H n R Q y z x x' pr dm ok r1 r2 w q=>by
 cases y<;>cases z<;>first|exact w.elim|skip
 rename_i i j
 rw[r1.bL,r2.bL]
 exact⟨i,j,rfl,rfl,q.sc ok (.int _) w⟩
instance (i j:Int):Decidable (mW i j):=by unfold mW;infer_instance
instance (i j:Int):Decidable (Fp i j):=by unfold Fp;infer_instance
instance (i j:Int):Decidable (LS i j):=by unfold LS;infer_instance
def vQ:=yk (λ_ j=>0 < j) λi j=>.int (i % j)
def Dg:=yk Fp λi j=>.int (i ^ j.toNat)
def Kc:lX (rI (λ_ j=>0 < j) λi j=>.int (i % j)) vQ:=Dx λ_ _ _ _ _=>.int _
def Ka:lX (rI Fp λi j=>.int (i ^ j.toNat)) Dg:=Dx λ_ _ _ _ _=>.int _
noncomputable def IG (K:Frag):R2:=λx y H Q=>(x8 λi j=>.int (i+j)) x y H Q\/(∃ i j,x= .str i/\y= .str j/\i.length+j.length<=sizeLine/\Q (.str (i++j)) H)\/JU x y H Q\/IF K x y H Q\/
 (∃ a b ys,x= .ref a/\y= .ref b/\H a=some (.tup [])/\H b=some (.tup ys)/\Q (.ref b) H)
def DG:dS X (binaryOp .Add) (λx y H Q=> ∃ a b ys,x= .ref a/\y= .ref b/\H a=some (.tup [])/\H b=some (.tup ys)/\Q (.ref b) H):=by
 intro pZ s σ H x y v u Q I rx ry h
 obtain⟨a,b,ys,rfl,rfl,ha,hb,q⟩:=h
 cases rx
 cases ry
 obtain⟨aC,r1,p1,_⟩:=I.tuple (dh.of (K:=X.K) ha)
 obtain⟨nR,r2,p2,_⟩:=I.tuple (dh.of (K:=X.K) hb)
 cases r1
 obtain⟨⟨cls,dd,data,sl⟩,ho,hc,n,hd⟩:=id p1
 obtain⟨⟨cls2,dd2,data2,sl2⟩,ho2,hc2,n2,hd2⟩:=id p2
 simp only at hc hd hc2 hd2
 subst hc hd hc2 hd2
 exact concat_meets ⟨_,ho,rfl⟩ ⟨_,ho2,rfl⟩ noFill_tuple_add seq_tuple_add PySem.F.slot_tuple_add PySem.F.entry_tuple_add (PySem.F.args_tuple_add_2 _ _)
   (tuple_addW0 a b _ nR.toArray n n2 dd dd2 sl sl2 rfl) ⟨ho,ho2,⟨.ref b,H,I,rfl,q⟩⟩
def og:dS X (binaryOp .Add) (IG X.K):=hZ.or (yg.or (yf.or (GI.or DG)))
noncomputable def bM:PV->PV->M PV
 | .int i,.int j=>.ret (.int (i+j))
 | .str i,.str j=>if i.length+j.length<=100000 then .ret (.str (i++j)) else .fail
 | .lst a,.lst b=>if a.length+b.length<=100000 then .ret (.lst (a++b)) else .fail
 | .tup a,.tup b=>if a.length+b.length<=100000 then .ret (.tup (a++b)) else .fail
 |_,_=>.fail
def tN {K:Frag}:lX (IG K) bM:=λφ G O H n R Q y z x x' pr dm ok r1 r2 w q=>by
 have hB:O G.B:=pr _ G.pB
 cases y<;>cases z<;>first|exact w.elim|skip
 ·rename_i i j
  rw[r1.bL,r2.bL]
  exact .inl ⟨i,j,rfl,rfl,q.sc ok (.int _) w⟩
 ·rename_i i j
  rw[r1.fO,r2.fO]
  unfold bM at w
  dsimp only at w
  by_cases hc:i.length+j.length<=100000
  ·rw[Qv hc] at w;exact .inr (.inl ⟨i,j,rfl,rfl,P7 hc dY,q.sc ok (.str _) w⟩)
  ·rw[Qw hc] at w;exact w.elim
 ·rename_i i j
  obtain⟨a,xs,rfl,h1,e1⟩:=r1.i7
  obtain⟨b,ys,rfl,h2,e2⟩:=r2.i7
  unfold bM at w
  dsimp only at w
  by_cases hc:i.length+j.length<=100000
  ·rw[Qv hc] at w
   by_cases hn:i=[]
   ·subst hn
    rw[e1.nil_inv] at h1
    cases r2 with
    |full r2=>exact .inr (.inr (.inr (.inr ⟨a,b,ys,rfl,rfl,h1,h2,q.sc ok r2 w⟩)))
   ·refine .inr (.inr (.inr (.inl ⟨a,b,xs,ys,rfl,rfl,dh.of h1,dh.of h2,λz=>hn ?_,P7 (by rw[<-e1.1,<-e2.1];exact hc) dY,λhz=>?_,λ_ p hp=>q.tup ok dm hp hB (e1.append e2) w⟩)))
    ·subst z;exact Ql e1.1
    ·subst hz
     have:j=[]:=Ql e2.1
     subst this
     rw[List.append_nil] at w
     cases r1 with
     |full r1=>exact q.sc ok r1 w
  ·rw[Qw hc] at w;exact w.elim
 ·rename_i i j
  obtain⟨a,xs,rfl,h1,e1⟩:=r1.eQ
  obtain⟨b,ys,rfl,h2,e2⟩:=r2.eQ
  unfold bM at w
  dsimp only at w
  by_cases hc:i.length+j.length<=100000
  ·rw[Qv hc] at w
   exact .inr (.inr (.inl ⟨a,b,xs,ys,rfl,rfl,h1,h2,P7 (by rw[<-e1.1,<-e2.1];exact hc) dY,λp hp=>q.lst ok dm hp hB (e1.append e2) w⟩))
  ·rw[Qw hc] at w;exact w.elim
def mj (i:Str) (k:Int):Str:=⟨(List.replicate k.toNat i.cps).foldl (· ++ ·) #[]⟩
def IC:R2:=λx y H Q=> ∃ i k,x= .str i/\y= .int k/\(1 < k/\k < 1000/\0 < i.length/\i.length < 1000/\(mj i k).length<=100000)/\Q (.str (mj i k)) H
def C7:R2:=λx y H Q=>rI mW (λi j=>.int (i * j)) x y H Q\/IC x y H Q\/MF x y H Q
def GD:dS X (binaryOp .Mult) IC:=by
 intro pZ s σ H x y v u Q I rx ry h
 obtain⟨i,k,rfl,rfl,⟨h1,h2,h3,h4,h5⟩,q⟩:=h
 obtain⟨t,rfl⟩:=rx
 obtain⟨t',rfl⟩:=ry
 have e1: ¬ k < -(2 ^ 63:Int):=by
  have:(2:Int) ^ 63=9223372036854775808:=by decide
  lia
 have e2: ¬ k ≥ 2 ^ 63:=by
  have:(2:Int) ^ 63=9223372036854775808:=by decide
  lia
 have hz:(i.length * k.toNat)<=1000000:=P7 (Nat.mul_le_mul (Nat.le_of_lt h4) (by lia:k.toNat<=1000)) (by decide)
 have bY:(k==1||i.length==0)=false:=by
  simp only[Bool.or_eq_false_iff,beq_eq_false_iff_ne]
  exact⟨by lia,by lia⟩
 refine PySem.P.mul_str (by rw[Qb e1,Qb e2];rfl) (λ_ _ hgt=>?_) (λ_ _=>?_) ?_
 ·have:(i.length:Int)<=(2 ^ 63 - 1) / k:=by
   rw[Int.le_ediv_iff_mul_le (by lia)]
   have:(i.length:Int) * k<=1000 * 1000:=Int.mul_le_mul (by lia) (by lia) (by lia) (by lia)
   have e:(2:Int) ^ 63 - 1=9223372036854775807:=by decide
   lia
  lia
 ·have hs:sizeLine=16777216:=Qm
  show decide (i.length * k.toNat > sizeLine)=false
  exact Qb (by lia)
 ·rw[Qw (by lia),Qw (by rw[bY];simp)]
  exact⟨P7 h5 dY,⟨.str (mj i k),H,I.tok _,⟨_,rfl⟩,q⟩⟩
def GG:dS X (binaryOp .Mult) C7:=my.or (GD.or Kf)
noncomputable def Bz:PV->PV->M PV
 | .int i,.int j=>if mW i j then .ret (.int (i * j)) else .fail
 | .str i,.int k=>if 1 < k/\k < 1000/\0 < i.length/\i.length < 1000/\(mj i k).length<=100000 then .ret (.str (mj i k)) else .fail
 | .lst l,.int k=>if -1000 < k/\k < 1000/\l.length * k.toNat<=100000 then .ret (.lst (List.replicate k.toNat l).flatten) else .fail
 |_,_=>.fail
theorem aO.rep (h:aO B O H l xs): ∀ k:Nat,aO B O H (List.replicate k l).flatten (List.replicate k xs).flatten
 |0=>.nil
 |k+1=>by rw[List.replicate_succ,List.replicate_succ,List.flatten_cons,List.flatten_cons];exact h.append (aO.rep h k)
def Kb:lX C7 Bz:=λφ G O H n R Q y z x x' pr dm ok r1 r2 w q=>by
 have hB:O G.B:=pr _ G.pB
 cases y<;>cases z<;>first|exact w.elim|skip
 ·rename_i i j
  rw[r1.bL,r2.bL]
  unfold Bz at w
  dsimp only at w
  by_cases hc:mW i j
  ·rw[Qv hc] at w;exact .inl ⟨i,j,rfl,rfl,hc,q.sc ok (.int _) w⟩
  ·rw[Qw hc] at w;exact w.elim
 ·rename_i i k
  rw[r1.fO,r2.bL]
  unfold Bz at w
  dsimp only at w
  by_cases hc:1 < k/\k < 1000/\0 < i.length/\i.length < 1000/\(mj i k).length<=100000
  ·rw[Qv hc] at w;exact .inr (.inl ⟨i,k,rfl,rfl,hc,q.sc ok (.str _) w⟩)
  ·rw[Qw hc] at w;exact w.elim
 ·rename_i l k
  obtain⟨a,xs,rfl,h1,e1⟩:=r1.eQ
  rw[r2.bL]
  unfold Bz at w
  dsimp only at w
  by_cases hc: -1000 < k/\k < 1000/\l.length * k.toNat<=100000
  ·rw[Qv hc] at w
   have e:(2:Int) ^ 63=9223372036854775808:=by decide
   exact .inr (.inr ⟨a,k,xs,rfl,rfl,h1,by lia,by lia,P7 (by rw[<-e1.1];exact hc.2.2) dY,λp hp=>q.lst ok dm hp hB (e1.rep _) w⟩)
  ·rw[Qw hc] at w;exact w.elim
theorem bH.pS {G:Bg φ}: ∀ {l:List PV} {xs:List V},aO G.B O H l xs->l.all aV=true->xs=l.map toV
 |[],xs,h,_=>h.nil_inv
 |y::l,xs,h,f=>by
  obtain⟨x,r,rfl,h1,h2⟩:=h.cons_inv
  rw[List.all_cons,Qk] at f
  rw[PQ,fA h1 f.1,bH.pS h2 f.2]
def JS (K:Frag) (neg:Bool):R2:=λx y H Q=>Oo K neg x y H Q\/∃ i j,x= .str i/\y= .str j/\Q (.bl (xor neg (!(Builtin.Str.occurrences j i 0 j.length 1).isEmpty))) H
def DD:dS X (compareOp .In) (JS X.K false):=by
 intro pZ s σ H x y v u Q I rx ry h
 rcases h with h|⟨i,j,h1,h2,q⟩
 ·exact Bv pZ s σ H x y v u Q I rx ry h
 ·exact Bu pZ s σ H x y v u Q I rx ry ⟨i,j,h1,h2,by simpa using q⟩
def mw:dS X (compareOp .NotIn) (JS X.K true):=by
 intro pZ s σ H x y v u Q I rx ry h
 rcases h with h|⟨i,j,h1,h2,q⟩
 ·exact tQ pZ s σ H x y v u Q I rx ry h
 ·exact tP pZ s σ H x y v u Q I rx ry ⟨i,j,h1,h2,by simpa using q⟩
def nN (y:PV) (l:List PV):Bool:=l.any λz=>se (toV z) (toV y)
noncomputable def iW (neg:Bool):PV->PV->M PV
 | .str i,.str j=>.ret (.bl (xor neg (!(Builtin.Str.occurrences j i 0 j.length 1).isEmpty)))
 |y,.lst l=>if aV y&&l.all aV then .ret (.bl (xor neg (nN y l))) else .fail
 |y,.tup l=>if aV y&&l.all aV then .ret (.bl (xor neg (nN y l))) else .fail
 |_,_=>.fail
def As (y:PV) (l:List PV):NX (toV y) (l.map toV)=nN y l:=by unfold NX nN;rw[List.any_map];rfl
def vz {K:Frag} (neg:Bool):lX (JS K neg) (iW neg):=λφ G O H n R Q y z x x' pr dm ok r1 r2 w q=>by
 cases z with
 |lst l=>
  have w':(if(aV y&&l.all aV)=true then M.ret (.bl (xor neg (nN y l))) else M.fail:M PV).wp n R:=by cases y<;>exact w
  by_cases hc:(aV y&&l.all aV)=true
  ·rw[Qv hc] at w'
   rw[Qk] at hc
   obtain⟨p,xs,rfl,h1,e1⟩:=r2.eQ
   have e2:=bH.pS e1 hc.2
   rw[r9 r1 hc.1]
   refine .inl ⟨p,xs,rfl,.inl (bU.of h1),hc.1,?_,?_⟩
   ·rw[e2,List.all_map];exact hc.2
   ·rw[e2,As];cases neg<;>simpa using q.sc ok (.bl _) w'
  ·rw[Qw hc] at w';exact w'.elim
 |tup l=>
  have w':(if(aV y&&l.all aV)=true then M.ret (.bl (xor neg (nN y l))) else M.fail:M PV).wp n R:=by cases y<;>exact w
  by_cases hc:(aV y&&l.all aV)=true
  ·rw[Qv hc] at w'
   rw[Qk] at hc
   obtain⟨p,xs,rfl,h1,e1⟩:=r2.i7
   have e2:=bH.pS e1 hc.2
   rw[r9 r1 hc.1]
   refine .inl ⟨p,xs,rfl,.inr (dh.of h1),hc.1,?_,?_⟩
   ·rw[e2,List.all_map];exact hc.2
   ·rw[e2,As];cases neg<;>simpa using q.sc ok (.bl _) w'
  ·rw[Qw hc] at w';exact w'.elim
 |str j=>
  cases y<;>first|exact w.elim|skip
  rename_i i
  rw[r1.fO,r2.fO]
  exact .inr ⟨i,j,rfl,rfl,q.sc ok (.bl _) w⟩
 |_=>cases y<;>exact w.elim
def L5:PV->Bool
 | .aD=>true
 |_=>false
def gn (neg:Bool) (y z:PV):M PV:=match z with| .aD=>.ret (.bl (xor neg (L5 y)))|_=>.fail
def Ap (r:bH G O H y x):decide (x= .aD)=L5 y:=by
 cases r with
 |full h=>cases h<;>rfl
 |top _ _ _=>rfl
 |xI _ _ _=>rfl
def Dy:lX (λx y H Q=>y= .aD/\Q (.bl (decide (x= .aD))) H) (gn false):=λφ G O H n R Q y z x x' pr dm ok r1 r2 w q=>by
 cases z<;>first|exact w.elim|skip
 have w':R (.bl (xor false (L5 y))) n:=w
 exact⟨r2.IJ,q.sc ok (y:=.bl (L5 y)) (by rw[Ap r1];exact .bl _) (by simpa using w')⟩
def Ac:lX (λx y H Q=>y= .aD/\Q (.bl (!decide (x= .aD))) H) (gn true):=λφ G O H n R Q y z x x' pr dm ok r1 r2 w q=>by
 cases z<;>first|exact w.elim|skip
 refine⟨r2.IJ,q.sc ok (y:=.bl (!L5 y)) (by rw[Ap r1];exact .bl _) ?_⟩
 have w':R (.bl (xor true (L5 y))) n:=w
 simpa using w'
def Pp (i j:Str):Bool:=!decide (j.cps.toList < i.cps.toList)
def MG:R2:=λx y H Q=>(x8 λi j=>.bl (decide (i<=j))) x y H Q\/∃ i j,x= .str i/\y= .str j/\Q (.bl (!decide (j.cps.toList < i.cps.toList))) H
def hW:dS X (compareOp .LtE) MG:=MT.or Bt
def iV:PV->PV->M PV
 | .int i,.int j=>.ret (.bl (decide (i<=j)))
 | .str i,.str j=>.ret (.bl (Pp i j))
 |_,_=>.fail
def hM:lX MG iV:=λφ G O H n R Q y z x x' pr dm ok r1 r2 w q=>by
 cases y<;>cases z<;>first|exact w.elim|skip
 ·rename_i i j
  rw[r1.bL,r2.bL]
  exact .inl ⟨i,j,rfl,rfl,q.sc ok (.bl _) w⟩
 ·rename_i i j
  rw[r1.fO,r2.fO]
  exact .inr ⟨i,j,rfl,rfl,q.sc ok (.bl _) w⟩
def xa (h:aO B O H l xs) (e:k8 l i=some y): ∃ x,k8 xs i=some x/\Rep B O H y x:=by
 unfold k8 at e ⊢
 rw[<-h.1]
 cases q:uN l.length i with
 |none=>rw[q] at e;cases e
 |some j=>rw[q] at e;exact h.at e
noncomputable def aw:PV->PV->M PV
 | .lst l,.int i=>.bK (k8 l i)
 | .tup l,.int i=>.bK (k8 l i)
 | .str z,.int i=>if z.length<=100000 then(M.bK (k8 z.cps.toList i)).bind λc=>.ret (.str ⟨#[c]⟩) else .fail
 |_,_=>.fail
def MS {K:Frag}:lX (Pa K) aw:=λφ G O H n R Q y z x x' pr dm ok r1 r2 w q=>by
 cases y<;>cases z<;>first|exact w.elim|skip
 ·rename_i s i
  rw[r1.fO,r2.bL]
  unfold aw at w
  dsimp only at w
  by_cases hc:s.length<=100000
  ·rw[Qv hc] at w
   cases e:k8 s.cps.toList i with
   |none=>rw[e] at w;exact w.elim
   |some c=>rw[e] at w;exact .inr (.inr ⟨s,i,c,rfl,rfl,P7 hc dY,e,q.sc ok (.str _) w⟩)
  ·rw[Qw hc] at w;exact w.elim
 ·rename_i l i
  obtain⟨p,xs,rfl,h1,e1⟩:=r1.i7
  rw[r2.bL]
  unfold aw at w
  dsimp only at w
  cases e:k8 l i with
  |none=>rw[e] at w;exact w.elim
  |some y=>
   rw[e] at w
   obtain⟨v,a,b⟩:=xa e1 e
   exact .inr (.inl ⟨p,xs,i,v,rfl,rfl,dh.of h1,a,q.sc ok b w⟩)
 ·rename_i l i
  obtain⟨p,xs,rfl,h1,e1⟩:=r1.eQ
  rw[r2.bL]
  unfold aw at w
  dsimp only at w
  cases e:k8 l i with
  |none=>rw[e] at w;exact w.elim
  |some y=>
   rw[e] at w
   obtain⟨v,a,b⟩:=xa e1 e
   exact .inl ⟨p,xs,i,v,rfl,rfl,bU.of h1,a,q.sc ok b w⟩
end
section
variable {φ:dn}
section
variable {X:Cx} {e:Expr} {es:List Expr} {me:ae->M PV} {ml:ae->M (List PV)}
def BA.mono (h:BA X es t) (f: ∀ σ H Q,t' σ H Q->t σ H Q):BA X es t':=⟨λpos pZ s σ H Q I q=>h.out pos pZ s σ H Q I (f σ H Q q)⟩
def aa (me:ae->M PV) (ml:ae->M (List PV)):ae->M (List PV):=λρ=>(me ρ).bind λy=>(ml ρ).bind λl=>.ret (y::l)
def dJ:AV φ X [] (λ_=>.ret []):=BA.mono ⟨eL⟩ λσ H Q ⟨G,O,ρ,n,R,s,w,q⟩=>q [] [] H n (Ext.refl _ _) s.ok .nil w
def aQ (h:EV φ X e me) (t:AV φ X es ml) (hs:isStar e=false:=by rfl):AV φ X (e::es) (aa me ml):=BA.mono ⟨MR h.out t.out hs⟩ λσ H Q bu=>by
 obtain⟨G,O,ρ,n,R,s,w,q⟩:=bu
 unfold aa at w
 rw[M.wZ] at w
 refine⟨G,O,ρ,n,_,s,w,λy x H1 n1 e1 ba r1 w1=>?_⟩
 rw[M.wZ] at w1
 exact⟨G,O,ρ,n1,_,s.ext e1 ba,w1,λl xs H2 n2 e2 nM r2 w2=>q (y::l) (x::xs) H2 n2 (e1.trans e2) nM (.cons (r1.ext s.B e2) r2) w2⟩
def eK.nil:eK G O H [] []:=⟨rfl,λi y x a=>by simp at a⟩
def eK.cons {G:Bg φ} {O:Addr->Prop} {H:Hp} {y:PV} {x:V} {l:List PV} {xs:List V} (h:bH G O H y x) (t:eK G O H l xs):eK G O H (y::l) (x::xs):=⟨by simp[t.1],λi y' x' a b=>by
 cases i with
 |zero=>simp at a b;subst a b;exact h
 |succ i=>simp at a b;exact t.2 i y' x' a b⟩
def eK.nil_inv (h:eK G O H [] xs):xs=[]:=Ql h.1.symm
def eK.cons_inv (h:eK G O H (y::l) xs): ∃ x r,xs=x::r/\bH G O H y x/\eK G O H l r:=by
 cases xs with
 |nil=>have:=h.1;simp at this
 |cons x r=>exact⟨x,r,rfl,h.2 0 y x rfl rfl,by simpa using h.1,λi y' x' a b=>h.2 (i+1) y' x' (by simpa using a) (by simpa using b)⟩
def eK.one (h:eK G O H [y] xs): ∃ x,xs=[x]/\bH G O H y x:=by
 obtain⟨x,r,rfl,a,b⟩:=h.cons_inv
 rw[b.nil_inv];exact⟨x,rfl,a⟩
def eK.two (h:eK G O H [y,z] xs): ∃ x x',xs=[x,x']/\bH G O H y x/\bH G O H z x':=by
 obtain⟨x,r,rfl,a,b⟩:=h.cons_inv
 obtain⟨x',rfl,c⟩:=b.one
 exact⟨x,x',rfl,a,c⟩
def d5:AB φ X [] (λ_=>.ret []):=BA.mono ⟨eL⟩ λσ H Q ⟨G,O,ρ,n,R,s,w,q⟩=>q [] [] H n (Ext.refl _ _) s.ok .nil w
def cK (h:EB φ X e me) (t:AB φ X es ml) (hs:isStar e=false:=by rfl):AB φ X (e::es) (aa me ml):=BA.mono ⟨MR h.out t.out hs⟩ λσ H Q bu=>by
 obtain⟨G,O,ρ,n,R,s,w,q⟩:=bu
 unfold aa at w
 rw[M.wZ] at w
 refine⟨G,O,ρ,n,_,s,w,λy x H1 n1 e1 ba r1 w1=>?_⟩
 rw[M.wZ] at w1
 exact⟨G,O,ρ,n1,_,s.ext e1 ba,w1,λl xs H2 n2 e2 nM r2 w2=>q (y::l) (x::xs) H2 n2 (e1.trans e2) nM (.cons (r1.ext s.B e2) r2) w2⟩
def aR (l:List PV):M PV:=if l.length<=100000 then .ret (.tup l) else .fail
def aM (l:List PV):M (List PV):=if l.length<=100000 then .ret l else .fail
def Ep (h:AV φ X es ml):EV φ X (.Tuple es k pos) (λρ=>(ml ρ).bind aR):=BE.mono ⟨yc h.out⟩ λσ H Q bu=>by
 obtain⟨G,O,ρ,n,R,s,w,q⟩:=bu
 rw[M.wZ] at w
 refine⟨G,O,ρ,n,_,s,w,λl xs H1 n1 e1 ba r1 w1=>?_⟩
 unfold aR at w1
 by_cases hc:l.length<=100000
 ·rw[Qv hc] at w1
  refine⟨P7 (by rw[<-r1.1];exact hc) dY,λp hp=>?_⟩
  have q':mT G O H1 R Q:=λy x H' n' e o r h=>q y x H' n' (e1.trans e) o r h
  exact q'.tup ba (s.ext e1 ba).dm hp s.B r1 w1
 ·rw[Qw hc] at w1;exact w1.elim
def EA (h:AV φ X es ml):EF φ X (.List es pos) (λρ=>(ml ρ).bind aM):=BE.mono ⟨yd h.out⟩ λσ H Q bu=>by
 obtain⟨G,O,ρ,n,R,s,w,q⟩:=bu
 rw[M.wZ] at w
 refine⟨G,O,ρ,n,_,s,w,λl xs H1 n1 e1 ba r1 w1=>?_⟩
 unfold aM at w1
 by_cases hc:l.length<=100000
 ·rw[Qv hc] at w1
  refine⟨P7 (by rw[<-r1.1];exact hc) dY,λp hp=>?_⟩
  have e2:=Ext.new (B:=G.B) hp (.lst xs)
  refine q l p xs _ n1 (e1.trans e2) (Bg.new ba hp _) ?_ av ((r1.grow λq z=>by
   rcases z with z|z
   ·exact .inl z
   ·subst z;exact .inr hp).ext (.inl s.B) e2) w1
  cases hh:H p with
  |none=>rfl
  |some o=>
   by_cases pb:p=G.B
   ·subst pb;obtain⟨o',g⟩:=G.EH _ _ _ ba G.pB;rw[hp] at g;cases g
   ·obtain⟨_,this⟩:=(e1 p o pb hh).there;rw[hp] at this;cases this
 ·rw[Qw hc] at w1;exact w1.elim
def ft {G:Bg φ} (e1:Ext G.B H H1) (ba:G.ok H1 n) (hp:H1 p=none):H p=none:=by
 cases hh:H p with
 |none=>rfl
 |some o=>
  by_cases pb:p=G.B
  ·subst pb;obtain⟨o',g⟩:=G.EH _ _ _ ba G.pB;rw[hp] at g;cases g
  ·obtain⟨_,this⟩:=(e1 p o pb hh).there;rw[hp] at this;cases this
def nA (r:List V->Hp->VK->Prop) (op:List PV->M PV):Prop:= ∀ (φ:dn) (G:Bg φ) (O:Addr->Prop) (H:Hp) (n:Nat) (R:PV->Nat->Prop) (Q:VK) (l:List PV) (xs:List V),
 (∀ p,G.cu p->O p)->(∀ p,O p->∃ o,H p=some o)->G.ok H n->eK G O H l xs->(op l).wp n R->mT G O H R Q->r xs H Q
def bz (h:BE X e (LZ r (LY φ ml))) (hv:nA r op):EV φ X e (λρ=>(ml ρ).bind op):=BE.mono h λσ H Q bu=>by
 obtain⟨G,O,ρ,n,R,s,w,q⟩:=bu
 rw[M.wZ] at w
 exact⟨G,O,ρ,n,_,s,w,λl xs H1 n1 e1 ba r1 w1=>hv φ G O H1 n1 R Q l xs s.pr (s.ext e1 ba).dm ba r1 w1 λy x H' n' e o r h=>q y x H' n' (e1.trans e) o r h⟩
noncomputable def cY:List PV->M PV
 |[.str z]=>if z.length<=100000 then .ret (.int z.length) else .fail
 |[.lst l]=>.ret (.int l.length)
 |[.tup l]=>.ret (.int l.length)
 |[.sP l]=>.ret (.int l.length)
 |[.cU l]=>.ret (.int l.length)
 |_=>.fail
def IE (K:Frag):List V->Hp->VK->Prop:=λxs H Q=>(∃ x n,xs=[x]/\NG K x H n/\Q (.int n) H)\/∃ a kvs,xs=[.ref a]/\Rd H a (.dK kvs)/\Q (.int kvs.length) H
def qa:fL X (.builtin "len") (IE X.K):=by
 intro pZ s σ H xs us Q I r h
 rcases h with h|⟨a,kvs,rfl,h,q⟩
 ·exact EO pZ s σ H xs us Q I r h
 ·obtain⟨u,rfl,rx⟩:=vals1 r
  cases rx
  exact Nh I h λt s' I'=>⟨.int kvs.length,H,I',⟨_,rfl⟩,q⟩
def EK {K:Frag}:nA (IE K) cY:=λφ G O H n R Q l xs pr dm ok r w q=>by
 match l,r,w with
 |[.str z],r,w=>
  obtain⟨x,ex,r1⟩:=r.one;subst ex;clear r;have r:=r1;clear r1
  rw[r.fO]
  unfold cY at w
  dsimp only at w
  by_cases hc:z.length<=100000
  ·rw[Qv hc] at w;exact .inl ⟨_,_,rfl,⟨P7 hc dY,rfl⟩,q.sc ok (.int _) w⟩
  ·rw[Qw hc] at w;exact w.elim
 |[.lst z],r,w=>
  obtain⟨x,ex,r1⟩:=r.one;subst ex;clear r;have r:=r1;clear r1
  obtain⟨p,xs,rfl,h,e⟩:=r.eQ
  exact .inl ⟨_,_,rfl,.inl ⟨xs,bU.of h,rfl⟩,q.sc ok (y:=.int z.length) (by rw[e.1];exact .int _) w⟩
 |[.tup z],r,w=>
  obtain⟨x,ex,r1⟩:=r.one;subst ex;clear r;have r:=r1;clear r1
  obtain⟨p,xs,rfl,h,e⟩:=r.i7
  exact .inl ⟨_,_,rfl,.inr ⟨xs,dh.of h,rfl⟩,q.sc ok (y:=.int z.length) (by rw[e.1];exact .int _) w⟩
 |[.sP z],r,w=>
  obtain⟨x,ex,r1⟩:=r.one;subst ex;clear r;have r:=r1;clear r1
  obtain⟨p,o,rfl,h⟩:=r.Mx
  exact .inl ⟨_,_,rfl,.inl ⟨_,.inl (.inr ⟨o,h⟩),rfl⟩,q.sc ok (y:=.int z.length) (by rw[PD];exact .int _) w⟩
 |[.cU z],r,w=>
  obtain⟨x,ex,r1⟩:=r.one;subst ex;clear r;have r:=r1;clear r1
  obtain⟨p,ks,rfl,h,e⟩:=r.AF
  have e1:z.length=ks.length:=by simpa using congrArg List.length e.1
  exact .inr ⟨p,ks,rfl,h,q.sc ok (y:=.int z.length) (by rw[e1];exact .int _) w⟩
def iQ:List PV->Option (List Bool)
 |[]=>some []
 | .bl b::r=>(iQ r).map (b:: ·)
 |_=>none
theorem AM: ∀ {l:List PV} {xs:List V} {bs:List Bool},aO B O H l xs->iQ l=some bs->xs=bs.map V.bl
 |[],xs,bs,h,e=>by simp[iQ] at e;subst e;exact h.nil_inv
 |y::l,xs,bs,h,e=>by
  cases y<;>simp[iQ] at e
  obtain⟨bs',e1,rfl⟩:=e
  obtain⟨x,r,rfl,h1,h2⟩:=h.cons_inv
  cases h1
  rw[PQ,AM h2 e1]
def lV:List PV->M PV
 |[.lst l]=>(M.bK (iQ l)).bind λbs=>.ret (.bl (bs.all id))
 |_=>.fail
def Lq {K:Frag}:nA (λxs H Q=> ∃ (p:Addr) (bs:List Bool),xs=[.ref p]/\bU K H p (bs.map V.bl)/\Q (.bl (bs.all id)) H) lV:=λφ G O H n R Q l xs pr dm ok r w q=>by
 match l,r,w with
 |[.lst z],r,w=>
  obtain⟨x,ex,r1⟩:=r.one;subst ex;clear r;have r:=r1;clear r1
  obtain⟨p,xs,rfl,h,e⟩:=r.eQ
  unfold lV at w
  dsimp only at w
  cases eb:iQ z with
  |none=>rw[eb] at w;exact w.elim
  |some bs=>rw[eb] at w;rw[AM e eb] at h;exact⟨p,bs,rfl,bU.of h,q.sc ok (.bl _) w⟩
def rK:List PV->M PV
 |[.int i,.int j]=>.ret (.int (if j > i then j else i))
 |_=>.fail
def ph:List PV->M PV
 |[.int i,.int j]=>.ret (.int (if j < i then j else i))
 |_=>.fail
def Hz:nA (λxs H Q=> ∃ i j,xs=[.int i,.int j]/\Q (.int (if j > i then j else i)) H) rK:=λφ G O H n R Q l xs pr dm ok r w q=>by
 match l,r,w with
 |[.int i,.int j],r,w=>obtain⟨x,x',ex,r1,r'⟩:=r.two;subst ex;clear r;have r:=r1;clear r1;rw[r.bL,r'.bL];exact⟨i,j,rfl,q.sc ok (.int _) w⟩
def AH:nA (λxs H Q=> ∃ i j,xs=[.int i,.int j]/\Q (.int (if j < i then j else i)) H) ph:=λφ G O H n R Q l xs pr dm ok r w q=>by
 match l,r,w with
 |[.int i,.int j],r,w=>obtain⟨x,x',ex,r1,r'⟩:=r.two;subst ex;clear r;have r:=r1;clear r1;rw[r.bL,r'.bL];exact⟨i,j,rfl,q.sc ok (.int _) w⟩
def yt:List PV->M PV
 |[.int i]=>.ret (.int i)
 |[.bl k]=>.ret (.int (if k then 1 else 0))
 |_=>.fail
def Lp:nA (λxs H Q=>(∃ i,xs=[.int i]/\Q (.int i) H)\/∃ k,xs=[.bl k]/\Q (.int (if k then 1 else 0)) H) yt:=λφ G O H n R Q l xs pr dm ok r w q=>by
 match l,r,w with
 |[.int i],r,w=>obtain⟨x,ex,r1⟩:=r.one;subst ex;clear r;have r:=r1;clear r1;rw[r.bL];exact .inl ⟨i,rfl,q.sc ok (.int _) w⟩
 |[.bl i],r,w=>obtain⟨x,ex,r1⟩:=r.one;subst ex;clear r;have r:=r1;clear r1;rw[r.O4];exact .inr ⟨i,rfl,q.sc ok (.int _) w⟩
def j8:List PV->M PV
 |[.lst l]=>.ret (.tup l)
 |[.tup l]=>.ret (.tup l)
 |_=>.fail
def yH {K:Frag}:nA (λxs H Q=> ∃ p ys,xs=[.ref p]/\((bU K H p ys/\∀ l,H l=none->Q (.ref l) (upd H l (.tup ys)))\/(dh K H p ys/\Q (.ref p) H))) j8:=λφ G O H n R Q l xs pr dm ok r w q=>by
 match l,r,w with
 |[.lst z],r,w=>
  obtain⟨x,ex,r1⟩:=r.one;subst ex;clear r;have r:=r1;clear r1
  obtain⟨p,xs,rfl,h,e⟩:=r.eQ
  exact⟨p,xs,rfl,.inl ⟨bU.of h,λl hl=>q.tup ok dm hl (pr _ G.pB) e w⟩⟩
 |[.tup z],r,w=>
  obtain⟨x,ex,r1⟩:=r.one;subst ex;clear r;have r:=r1;clear r1
  obtain⟨p,xs,rfl,h,e⟩:=r.i7
  cases r with
  |full r=>exact⟨p,xs,rfl,.inr ⟨dh.of h,q.sc ok r w⟩⟩
end
end
section
variable {φ:dn}
noncomputable def xP (φ:dn) (f:List PV->M PV):Sp:=λvs H Q _=> ∃ (G:Bg φ) (O:Addr->Prop) (l:List PV) (n:Nat) (R:PV->Nat->Prop),(∀ p,G.cu p->O p)/\(∀ p,O p->∃ o,H p=some o)/\G.ok H n/\aO G.B O H l vs/\(f l).wp n R/\mT G O H R Q
section
variable {X:Cx} {e:Expr} {es:List Expr} {ml:ae->M (List PV)} {f:List PV->M PV}
def Az (h:BE X e (uX (xP φ f) [] E0 (Mk φ ml))):EV φ X e (λρ=>(ml ρ).bind f):=BE.mono h λσ H Q bu=>by
 obtain⟨G,O,ρ,n,R,s,w,q⟩:=bu
 rw[M.wZ] at w
 refine⟨G,O,ρ,n,_,s,w,λl xs H1 n1 e1 ba r1 w1=>?_⟩
 show xP φ f (xs++[]) H1 Q E0
 rw[List.append_nil]
 exact⟨G,O,l,n1,R,s.pr,(s.ext e1 ba).dm,ba,r1,w1,λy x H' n' e o r h=>q y x H' n' (e1.trans e) o r h⟩
def m9 (y:PV):M PV:=if aV y=true then .ret y else .fail
def Er (h:BE X e (uX (xP φ f) [] E0 (LY φ ml))):EV φ X e (λρ=>(ml ρ).bind λl=>(f l).bind m9):=BE.mono h λσ H Q bu=>by
 obtain⟨G,O,ρ,n,R,s,w,q⟩:=bu
 rw[M.wZ] at w
 refine⟨G,O,ρ,n,_,s,w,λl xs H1 n1 e1 ba r1 w1=>?_⟩
 show xP φ f (xs++[]) H1 Q E0
 rw[List.append_nil]
 rw[M.wZ] at w1
 refine⟨G,G.cu,l,n1,_,λp h=>h,λp h=>G.EH _ _ _ ba h,ba,⟨r1.1,λi y x a b=>(r1.2 i y x a b).low s.pr⟩,w1,λy x H' n' e o r h=>?_⟩
 unfold m9 at h
 by_cases hf:aV y=true
 ·rw[Qv hf] at h
  refine q y x H' n' (e1.trans e) o ?_ h
  rw[fA r hf]
  cases y<;>first|exact .aD|exact .bl _|exact .int _|exact .str _|(simp[aV,toV,cH] at hf)
 ·rw[Qw hf] at h;exact h.elim
def Pf (r:V->Option Int->Option Int->Hp->VK->Prop) (op:PV->Option Int->Option Int->M PV):Prop:= ∀ (φ:dn) (G:Bg φ) (O:Addr->Prop) (H:Hp) (n:Nat) (R:PV->Nat->Prop) (Q:VK) (y:PV) (lo hi:Option Int) (x:V),
 (∀ p,G.cu p->O p)->(∀ p,O p->∃ o,H p=some o)->G.ok H n->bH G O H y x->(op y lo hi).wp n R->mT G O H R Q->r x lo hi H Q
def Nv (G:Bg φ) (H:Hp) (R:Option Int->Nat->Prop) (Q:Option Int->Hp->Prop):Prop:= ∀ (o:Option Int) (H':Hp) (n':Nat),Ext G.B H H'->G.ok H' n'->R o n'->Q o H'
def Oa (φ:dn) (m:ae->M (Option Int)):TO:=λσ H Q=> ∃ (G:Bg φ) (O:Addr->Prop) (ρ:ae) (n:Nat) (R:Option Int->Nat->Prop),ES G O H σ ρ n/\(m ρ).wp n R/\Nv G H R Q
def OV (φ:dn) (X:Cx) (e:Option Expr) (m:ae->M (Option Int)):Prop:=BO X e (Oa φ m)
def BO.mono {e:Option Expr} {t t':TO} (h:BO X e t) (f: ∀ σ H Q,t' σ H Q->t σ H Q):BO X e t':=⟨λpZ s σ H Q I q=>h.out pZ s σ H Q I (f σ H Q q)⟩
def tM:OV φ X none (λ_=>.ret none):=BO.mono ⟨n9⟩ λσ H Q ⟨G,O,ρ,n,R,s,w,q⟩=>q none H n (Ext.refl _ _) s.ok w
def pL:PV->M Int
 | .int i=>.ret i
 |_=>.fail
def tK (h:EB φ X e m):OV φ X (some e) (λρ=>(m ρ).bind λy=>(pL y).bind λi=>.ret (some i)):=BO.mono ⟨n8 h.out⟩ λσ H Q bu=>by
 obtain⟨G,O,ρ,n,R,s,w,q⟩:=bu
 rw[M.wZ] at w
 refine⟨G,O,ρ,n,_,s,w,λy x H1 n1 e1 ba r1 w1=>?_⟩
 cases y<;>first|exact w1.elim|skip
 rename_i i
 rw[r1.bL]
 exact⟨i,rfl,q _ _ _ e1 ba w1⟩
def Ft (op:PV->Option Int->Option Int->M PV) (me:ae->M PV) (ml mh:ae->M (Option Int)):ae->M PV:=λρ=>(me ρ).bind λy=>(ml ρ).bind λlo=>(mh ρ).bind λhi=>op y lo hi
def pT {r:V->Option Int->Option Int->Hp->VK->Prop} {op:PV->Option Int->Option Int->M PV} {me:ae->M PV} {ml mh:ae->M (Option Int)} (h:BE X e (Od r (rf φ me) (Oa φ ml) (Oa φ mh))) (hv:Pf r op):EV φ X e (Ft op me ml mh):=BE.mono h λσ H Q bu=>by
 obtain⟨G,O,ρ,n,R,s,w,q⟩:=bu
 unfold Ft at w
 rw[M.wZ] at w
 refine⟨G,O,ρ,n,_,s,w,λy x H1 n1 e1 ba r1 w1=>?_⟩
 rw[M.wZ] at w1
 refine⟨G,O,ρ,n1,_,s.ext e1 ba,w1,λlo H2 n2 e2 nM w2=>?_⟩
 rw[M.wZ] at w2
 refine⟨G,O,ρ,n2,_,s.ext (e1.trans e2) nM,w2,λhi H3 n3 e3 ok3 w3=>?_⟩
 exact hv φ G O H3 n3 R Q y lo hi x s.pr (s.ext (e1.trans (e2.trans e3)) ok3).dm ok3 (r1.ext s.B (e2.trans e3)) w3 λy x H' n' e o r h=>q y x H' n' (e1.trans (e2.trans (e3.trans e))) o r h
def lR (l:List PV) (lo hi:Option Int):List PV:=(l.drop (HT.cL l.length 0 lo)).take (HT.cL l.length l.length hi - HT.cL l.length 0 lo)
def wL (h:aO B O H l xs) (lo hi:Option Int):aO B O H (lR l lo hi) (lQ xs lo hi):=by
 unfold lR lQ
 rw[<-h.1]
 exact(h.drop _).take _
def yI (l:List PV) (lo hi:Option Int) (h:HT.cL l.length 0 lo=0/\HT.cL l.length l.length hi=l.length):lR l lo hi=l:=by
 unfold lR
 rw[h.1,h.2]
 simp
def ME (K:Frag):V->Option Int->Option Int->Hp->VK->Prop:=λx lo hi H Q=>MC K x lo hi H Q\/MA K x lo hi H Q
def Oi:Cn X (ME X.K):=nZ.or JK
def f9 (x:Str):List PV:=x.cps.toList.map λc=>.str ⟨#[c]⟩
def bx (lo:Int) (n:Nat):List PV:=(List.range n).map λi=>.int (lo+(i:Nat))
inductive fH (K:Frag) (G:Bg φ) (O:Addr->Prop) (c:Bool) (H:Hp):List PV->It->Prop where
 |lst {p:Addr} {xs:List V} {l:List PV} (np: ¬ G.cu p) (hp:c=true->¬ O p) (h:H p=some (.lst xs)) (r:aO G.B O H l xs):fH K G O c H l (N3 K p)
 |tup {p:Addr} {xs:List V} {l:List PV} (hp: ¬ O p) (h:H p=some (.tup xs)) (r:aO G.B O H l xs):fH K G O c H l (N2 K p)
 |txt (x:Str):fH K G O c H (f9 x) (N1 x)
 |xt (lo:Int) (n:Nat):fH K G O c H (bx lo n) (NH lo n)
def KQ {K:Frag} {H:Hp} {p:Addr} {xs:List V} (h:H p=some (.lst xs)) {i:Nat} (hi:i < xs.length):(N3 K p).go i H:=⟨xs,xs[i],bU.of h,by simp[hi]⟩
def KP {K:Frag} {H:Hp} {p:Addr} {xs:List V} (h:H p=some (.tup xs)) {i:Nat} (hi:i < xs.length):(N2 K p).go i H:=⟨xs,xs[i],dh.of h,by simp[hi]⟩
def fH.go {K:Frag} {G:Bg φ} {O:Addr->Prop} {c:Bool} {H:Hp} {l:List PV} {J:It} (t:fH K G O c H l J) {i:Nat} {y:PV} (hi:l[i]?=some y):J.go i H/\∀ x H2,J.Ci i H x H2->H2=H/\Rep G.B O H y x:=by
 have hl:i < l.length:=(PL.mp hi).1
 cases t with
 |lst np hp h r=>
  refine⟨KQ h (r.1▸hl),λx H2 z=>?_⟩
  obtain⟨e,z⟩:=z
  exact⟨e,r.2 i y x hi (z _ (bU.of h))⟩
 |tup hp h r=>
  refine⟨KP h (r.1▸hl),λx H2 z=>?_⟩
  obtain⟨e,z⟩:=z
  exact⟨e,r.2 i y x hi (z _ (dh.of h))⟩
 |txt z=>
  unfold f9 at hi hl
  refine⟨by show i < z.cps.size;simpa using hl,λx H2 q=>?_⟩
  obtain⟨e,c',hc,rfl⟩:=q
  refine⟨e,?_⟩
  rw[P6] at hi
  have:z.cps.toList[i]?=some c':=by simpa using hc
  rw[this] at hi
  cases hi
  exact .str _
 |xt lo n=>
  unfold bx at hi hl
  have hn:i < n:=by simpa using hl
  refine⟨hn,λx H2 q=>?_⟩
  obtain⟨e,rfl⟩:=q
  refine⟨e,?_⟩
  rw[P6,List.getElem?_range hn] at hi
  cases hi
  exact .int _
def fH.stop {K:Frag} {G:Bg φ} {O:Addr->Prop} {c:Bool} {H:Hp} {l:List PV} {J:It} (t:fH K G O c H l J):J.stop l.length H:=by
 cases t with
 |lst np hp h r=>exact⟨_,bU.of h,Nat.le_of_eq r.1.symm⟩
 |tup hp h r=>exact⟨_,dh.of h,Nat.le_of_eq r.1.symm⟩
 |txt z=>show (f9 z).length=z.cps.size;simp[f9]
 |xt lo n=>show n<=(bx lo n).length;simp[bx]
theorem fH.cE {K:Frag} {G:Bg φ} {O O':Addr->Prop} {c:Bool} {H H':Hp} {l:List PV} {J:It} (t:fH K G O c H l J) (k: ∀ p o,¬ O p->H p=some o->fG H' p o/\¬ O' p) (k2:c=true\/∀ p xs,¬ G.cu p->H p=some (.lst xs)->H' p=some (.lst xs)) (hc: ∀ p,c=true->¬ O p->¬ O' p):fH K G O' c H' l J:=by
 cases t with
 |lst np hp h r=>
  refine .lst np (λz=>hc _ z (hp z)) ?_ (r.cE k)
  rcases k2 with z|z
  ·exact(k _ _ (hp z) h).1
  ·exact z _ _ np h
 |tup hp h r=>exact .tup (k _ _ hp h).2 (k _ _ hp h).1 (r.cE k)
 |txt z=>exact .txt z
 |xt lo n=>exact .xt lo n
def fH.keep {K:Frag} {G:Bg φ} {O O':Addr->Prop} {c:Bool} {H H':Hp} {l:List PV} {J:It} (t:fH K G O c H l J) (k: ∀ p o,¬ O p->H p=some o->H' p=some o/\¬ O' p) (k2:c=true\/∀ p xs,¬ G.cu p->H p=some (.lst xs)->H' p=some (.lst xs)) (hc: ∀ p,c=true->¬ O p->¬ O' p):fH K G O' c H' l J:=t.cE (λp o n q=>⟨.of (k p o n q).1,(k p o n q).2⟩) k2 hc
noncomputable def Jz (φ:dn) (K:Frag) (c:Bool) (m:ae->M (List PV)):TI:=λσ H Q=> ∃ (G:Bg φ) (O:Addr->Prop) (ρ:ae) (n:Nat) (R:List PV->Nat->Prop),ES G O H σ ρ n/\(m ρ).wp n R/\
 ∀ (l:List PV) (J:It) (H':Hp) (n':Nat),Ext G.B H H'->G.ok H' n'->fH K G O c H' l J->R l n'->Q J H'
def IV (φ:dn) (X:Cx) (c:Bool) (tg iter:Expr) (m:ae->M (List PV)):Prop:=BI X tg iter (Jz φ X.K c m)
def aH:PV->M (List PV)
 | .lst l=>.ret l
 | .tup l=>.ret l
 | .str x=>.ret (f9 x)
 |_=>.fail
def Dk (hl:PE X l tl):PI X tg l (λσ H R=>tl σ H λx H1=>(∃ a,x= .ref a/\(∃ xs,bU X.K H1 a xs)/\R (N3 X.K a) H1)\/(∃ a,x= .ref a/\(∃ xs,dh X.K H1 a xs)/\R (N2 X.K a) H1)\/∃ z,x= .str z/\R (N1 z) H1):=by
 intro pZ s σ H R I h
 refine bq (hl pZ s σ H _ I h) λv s1 ⟨x,H1,I1,r1,q1⟩=>?_
 rcases q1 with⟨a,e,⟨xs,hq⟩,q⟩|⟨a,e,⟨xs,hq⟩,q⟩|⟨z,e,q⟩
 ·subst e
  cases r1
  obtain⟨aC,rv,p,hz⟩:=I1.list hq
  refine wpAny_pyIter_list p.isList ?_
  refine⟨s1.heap.objs.size,[s1.heap.objs.size],_,_,H1,rfl,I1.kept (t':=s1.toks) λb o e=>PF _ e,A3 a _,⟨_,PZ _ rfl,rfl,rfl⟩,λb hb=>?_,q⟩
  have e:b=s1.heap.objs.size:=by simpa using hb
  subst e
  exact I1.pQ (PM _) (I1.a9.fresh (PM _))
 ·subst e
  cases r1
  obtain⟨aC,rv,p,hz⟩:=I1.tuple hq
  refine wpAny_pyIter_tuple (show s1.heap.IsTuple a aC.toArray from p) ?_
  refine⟨s1.heap.objs.size,[s1.heap.objs.size],_,_,H1,rfl,I1.kept (t':=s1.toks) λb o e=>PF _ e,xC a _,⟨_,PZ _ rfl,rfl,rfl⟩,λb hb=>?_,q⟩
  have e:b=s1.heap.objs.size:=by simpa using hb
  subst e
  exact I1.pQ (PM _) (I1.a9.fresh (PM _))
 ·subst e
  obtain⟨t,rfl⟩:=r1
  have fin: ∀ (o:Obj) (ty:String),o.cls= .type ty->o.data= .fields #[.str z t,.int (0:Nat) 0]->Turn X.prog X.w X.K tg (N1 z) [s1.heap.objs.size] s1.heap.objs.size (λi h=>h.IsStrIter s1.heap.objs.size ty z t i)->o.isFreed=false->
    Nz X pZ σ tg R (.ref s1.heap.objs.size) {s1 with heap:=s1.heap.push o}:=λo ty h1 h2 T hfr=>by
   refine⟨s1.heap.objs.size,[s1.heap.objs.size],_,_,H1,rfl,I1.kept (t':=s1.toks) λb o e=>PF _ e,T,⟨_,PZ _ hfr,h1,h2⟩,λb hb=>?_,q⟩
   have e:b=s1.heap.objs.size:=by simpa using hb
   subst e
   exact I1.pQ (PM _) (I1.a9.fresh (PM _))
  cases ha:z.cps.all (· < 128)
  ·exact wpAny_pyIter_wide ha (fin _ _ rfl rfl (qY _ z t (by decide) (λA hA=>Walks.strWide hA _ z t) λ_ _ _ _ _ st h=>wpAny_pyIter_striter_wide st h) rfl)
  ·exact wpAny_pyIter_ascii ha (fin _ _ rfl rfl (qY _ z t (by decide) (λA hA=>Walks.strAscii hA _ z t) λ_ _ _ _ _ st h=>wpAny_pyIter_striter_ascii st h) rfl)
def BI.mono {tg iter:Expr} {t t':TI} (h:BI X tg iter t) (f: ∀ σ H Q,t' σ H Q->t σ H Q):BI X tg iter t':=⟨λpZ s σ H Q I q=>h.out pZ s σ H Q I (f σ H Q q)⟩
def KO (h:EB φ X e m):IV φ X false tg e (λρ=>(m ρ).bind aH):=BI.mono ⟨Dk h.out⟩ λσ H Q bu=>by
 obtain⟨G,O,ρ,n,R,s,w,q⟩:=bu
 rw[M.wZ] at w
 refine⟨G,O,ρ,n,_,s,w,λy x H1 n1 e1 ba r1 w1=>?_⟩
 cases y<;>first|exact w1.elim|skip
 ·rw[r1.fO]
  exact .inr (.inr ⟨_,rfl,q _ _ _ _ e1 ba (.txt _) w1⟩)
 ·cases r1 with
  |full r1=>cases r1 with
   |tup a b c d=>exact .inr (.inl ⟨_,rfl,⟨_,dh.of b⟩,q _ _ _ _ e1 ba (.tup a b ⟨c,d⟩) w1⟩)
 ·cases r1 with
  |full r1=>cases r1 with
   |lst a b c d=>exact .inl ⟨_,rfl,⟨_,bU.of b⟩,q _ _ _ _ e1 ba (.lst (λz=>a (s.pr _ z)) (λz=>by cases z) b ⟨c,d⟩) w1⟩
  |top a b c=>exact .inl ⟨_,rfl,⟨_,bU.of b⟩,q _ _ _ _ e1 ba (.lst a (λz=>by cases z) b c) w1⟩
def KN (h:EV φ X e m):IV φ X true tg e (λρ=>(m ρ).bind aH):=BI.mono ⟨Dk h.out⟩ λσ H Q bu=>by
 obtain⟨G,O,ρ,n,R,s,w,q⟩:=bu
 rw[M.wZ] at w
 refine⟨G,O,ρ,n,_,s,w,λy x H1 n1 e1 ba r1 w1=>?_⟩
 cases r1 with
 |str z=>exact .inr (.inr ⟨_,rfl,q _ _ _ _ e1 ba (.txt _) w1⟩)
 |tup a b c d=>exact .inr (.inl ⟨_,rfl,⟨_,dh.of b⟩,q _ _ _ _ e1 ba (.tup a b ⟨c,d⟩) w1⟩)
 |lst a b c d=>exact .inl ⟨_,rfl,⟨_,bU.of b⟩,q _ _ _ _ e1 ba (.lst (λz=>a (s.pr _ z)) (λ_=>a) b ⟨c,d⟩) w1⟩
 |_=>exact w1.elim
def bX:List PV->M (List PV)
 |[.int j]=>if -1000000<=j/\j<=100000 then .ret (bx 0 j.toNat) else .fail
 |_=>.fail
def t9 (h:BI X tg e (D8 (LY φ ml))):IV φ X c tg e (λρ=>(ml ρ).bind bX):=BI.mono h λσ H Q bu=>by
 obtain⟨G,O,ρ,n,R,s,w,q⟩:=bu
 rw[M.wZ] at w
 refine⟨G,O,ρ,n,_,s,w,λl xs H1 n1 e1 ba r1 w1=>?_⟩
 match l,r1,w1 with
 |[.int j],r1,w1=>
  obtain⟨x,rfl,r2⟩:=r1.one
  rw[r2.bL]
  unfold bX at w1
  dsimp only at w1
  by_cases hc: -1000000<=j/\j<=100000
  ·rw[Qv hc] at w1
   have e62:(2:Int) ^ 62=4611686018427387904:=by decide
   exact⟨j,rfl,by lia,by lia,q _ _ _ _ e1 ba (.xt 0 j.toNat) w1⟩
  ·rw[Qw hc] at w1;exact w1.elim
def vp:List PV->M (List PV)
 |[.int i,.int j]=>if -1000000<=i/\i<=10000000/\-1000000<=j/\j<=10000000/\j - i<=100000 then .ret (bx i (j - i).toNat) else .fail
 |_=>.fail
def Hb (h:BI X tg e (D7 (LY φ ml))):IV φ X c tg e (λρ=>(ml ρ).bind vp):=BI.mono h λσ H Q bu=>by
 obtain⟨G,O,ρ,n,R,s,w,q⟩:=bu
 rw[M.wZ] at w
 refine⟨G,O,ρ,n,_,s,w,λl xs H1 n1 e1 ba r1 w1=>?_⟩
 match l,r1,w1 with
 |[.int i,.int j],r1,w1=>
  obtain⟨x,x',rfl,r2,r3⟩:=r1.two
  rw[r2.bL,r3.bL]
  unfold vp at w1
  dsimp only at w1
  by_cases hc: -1000000<=i/\i<=10000000/\-1000000<=j/\j<=10000000/\j - i<=100000
  ·rw[Qv hc] at w1
   have e62:(2:Int) ^ 62=4611686018427387904:=by decide
   exact⟨i,j,rfl,⟨by lia,by lia,by lia,by lia⟩,q _ _ _ _ e1 ba (.xt i (j - i).toNat) w1⟩
  ·rw[Qw hc] at w1;exact w1.elim
noncomputable def FH (φ:dn) (b:PV->ae->M ae):TG:=λv σ H Q=> ∃ (G:Bg φ) (O:Addr->Prop) (ρ:ae) (n:Nat) (R:ae->Nat->Prop) (y:PV),ES G O H σ ρ n/\Rep G.B O H y v/\(b y ρ).wp n R/\
 ∀ (σ':St) (ρ':ae) (n':Nat),ES G O H σ' ρ' n'->R ρ' n'->Q σ' H
def GV (φ:dn) (X:Cx) (tg:Expr) (b:PV->ae->M ae):Prop:=BG X tg (FH φ b)
def lj.set (h:lj G O H σ ρ) (k:Nat) (r:mV G O H t (some x)):lj G O H (σ.set k (some x)) (ρ.set k t):=by
 refine⟨by simp[h.1],λi e he=>?_⟩
 by_cases hk:k=i
 ·subst hk
  have hl:k < ρ.length:=by have:=(PL.mp he).1;simpa using this
  rw[Qx hl] at he
  cases he
  rw[Qx (h.1▸hl)]
  exact r
 ·rw[Qi hk] at he ⊢
  exact h.2 i e he
theorem ES.set (s:ES G O H σ ρ n) (k:Nat) (r:mV G O H t (some x)):ES G O H (σ.set k (some x)) (ρ.set k t) n:=⟨s.er.set k r,s.ok,s.pr,s.dm⟩
def aA (k:Nat) (y:PV) (ρ:ae):M ae:=.ret (ρ.set k (.val y))
def BG.mono {tg:Expr} {t t':TG} (h:BG X tg t) (f: ∀ v σ H Q,t' v σ H Q->t v σ H Q):BG X tg t':=⟨λpZ s σ H v u Q I r q=>h.out pZ s σ H v u Q I r (f v σ H Q q)⟩
def ou (h:BG X tg (c7 k)):GV φ X tg (aA k):=BG.mono h λv σ H Q ⟨G,O,ρ,n,R,y,s,r,w,q⟩=>q _ _ n (s.set k (t:=.val y) ⟨v,rfl,r⟩) w
def ux:List Nat->List PV->ae->ae
 |k::ks,y::l,ρ=>ux ks l (ρ.set k (.val y))
 |_,_,ρ=>ρ
def bJ (ks:List Nat) (y:PV) (ρ:ae):M ae:=match y with
 | .tup l=>if l.length=ks.length then .ret (ux ks l ρ) else .fail
 |_=>.fail
def eM:List Nat->HN
 |[]=>KZ
 |k::ks=>Eh (c7 k) (eM ks)
theorem rX {G:Bg φ}: ∀ (ks:List Nat) (l:List PV) (xs:List V) (σ:St) (ρ:ae) (Q:St->Hp->Prop),l.length=ks.length->aO G.B O H l xs->ES G O H σ ρ n->(∀ σ',ES G O H σ' (ux ks l ρ) n->Q σ' H)->eM ks xs σ H Q
 |[],l,xs,σ,ρ,Q,hl,r,s,q=>by
  have e:l=[]:=Ql hl
  subst e
  rw[r.nil_inv]
  exact⟨rfl,q σ s⟩
 |k::ks,l,xs,σ,ρ,Q,hl,r,s,q=>by
  cases l with
  |nil=>simp at hl
  |cons y l=>
   obtain⟨x,t,rfl,r1,r2⟩:=r.cons_inv
   exact⟨x,t,rfl,rX ks l t _ _ Q (by simpa using hl) r2 (s.set k (t:=.val y) ⟨x,rfl,r1⟩) q⟩
def Ec {ks:List Nat} (h:BG X tg (yx X.K ks.length (eM ks))):GV φ X tg (bJ ks):=BG.mono h λv σ H Q bu=>by
 obtain⟨G,O,ρ,n,R,y,s,r,w,q⟩:=bu
 unfold bJ at w
 cases r with
 | @tup p xs l a b c d=>
  dsimp only at w
  by_cases hc:l.length=ks.length
  ·rw[Qv hc] at w
   exact⟨p,xs,rfl,dh.of b,by rw[<-c];exact hc,rX ks l xs σ ρ Q hc ⟨c,d⟩ s λσ' s'=>q σ' _ n s' w⟩
  ·rw[Qw hc] at w;exact w.elim
 |_=>exact w.elim
noncomputable def pC (bd:PV->ae->M ae) (tt:ae->M Bool) (te:ae->M PV):List PV->ae->M (List PV)
 |[],_=>.ret []
 |y::r,ρ=>(bd y ρ).bind λρ1=>(tt ρ1).bind λok=>if ok=true then(te ρ1).bind λz=>(pC bd tt te r ρ1).bind λl=>.ret (z::l) else pC bd tt te r ρ1
def de (js:List (Option Nat)) (ρ:ae):ae:=js.map λo=>match o with|some j=>(ρ[j]?).getD .un|none=>.un
def p9 (h:lj G O H σ ρ) (js:List (Option Nat)):lj G O H (fT js σ) (de js ρ):=by
 refine⟨by simp[fT,de],λi e he=>?_⟩
 unfold de at he
 unfold fT
 rw[P6] at he ⊢
 cases q:js[i]? with
 |none=>rw[q] at he;cases he
 |some o=>
  rw[q] at he
  simp only[Option.map_some,Option.some.injEq] at he ⊢
  subst he
  cases o with
  |none=>trivial
  |some j=>
   dsimp only
   cases q2:ρ[j]? with
   |none=>rw[Option.getD_none];trivial
   |some t=>
    have:=h.2 j t q2
    rw[Option.getD_some]
    simpa using this
def cx:ae->M Bool:=λ_=>.ret true
def Ih.mono {ifs:List Expr} {t t':TT} (h:Ih X ifs t) (f: ∀ σ H Q,t' σ H Q->t σ H Q):Ih X ifs t':=⟨λpZ s σ H Q I q=>h.out pZ s σ H Q I (f σ H Q q)⟩
def O7 (φ:dn) (X:Cx) (ifs:List Expr) (m:ae->M Bool):Prop:=Ih X ifs (zy φ m)
def xH:O7 φ X [] cx:=Ih.mono ⟨Gm⟩ λσ H Q ⟨G,O,ρ,n,R,s,w,q⟩=>q true H n (Ext.refl _ _) s.ok w
def xG (h:TV φ X c m):O7 φ X [c] m:=⟨Gk h.out⟩
noncomputable def a8 (js:List (Option Nat)) (mi:ae->M (List PV)) (bd:PV->ae->M ae) (tt:ae->M Bool) (te:ae->M PV):ae->M (List PV):=λρ=>(mi ρ).bind λl=>if l.length<=100000 then pC bd tt te l (de js ρ) else .fail
noncomputable def Bg.with (G:Bg φ) (D:Addr) (hD:D≠G.B):Bg φ where
 B:=G.B
 cu:=λp=>G.cu p\/p=D
 ok:=λH n=>G.ok H n/\∃ ys,H D=some (.lst ys)
 pB:=.inl G.pB
 keep:=λH H' n k h=>⟨G.keep H H' n (λp o z=>k p o (z.imp .inl id)) h.1,by obtain⟨ys,e⟩:=h.2;exact⟨ys,k D _ (.inl (.inr rfl)) e⟩⟩
 tp:=λe he=>.inl (G.tp e he)
 tab:=λH n h=>G.tab H n h.1
 xF:=λH H' n h h1 h2=>⟨G.xF H H' n h.1 h1 h2,by
  obtain⟨ys,e⟩:=h.2
  refine⟨ys,h2 D _ (λz=>?_) e⟩
  obtain⟨q,hq,rfl⟩:=PX.mp z
  obtain⟨ps,e2,_⟩:=G.tab H n h.1 q hq
  rw[e] at e2;cases e2⟩
 EH:=λH n p h z=>by
  rcases z with z|z
  ·exact G.EH H n p h.1 z
  ·subst z;obtain⟨ys,e⟩:=h.2;exact⟨_,e⟩
 dr:=λH n m Q E h h0 h1 q=>G.dr H n m Q E h.1 h0 h1 λd H' d0 d1 e o=>q d H' d0 d1 e ⟨o,by
  obtain⟨ys,e2⟩:=h.2
  exact⟨ys,e D _ hD e2⟩⟩
def IP {K:Frag} {js:List (Option Nat)} {mi:ae->M (List PV)} {bd:PV->ae->M ae} {tt:ae->M Bool} {te:ae->M PV}: ∀ σ H Q,Io φ (a8 js mi bd tt te) σ H Q->Cj js (Jz φ K false mi) (FH φ bd) (zy φ tt) (oK φ te) σ H Q:=λσ H Q bu=>by
 obtain⟨G,O,ρ,n,R,s,w,q⟩:=bu
 unfold a8 at w
 rw[M.wZ] at w
 refine⟨G,O,ρ,n,_,s,w,λl J H1 n1 e1 ba it w1=>λD hD=>?_⟩
 by_cases hl:l.length<=100000
 case neg=>rw[Qw hl] at w1;exact w1.elim
 rw[Qv hl] at w1
 have s1:=s.ext e1 ba
 have nD: ¬ O D:=λz=>by obtain⟨o,g⟩:=s1.dm D z;rw[hD] at g;cases g
 have pD: ¬ G.cu D:=λz=>nD (s.pr _ z)
 have hBD:D≠G.B:=λz=>pD (z▸G.pB)
 have bY: ∀ p o,H1 p=some o->p≠D:=λp o hp z=>by subst z;rw[hD] at hp;cases hp
 let O':Addr->Prop:=λp=>O p\/p=D
 let G':Bg φ:=G.with D hBD
 have k0: ∀ p o,¬ O p->H1 p=some o->upd H1 D (HO.lst []) p=some o/\¬ O' p:=λp o np hp=>⟨by rw[ag (bY p o hp)];exact hp,λz=>by
  rcases z with z|z
  ·exact np z
  ·exact bY p o hp z⟩
 have kD: ∀ (H5:Hp) (o:HO) p u,¬ O' p->H5 p=some u->upd H5 D o p=some u/\¬ O' p:=λH5 o p u np hp=>⟨by rw[ag (λz=>np (.inr z))];exact hp,np⟩
 refine⟨λi m σ' H'=>m=l.length - i/\i<=l.length/\∃ (ys:List V) (zs:List PV) (ρ':ae) (n':Nat),ys.length<=i/\H' D=some (.lst ys)/\aO G.B O' H' zs ys/\ES G' O' H' σ' ρ' n'/\Ext G.B H1 H'/\fH K G' O' false H' l J/\
  (pC bd tt te (l.drop i) ρ').wp n' (λt k=>R (zs++t) k),⟨l.length,by simp,Qe _,[],[],de js ρ,n1,PM _,av,.nil,?_,Ext.new hD _,?_,?_⟩,?_⟩
 ·have er:=p9 s1.er js
  refine⟨⟨er.1,λi e he=>?_⟩,⟨Bg.new ba hD _,[],av⟩,λp z=>?_,λp z=>?_⟩
  ·have r1:=er.2 i e he
   cases e with
   |un=>trivial
   |val y=>obtain⟨x,hx,rr⟩:=r1;exact⟨x,hx,rr.keep k0⟩
   |own t=>
    obtain⟨p,xs,hx,hp,np,hh,rr⟩:=r1
    exact⟨p,xs,hx,.inl hp,λz=>by
     rcases z with z|z
     ·exact np z
     ·exact bY p _ hh z,by rw[ag (bY p _ hh)];exact hh,rr.keep k0⟩
   |bt t=>
    obtain⟨p,xs,hx,hp,np,hh,rr⟩:=r1
    exact⟨p,xs,hx,.inl hp,λz=>by
     rcases z with z|z
     ·exact np z
     ·exact bY p _ hh z,by rw[ag (bY p _ hh)];exact hh,rr.keep k0⟩
  ·rcases z with z|z
   ·exact .inl (s.pr p z)
   ·exact .inr z
  ·rcases z with z|z
   ·obtain⟨o,g⟩:=s1.dm p z;exact⟨o,by rw[ag (bY p o g)];exact g⟩
   ·subst z;exact⟨_,av⟩
 ·cases it with
  |lst np hp h r=>
   exact .lst (λz=>by
    rcases z with z|z
    ·exact np z
    ·exact bY _ _ h z) (λz=>by cases z) (by rw[ag (bY _ _ h)];exact h) (r.keep k0)
  |tup hp h r=>exact .tup (k0 _ _ hp h).2 (k0 _ _ hp h).1 (r.keep k0)
  |txt z=>exact .txt z
  |xt lo n=>exact .xt lo n
 ·simpa using w1
 ·rintro i m σ' H' ⟨rfl,hi,ys,zs,ρ',n',hy,hDy,rz,s',ex,it',w'⟩
  by_cases dz:i < l.length
  ·have hget:l[i]?=some l[i]:=Py dz
   have jC:l.drop i=l[i]::l.drop (i+1):=List.drop_eq_getElem_cons dz
   rw[jC] at w'
   unfold pC at w'
   obtain⟨g1,g2⟩:=it'.go hget
   refine .inr ⟨g1,λx H2 yl=>?_⟩
   obtain⟨eH,rx⟩:=g2 x H2 yl
   subst eH
   rw[M.wZ] at w'
   refine⟨G',O',ρ',n',_,l[i],s',rx,w',λσ2 ρ2 n2 s2 w2=>?_⟩
   rw[M.wZ] at w2
   refine⟨G',O',ρ2,n2,_,s2,w2,λok H4 n4 e4 ok4 w4=>?_⟩
   have D4:H4 D=some (.lst ys):=e4 D _ hBD hDy
   have it4:fH K G' O' false H4 l J:=it'.cE (λp o np hp=>⟨e4 p o (λz=>np (.inl (z▸s.B))) hp,np⟩) (.inr λp xs np hp=>e4 p _ (λz=>np (z▸G'.pB)) hp) λp z=>by cases z
   cases ok with
   |true=>
    simp only[if_true] at w4 ⊢
    rw[M.wZ] at w4
    refine⟨G',O',ρ2,n4,_,s2.ext e4 ok4,w4,λz x5 H5 n5 e5 ok5 r5 w5=>?_⟩
    have D5:H5 D=some (.lst ys):=e5 D _ hBD D4
    rw[M.wZ] at w5
    have s5:=s2.ext (e4.trans e5) ok5
    have it5:fH K G' O' false H5 l J:=it4.cE (λp o np hp=>⟨e5 p o (λz=>np (.inl (z▸s.B))) hp,np⟩) (.inr λp xs np hp=>e5 p _ (λz=>np (z▸G'.pB)) hp) λp z=>by cases z
    refine⟨ys,D5,by rw[Qm];lia,l.length - (i+1),by lia,rfl,dz,ys++[x5],zs++[z],ρ2,n5,by simp;lia,av,?_,?_,?_,?_,?_⟩
    ·exact((rz.ext (.inl s.B) (e4.trans e5)).append (.cons r5 .nil)).keep (kD H5 _)
    ·refine⟨⟨s5.er.1,λj e he=>?_⟩,⟨G.keep H5 _ _ (λp o hp hpo=>by
      have hpd:p≠D:=λz=>by
       rcases hp with hp|hp
       ·exact pD (z▸hp)
       ·rw[z,D5] at hpo;cases hpo;exact hp
      rw[ag hpd];exact hpo) ok5.1,_,av⟩,s5.pr,λp hp=>?_⟩
     ·have r1:=s5.er.2 j e he
      cases e with
      |un=>trivial
      |val y=>obtain⟨x,hx,rr⟩:=r1;exact⟨x,hx,rr.keep (kD H5 _)⟩
      |own t=>
       obtain⟨p,xs,hx,hp,np,hh,rr⟩:=r1
       exact⟨p,xs,hx,hp,np,by rw[ag (λz=>np (.inr z))];exact hh,rr.keep (kD H5 _)⟩
      |bt t=>
       obtain⟨p,xs,hx,hp,np,hh,rr⟩:=r1
       exact⟨p,xs,hx,hp,np,by rw[ag (λz=>np (.inr z))];exact hh,rr.keep (kD H5 _)⟩
     ·by_cases hpd:p=D
      ·subst hpd;exact⟨_,av⟩
      ·obtain⟨o,g⟩:=s5.dm p hp;exact⟨o,by rw[ag hpd];exact g⟩
    ·intro p o np hp
     exact((ex.trans (e4.trans e5)) p o np hp).to λu e=>.of (by rw[ag (bY p o hp)];exact e)
    ·exact it5.keep (kD H5 _) (.inr λp xs np hp=>by rw[ag (λz=>np (.inr z))];exact hp) λp z=>by cases z
    ·refine M.wp_mono w5 λt k' hk=>?_
     have hk':R (zs++z::t) k':=hk
     simpa using hk'
   |false=>
    exact⟨l.length - (i+1),by lia,rfl,dz,ys,zs,ρ2,n4,by lia,D4,rz.ext (.inl s.B) e4,s2.ext e4 ok4,ex.trans e4,it4,w4⟩
  ·have e:i=l.length:=by lia
   subst e
   refine .inl ⟨it'.stop,?_⟩
   rw[List.drop_length] at w'
   have w2:R (zs++[]) n':=w'
   rw[List.append_nil] at w2
   exact q zs D ys H' n' (e1.trans ex) s'.ok.1 (ft e1 ba hD) hDy rz w2
def EC (h:BE X e (Cj js (Jz φ X.K false mi) (FH φ bd) (zy φ tt) (oK φ te))):EF φ X e (a8 js mi bd tt te):=BE.mono h IP
end
end
section
variable {φ:dn}
set_option genInjectivity true in
inductive Fl where
 |nx (ρ:ae)|rt (y:PV)|bk (ρ:ae)|ct (ρ:ae)
def Ent.IQ:Ent->Bool
 | .own _=>true
 | .bt _=>true
 |_=>false
def Ent.freeze:Ent->Ent
 | .own l=>.val (.lst l)
 | .bt l=>.val (.cU l)
 |e=>e
def dN (ρ:ae) (σ:St) (i:Nat) (p:Addr):Prop:= ∃ t,ρ[i]?=some t/\t.IQ=true/\σ[i]?=some (some (.ref p))
structure SI (G:Bg φ) (O0:Addr->Prop) (H0:Hp) (O:Addr->Prop) (H:Hp) (σ:St) (ρ:ae) (n:Nat):Prop where
 es:ES G O H σ ρ n
 p0: ∀ p,G.cu p->O0 p
 sub: ∀ p,O0 p->O p
 ext:Ext G.B H0 H
 gr: ∀ p,O p->O0 p\/H0 p=none
 d0: ∀ p,O0 p->∃ o,H0 p=some o
 fr: ∀ i p,dN ρ σ i p->H0 p=none
 dj: ∀ i j p,dN ρ σ i p->dN ρ σ j p->i=j
section
variable {G:Bg φ} {O0 O:Addr->Prop} {H0 H H':Hp} {σ:St} {ρ:ae} {n n':Nat}
def SI.to (s:SI G O0 H0 O H σ ρ n) (x:Ext G.B H H') (ok:G.ok H' n'):SI G O0 H0 O H' σ ρ n':=⟨s.es.ext x ok,s.p0,s.sub,s.ext.trans x,s.gr,s.d0,s.fr,s.dj⟩
def tJ (ht:t.IQ=false) (h:dN (ρ.set k t) (σ.set k o) i p):dN ρ σ i p:=by
 obtain⟨e,h1,h2,h3⟩:=h
 by_cases hk:k=i
 ·subst hk
  rw[List.getElem?_set] at h1
  split at h1
  ·split at h1
   ·cases h1;rw[ht] at h2;cases h2
   ·cases h1
  ·exact⟨e,h1,h2,by rw[Qi (by lia)] at h3;exact h3⟩
 ·rw[Qi hk] at h1 h3
  exact⟨e,h1,h2,h3⟩
def SI.CY (s:SI G O0 H0 O H σ ρ n) (k:Nat) (r:Rep G.B O H y x):SI G O0 H0 O H (σ.set k (some x)) (ρ.set k (.val y)) n:=
 ⟨s.es.set k (t:=.val y) ⟨x,rfl,r⟩,s.p0,s.sub,s.ext,s.gr,s.d0,λi p h=>s.fr i p (tJ rfl h),λi j p h h'=>s.dj i j p (tJ rfl h) (tJ rfl h')⟩
def eU (s:ES G O H σ ρ n) (h:dN ρ σ i p):O p/\¬ G.cu p/\∃ o,H p=some o:=by
 obtain⟨t,h1,h2,h3⟩:=h
 have r:=s.er.2 i t h1
 rw[h3] at r
 cases t with
 |own l=>obtain⟨q,xs,e,a,b,c,_⟩:=r;cases e;exact⟨a,b,_,c⟩
 |bt l=>obtain⟨q,xs,e,a,b,c,_⟩:=r;cases e;exact⟨a,b,_,c⟩
 |_=>cases h2
def vy (s:ES G O H σ ρ n) (h:dN ρ σ i p) (e:H p=some o): ¬ LM o:=by
 obtain⟨t,h1,h2,h3⟩:=h
 have r:=s.er.2 i t h1
 rw[h3] at r
 cases t with
 |own l=>obtain⟨q,xs,e',a,b,c,_⟩:=r;cases e';rw[c] at e;cases e;exact id
 |bt l=>obtain⟨q,xs,e',a,b,c,_⟩:=r;cases e';rw[c] at e;cases e;exact id
 |_=>cases h2
def SI.Oj (s:SI G O0 H0 O H σ ρ n) (k:Nat) (x:Ext G.B H H') (ok:G.ok H' n') (hp:H p=none) (hp':H' p=some (.lst xs)) (r:aO G.B (λq=>O q\/q=p) H' l xs):
  SI G O0 H0 (λq=>O q\/q=p) H' (σ.set k (some (.ref p))) (ρ.set k (.own l)) n':=by
 have nO: ¬ O p:=λz=>by obtain⟨o,g⟩:=s.es.dm p z;rw[hp] at g;cases g
 have np: ¬ G.cu p:=λz=>nO (s.es.pr p z)
 have h0:H0 p=none:=by
  cases e:H0 p with
  |none=>rfl
  |some o=>obtain⟨_,this⟩:=(s.ext p o (λz=>np (z▸G.pB)) e).there;rw[hp] at this;cases this
 have hB:O G.B:=s.es.B
 have gw: ∀ q,(O q\/q=p)->O q\/H q=none:=λq z=>by
  rcases z with z|z
  ·exact .inl z
  ·subst z;exact .inr hp
 have s':=s.es.ext x ok
 have es:ES G (λq=>O q\/q=p) H' σ ρ n':=by
  refine⟨⟨s.es.er.1,λi e he=>?_⟩,ok,λq z=>.inl (s.es.pr q z),λq z=>?_⟩
  ·have r1:=s.es.er.2 i e he
   cases e with
   |un=>trivial
   |val y=>obtain⟨v,hv,rr⟩:=r1;exact⟨v,hv,(rr.grow gw).ext (.inl hB) x⟩
   |own t=>
    obtain⟨q,ys,hv,hq,nq,hh,rr⟩:=r1
    exact⟨q,ys,hv,.inl hq,nq,x q _ (λz=>nq (z▸G.pB)) hh,(rr.grow gw).ext (.inl hB) x⟩
   |bt t=>
    obtain⟨q,ys,hv,hq,nq,hh,rr⟩:=r1
    exact⟨q,ys,hv,.inl hq,nq,x q _ (λz=>nq (z▸G.pB)) hh,⟨rr.1,λi a b c d=>((rr.2 i a b c d).grow gw).ext (.inl hB) x⟩⟩
  ·rcases z with z|z
   ·exact s'.dm q z
   ·subst z;exact⟨_,hp'⟩
 have ow: ∀ i q,dN (ρ.set k (.own l)) (σ.set k (some (.ref p))) i q->(i=k/\q=p)\/(i≠k/\dN ρ σ i q):=λi q h=>by
  obtain⟨t,h1,h2,h3⟩:=h
  by_cases hk:k=i
  ·subst hk
   rw[List.getElem?_set] at h3
   split at h3
   ·split at h3
    ·cases h3;exact .inl ⟨rfl,rfl⟩
    ·cases h3
   ·rename_i hh;exact absurd rfl hh
  ·rw[Qi hk] at h1 h3
   exact .inr ⟨λz=>hk z.symm,t,h1,h2,h3⟩
 refine⟨es.set k (t:=.own l) ⟨p,xs,rfl,.inr rfl,np,hp',r⟩,s.p0,λq z=>.inl (s.sub q z),s.ext.trans x,λq z=>?_,s.d0,λi q h=>?_,λi j q h h'=>?_⟩
 ·rcases z with z|z
  ·exact s.gr q z
  ·subst z;exact .inr h0
 ·rcases ow i q h with⟨_,rfl⟩|⟨_,h⟩
  ·exact h0
  ·exact s.fr i q h
 ·rcases ow i q h with⟨rfl,rfl⟩|⟨n1,h1⟩
  ·rcases ow j q h' with⟨rfl,_⟩|⟨n2,h2⟩
   ·rfl
   ·obtain⟨_,_,o,g⟩:=eU s.es h2;rw[hp] at g;cases g
  ·rcases ow j q h' with⟨rfl,rfl⟩|⟨n2,h2⟩
   ·obtain⟨_,_,o,g⟩:=eU s.es h1;rw[hp] at g;cases g
   ·exact s.dj i j q h1 h2
def SI.put (s:SI G O0 H0 O H σ ρ n) (hk:ρ[k]?=some (.own l)) (hp:σ[k]?=some (some (.ref p))) (r:aO G.B O H l' xs'):SI G O0 H0 O (upd H p (.lst xs')) σ (ρ.set k (.own l')) n:=by
 have ho:dN ρ σ k p:=⟨_,hk,rfl,hp⟩
 obtain⟨hO,np,o,hh⟩:=eU s.es ho
 have MV:=vy s.es ho hh
 have kp: ∀ q u,¬ O q->H q=some u->upd H p (.lst xs') q=some u/\¬ O q:=λq u nq hq=>⟨by
  have bY:q≠p:=λz=>nq (z▸hO)
  rw[ag bY];exact hq,nq⟩
 have ow: ∀ i q,dN (ρ.set k (.own l')) σ i q->dN ρ σ i q:=λi q h=>by
  obtain⟨t,h1,h2,h3⟩:=h
  by_cases e:k=i
  ·subst e;exact⟨_,hk,rfl,h3⟩
  ·rw[Qi e] at h1;exact⟨t,h1,h2,h3⟩
 refine⟨⟨⟨by simp[s.es.er.1],λi e he=>?_⟩,G.keep H _ _ (λq u hq hu=>by
   have bY:q≠p:=λz=>by
    rcases hq with hq|hq
    ·exact np (z▸hq)
    ·rw[z,hh] at hu;cases hu;exact MV hq
   rw[ag bY];exact hu) s.es.ok,s.es.pr,λq hq=>?_⟩,s.p0,s.sub,λq u nb hq=>?_,s.gr,s.d0,λi q h=>s.fr i q (ow i q h),λi j q h h'=>s.dj i j q (ow i q h) (ow j q h')⟩
 ·by_cases e1:k=i
  ·subst e1
   have hl:k < ρ.length:=(PL.mp hk).1
   rw[Qx hl] at he
   cases he
   rw[hp]
   exact⟨p,xs',rfl,hO,np,av,r.keep kp⟩
  ·rw[Qi e1] at he
   have r1:=s.es.er.2 i e he
   cases e with
   |un=>trivial
   |val y=>obtain⟨v,hv,rr⟩:=r1;exact⟨v,hv,rr.keep kp⟩
   |own t=>
    obtain⟨q,ys,hv,hq,nq,hh',rr⟩:=r1
    have bY:q≠p:=λz=>by
     subst z
     exact e1 (s.dj k i q ho ⟨_,he,rfl,dA s.es.er he hv⟩)
    exact⟨q,ys,hv,hq,nq,by rw[ag bY];exact hh',rr.keep kp⟩
   |bt t=>
    obtain⟨q,ys,hv,hq,nq,hh',rr⟩:=r1
    have bY:q≠p:=λz=>by
     subst z
     exact e1 (s.dj k i q ho ⟨_,he,rfl,dA s.es.er he hv⟩)
    exact⟨q,ys,hv,hq,nq,by rw[ag bY];exact hh',rr.keep kp⟩
 ·by_cases e1:q=p
  ·subst e1;exact⟨_,av⟩
  ·obtain⟨u,g⟩:=s.es.dm q hq;exact⟨u,by rw[ag e1];exact g⟩
 ·have bY:q≠p:=λz=>by subst z;rw[s.fr k q ho] at hq;cases hq
  exact(s.ext q u nb hq).to λv e=>.of (by rw[ag bY];exact e)
def SI.frozen (s:SI G O0 H0 O H σ ρ n):ES G O0 H σ (ρ.map Ent.freeze) n:=by
 refine⟨⟨by simp[s.es.er.1],λi e he=>?_⟩,s.es.ok,s.p0,λp h=>s.es.dm p (s.sub p h)⟩
 rw[P6] at he
 cases q:ρ[i]? with
 |none=>rw[q] at he;cases he
 |some t=>
  rw[q] at he
  cases he
  have r1:=s.es.er.2 i t q
  cases t with
  |un=>trivial
  |val y=>obtain⟨v,hv,rr⟩:=r1;exact⟨v,hv,rr.less s.sub⟩
  |own t=>
   obtain⟨p,ys,hv,hq,nq,hh',rr⟩:=r1
   have h0:=s.fr i p ⟨_,q,rfl,dA s.es.er q hv⟩
   exact⟨_,hv,.lst (λz=>by obtain⟨o,g⟩:=s.d0 p z;rw[h0] at g;cases g) hh' rr.1 (rr.less s.sub).2⟩
  |bt t=>
   obtain⟨p,ys,hv,hq,nq,hh',rr⟩:=r1
   have h0:=s.fr i p ⟨_,q,rfl,dA s.es.er q hv⟩
   exact⟨_,hv,.cU (λz=>by obtain⟨o,g⟩:=s.d0 p z;rw[h0] at g;cases g) (.inl hh') rr.1 λi a b c d=>(rr.2 i a b c d).less s.sub⟩
def SI.fc (s:SI G O0 H0 O H σ ρ n):SI G O0 H0 O0 H σ (ρ.map Ent.freeze) n:=by
 have no: ∀ i p,¬ dN (ρ.map Ent.freeze) σ i p:=λi p h=>by
  obtain⟨t,h1,h2,_⟩:=h
  rw[P6] at h1
  cases q:ρ[i]? with
  |none=>rw[q] at h1;cases h1
  |some e=>rw[q] at h1;cases h1;cases e<;>cases h2
 exact⟨s.frozen,s.p0,λp h=>h,s.ext,λp h=>.inl h,s.d0,λi p h=>(no i p h).elim,λi j p h=>(no i p h).elim⟩
def hide (O0 O:Addr->Prop) (H:Hp):Hp:=λp=>by
 classical exact if O p/\¬ O0 p then none else H p
def uc (h:O p) (h': ¬ O0 p):hide O0 O H p=none:=by unfold hide;rw[Qv ⟨h,h'⟩]
def fz (h: ¬ (O p/\¬ O0 p)):hide O0 O H p=H p:=by unfold hide;rw[Qw h]
def SI.now (s:SI G O0 H0 O H σ ρ n):SI G O0 (hide O0 O H) O H σ ρ n:=by
 refine⟨s.es,s.p0,s.sub,λp o nb h=>?_,λp h=>?_,λp h=>?_,λi p h=>?_,s.dj⟩
 ·by_cases c:O p/\¬ O0 p
  ·rw[uc c.1 c.2] at h;cases h
  ·rw[fz c] at h;exact .of h
 ·by_cases c:O0 p
  ·exact .inl c
  ·exact .inr (uc h c)
 ·rw[fz (λz=>z.2 h)];exact s.es.dm p (s.sub p h)
 ·have h1:=eU s.es h
  have h0:=s.fr i p h
  exact uc h1.1 (λz=>by obtain⟨o,g⟩:=s.d0 p z;rw[h0] at g;cases g)
def SI.base (s:SI G O0 H0 O H σ ρ n):Ext G.B H0 (hide O0 O H):=λp o nb h=>by
 have c: ¬ (O p/\¬ O0 p):=λz=>by
  rcases s.gr p z.1 with w|w
  ·exact z.2 w
  ·rw[w] at h;cases h
 exact(s.ext p o nb h).to λv e=>.of (by rw[fz c];exact e)
def SI.back (s:SI G O0 H0 O H σ ρ n) (x:SI G O0 (hide O0 O H) O' H1 σ' ρ' n'):SI G O0 H0 O' H1 σ' ρ' n':=by
 have none0: ∀ p,¬ G.cu p->hide O0 O H p=none->H0 p=none:=λp np h=>by
  cases e:H0 p with
  |none=>rfl
  |some o=>obtain⟨_,this⟩:=(s.base p o (λz=>np (z▸G.pB)) e).there;rw[h] at this;cases this
 refine⟨x.es,x.p0,x.sub,s.base.trans x.ext,λp h=>?_,s.d0,λi p h=>none0 p (eU x.es h).2.1 (x.fr i p h),x.dj⟩
 by_cases c:O0 p
 ·exact .inl c
 ·rcases x.gr p h with w|w
  ·exact .inl w
  ·exact .inr (none0 p (λz=>c (s.p0 p z)) w)
def SI.walk {K:Frag} {H1:Hp} {O':Addr->Prop} {σ':St} {ρ':ae} {l:List PV} {J:It} (s:SI G O0 H0 O H σ ρ n) (x:SI G O0 (hide O0 O H) O' H1 σ' ρ' n') (it:fH K G O true H l J):fH K G O' true H1 l J:=by
 have k: ∀ p o,¬ O p->H p=some o->fG H1 p o/\¬ O' p:=λp o np hp=>by
  have e:hide O0 O H p=some o:=by rw[fz (λz=>np z.1)];exact hp
  refine⟨x.ext p o (λz=>np (z▸s.es.B)) e,λz=>?_⟩
  rcases x.gr p z with w|w
  ·exact np (s.sub p w)
  ·rw[w] at e;cases e
 cases it with
 |lst np hp h r=>exact .lst np (λ_=>(k _ _ (hp rfl) h).2) (k _ _ (hp rfl) h).1 (r.cE k)
 |tup hp h r=>exact .tup (k _ _ hp h).2 (k _ _ hp h).1 (r.cE k)
 |txt z=>exact .txt z
 |xt lo n=>exact .xt lo n
end
noncomputable def nY (G:Bg φ) (O0:Addr->Prop) (H0:Hp) (D:Ends) (n:Nat):Fl->Prop
 | .nx ρ=> ∀ O σ H,SI G O0 H0 O H σ ρ n->D.nx σ H
 | .bk ρ=> ∀ O σ H,SI G O0 H0 O H σ ρ n->D.bk σ H
 | .ct ρ=> ∀ O σ H,SI G O0 H0 O H σ ρ n->D.ct σ H
 | .rt y=> ∀ x H,Ext G.B H0 H->G.ok H n->Rep G.B O0 H y x->D.rt x H
def Im (φ:dn) (m:ae->M Fl):TS:=λD σ H=> ∃ (G:Bg φ) (O0:Addr->Prop) (H0:Hp) (O:Addr->Prop) (ρ:ae) (n:Nat),SI G O0 H0 O H σ ρ n/\(m ρ).wp n λf n'=>nY G O0 H0 D n' f
def SV (φ:dn) (X:Cx) (st:Stmt) (m:ae->M Fl):Prop:=BS X st (Im φ m)
def Fd (φ:dn) (X:Cx) (sts:List Stmt) (m:ae->M Fl):Prop:=Fq X sts (Im φ m)
section
variable {X:Cx} {st:Stmt} {sts:List Stmt}
def BS.mono (h:BS X st t) (f: ∀ D σ H,t' D σ H->t D σ H):BS X st t':=⟨λpZ s σ H D I q=>h.out pZ s σ H D I (f D σ H q)⟩
def Fq.mono (h:Fq X sts t) (f: ∀ D σ H,t' D σ H->t D σ H):Fq X sts t':=⟨λpZ s σ H D I q=>h.out pZ s σ H D I (f D σ H q)⟩
def au (m1 m2:ae->M Fl):ae->M Fl:=λρ=>(m1 ρ).bind λf=>match f with| .nx ρ'=>m2 ρ'|o=>.ret o
def oO:Fd φ X [] (λρ=>.ret (.nx ρ)):=Fq.mono ⟨tF⟩ λD σ H ⟨G,O0,H0,O,ρ,n,s,w⟩=>w O σ H s
def fh (h:SV φ X st m):Fd φ X [st] m:=⟨g9 h.out⟩
def cT (h:SV φ X st m1) (h':Fd φ X sts m2):Fd φ X (st::sts) (au m1 m2):=Fq.mono ⟨cq h.out h'.out⟩ λD σ H bu=>by
 obtain⟨G,O0,H0,O,ρ,n,s,w⟩:=bu
 unfold au at w
 rw[M.wZ] at w
 refine⟨G,O0,H0,O,ρ,n,s,M.wp_mono w λf n' h=>?_⟩
 cases f with
 |nx ρ'=>exact λO' σ' H' s'=>⟨G,O0,H0,O',ρ',n',s',h⟩
 |rt y=>exact h
 |bk ρ'=>exact h
 |ct ρ'=>exact h
def az (k:Nat) (m:ae->M PV):ae->M Fl:=λρ=>(m ρ).bind λy=>.ret (.nx (ρ.set k (.val y)))
def f7 (h:BS X st (gL (oK φ m) (c7 k))):SV φ X st (az k m):=BS.mono h λD σ H bu=>by
 obtain⟨G,O0,H0,O,ρ,n,s,w⟩:=bu
 unfold az at w
 rw[M.wZ] at w
 exact⟨G,O,ρ,n,_,s.es,w,λy x H1 n1 e1 ba r1 w1=>w1 O _ _ ((s.to e1 ba).CY k r1)⟩
def gz (k:Nat) (m:ae->M (List PV)):ae->M Fl:=λρ=>(m ρ).bind λl=>.ret (.nx (ρ.set k (.own l)))
def xN (h:BS X st (gL (Io φ m) (c7 k))):SV φ X st (gz k m):=BS.mono h λD σ H bu=>by
 obtain⟨G,O0,H0,O,ρ,n,s,w⟩:=bu
 unfold gz at w
 rw[M.wZ] at w
 exact⟨G,O,ρ,n,_,s.es,w,λl p xs H1 n1 e1 ba hp hp' r1 w1=>w1 _ _ _ (s.Oj k e1 ba hp hp' r1)⟩
def yZ (h:BS X st (gL (Cj js (Jz φ X.K false mi) (FH φ bd) (zy φ tt) (oK φ te)) (c7 k))):BS X st (gL (Io φ (a8 js mi bd tt te)) (c7 k)):=
 BS.mono h λD σ H q=>IP σ H _ q
def aE (m:ae->M (List PV)):ae->M PV:=λρ=>(m ρ).bind λl=>.ret (.lst l)
def AS (h:BS X st (gL (Io φ m) (c7 k))):BS X st (gL (oK φ (aE m)) (c7 k)):=BS.mono h λD σ H bu=>by
 obtain⟨G,O,ρ,n,R,s,w,q⟩:=bu
 unfold aE at w
 rw[M.wZ] at w
 refine⟨G,O,ρ,n,_,s,w,λl p xs H' n' a b c d e f=>q (.lst l) _ H' n' a b (.lst (λz=>?_) d e.1 (e.less λq z=>.inl z).2) f⟩
 obtain⟨o,g⟩:=s.dm p z
 rw[c] at g;cases g
def Cy (ks:List Nat) (m:ae->M PV):ae->M Fl:=λρ=>(m ρ).bind λy=>(bJ ks y ρ).bind λρ'=>.ret (.nx ρ')
theorem rW {G:Bg φ}: ∀ (ks:List Nat) (l:List PV) (xs:List V) (σ:St) (ρ:ae) (Q:St->Hp->Prop),l.length=ks.length->aO G.B O H l xs->SI G O0 H0 O H σ ρ n->(∀ σ',SI G O0 H0 O H σ' (ux ks l ρ) n->Q σ' H)->eM ks xs σ H Q
 |[],l,xs,σ,ρ,Q,hl,r,s,q=>by
  have e:l=[]:=Ql hl
  subst e
  rw[r.nil_inv]
  exact⟨rfl,q σ s⟩
 |k::ks,l,xs,σ,ρ,Q,hl,r,s,q=>by
  cases l with
  |nil=>simp at hl
  |cons y l=>
   obtain⟨x,t,rfl,r1,r2⟩:=r.cons_inv
   exact⟨x,t,rfl,rW ks l t _ _ Q (by simpa using hl) r2 (s.CY k r1) q⟩
def CD {K:Frag} {G:Bg φ} {O0 O:Addr->Prop} {H0 H:Hp} {n:Nat} {ks:List Nat} {y:PV} {x:V} {σ:St} {ρ:ae} {R:ae->Nat->Prop} {Q:St->Hp->Prop} (s:SI G O0 H0 O H σ ρ n) (r:Rep G.B O H y x) (w:(bJ ks y ρ).wp n R) (q: ∀ σ' ρ',SI G O0 H0 O H σ' ρ' n->R ρ' n->Q σ' H):yx K ks.length (eM ks) x σ H Q:=by
 unfold bJ at w
 cases r with
 | @tup p xs l a b c d=>
  dsimp only at w
  by_cases hc:l.length=ks.length
  ·rw[Qv hc] at w
   exact⟨p,xs,rfl,dh.of b,by rw[<-c];exact hc,rW ks l xs σ ρ Q hc ⟨c,d⟩ s λσ' s'=>q σ' _ s' w⟩
  ·rw[Qw hc] at w;exact w.elim
 |_=>exact w.elim
def CK (h:BS X st (gL (oK φ m) (yx X.K ks.length (eM ks)))):SV φ X st (Cy ks m):=BS.mono h λD σ H bu=>by
 obtain⟨G,O0,H0,O,ρ,n,s,w⟩:=bu
 unfold Cy at w
 rw[M.wZ] at w
 refine⟨G,O,ρ,n,_,s.es,w,λy x H1 n1 e1 ba r1 w1=>?_⟩
 rw[M.wZ] at w1
 exact CD (s.to e1 ba) r1 w1 λσ' ρ' s' h=>h O σ' H1 s'
def Gy (i j:Nat) (m:ae->M (List PV)):ae->M Fl:=λρ=>(m ρ).bind λl=>match l with|[y,z]=>.ret (.nx ((ρ.set i (.val y)).set j (.val z)))|_=>.fail
def JE (h:BS X st (JB i j (Mk φ m))):SV φ X st (Gy i j m):=BS.mono h λD σ H bu=>by
 obtain⟨G,O0,H0,O,ρ,n,s,w⟩:=bu
 unfold Gy at w
 rw[M.wZ] at w
 refine⟨G,O,ρ,n,_,s.es,w,λl xs H1 n1 e1 ba r1 w1=>?_⟩
 match l,r1,w1 with
 |[y,z],r1,w1=>
  obtain⟨x,t,rfl,h1,h2⟩:=r1.cons_inv
  obtain⟨x',t',rfl,h3,h4⟩:=h2.cons_inv
  rw[h4.nil_inv]
  exact⟨x,x',rfl,w1 O _ _ (((s.to e1 ba).CY i h1).CY j h3)⟩
def aT (m:ae->M PV):ae->M Fl:=λρ=>(m (ρ.map Ent.freeze)).bind λy=>.ret (.rt y)
def i8 (h:BS X st (JA (oK φ m))):SV φ X st (aT m):=BS.mono h λD σ H bu=>by
 obtain⟨G,O0,H0,O,ρ,n,s,w⟩:=bu
 unfold aT at w
 rw[M.wZ] at w
 exact⟨G,O0,_,n,_,s.frozen,w,λy x H1 n1 e1 ba r1 w1=>w1 x H1 (s.ext.trans e1) ba r1⟩
def cN (mc:ae->M Bool) (ma mb:ae->M Fl):ae->M Fl:=λρ=>(mc ρ).bind λb=>if b=true then ma ρ else mb ρ
def uY (h:BS X st (JC (zy φ mc) (Im φ ma) (Im φ mb))):SV φ X st (cN mc ma mb):=BS.mono h λD σ H bu=>by
 obtain⟨G,O0,H0,O,ρ,n,s,w⟩:=bu
 unfold cN at w
 rw[M.wZ] at w
 refine⟨G,O,ρ,n,_,s.es,w,λb H1 n1 e1 ba w1=>?_⟩
 cases b with
 |true=>exact⟨G,O0,H0,O,ρ,n1,s.to e1 ba,w1⟩
 |false=>exact⟨G,O0,H0,O,ρ,n1,s.to e1 ba,w1⟩
noncomputable def cP (k:Nat) (m:ae->M PV):ae->M Fl:=λρ=>match ρ[k]? with|some (.own l)=>(m ρ).bind λy=>if l.length < 100000 then .ret (.nx (ρ.set k (.own (l++[y])))) else .fail|_=>.fail
def JH (h:BS X st (zz (Mr X.K "list" zT (nF k) (lu (oK φ m) xK)))):SV φ X st (cP k m):=BS.mono h λD σ H bu=>by
 obtain⟨G,O0,H0,O,ρ,n,s,w⟩:=bu
 unfold cP at w
 cases hk:ρ[k]? with
 |none=>simp only[hk] at w;exact w.elim
 |some t=>
  cases t with
  |own l=>
   simp only[hk] at w
   obtain⟨p,xs,hx,hO,np,hh,rr⟩:=s.es.er.2 k _ hk
   have hs:=dA s.es.er hk hx
   have npB:p≠G.B:=λz=>np (z▸G.pB)
   rw[M.wZ] at w
   refine⟨_,hs,.inl ⟨rfl,xs,bU.of hh⟩,G,O,ρ,n,_,s.es,w,λy x H1 n1 e1 ba r1 w1=>?_⟩
   by_cases hc:l.length < 100000
   ·rw[Qv hc] at w1
    have s1:=s.to e1 ba
    have big:=dY
    refine⟨p,xs,x,rfl,rfl,e1 p _ npB hh,by rw[<-rr.1];lia,w1 O _ _ (s1.put hk hs ((rr.ext s.es.B e1).append (.cons r1 .nil)))⟩
   ·rw[Qw hc] at w1;exact w1.elim
  |_=>simp only[hk] at w;exact w.elim
noncomputable def vc (k:Nat) (mi mv:ae->M PV):ae->M Fl:=λρ=>(mv ρ).bind λy=>match ρ[k]? with|some (.own l)=>(mi ρ).bind λi=>(pL i).bind λi=>(M.bK (uN l.length i)).bind λj=>.ret (.nx (ρ.set k (.own (l.set j y))))|_=>.fail
def FK (h:BS X st (gL (oK φ mv) (He (nF k) (rf φ mi) IA))):SV φ X st (vc k mi mv):=BS.mono h λD σ H bu=>by
 obtain⟨G,O0,H0,O,ρ,n,s,w⟩:=bu
 unfold vc at w
 rw[M.wZ] at w
 refine⟨G,O,ρ,n,_,s.es,w,λy x H1 n1 e1 ba r1 w1=>?_⟩
 have s1:=s.to e1 ba
 cases hk:ρ[k]? with
 |none=>simp only[hk] at w1;exact w1.elim
 |some t=>
  cases t with
  |own l=>
   simp only[hk] at w1
   obtain⟨p,xs,hx,hO,np,hh,rr⟩:=s1.es.er.2 k _ hk
   have hs:=dA s.es.er hk hx
   have npB:p≠G.B:=λz=>np (z▸G.pB)
   rw[M.wZ] at w1
   refine⟨_,hs,G,O,ρ,n1,_,s1.es,w1,λi x2 H2 n2 e2 nM r2 w2=>?_⟩
   cases i<;>first|exact w2.elim|skip
   rename_i i
   rw[r2.bL]
   replace w2:((M.bK (uN l.length i)).bind λj=>M.ret (.nx (ρ.set k (.own (l.set j y)))):M Fl).wp n2 (λf n'=>nY G O0 H0 D n' f):=w2
   cases hj:uN l.length i with
   |none=>rw[hj] at w2;exact w2.elim
   |some j=>
    rw[hj] at w2
    have s2:=s1.to e2 nM
    exact⟨p,xs,i,j,rfl,rfl,e2 p _ npB hh,by rw[<-rr.1];exact hj,w2 O _ _ (s2.put hk hs ((rr.ext s.es.B e2).set j (r1.ext s.es.B e2)))⟩
  |_=>simp only[hk] at w1;exact w1.elim
def Ej (m:ae->M Fl):ae->M Fl:=λρ=>m (ρ.map Ent.freeze)
def JF (h:SV φ X st m):SV φ X st (Ej m):=BS.mono h λD σ H ⟨G,O0,H0,O,ρ,n,s,w⟩=>⟨G,O0,H0,O0,_,n,s.fc,w⟩
noncomputable def NP (φ:dn) (b:PV->ae->M ae):TG:=λv σ H Q=> ∃ (G:Bg φ) (O0:Addr->Prop) (H0:Hp) (O:Addr->Prop) (ρ:ae) (n:Nat) (R:ae->Nat->Prop) (y:PV),SI G O0 H0 O H σ ρ n/\Rep G.B O H y v/\(b y ρ).wp n R/\
 ∀ (σ':St) (ρ':ae) (n':Nat),SI G O0 H0 O H σ' ρ' n'->R ρ' n'->Q σ' H
def GS (φ:dn) (X:Cx) (tg:Expr) (b:PV->ae->M ae):Prop:=BG X tg (NP φ b)
def oz (h:BG X tg (c7 k)):GS φ X tg (aA k):=BG.mono h λv σ H Q ⟨G,O0,H0,O,ρ,n,R,y,s,r,w,q⟩=>q _ _ n (s.CY k r) w
def KW (h:BG X tg (yx X.K ks.length (eM ks))):GS φ X tg (bJ ks):=BG.mono h λv σ H Q ⟨G,O0,H0,O,ρ,n,R,y,s,r,w,q⟩=>CD s r w λσ' ρ' s' h=>q σ' ρ' n s' h
noncomputable def bp (bd:PV->ae->M ae) (mb:ae->M Fl):List PV->ae->M Fl
 |[],ρ=>.ret (.nx ρ)
 |y::r,ρ=>(bd y ρ).bind λρ1=>(mb ρ1).bind λf=>match f with
  | .nx ρ2=>bp bd mb r ρ2
  | .ct ρ2=>bp bd mb r ρ2
  | .bk ρ2=>.ret (.nx ρ2)
  | .rt v=>.ret (.rt v)
def aK (mi:ae->M (List PV)) (bd:PV->ae->M ae) (mb:ae->M Fl):ae->M Fl:=λρ=>(mi ρ).bind λl=>bp bd mb l ρ
def sH {mi:ae->M (List PV)} {bd:PV->ae->M ae} {mb:ae->M Fl} (h:BS X st (A6 (Jz φ X.K true mi) (NP φ bd) (Im φ mb))):SV φ X st (aK mi bd mb):=BS.mono h λD σ H bu=>by
 obtain⟨G,O0,H0,O,ρ,n,s,w⟩:=bu
 unfold aK at w
 rw[M.wZ] at w
 refine⟨G,O,ρ,n,_,s.es,w,λl J H1 n1 e1 ba it w1=>?_⟩
 have s1:=s.to e1 ba
 refine⟨λi m σ' H'=>m=l.length - i/\i<=l.length/\∃ (O':Addr->Prop) (ρ':ae) (n':Nat),SI G O0 (hide O0 O H1) O' H' σ' ρ' n'/\(bp bd mb (l.drop i) ρ').wp n' (λf n'=>nY G O0 H0 D n' f),
  ⟨l.length,by simp,Qe _,O,ρ,n1,s1.now,by simpa using w1⟩,?_⟩
 rintro i m σ' H' ⟨rfl,hi,O',ρ',n',s',w'⟩
 have it':=s1.walk s' it
 by_cases dz:i < l.length
 ·have hget:l[i]?=some l[i]:=Py dz
  have jC:l.drop i=l[i]::l.drop (i+1):=List.drop_eq_getElem_cons dz
  rw[jC] at w'
  unfold bp at w'
  obtain⟨g1,g2⟩:=it'.go hget
  refine .inr ⟨g1,λσ2 H2=> ∃ (O':Addr->Prop) (ρ':ae) (n':Nat),SI G O0 (hide O0 O H1) O' H2 σ2 ρ' n'/\(bp bd mb (l.drop (i+1)) ρ').wp n' (λf n'=>nY G O0 H0 D n' f),λσ2 H2 hh=>⟨l.length - (i+1),by lia,rfl,dz,hh⟩,λx H2 yl=>?_⟩
  obtain⟨eH,rx⟩:=g2 x H2 yl
  subst eH
  rw[M.wZ] at w'
  refine⟨G,O0,_,O',ρ',n',_,l[i],s',rx,w',λσ2 ρ2 n2 s2 w2=>?_⟩
  rw[M.wZ] at w2
  refine⟨G,O0,_,O',ρ2,n2,s2,M.wp_mono w2 λf n3 w3=>?_⟩
  cases f with
  |nx ρ3=>exact λO3 σ3 H3 s3=>⟨O3,ρ3,n3,s3,w3⟩
  |ct ρ3=>exact λO3 σ3 H3 s3=>⟨O3,ρ3,n3,s3,w3⟩
  |bk ρ3=>exact λO3 σ3 H3 s3=>w3 O3 σ3 H3 (s1.back s3)
  |rt y=>exact λx3 H3 e3 ok3 r3=>w3 x3 H3 (s1.base.trans e3) ok3 r3
 ·have e:i=l.length:=by lia
  subst e
  rw[List.drop_length] at w'
  exact .inl ⟨it'.stop,w' O' σ' H' (s1.back s')⟩
noncomputable def A0 (mt:ae->M Bool) (mb:ae->M Fl):Nat->ae->M Fl
 |0,_=>.fail
 |k+1,ρ=>(mt ρ).bind λb=>if b=true then(mb ρ).bind λf=>(match f with
  | .nx ρ2=>A0 mt mb k ρ2
  | .ct ρ2=>A0 mt mb k ρ2
  | .bk ρ2=>.ret (.nx ρ2)
  | .rt v=>.ret (.rt v)) else .ret (.nx ρ)
def CJ {mt:ae->M Bool} {mb:ae->M Fl} (fuel:Nat) (h:BS X st (xJ (zy φ mt) (Im φ mb))):SV φ X st (A0 mt mb fuel):=BS.mono h λD σ H bu=>by
 obtain⟨G,O0,H0,O,ρ,n,s,w⟩:=bu
 refine⟨λm σ' H'=> ∃ (O':Addr->Prop) (ρ':ae) (n':Nat),SI G O0 H0 O' H' σ' ρ' n'/\(A0 mt mb m ρ').wp n' (λf n'=>nY G O0 H0 D n' f),⟨fuel,O,ρ,n,s,w⟩,?_⟩
 rintro m σ' H' ⟨O',ρ',n',s',w'⟩
 cases m with
 |zero=>exact w'.elim
 |succ k=>
  unfold A0 at w'
  rw[M.wZ] at w'
  refine⟨G,O',ρ',n',_,s'.es,w',λb H1 n1 e1 ba w1=>?_⟩
  cases b with
  |true=>
   simp only[if_true] at w1 ⊢
   rw[M.wZ] at w1
   refine⟨λσ2 H2=> ∃ (O':Addr->Prop) (ρ':ae) (n':Nat),SI G O0 H0 O' H2 σ2 ρ' n'/\(A0 mt mb k ρ').wp n' (λf n'=>nY G O0 H0 D n' f),λσ2 H2 hh=>⟨k,by lia,hh⟩,G,O0,H0,O',ρ',n1,s'.to e1 ba,M.wp_mono w1 λf n3 w3=>?_⟩
   cases f with
   |nx ρ3=>exact λO3 σ3 H3 s3=>⟨O3,ρ3,n3,s3,w3⟩
   |ct ρ3=>exact λO3 σ3 H3 s3=>⟨O3,ρ3,n3,s3,w3⟩
   |bk ρ3=>exact λO3 σ3 H3 s3=>w3 O3 σ3 H3 s3
   |rt y=>exact λx3 H3 e3 ok3 r3=>w3 x3 H3 e3 ok3 r3
  |false=>
   simp only[Qp,if_false] at w1 ⊢
   exact w1 O' σ' H1 (s'.to e1 ba)
end
def bC:Fl->M PV
 | .nx _=>.ret .aD
 | .rt y=>.ret y
 |_=>.fail
def gM (k:Nat) (l:List PV):ae:=l.map val++List.replicate (k - l.length) .un
def gp (a k:Nat) (m:ae->M Fl) (l:List PV):M PV:=if l.length=a then(m (gM k l)).bind bC else .fail
def jZ {vs:List V} {i:Nat} (h:vs[i]?=some x):(start N vs)[i]?=some (some x):=by
 unfold start
 have hi:i < vs.length:=(PL.mp h).1
 rw[Qn (by simpa using hi),P6,h]
 rfl
section
variable {P:Program} {w:World} {K:Frag} {mg:Str->Option Value} {base:Heap}
def M9 {x qual:Str} {st:Stmt} {f:Addr} {fd:FuncData} {N ps:List Str} {k:Nat} {m:ae->M Fl} (F:Fz K x qual st f fd) (S:aB N ps (ao st)) (hN:ps.length<=N.length)
  (hb: ∀ (eF:Value) (A:Around) (outer:List Env) (s:Shared) (H:Hp) (E:XK),cM k (A.deeper (envOfC qual (ao st) s.heap.objs.size f eF))->Fd φ (gE i5 P w K mg base N qual (ao st) f eF A outer s H E).rH (bo st) m):
  di P w K mg base i5 (k+1) f fd ps (xP φ (gp ps.length N.length m)):=by
 refine F.ok S (λvs H Q E h=>?_) (λeF A outer s H vs Q E hr h=>⟨_,(hb eF A outer s H E hr).out,?_⟩)
 ·obtain⟨G,O,l,n,R,_,_,_,r,w,_⟩:=h
  unfold gp at w
  by_cases hc:l.length=ps.length
  ·rw[<-r.1,hc]
  ·rw[Qw hc] at w;exact w.elim
 ·obtain⟨G,O,l,n,R,pr,dm,ok,r,w,q⟩:=h
  unfold gp at w
  by_cases hc:l.length=ps.length
  ·rw[Qv hc,M.wZ] at w
   refine⟨G,O,H,O,gM N.length l,n,⟨⟨⟨?_,λi e he=>?_⟩,ok,pr,dm⟩,pr,λp h=>h,Ext.refl _ _,λp h=>.inl h,dm,λi p h=>?_,λi j p h=>?_⟩,M.wp_mono w λf n' h=>?_⟩
   ·unfold start gM;simp[r.1]
   ·unfold gM at he
    by_cases hi:i < l.length
    ·rw[Qn (by simpa using hi),P6,Py hi] at he
     cases he
     obtain⟨x,hx,rr⟩:=r.at (Py hi)
     exact⟨x,by rw[jZ hx];rfl,rr⟩
    ·rw[List.getElem?_append_right (by simpa using hi),List.getElem?_replicate] at he
     split at he
     ·cases he;trivial
     ·cases he
   all_goals try (
    obtain⟨t,h1,h2,_⟩:=h
    exfalso
    unfold gM at h1
    by_cases hi:i < l.length
    ·rw[Qn (by simpa using hi),P6,Py hi] at h1
     cases h1;cases h2
    ·rw[List.getElem?_append_right (by simpa using hi),List.getElem?_replicate] at h1
     split at h1
     ·cases h1;cases h2
     ·cases h1)
   cases f with
   |nx ρ=>exact λO' σ' H' s'=>q .aD .aD H' n' s'.ext s'.es.ok .aD h
   |rt y=>exact λx' H' e' ok' r'=>q y x' H' n' e' ok' r' h
   |bk ρ=>exact h.elim
   |ct ρ=>exact h.elim
  ·rw[Qw hc] at w;exact w.elim
end
end
section
variable {φ:dn}
section
variable {X:Cx} {e a b:Expr} {ma mb:ae->M PV}
def Pg (K:Frag) (T:String) (r:V->List V->Hp->VK->Prop) (op:PV->List PV->M PV):Prop:= ∀ (φ:dn) (G:Bg φ) (O:Addr->Prop) (H0 H:Hp) (n:Nat) (R:PV->Nat->Prop) (Q:VK) (y:PV) (x:V) (l:List PV) (xs:List V),
 (∀ p,G.cu p->O p)->(∀ p,O p->∃ o,H p=some o)->G.ok H n->bH G O H y x->eK G O H l xs->(op y l).wp n R->mT G O H R Q->r x xs H Q
def tyP:PV->String
 | .str _=>"str"
 | .lst _=>"list"
 | .cU _=>"dict"
 |_=>""
def NZ (T:String) (op:PV->List PV->M PV) (mo:ae->M PV) (ml:ae->M (List PV)):ae->M PV:=λρ=>(mo ρ).bind λy=>if tyP y=T then(ml ρ).bind λl=>op y l else .fail
def Nc (h:BE X e (Mr X.K T r (rf φ mo) (LY φ ml))) (hv:Pg X.K T r op) (hT:T≠"":=by decide):EV φ X e (NZ T op mo ml):=BE.mono h λσ H Q bu=>by
 obtain⟨G,O,ρ,n,R,s,w,q⟩:=bu
 unfold NZ at w
 rw[M.wZ] at w
 refine⟨G,O,ρ,n,_,s,w,λy x H1 n1 e1 ba r1 w1=>?_⟩
 by_cases hc:tyP y=T
 ·rw[Qv hc] at w1
  have ty:N9 X.K T x H1:=by
   subst hc
   cases y<;>first|exact absurd rfl hT|skip
   ·rw[r1.fO];rfl
   ·obtain⟨p,xs,rfl,hh,_⟩:=r1.eQ;exact .inl ⟨rfl,xs,bU.of hh⟩
   ·obtain⟨p,ks,rfl,hh,_⟩:=r1.AF;exact .inr (.inr (.inl ⟨rfl,.inl ⟨ks,hh⟩⟩))
  refine⟨ty,?_⟩
  rw[M.wZ] at w1
  refine⟨G,O,ρ,n1,_,s.ext e1 ba,w1,λl xs H2 n2 e2 nM r2 w2=>?_⟩
  exact hv φ G O H1 H2 n2 R Q y x l xs s.pr (s.ext (e1.trans e2) nM).dm nM (r1.ext s.B e2) r2 w2 λy x H' n' e o r h=>q y x H' n' (e1.trans (e2.trans e)) o r h
 ·rw[Qw hc] at w1;exact w1.elim
def strsOf:List PV->Option (List Str)
 |[]=>some []
 | .str b::r=>(strsOf r).map (b:: ·)
 |_=>none
theorem uZ: ∀ {l:List PV} {xs:List V} {bs:List Str},aO B O H l xs->strsOf l=some bs->xs=bs.map V.str
 |[],xs,bs,h,e=>by simp[strsOf] at e;subst e;exact h.nil_inv
 |y::l,xs,bs,h,e=>by
  cases y<;>simp[strsOf] at e
  obtain⟨bs',e1,rfl⟩:=e
  obtain⟨x,r,rfl,h1,h2⟩:=h.cons_inv
  cases h1
  rw[PQ,uZ h2 e1]
noncomputable def rR:PV->List PV->M PV
 | .str sep,[.lst l]=>(M.bK (strsOf l)).bind λys=>if(ys.map (·.length)).sum+ys.length * sep.length<=16777216 then .ret (.str (Txt.join sep ys)) else .fail
 |_,_=>.fail
def BN (w:(rR y l).wp n R): ∃ sep m,y= .str sep/\l=[.lst m]:=by
 unfold rR at w
 split at w
 ·exact⟨_,_,rfl,rfl⟩
 ·exact w.elim
def GQ {K:Frag}:Pg K "str" (λx xs H Q=> ∃ (sep:Str) (p:Addr) (ys:List Str),x= .str sep/\xs=[.ref p]/\bU K H p (ys.map V.str)/\(ys.map (·.length)).sum+ys.length * sep.length<=16777216/\Q (.str (Txt.join sep ys)) H) rR:=λφ G O H0 H n R Q y x l xs pr dm ok r1 r2 w q=>by
 obtain⟨sep,l,rfl,rfl⟩:=BN w
 ·rw[r1.fO]
  obtain⟨x2,ex,r3⟩:=r2.one
  subst ex
  obtain⟨p,xs,ep,hh,rr⟩:=r3.eQ
  subst ep
  unfold rR at w
  dsimp only at w
  cases es:strsOf l with
  |none=>rw[es] at w;exact w.elim
  |some ys=>
   rw[es] at w
   replace w:(if(ys.map (·.length)).sum+ys.length * sep.length<=16777216 then M.ret (.str (Txt.join sep ys)) else .fail:M PV).wp n R:=w
   by_cases hc:(ys.map (·.length)).sum+ys.length * sep.length<=16777216
   ·rw[Qv hc] at w
    rw[uZ rr es] at hh
    exact⟨sep,p,ys,rfl,rfl,bU.of hh,hc,q.sc ok (.str _) w⟩
   ·rw[Qw hc] at w;exact w.elim
def h9:PV->M PV
 | .int i=>.ret (.int (-i))
 |_=>.fail
def K8 (h:BE X e (Oc (rU λi=>.int (-i)) (rf φ ma))):EV φ X e (λρ=>(ma ρ).bind h9):=BE.mono h λσ H Q bu=>by
 obtain⟨G,O,ρ,n,R,s,w,q⟩:=bu
 rw[M.wZ] at w
 refine⟨G,O,ρ,n,_,s,w,λy x H1 n1 e1 ba r1 w1=>?_⟩
 cases y<;>first|exact w1.elim|skip
 rw[r1.bL]
 exact⟨_,rfl,q _ _ _ _ e1 ba (.int _) w1⟩
noncomputable def qR (ma mb:ae->M PV):ae->M (List PV):=λρ=>(ma ρ).bind λx=>(mb ρ).bind λy=>match x,y with| .lst a,.lst b=>if a.length+b.length<=100000 then .ret (a++b) else .fail|_,_=>.fail
def ED (h:BE X e (FI JU (rf φ ma) (rf φ mb))):EF φ X e (qR ma mb):=BE.mono h λσ H Q bu=>by
 obtain⟨G,O,ρ,n,R,s,w,q⟩:=bu
 unfold qR at w
 rw[M.wZ] at w
 refine⟨G,O,ρ,n,_,s,w,λy x H1 n1 e1 ba r1 w1=>?_⟩
 rw[M.wZ] at w1
 refine⟨G,O,ρ,n1,_,s.ext e1 ba,w1,λy' x' H2 n2 e2 nM r2 w2=>?_⟩
 replace r1:=r1.ext s.B e2
 cases y<;>cases y'<;>first|exact w2.elim|skip
 rename_i i j
 obtain⟨a,xs,rfl,h1,q1⟩:=r1.eQ
 obtain⟨b,ys,rfl,h2,q2⟩:=r2.eQ
 dsimp only at w2
 by_cases hc:i.length+j.length<=100000
 ·rw[Qv hc] at w2
  have q':AX G O H2 R Q:=λl p xs H' n' e o hp a b h=>q l p xs H' n' (e1.trans (e2.trans e)) o (ft (e1.trans e2) nM hp) a b h
  exact⟨a,b,xs,ys,rfl,rfl,h1,h2,P7 (by rw[<-q1.1,<-q2.1];exact hc) dY,λp hp=>q'.mk nM hp s.B (q1.append q2) w2⟩
 ·rw[Qw hc] at w2;exact w2.elim
end
end
section
variable {φ:dn}
section
variable {X:Cx} {e a b o:Expr} {es:List Expr} {pos p:Pos} {x:Str} {id T:String} {r:List V->Hp->VK->Prop} {t:TA} {st:Stmt}
def bv (i:Nat) (hN:X.N[i]?=some x:=by rfl) (hv:L8 X.env.scope x:=by first|exact Or.inl rfl|exact Or.inr (Or.inl rfl)|exact Or.inr (Or.inr rfl)) (hd:(x==("__debug__":Str))=false:=by decide)
  (hcd:(x==("__classdict__":Str))=false:=by decide):BE X (.Name x pos) (nF i):=⟨Dp hN hv hd hcd⟩
def bO (hc:fL X (.builtin id) r) (hg:Gl X x) (hm:X.mg x=none) (hv:bootBuiltins x=some (.builtin id)) (ha:BA X (e::es) t) (hn:x≠"__name__":=by decide) (nV:(x==("__debug__":Str))=false:=by decide)
  (he:starEach (e::es) X.env=(false,eval e X.env)::starEach es X.env:=by rfl) (ke:(backTo pos (starEach es X.env)).any (·.1)=false:=by rfl):BE X (.Call (.Name x p) (e::es) [] pos) (LZ r t):=⟨vx hc hg hm hv ha.out hn nV he ke⟩
def j5 (hc:fL X (.type T) r) (hg:Gl X x) (hm:X.mg x=none) (hv:bootBuiltins x=some (.type T)) (ha:BA X (e::es) t) (hn:x≠"__name__":=by decide) (nV:(x==("__debug__":Str))=false:=by decide)
  (he:starEach (e::es) X.env=(false,eval e X.env)::starEach es X.env:=by rfl) (ke:(backTo pos (starEach es X.env)).any (·.1)=false:=by rfl):BE X (.Call (.Name x p) (e::es) [] pos) (LZ r t):=⟨Bo hc hg hm hv ha.out hn nV he ke⟩
def oD (F:di X.prog X.w X.K X.mg X.base CX k f fd ps sp) (hr:cM k X.A) (hg:Gl X x) (hm:X.mg x=some (.ref f)) (hk:keepIn X.K (.ref f)=true) (hb:Binds X.K fd ps ds) (hd:Vals dvs ds) (hx:Passes CX X E)
  (ha:BA X (e::es) t) (nV:(x==("__debug__":Str))=false:=by decide) (he:starEach (e::es) X.env=(false,eval e X.env)::starEach es X.env:=by rfl) (ke:(backTo pos (starEach es X.env)).any (·.1)=false:=by rfl):
  BE X (.Call (.Name x p) (e::es) [] pos) (uX sp dvs E t):=⟨Gx F hr hg hm hk hb hd hx ha.out nV he ke⟩
def uB:BA X [] xK:=⟨eL⟩
def oE (ha:BE X e te) (hr:BA X es t) (hs:starEach (e::es) X.env=(false,eval e X.env)::starEach es X.env:=by rfl):BA X (e::es) (lu te t):=⟨cD ha.out hr.out hs⟩
def E4 {apos mM:Pos} {name:Str} {to:TE} {r:V->List V->Hp->VK->Prop} (pa:PlainAttrs T) (slot:Slot T name id) (hty:typeOf (.builtin id)=pure (.type "method_descriptor")) (hm:O8 X id r) (ho:BE X o to) (ha:BA X (e::es) t)
  (hbase:attributeBase o name X.env (eval o X.env)=eval o X.env:=by rfl)
  (hfew:((backTo mM (starEach (e::es) X.env)).all (λx=>!x.1)&&(backToKw mM (keywordEach [] X.env)).all (λx=>x.1.isSome)
   &&decide ((e::es).length+([]:List Keyword).length+(if([]:List Keyword).isEmpty then 0 else 1) < 30))=true:=by rfl)
  (hline:(apos.endLine==mM.line)=true:=by rfl) (hs:starEach (e::es) X.env=(false,eval e X.env)::starEach es X.env:=by rfl) (hplain:(backTo mM (starEach es X.env)).any (·.1)=false:=by rfl):
  BE X (.Call (.Attribute o name apos) (e::es) [] mM) (Mr X.K T r to t):=⟨MP pa slot hty hm ho.out ha.out hbase hfew hline hs hplain⟩
def E3 (L:a7 X scope N js) (hc:X.calm=true) (hi:BI X target iter wi)
  (hg: ∀ s₀ H₀ ex pn,BG (fN X scope N s₀ H₀ ex pn) target g) (ht: ∀ s₀ H₀ ex pn,Ih (fN X scope N s₀ H₀ ex pn) ifs tt) (he: ∀ s₀ H₀ ex pn,BE (fN X scope N s₀ H₀ ex pn) elt te)
  (hs: ∀ x,foldedSetIterable iter X.env x=pure x:=by intro _;rfl):BE X (.ListComp elt [⟨target,iter,ifs,0⟩] scope pos) (Cj js wi g tt te):=⟨MO L hc hi.out (λa b c d=>(hg a b c d).out) (λa b c d=>(ht a b c d).out) (λa b c d=>(he a b c d).out) hs⟩
def EW (hN:X.N.Nodup) (hk:X.N[k]?=some y) (hy:Loc X.env.scope y) (L:a7 X scope N js) (hc:X.calm=true) (hi:BI X target iter wi)
  (hg: ∀ s₀ H₀ ex pn,BG (fN X scope N s₀ H₀ ex pn) target g) (ht: ∀ s₀ H₀ ex pn,Ih (fN X scope N s₀ H₀ ex pn) ifs tt) (he: ∀ s₀ H₀ ex pn,BE (fN X scope N s₀ H₀ ex pn) elt te)
  (hsw:swapsWith (.ListComp elt [⟨target,iter,ifs,0⟩] scope pos) (some (.Name y py)) spos.line X.env=pure true:=by rfl)
  (hs: ∀ x,foldedSetIterable iter X.env x=pure x:=by intro _;rfl) (hf:X.fn y=true\/X.env.scope.names.lookup y=some .local:=by first|exact .inl rfl|exact .inr rfl|assumption):
  BS X (.Assign [.Name y py] (.ListComp elt [⟨target,iter,ifs,0⟩] scope pos) spos) (gL (Cj js wi g tt te) (c7 k)):=⟨ML hN hk hy L hc hi.out (λa b c d=>(hg a b c d).out) (λa b c d=>(ht a b c d).out) (λa b c d=>(he a b c d).out) hsw hs hf⟩
def iG (hN:X.N.Nodup) (hi:X.N[i]?=some x) (hx:Loc X.env.scope x) (he:BE X e te) (hs:swapsWith e (some (.Name x pos')) pos.line X.env=pure false:=by rfl) (hf:X.fn x=true\/X.env.scope.names.lookup x=some .local:=by first|exact .inl rfl|exact .inr rfl|assumption):
  BS X (.Assign [.Name x pos'] e pos) (gL te (c7 i)):=⟨jl hN hi hx he.out hs hf⟩
def yO (he:BE X e te) (hg:BG X tg g) (hs:swapsWithSole [tg] e pos.line X.env=pure false:=by rfl) (hw:swappedStores [tg] e X.env=pure none:=by rfl)
  (h1:(assignEach [tg] X.env).map (·.2)=[assign tg X.env]:=by rfl):BS X (.Assign [tg] e pos) (gL te g):=⟨ya he.out hg.out hs hw h1⟩
def Lw {kt k2 pt2} (hc:X.calm=true) (hN:X.N.Nodup) (hi:X.N[i]?=some x) (hj:X.N[j]?=some y) (hij:i≠j)
  (hx:X.env.scope.names.lookup x=some .local) (hy:X.env.scope.names.lookup y=some .local) (ha:BA X [a,b] ta)
  (hw:swappedStores [.Tuple [.Name x px,.Name y py] kt pt] (.Tuple [a,b] k2 pt2) X.env=pure (some [x,y]))
  (hs:swapsWithSole [.Tuple [.Name x px,.Name y py] kt pt] (.Tuple [a,b] k2 pt2) pos.line X.env=pure false:=by rfl):
  BS X (.Assign [.Tuple [.Name x px,.Name y py] kt pt] (.Tuple [a,b] k2 pt2) pos) (JB i j ta):=⟨JZ hc hN hi hj hij hx hy ha.out hw hs⟩
def jN (he:BE X e te):BS X (.Return (some e) pos) (JA te):=⟨tG he.out⟩
def wU {c:Expr} {ss tt:List Stmt} {tc:TT} {t u:TS} (hc:BT X c tc) (ha:Fq X ss t) (hb:Fq X tt u):BS X (.If c ss tt pos) (JC tc t u):=⟨Df hc.out ha.out hb.out⟩
def qd (hp:PassesOwn (model X.prog X.w) X.A X.env X.xe) (hc:X.calm=true) (hi:BI X tg iter wi) (hg:BG X tg g) (hb:Fq X body tb)
  (hs: ∀ x,foldedSetIterable iter X.env x=pure x:=by intro _;rfl):BS X (.For tg iter body [] pos) (A6 wi g tb):=⟨tH hp hc hi.out hg.out hb.out hs⟩
def EU (hp:PassesOwn (model X.prog X.w) X.A X.env X.xe) (hc:BT X c tc) (hb:Fq X body tb):BS X (.While c body [] pos) (xJ tc tb):=⟨De hp hc.out hb.out⟩
def AL (he:BE X e te) (hs:swapsWith e none pos.line X.env=pure false:=by rfl):BS X (.Expr e pos) (zz te):=⟨Gp he.out hs⟩
def mQ (hg:Gl X "range") (hm:X.mg "range"=none) (ha:BA X [a] ta) (hs:starEach [a] X.env=[(false,eval a X.env)]:=by rfl):BI X tg (.Call (.Name "range" p) [a] [] pos) (D8 ta):=⟨Bm hg hm ha.out hs⟩
def B9 (hg:Gl X "range") (hm:X.mg "range"=none) (ha:BA X [a,b] ta) (hs:starEach [a,b] X.env=[(false,eval a X.env),(false,eval b X.env)]:=by rfl) (hs2:starEach [b] X.env=[(false,eval b X.env)]:=by rfl):
  BI X tg (.Call (.Name "range" p) [a,b] [] pos) (D7 ta):=⟨Bl hg hm ha.out hs hs2⟩
def qh {r:V->Option Int->Option Int->Hp->VK->Prop} {te:TE} {tl th:TO} {lo hi:Option Expr} {p2:Pos} (hr:Cn X r) (he:BE X e te) (hl:BO X lo tl) (hu:BO X hi th):BE X (.Subscript e (.Slice lo hi none p2) pos) (Od r te tl th):=⟨lB hr he.out hl.out hu.out⟩
def Nq {op:UnaryOp} {r:V->Hp->VK->Prop} {ta:TE} (ho:N0 X (unaryOp op) r) (ha:BE X a ta):BE X (.UnaryOp op a pos) (Oc r ta):=⟨MM ho ha.out⟩
def I0 {op:Operator} {r:R2} {ta tb:TE} (ho:dS X (binaryOp op) r) (ha:BE X a ta) (hb:BE X b tb):BE X (.BinOp a op b pos) (FI r ta tb):=⟨bG ho ha.out hb.out⟩
def cJ (hN:X.N.Nodup) (hi:X.N[i]?=some x) (hx:Loc X.env.scope x) (hf:X.fn x=true\/X.env.scope.names.lookup x=some .local:=by first|exact .inl rfl|exact .inr rfl|assumption):BG X (.Name x pos) (c7 i):=⟨oe hN hi hx hf⟩
def uy:Jl X [] KZ:=⟨zX⟩
def gF {t:TG} {u:HN} (h1:BG X e t) (h2:Jl X es u)
  (hs:(assignEach (e::es) X.env).map (·.2)=assign e X.env::(assignEach es X.env).map (·.2):=by rfl):Jl X (e::es) (Eh t u):=⟨o7 h1.out h2.out hs⟩
def yP {k:Nat} {t:HN} {n:Nat} (hc:X.calm=true) (h:Jl X es t)
  (hn:(assignEach es X.env).length=n:=by rfl) (hst:(assignEach es X.env).findIdx? (·.1)=none:=by rfl):BG X (.Tuple es k pos) (yx X.K n t):=⟨Dn hc h.out hn hst⟩
def Lz {i:Expr} {to ti:TE} {t:LI} (ho:BE X o to) (hi:BE X i ti) (hs:LK X t) (H: ∀ (a1:PE X o to) (a2:PE X i ti),PG X (.Subscript o i pos) (He to ti t):=by intro a1 a2;exact tI a1 a2 set_list):BG X (.Subscript o i pos) (He to ti t):=⟨H ho.out hi.out⟩
end
section
variable {P:Program} {w:World} {K:Frag} {mg:Str->Option Value} {base:Heap}
def K4 {x qual:Str} {st:Stmt} {f:Addr} {fd:FuncData} {N ps:List Str} {k:Nat} {m:ae->M Fl} {body:List Stmt} {sc:Scope} {Ff:List PV->M PV} (hF:Ff=gp ps.length N.length m) (F:Fz K x qual st f fd) (S:aB N ps (ao st)) (hN:ps.length<=N.length) (eb:bo st=body) (es:ao st=sc)
  (hb: ∀ (eF:Value) (A:Around) (outer:List Env) (s:Shared) (H:Hp) (E:XK),cM k (A.deeper (envOfC qual sc s.heap.objs.size f eF))->Fd φ (gE i5 P w K mg base N qual sc f eF A outer s H E).rH body m):
  di P w K mg base i5 (k+1) f fd ps (xP φ Ff):=by
 subst hF eb es
 exact M9 F S hN hb
end
end
section
open PySem.AutoSeq1 (wpAny_loadPart')
def mz:fillsNumberSlot (.type "tuple") "mul"=pure false:=
 PySem.fillsNumberSlot_seq (id:="tuple.__mul__") (r:=some (.builtin "tuple.__rmul__")) F.slot_tuple_mul.lookup (by decide +kernel) F.slot_tuple_rmul.lookup (by decide +kernel)
def tD:seqRepeat? (.type "tuple")=pure (some (.builtin "tuple.__mul__")):=by
 unfold seqRepeat?
 rw[PySem.seqSlot_of (T:="tuple") (name:="__mul__") (id:="tuple.__mul__") F.slot_tuple_mul.lookup (by decide +kernel),PySem.seqSlot_of (T:="tuple") (name:="__rmul__") (id:="tuple.__rmul__") F.slot_tuple_rmul.lookup (by decide +kernel)]
 rfl
def pJ (a:Int) (t:Tok) (l:Addr) (items:Array Value) (n:Nat) (dd:Option Addr) (sl:Array (Option Value)):
  Meets (Builtin.«int.__rmul__» ⟨[.int a t,.ref l],[]⟩) (λ_ R s=>s.heap.get? l=some {cls:=.type "tuple",dict:=dd,data:=.seq items n,slots:=sl}/\R (.ok (.ret Value.notImplemented)) s):=
 .of_wp λprog w A R s h=>by obtain⟨hp,g,d,tk,os⟩:=s;obtain⟨hl,h⟩:=h;wp_walk using wpAny_loadPart' hl;exact⟨_,rfl,h⟩
def xE (l:Addr) (items:Array Value) (n:Nat) (dd:Option Addr) (sl:Array (Option Value)) (x:Int) (u:Tok) (hc0: ¬(decide (x < -(2 ^ 63))||decide (x ≥ 2 ^ 63))=true) (hc1: ¬(items.isEmpty||x==1)=true) (hc2: ¬(decide (x<=0)||items.isEmpty)=true) (hc3: ¬((items.size:Int) * x > (2 ^ 63 - 1) / 8)) (hc4: ¬Builtin.Tuple.tupleTooMany (items.size * x)=true) (hc5: ¬ (List.foldl (λx1 x2=>x1++x2) #[] (List.replicate x.toNat items)).size > sizeLine):
  Meets (Builtin.«tuple.__mul__» ⟨[.ref l,.int x u],[]⟩) (λ_ R s=>s.heap.get? l=some {cls:=.type "tuple",dict:=dd,data:=.seq items n,slots:=sl}/\R (.ok (.ret (Value.ref s.heap.objs.size))) {s with heap:=s.heap.push {cls:=Value.type "tuple",data:=Data.seq ((List.replicate x.toNat items).foldl (· ++ ·) #[])},toks:=s.toks}):=
 .of_wp λprog w A R s h=>by
  obtain⟨hp,g,d,tk,os⟩:=s;obtain⟨hl,h⟩:=h
  have f1:=AutoSeq1.idx_int
  wp_walk using wpAny_loadPart' hl
  refine wpAny_ite_false (Qb hc0) ?_
  wp_walk using wpAny_loadPart' hl
  refine wpAny_ite_false (Qb hc3) ?_
  wp_walk using wpAny_loadPart' hl
  exact⟨_,rfl,h⟩
noncomputable def IB:R2:=λx y H Q=> ∃ l k xs,x= .ref l/\y= .int k/\H l=some (.tup xs)/\xs≠[]/\1 < k/\k < 1000/\xs.length * k.toNat<=100000/\∀ p,H p=none->Q (.ref p) (upd H p (.tup (List.replicate k.toNat xs).flatten))
def GC:dS X (binaryOp .Mult) IB:=by
 intro pZ s σ H x y v u Q I rx ry h
 obtain⟨l,k,xs,rfl,rfl,hH,bY,h1,h2,hz,q⟩:=h
 cases rx
 obtain⟨t,rfl⟩:=ry
 obtain⟨aC,r,p,_⟩:=I.tuple (dh.of (K:=X.K) hH)
 obtain⟨⟨cls,dd,data,sl⟩,ho,hc,n,hd⟩:=id p
 simp only at hc hd
 subst hc hd
 have hlen:=r.length
 have hie:aC≠[]:=λz=>bY (r.om.mp z)
 have hnew:List.foldl (λx1 x2=>x1++x2) #[] (List.replicate k.toNat aC.toArray)=(List.replicate k.toNat aC).flatten.toArray:=by
  have:=foldl_rep aC k.toNat []
  rw[List.nil_append] at this
  exact this
 have e63:(2:Int) ^ 63=9223372036854775808:=by decide
 have hsz:(aC.length:Int) * k<=100000:=by
  have e:(k.toNat:Int)=k:=by lia
  have:((aC.length * k.toNat:Nat):Int)<=100000:=by
   rw[<-hlen]
   exact Int.ofNat_le.mpr hz
  rw[Int.natCast_mul,e] at this
  exact this
 have hs:sizeLine=16777216:=Qm
 have hfl:(List.replicate k.toNat xs).flatten.length<=sizeLine:=by rw[len_rep,Nat.mul_comm];lia
 refine wpAny_binaryOp_repeat_ref (T:="tuple") (U:="int") (by decide) ⟨_,ho,rfl⟩ (λs'=>typeIs_int s' k t) mz F.fills_int_mul F.slot_int_rmul tD F.slot_int_index.lookup
  (call_meets F.slot_int_rmul (typeIs_int s k t) F.entry_int_rmul (F.args_int_rmul_2 _ _) (pJ k t l aC.toArray n dd sl)
   ⟨ho,rfl,⟨_,ho,rfl⟩,call_meets F.slot_tuple_mul ⟨_,ho,rfl⟩ F.entry_tuple_mul (F.args_tuple_mul_2 _ _) (xE l aC.toArray n dd sl k t ?_ ?_ ?_ ?_ ?_ ?_) ⟨ho,?_⟩⟩)
 ·simp;lia
 ·simp[hie];lia
 ·simp[hie];lia
 ·simp only[PK];lia
 ·unfold Builtin.Tuple.tupleTooMany;simp only[PK,decide_eq_true_eq];lia
 ·rw[hnew,PK,len_rep,Nat.mul_comm,<-hlen];lia
 ·rw[hnew]
  refine⟨.ref s.heap.objs.size,_,I.laid (t':=s.toks) (o:=.tup (List.replicate k.toNat xs).flatten) (λb ob q=>PF _ q) (PM _) ?_,rfl,q _ (I.a9.fresh (PM _))⟩
  exact⟨hfl,_,r.rep k.toNat,IsTup.new _ _⟩
def ID:R2:=λx y H Q=>C7 x y H Q\/IB x y H Q
def GF:dS X (binaryOp .Mult) ID:=GG.or GC
noncomputable def ka (y z:PV):M PV:=match y,z with
 | .tup l,.int k=>if 0 < l.length/\1 < k/\k < 1000/\l.length * k.toNat<=100000 then .ret (.tup (List.replicate k.toNat l).flatten) else .fail
 |y,z=>Bz y z
def GA:lX ID ka:=λφ G O H n R Q y z x x' pr dm ok r1 r2 w q=>by
 have hB:O G.B:=pr _ G.pB
 cases y with
 |tup l=>
  cases z<;>first|exact w.elim|skip
  rename_i k
  obtain⟨a,xs,rfl,h1,e1⟩:=r1.i7
  rw[r2.bL]
  unfold ka at w
  dsimp only at w
  by_cases hc:0 < l.length/\1 < k/\k < 1000/\l.length * k.toNat<=100000
  ·rw[Qv hc] at w
   refine .inr ⟨a,k,xs,rfl,rfl,h1,λz=>?_,hc.2.1,hc.2.2.1,by rw[<-e1.1];exact hc.2.2.2,λp hp=>q.tup ok dm hp hB (e1.rep _) w⟩
   subst z
   have:=e1.1
   simp at this
   have:=hc.1
   simp_all
  ·rw[Qw hc] at w;exact w.elim
 |_=>exact .inl (Kb φ G O H n R Q _ z x x' pr dm ok r1 r2 w q)
end
def ng:List PV->M PV:=λl=>match l with|[.bD,.int m]=>.draw m λd=>.ret (.int d)|_=>.fail
def B1 {φ:dn} {P:Program} {w:World} {K:Frag} {mg:Str->Option Value} {base:Heap} {k:Nat} {f:Addr} {fd:FuncData} {ps:List Str} (F:di P w K mg base i5 k f fd ps φ.sp):di P w K mg base i5 k f fd ps (xP φ ng):=by
 refine F.imp λvs H Q E h=>?_
 obtain⟨G,O,l,n,R,pr,dm,ok,r,w,q⟩:=h
 match l,r,w with
 |[.bD,.int m],r,w=>
  obtain⟨x,t,rfl,r1,r2⟩:=r.cons_inv
  obtain⟨x',t',rfl,r3,r4⟩:=r2.cons_inv
  rw[r4.nil_inv]
  cases r1
  cases r3
  obtain⟨h0,h1,n',rfl,h⟩:=w
  exact G.dr H n' m Q E ok h0 h1 λd H' d0 d1 e o=>q (.int d) _ H' n' e o (.int d) (h d d0 d1)
structure Gen {α:Type} (m:M α) (c:Nat) (Pr:α->Prop):Prop where
 h: ∀ n,c<=n->m.wp n λy n'=>n<=n'+c/\Pr y
def Gen.ret (h:Pr y):Gen (.ret y) 0 Pr:=⟨λn _=>⟨PM _,h⟩⟩
def Gen.bind (h:Gen m c Pr) (k: ∀ y,Pr y->Gen (f y) d Rr):Gen (m.bind f) (c+d) Rr:=⟨λn hn=>by
 rw[M.wZ]
 refine M.wp_mono (h.h n (by lia)) λy n1 ⟨h1,h2⟩=>?_
 exact M.wp_mono ((k y h2).h n1 (by lia)) λz n2 ⟨h3,h4⟩=>⟨by lia,h4⟩⟩
def Gen.mono (h:Gen m c Pr) (hc:c<=d) (k: ∀ y,Pr y->Rr y):Gen m d Rr:=⟨λn hn=>M.wp_mono (h.h n (by lia)) λy n1 ⟨h1,h2⟩=>⟨by lia,k y h2⟩⟩
def Gen.le (h:Gen m c Pr) (hc:c<=d):Gen m d Pr:=h.mono hc λ_ z=>z
def Gen.draw (h0:0 < m) (h1:m < 1073741824):Gen (ng [.bD,.int m]) 1 λy=> ∃ d,y= .int d/\0<=d/\d < m:=⟨λn hn=>by
 obtain⟨n',rfl⟩: ∃ n',n=n'+1:=⟨n - 1,by lia⟩
 exact⟨h0,h1,n',rfl,λd d0 d1=>⟨PM _,d,rfl,d0,d1⟩⟩⟩
def Gen.eq (e:m= .ret y) (h:Pr y):Gen m 0 Pr:=e▸Gen.ret h
theorem Gen.lc {te:ae->M PV} {ρ:ae}: ∀ (l:List PV) (ρ':ae),(∀ e,ρ'.set k e=ρ.set k e)->(∀ y∈l,Gen (te (ρ.set k (.val y))) c Pr)->Gen (pC (aA k) cx te l ρ') (l.length * c) (λzs=>zs.length=l.length/\∀ z∈zs,Pr z)
 |[],ρ',_,_=>Gen.le (Gen.ret ⟨rfl,λz hz=>by simp at hz⟩) (by simp)
 |y::l,ρ',hρ,h=>by
  unfold pC
  simp only[aA,cx,rZ,if_true]
  rw[hρ]
  refine Gen.le (Gen.bind (h y PB) λz hz=>Gen.bind (Gen.lc (ρ:=ρ) l _ (λe=>by rw[List.set_set]) λy' hy=>h y' (PH _ hy)) λzs hzs=>Gen.ret ?_) (Nat.le_of_eq ?_)
  ·refine⟨by simp[hzs.1],λu hu=>?_⟩
   rcases PR.mp hu with rfl|hu
   ·exact hz
   ·exact hzs.2 u hu
  ·simp only[PY,Nat.succ_mul]
   lia
theorem j4 {te:ae->M PV} {f:PV->PV} {ρ:ae}: ∀ (l:List PV) (ρ':ae),(∀ e,ρ'.set k e=ρ.set k e)->(∀ y∈l,te (ρ.set k (.val y))= .ret (f y))->pC (aA k) cx te l ρ'= .ret (l.map f)
 |[],ρ',_,_=>rfl
 |y::l,ρ',hρ,h=>by
  unfold pC
  simp only[aA,cx,rZ,if_true]
  rw[hρ,h y PB,j4 (f:=f) (ρ:=ρ) l _ (λe=>by rw[List.set_set]) λy' hy=>h y' (PH _ hy)]
  rfl
theorem bS {tt:ae->M Bool} {te:ae->M PV} {p:PV->Bool} {f:PV->PV} {ρ:ae}: ∀ (l:List PV) (ρ':ae),(∀ e,ρ'.set k e=ρ.set k e)->(∀ y∈l,tt (ρ.set k (.val y))= .ret (p y))->(∀ y∈l,p y=true->te (ρ.set k (.val y))= .ret (f y))->pC (aA k) tt te l ρ'= .ret ((l.filter p).map f)
 |[],ρ',_,_,_=>rfl
 |y::l,ρ',hρ,h,h'=>by
  unfold pC
  simp only[aA,rZ]
  have ih:=bS (p:=p) (f:=f) (ρ:=ρ) l (ρ.set k (.val y)) (λe=>by rw[List.set_set]) (λy' hy=>h y' (PH _ hy)) (λy' hy=>h' y' (PH _ hy))
  rw[hρ,h y PB,rZ]
  cases hp:p y with
  |true=>
   simp only[if_true]
   rw[h' y PB hp,rZ,ih,List.filter_cons_of_pos hp]
   rfl
  |false=>
   simp only[Qp,if_false]
   rw[ih,List.filter_cons_of_neg (by simp[hp])]
theorem Gen.M8 {mb:ae->M Fl} {Iv:ae->Prop}: ∀ (l:List PV) (ρ:ae),Iv ρ->(∀ y∈l,∀ ρ,Iv ρ->Gen (mb (ρ.set k (.val y))) c λf=> ∃ ρ',f= .nx ρ'/\Iv ρ')->Gen (bp (aA k) mb l ρ) (l.length * c) λf=> ∃ ρ',f= .nx ρ'/\Iv ρ'
 |[],ρ,h,_=>Gen.le (Gen.ret ⟨ρ,rfl,h⟩) (by simp)
 |y::l,ρ,h,hb=>by
  unfold bp
  simp only[aA,rZ]
  refine Gen.le (Gen.bind (hb y PB ρ h) λf hf=>?_) (d:=(y::l).length * c) (Nat.le_of_eq (?_:c+l.length * c=_))
  ·obtain⟨ρ',rfl,h'⟩:=hf
   exact Gen.M8 l ρ' h' λy' hy=>hb y' (PH _ hy)
  ·simp only[PY,Nat.succ_mul];lia
section
variable {φ:dn}
def MB:V->Option Int->Option Int->Hp->VK->Prop:=λx lo hi H Q=> ∃ z,x= .str z/\z.length<=100000/\Q (.str (Txt.slice z lo hi)) H
def part_of (p:IsPart v o): ∃ l:Option (Int×Tok),v=PySem.partValue l/\l.map (·.1)=o:=by
 cases p with
 |none=>exact⟨none,rfl,rfl⟩
 |int i t=>exact⟨some (i,t),rfl,rfl⟩
def JL:Cn X MB:=by
 intro pZ s σ H x v vl vu lo hi sl Q I rx hs pl pu h
 obtain⟨z,rfl,hz,q⟩:=h
 obtain⟨t,rfl⟩:=rx
 obtain⟨l,rfl,hl⟩:=part_of pl
 obtain⟨u,rfl,hu⟩:=part_of pu
 refine⟨"str",_,F.slot_str_getitem.lookup,typeIs_str _ _ _,wpAny_getItem_str_slice (l:=l) (u:=u) (st:=none) hs rfl ?_⟩
 subst hl hu
 exact(post_val_or_str ⟨P7 (Txt.slice_le z _ _) (P7 hz dY),λt' k=>⟨.str (Txt.slice z _ _),H,I.tok _,⟨_,rfl⟩,q⟩⟩)
section
open HT
variable {prog:Program} {w:World} {A:Around} {E:Value->Shared->Prop} {s:Shared}
def kh {t sl:Addr} {items:Array Value} {vl vu:Value} {lo hi:Option Int} {Q:Value->Shared->Prop} (ht:IsTup s.heap t items) (hs:s.heap.IsSliceOf sl vl vu .none) (pl:IsPart vl lo) (pu:IsPart vu hi)
  (hw:cL items.size 0 lo=0/\cL items.size items.size hi=items.size) (h:Q (.ref t) s):wpAny (model prog w) A (getItem (.ref t) (.ref sl)) Q E s:=by
 obtain⟨os,hos,hcs,hds⟩:=id hs
 have hTs:s.TypeIs (.ref sl) "slice":=⟨os,hos,hcs⟩
 unfold getItem
 try with_reducible refine wpAny_holding ?_
 first|refine Pz (PJ ?_)|skip
 refine Pz (wpAny_sequenceKey ht.typeIs (by decide) ?_)
 refine Pz (wpAny_callSpecial?_slot (name:=Str.ofString "__getitem__") ht.typeIs PyProof.Rows.slot_tuple_getitem
  (wpAny_call_entry PyProof.Rows.slot_tuple_getitem ht.typeIs entry_tuple_getitem ?_ (args_tuple_getitem _ _)))
 show wpAny _ _ (Builtin.Tuple.tupleItemsOf (.ref t) >>= _) _ _ s
 refine Pz (tupleItemsOf_ ht ?_)
 refine Pz (wpAny_typeOf hTs ?_)
 rw[Qv (by decide)]
 refine Pz (gs hs pl pu ?_)
 have hyes:((((cL items.size 0 lo:Nat):Int)==0&&(1:Int)==1&&(cL items.size items.size hi - cL items.size 0 lo)==items.size)=true):=by
  rw[hw.1,hw.2];simp
 show wpAny _ _ (if(((cL items.size 0 lo:Nat):Int)==0&&(1:Int)==1&&(cL items.size items.size hi - cL items.size 0 lo)==items.size)=true then _ else _) _ _ s
 rw[Qv hyes]
 refine Pz (m:=Builtin.Tuple.tupleIsExact _) (Pz (wpAny_typeOf ht.typeIs (PJ ?_)))
 rw[Qv (by decide)]
 refine Pz (wpAny_rule ?_)
 exact PJ ⟨_,rfl,PJ h⟩
end
def Mz:V->Option Int->Option Int->Hp->VK->Prop:=λx lo hi H Q=> ∃ a xs,x= .ref a/\H a=some (.tup xs)/\(HT.cL xs.length 0 lo=0/\HT.cL xs.length xs.length hi=xs.length)/\Q (.ref a) H
def FY:Cn X Mz:=by
 intro pZ s σ H x v vl vu lo hi sl Q I rx hs pl pu h
 obtain⟨a,xs,rfl,hx,hw,q⟩:=h
 cases rx
 obtain⟨aC,r,ht,hz⟩:=I.tuple (dh.of (K:=X.K) hx)
 have hlen:aC.toArray.size=xs.length:=by rw[PK];exact r.length.symm
 exact⟨"tuple",_,PyProof.Rows.slot_tuple_getitem.lookup,ht.typeIs,kh ht hs pl pu (by rw[hlen];exact hw) ⟨.ref a,H,I,rfl,q⟩⟩
def MD (K:Frag):V->Option Int->Option Int->Hp->VK->Prop:=λx lo hi H Q=>ME K x lo hi H Q\/Mz x lo hi H Q\/MB x lo hi H Q
def JM:Cn X (MD X.K):=Oi.or (FY.or JL)
noncomputable def CU:PV->Option Int->Option Int->M PV
 | .lst l,lo,hi=>.ret (.lst (lR l lo hi))
 | .tup l,lo,hi=>.ret (.tup (lR l lo hi))
 | .str z,lo,hi=>if z.length<=100000 then .ret (.str (Txt.slice z lo hi)) else .fail
 |_,_,_=>.fail
def JI {K:Frag}:Pf (MD K) CU:=λφ G O H n R Q y lo hi x pr dm ok r w q=>by
 cases y<;>first|exact w.elim|skip
 ·rename_i z
  rw[r.fO]
  unfold CU at w
  dsimp only at w
  by_cases hc:z.length<=100000
  ·rw[Qv hc] at w;exact .inr (.inr ⟨z,rfl,hc,q.sc ok (.str _) w⟩)
  ·rw[Qw hc] at w;exact w.elim
 ·rename_i l
  obtain⟨p,xs,rfl,h,e⟩:=r.i7
  replace w:R (.tup (lR l lo hi)) n:=w
  by_cases hc:HT.cL l.length 0 lo=0/\HT.cL l.length l.length hi=l.length
  ·rw[yI l lo hi hc] at w
   cases r with
   |full r=>exact .inr (.inl ⟨p,xs,rfl,h,by rw[<-e.1];exact hc,q.sc ok r w⟩)
  ·exact .inl (.inr ⟨p,xs,rfl,dh.of h,by rw[<-e.1];exact hc,λp' hp=>q.tup ok dm hp (pr _ G.pB) (wL e lo hi) w⟩)
 ·rename_i l
  obtain⟨p,xs,rfl,h,e⟩:=r.eQ
  exact .inl (.inl ⟨p,xs,rfl,bU.of h,λp' hp=>q.lst ok dm hp (pr _ G.pB) (wL e lo hi) w⟩)
end
section
variable {X:Cx}
def Ge (r:RelV (kV k) u):lI k u=true/\u.scannable=true:=by
 cases k with
 |inl i=>obtain⟨t,rfl⟩:=r;exact⟨rQ i t,rfl⟩
 |inr x=>obtain⟨t,rfl⟩:=r;exact⟨rP x t,rfl⟩
end
def uh (elt gens scope pos):eval (.SetComp elt gens scope pos) env=
  comprehension (.SetComp elt gens scope pos) scope env (firstIterPos gens pos) (newSet (.type "set")) (firstAsync gens) (firstIter gens env):=rfl
def CA (elt target iter:Expr) (ifs:List Expr) (scope:Scope) (pos:Pos) (it acc:Value) (env:Env):compTurn (.SetComp elt [⟨target,iter,ifs,0⟩] scope pos) 0 it acc env=(standAt iter.pos >>= λ_=>pyNext it >>= λr=>match r with
  |none=>pure (.done .next)
  |some v=>letOwnedTupleGo target it v >>= λ_=>assign target env v >>= λ_=>(forIn ifs true λc r=>if r=true then do let ok <-isTrue c env (eval c env);pure (ForInStep.yield ok) else pure (ForInStep.yield r)) >>= λok=>
   if ok=true then(eval elt env >>= λx=>standAt elt.pos >>= λ_=>call (.builtin "set.add") [acc,x] >>= λ_=>pure ()) >>= λ_=>again (.compLoop (.SetComp elt [⟨target,iter,ifs,0⟩] scope pos) 0 it acc env)
   else again (.compLoop (.SetComp elt [⟨target,iter,ifs,0⟩] scope pos) 0 it acc env)):=rfl
def A8 (one:codeAny (model prog w) A (.compLoop (.SetComp elt [⟨target,iter,ifs,0⟩] scope pos) 0 it acc env) R s)
  (two:wpAny (model prog w) A (pyIter it) (λj s'=>codeAny (model prog w) A (.compLoop (.SetComp elt [⟨target,iter,ifs,0⟩] scope pos) 0 j acc env) R s') (notedBy (model prog w) A env λx s'=>R (.error x) s') s):
  codeAny (model prog w) A (.compStart (.SetComp elt [⟨target,iter,ifs,0⟩] scope pos) 0 it acc env) R s:=
 codeAny_of_tree (wpAny_notedAt (pos:=theWindowsPlace) (m:=compStart (.SetComp elt [⟨target,iter,ifs,0⟩] scope pos) 0 it acc env) (by
  have again_at: ∀ (j:Value) (s':Shared),codeAny (model prog w) A (.compLoop (.SetComp elt [⟨target,iter,ifs,0⟩] scope pos) 0 j acc env) R s'->(Code.compLoop (.SetComp elt [⟨target,iter,ifs,0⟩] scope pos) 0 j acc env).quiet=true/\codeAny (model prog w) A (.compLoop (.SetComp elt [⟨target,iter,ifs,0⟩] scope pos) 0 j acc env) R s':=λ_ _ q=>⟨rfl,q⟩
  unfold compStart
  change wpAny _ _ (ask >>= _) _ _ s
  apply Pz
  apply wpAny_askSetting
  apply wpAny_ite
  split
  ·exact PJ (again_at it s one)
  ·apply Pz
   apply wpAny_rule
   apply Pz
   apply wpAny_standAt
   apply Pz
   exact wpAny_mono two (λj s' q=>PJ (again_at j s' q)) λ_ _ q=>q))
def yJ (I:Nat->Shared->Prop)
  (turn: ∀ n s,I n s->wpAny (model prog w) A (pyNext it) (λr s₁=>match r with
   |none=>R (.ok .next) s₁
   |some v=>wpAny (model prog w) A (letOwnedTupleGo target it v) (λ_ s₁'=>wpAny (model prog w) A (assign target env v) (λ_ s₂=>
     wpAny (model prog w) A (forIn ifs true λc r=>if r=true then do let ok <-isTrue c env (eval c env);pure (ForInStep.yield ok) else pure (ForInStep.yield r)) (λok s₃=>
      if ok=true then wpAny (model prog w) A (eval elt env) (λx s₄=>
       wpAny (model prog w) A (call (.builtin "set.add") [acc,x]) (λ_ s₅=> ∃ m,m < n/\I m s₅) (λ_ _=>False) s₄) (λ_ _=>False) s₃
      else ∃ m,m < n/\I m s₃) (λ_ _=>False) s₂) (λ_ _=>False) s₁') (λ_ _=>False) s₁) (λ_ _=>False) s)
  (n:Nat) (h:I n s):
  codeAny (model prog w) A (.compLoop (.SetComp elt [⟨target,iter,ifs,0⟩] scope pos) 0 it acc env) R s:=by
 refine codeAny_loop rfl I (λn s hI=>?_) n h
 show wpAny _ A ((compTurn (.SetComp elt [⟨target,iter,ifs,0⟩] scope pos) 0 it acc env).onRaise (λx=>do noteFrame x env;theTreesLotGoes x)) _ _ s
 refine wpAny_noted ?_
 refine wpAny_mono (E:=λ_ _=>False) ?_ (λ_ _ q=>q) λ_ _ q=>q.elim
 rw[CA]
 refine Pz (wpAny_standAt (Pz (bq (turn n s hI) λr s₁ h₁=>?_)))
 cases r with
 |none=>exact PJ h₁
 |some v=>
  refine Pz (bq h₁ λ_ s₁' h₁'=>?_)
  refine Pz (bq h₁' λ_ s₂ h₂=>Pz (bq h₂ λok s₃ h₃=>?_))
  cases ok with
  |false=>exact PJ ⟨rfl,h₃⟩
  |true=>exact Pz (Pz (bq h₃ λx s₄ h₄=>Pz (wpAny_standAt (Pz (bq h₄ λ_ s₅ h₅=>PJ (PJ ⟨rfl,h₅⟩))))))
section
variable {φ:dn}
section
variable {X:Cx} {e:Expr} {pos:Pos}
def keyOf:PV->Key
 | .int i=>.inl i
 | .str x=>.inr x
 |_=>.inl 0
def G9:PV->M PV
 | .int i=>.ret (.int i)
 | .str x=>.ret (.str x)
 |_=>.fail
def ua (ks:List Key) (k:Key):Bool:=ks.any λk'=>decide (k'=k)
def dk (zs:List PV):List Key:=zs.foldl (λks z=>if ua ks (keyOf z)=true then ks else ks++[keyOf z]) []
def AD (zs:List PV) (z:PV):dk (zs++[z])=if ua (dk zs) (keyOf z)=true then dk zs else dk zs++[keyOf z]:=by unfold dk;rw[List.foldl_append];rfl
theorem p5: ∀ (zs:List PV) (ks:List Key),(zs.foldl (λks z=>if ua ks (keyOf z)=true then ks else ks++[keyOf z]) ks).length<=ks.length+zs.length
 |[],ks=>by simp
 |z::zs,ks=>by
  rw[List.foldl_cons]
  have h:=p5 zs (if ua ks (keyOf z)=true then ks else ks++[keyOf z])
  have:(if ua ks (keyOf z)=true then ks else ks++[keyOf z]).length<=ks.length+1:=by split<;>simp
  simp only[PY]
  lia
def Ln (zs:List PV):(dk zs).length<=zs.length:=by have:=p5 zs [];simpa[dk] using this
def OY (zs:List PV) (z:PV):(λk'=>ua (dk zs) k'||decide (k'=keyOf z))=λk'=>ua (dk (zs++[z])) k':=by
 funext k'
 rw[AD]
 by_cases h:ua (dk zs) (keyOf z)=true
 ·rw[Qv h]
  by_cases e:k'=keyOf z
  ·subst e;simp[h]
  ·simp[e]
 ·rw[Qw h]
  unfold ua
  rw[List.any_append]
  by_cases e:k'=keyOf z
  ·subst e;simp
  ·have e': ¬ keyOf z=k':=λz=>e z.symm
   simp[e,e']
def OX (zs:List PV) (z:PV):(if ua (dk zs) (keyOf z)=true then(dk zs).length else(dk zs).length+1)=(dk (zs++[z])).length:=by
 rw[AD]
 by_cases h:ua (dk zs) (keyOf z)=true
 ·rw[Qv h,Qv h]
 ·rw[Qw h,Qw h];simp
def G8 (r:Rep B O H z x) (w:((G9 z).bind f).wp n R):x=kV (keyOf z)/\(f z).wp n R:=by
 cases r<;>first|exact⟨rfl,w⟩|exact w.elim
noncomputable def DN (js:List (Option Nat)) (mi:ae->M (List PV)) (bd:PV->ae->M ae) (tt:ae->M Bool) (te:ae->M PV):ae->M (List PV):=λρ=>(mi ρ).bind λl=>if l.length<=4000 then pC bd tt (λρ=>(te ρ).bind G9) l (de js ρ) else .fail
noncomputable def Bg.Mg (G:Bg φ) (D:Addr) (hD:D≠G.B):Bg φ where
 B:=G.B
 cu:=λp=>G.cu p\/p=D
 ok:=λH n=>G.ok H n/\∃ o,H D=some o
 pB:=.inl G.pB
 keep:=λH H' n k h=>⟨G.keep H H' n (λp o z=>k p o (z.imp .inl id)) h.1,by obtain⟨o,e⟩:=h.2;exact⟨o,k D _ (.inl (.inr rfl)) e⟩⟩
 tp:=λe he=>.inl (G.tp e he)
 tab:=λH n h=>G.tab H n h.1
 xF:=λH H' n h h1 h2=>⟨G.xF H H' n h.1 h1 h2,by
  obtain⟨o,e⟩:=h.2
  by_cases z:D∈φ.tabs.map (·.1)
  ·obtain⟨q,hq,e3⟩:=PX.mp z
   obtain⟨ps,e2,_⟩:=h1 q hq
   exact⟨_,e3▸e2⟩
  ·exact⟨o,h2 D _ z e⟩⟩
 EH:=λH n p h z=>by
  rcases z with z|z
  ·exact G.EH H n p h.1 z
  ·subst z;exact h.2
 dr:=λH n m Q E h h0 h1 q=>G.dr H n m Q E h.1 h0 h1 λd H' d0 d1 e o=>q d H' d0 d1 e ⟨o,by
  obtain⟨u,e2⟩:=h.2
  exact(e D u hD e2).there⟩
end
end
section
variable {prog:Program} {w:World} {A:Around} {E:Value->Shared->Prop} {s:Shared}
def Kl (ht:s.heap.IsTupleIter it t i) (hl:s.heap.IsTuple t items) (hx:items[i]?=some x)
  (q: ∀ h',h'.IsTupleIter it t (i+1)->Heap.SameBut it s.heap h'->Q x {s with heap:=h'}):wpAny (model prog w) A (Builtin.SmallTypes.nextOf (.ref it)) Q E s:=by
 have key:wpAny (model prog w) A (callSpecial? (.ref it) (Str.ofString "__next__")) (λr s'=> ∃ v,r=some v/\Q v s') E s:=by
  obtain⟨o,ho,hc,hd⟩:=id ht
  obtain⟨ol,hol,_,nl,hdl⟩:=hl
  refine wpAny_callSpecial?_slot ht.typeIs F.slot_tuple_iterator_next (wpAny_call_entry F.slot_tuple_iterator_next ht.typeIs F.entry_tuple_iterator_next ?_ (F.args_tuple_iterator_next_1 _))
  change wpAny _ _ (field (.ref it) 0 >>= _) _ _ s
  apply Pz
  apply wpAny_field ho hd (x:=.ref t) rfl
  change wpAny _ _ (if(Value.ref t==Value.none)=true then _ else _) _ _ s
  rw[Qw (λz:(Value.ref t==Value.none)=true=>Bool.false_ne_true z)]
  change wpAny _ _ (field (.ref it) 1 >>= _) _ _ s
  apply Pz
  apply wpAny_field ho hd (x:=.int i 0) rfl
  change wpAny _ _ (seqItems? (.ref t) >>= _) _ _ s
  apply Pz
  apply wpAny_seqItems hol hdl
  simp only[Int.toNat_natCast,hx]
  apply Pz
  refine wpAny_setField ho hd (by simp) (PJ ⟨x,rfl,x,rfl,q _ ⟨_,Heap.get?_update_self _ ho (Obj.isFreed_of_fields (Obj.data_mapFields hd _)),?_,?_⟩ (Heap.SameBut.update ..)⟩)
  ·exact(Obj.cls_mapFields ..).trans hc
  ·rw[Obj.data_mapFields hd]
   simp[rawInt]
 unfold Builtin.SmallTypes.nextOf
 exact Pz (wpAny_mono key (λr s' bu=>by obtain⟨v,e,h⟩:=bu;subst e;exact PJ h) λ_ _ h=>h)
def o9 (hh:A.handled=none) (ht:s.heap.IsTupleIter it t i) (hl:s.heap.IsTuple t items) (hx:items[i]?=none)
  (q: ∀ h' e,Heap.ExtBut it s.heap h'->(∃ o,h'.get? e=some o/\o.cls= .type "StopIteration")->E (.ref e) {s with heap:=h'}):wpAny (model prog w) A (Builtin.SmallTypes.nextOf (.ref it)) Q E s:=by
 have key: ∀ Q':Option Value->Shared->Prop,wpAny (model prog w) A (callSpecial? (.ref it) (Str.ofString "__next__")) Q' E s:=by
  intro Q'
  obtain⟨o,ho,hc,hd⟩:=id ht
  obtain⟨ol,hol,_,nl,hdl⟩:=hl
  refine wpAny_callSpecial?_slot ht.typeIs F.slot_tuple_iterator_next (wpAny_call_entry F.slot_tuple_iterator_next ht.typeIs F.entry_tuple_iterator_next ?_ (F.args_tuple_iterator_next_1 _))
  change wpAny _ _ (field (.ref it) 0 >>= _) _ _ s
  apply Pz
  apply wpAny_field ho hd (x:=.ref t) rfl
  change wpAny _ _ (if(Value.ref t==Value.none)=true then _ else _) _ _ s
  rw[Qw (λz:(Value.ref t==Value.none)=true=>Bool.false_ne_true z)]
  change wpAny _ _ (field (.ref it) 1 >>= _) _ _ s
  apply Pz
  apply wpAny_field ho hd (x:=.int i 0) rfl
  change wpAny _ _ (seqItems? (.ref t) >>= _) _ _ s
  apply Pz
  apply wpAny_seqItems hol hdl
  simp only[Int.toNat_natCast,hx]
  apply Pz
  apply wpAny_rule
  apply Pz
  apply wpAny_setField ho hd (by simp)
  change wpAny _ _ (newExc (.type "StopIteration") [] >>= _) _ _ _
  apply Pz
  simp only[newExc,newTuple]
  apply Pz
  refine wpAny_newObj_type ?_ (by size_fits)
  apply Pz
  refine wpAny_of_eq (a:=Value.none) (by first|rfl|(simp only[firstArgMember];rfl)) ?_
  refine wpAny_newObj_type ?_ (by size_fits)
  simp only[raiseNew]
  apply Pz
  apply wpAny_handled
  rw[show A.in1.handled=none from hh]
  refine Pz (PJ (wpAny_throw ?_))
  exact q _ _ (((Heap.SameBut.update ..).extBut.push _).push _) ⟨_,PZ _ rfl,rfl⟩
 unfold Builtin.SmallTypes.nextOf
 exact Pz (key _)
end
section
variable {X:Cx} {pZ:List (Addr×Obj)} {σ:St} {H:Hp} {s:Shared} {h':Heap}
def Inv.zt {t':Nat} {wr:List Addr} {T:Addr} (I:Inv X pZ σ H s) (hf: ∀ b∈wr,cW X pZ H b) (k: ∀ b u,b∉wr->s.heap.get? b=some u->h'.get? b=some u) (hT:s.heap.objs.size<=T)
  (new:cg X.prog X.w (upd H T o) h' T o):Inv X pZ σ (upd H T o) {s with heap:=h',toks:=t'}:=by
 have nT:H T=none:=I.a9.fresh hT
 have neT: ∀ b u,s.heap.get? b=some u->b≠T:=λb u e z=>absurd (P9 (P2 e) (z▸hT)) (Nat.lt_irrefl _)
 have neH: ∀ b u,H b=some u->b≠T:=λb u e z=>by rw[z,nT] at e;cases e
 have nw: ∀ b u,H b=some u->b∉wr:=λb u e z=>by rw[(hf b z).1] at e;cases e
 refine I.step (g':=s.gens) (d':=s.drawn) (ch:=wr) (λb hb=>⟨(hf b hb).2.2.2.1,(hf b hb).2.1,(hf b hb).2.2.2.2.1,(hf b hb).2.2.2.2.2⟩) (λb u _ _ hc e _=>k b u hc e) (λb u _ _ hc e _=>⟨u.slots,k b u hc e⟩)
  (λb u _ e n=>by rw[ag (neT b u e)];exact n) (λb u hc e=>⟨u,k b u hc e⟩) (λb xs e=>by rw[ag (neH b _ e)];exact e) (λb ob u e=>by rw[ag (neH b _ e)];exact e) (λb ps e=>⟨#[],by rw[ag (neH b _ e),e];simp⟩) (λm hm=>?_) (λb u e=>?_) I.bare
 ·obtain⟨ob,es,ep,ho,r⟩:=hm
  exact⟨ob,es,ep,k _ ob (λz=>(hf _ z).2.1 rfl) ho,r⟩
 ·by_cases hb:b=T
  ·subst hb;rw[av] at e;cases e;exact new
  ·rw[ag hb] at e
   refine(I.a9 b u e).oM (λc v hc q=>k c v ?_ q) (λc q=>by rw[ag (neH c _ q)];exact q) λc xs q=>by rw[ag (neH c _ q)];exact q
   rcases hc with z|z
   ·rw[z];exact nw b u e
   ·exact nw c _ z
def Inv.zu {t':Nat} {wr:List Addr} (I:Inv X pZ σ H s) (hf: ∀ b∈wr,cW X pZ H b) (k: ∀ b u,b∉wr->s.heap.get? b=some u->h'.get? b=some u):Inv X pZ σ H {s with heap:=h',toks:=t'}:=by
 have nw: ∀ b u,H b=some u->b∉wr:=λb u e z=>by rw[(hf b z).1] at e;cases e
 refine I.step (g':=s.gens) (d':=s.drawn) (ch:=wr) (λb hb=>⟨(hf b hb).2.2.2.1,(hf b hb).2.1,(hf b hb).2.2.2.2.1,(hf b hb).2.2.2.2.2⟩) (λb u _ _ hc e _=>k b u hc e) (λb u _ _ hc e _=>⟨u.slots,k b u hc e⟩)
  (λb u _ e n=>n) (λb u hc e=>⟨u,k b u hc e⟩) (λb xs e=>e) (λb ob u e=>e) (λb ps e=>⟨#[],by rw[e];simp⟩) (λm hm=>?_) (λb u e=>?_) I.bare
 ·obtain⟨ob,es,ep,ho,r⟩:=hm
  exact⟨ob,es,ep,k _ ob (λz=>(hf _ z).2.1 rfl) ho,r⟩
 ·refine(I.a9 b u e).oM (λc v hc q=>k c v ?_ q) (λc q=>q) λc xs q=>q
  rcases hc with z|z
  ·rw[z];exact nw b u e
  ·exact nw c _ z
end
noncomputable def Jd (K:Frag) (a:Addr):It:=
 ⟨λi H=> ∃ xs x,bU K H a xs/\xs[i]?=some x,λi H y H'=> ∃ T,y= .ref T/\H T=none/\∀ xs x,bU K H a xs->xs[i]?=some x->H'=upd H T (.tup [.int i,x]),λi H=> ∃ xs,bU K H a xs/\xs.length<=i⟩
def zZ (hT:h.get? T=some {cls:=.type "tuple",data:=.seq #[u,v]}) (ru:RelV x u) (rv:RelV y v):cg P w H h T (.tup [x,y]):=
 ⟨by show 2<=sizeLine;decide,[u,v],.cons ru (.cons rv .nil),_,hT,rfl,_,rfl⟩
def A4 {P:Program} {w:World} {K:Frag} {elts:List Expr} {kk:Nat} {pos:Pos} (a e it:Addr) (bY:e≠it):Turn P w K (.Tuple elts kk pos) (Jd K a) [e,it] e (λi h=>(∃ old,IsEnum h e it i old)/\h.IsListIter it a i) where
 mem:=by simp
 obj:=λi h st b hb=>by
  obtain⟨⟨old,he⟩,o,ho,hc,hd⟩:=st
  have hb':b=e\/b=it:=by simpa using hb
  rcases hb' with rfl|rfl
  ·exact⟨_,he,λv z=>by cases z⟩
  ·exact⟨o,ho,λv z=>by rw[hd] at z;cases z⟩
 keep:=λi h h' st k=>by
  obtain⟨⟨old,he⟩,o,ho,hc,hd⟩:=st
  exact⟨⟨old,k e (by simp) _ he⟩,o,k it (by simp) _ ho,hc,hd⟩
 item:=by
  intro X hP hw hK hc i pZ s σ H E I hf st hg
  subst hP hw hK
  obtain⟨xs,x,hq,hx⟩:=hg
  obtain⟨aC,rv,p,hz⟩:=I.list hq
  obtain⟨u,hu,ru⟩:=rv.get hx
  obtain⟨⟨old,he⟩,hit⟩:=st
  refine wpAny_pyNext_enum_item he hit p.isList (x:=u) (by simpa using hu) bY λh1 ho hit1 hT hsz k1=>?_
  refine⟨_,rfl,wpAny_letOwnedTupleGo_enum (s:={s with heap:=h1,toks:=s.toks+1}) ho λh2 he2 s2=>?_⟩
  have lt: ∀ b o,s.heap.get? b=some o->b≠s.heap.objs.size:=λb o q=>Qg (P2 q)
  have neT:s.heap.objs.size≠e:=λz=>lt e _ he z.symm
  have hT2:h2.get? s.heap.objs.size=some {cls:=.type "tuple",data:=.seq #[.int i s.toks,u]}:=(s2.2 _ neT).trans hT
  have I2:=I.zt (t':=s.toks+1) (h':=h2) (wr:=[e,it]) (T:=s.heap.objs.size) (o:=.tup [.int i,x]) hf (λb o hb q=>by
   have hb':b≠e/\b≠it:=by simpa using hb
   exact(s2.2 b hb'.1).trans (k1 b o hb'.1 hb'.2 q)) (PM _) (zZ hT2 ⟨_,rfl⟩ ru)
  refine⟨.ref s.heap.objs.size,_,I2,rfl,⟨_,rfl,I.a9.fresh (PM _),λys y hy hyx=>?_⟩,⟨⟨_,by simpa using he2⟩,hit1.at λo q=>(s2.2 it bY.symm).trans q⟩,λb hb=>?_⟩
  ·rw[I.vX hy hq,hx] at hyx
   cases hyx
   rfl
  ·have dz:b≠s.heap.objs.size:=by
    have hb':b=e\/b=it:=by simpa using hb
    rcases hb' with rfl|rfl
    ·exact λz=>neT z.symm
    ·obtain⟨o,ho',_⟩:=hit
     exact lt _ _ ho'
   rw[ag dz]
   exact(hf b hb).1
 done:=by
  intro X hP hw hK hc i pZ s σ H E I hf st hg
  subst hP hw hK
  obtain⟨xs,hq,hx⟩:=hg
  obtain⟨aC,rv,p,hz⟩:=I.list hq
  have hl:=rv.length
  obtain⟨⟨old,he⟩,hit⟩:=st
  refine wpAny_pyNext_enum_end (I.ok.hd hc) he hit p.isList (by simp;lia) λh1 k1=>⟨rfl,I.zu (t':=s.toks) hf λb o hb q=>k1 b o (λz=>hb (by simp[z])) q⟩
 self:=λ_ _ _ _ _ st h=>by
  obtain⟨⟨old,he⟩,_⟩:=st
  exact wpAny_pyIter_enum he h
noncomputable def Pw (a b:Addr):It:=
 ⟨λi H=> ∃ xs ys x y,H a=some (.tup xs)/\H b=some (.tup ys)/\xs[i]?=some x/\ys[i]?=some y,λi H r H'=> ∃ T,r= .ref T/\H T=none/\∀ xs ys x y,H a=some (.tup xs)->H b=some (.tup ys)->xs[i]?=some x->ys[i]?=some y->H'=upd H T (.tup [x,y]),λi H=> ∃ xs ys,H a=some (.tup xs)/\H b=some (.tup ys)/\(xs.length<=i\/ys.length<=i)⟩
section
variable {X:Cx} {e e2:Expr} {t1 t2:TE} {elts:List Expr} {kk:Nat} {tpos pos p:Pos} {x:Str}
def Av (K:Frag) (ta:TA):TI:=λσ H R=>ta σ H λvs H1=> ∃ a xs,vs=[.ref a]/\bU K H1 a xs/\R (Jd K a) H1
def Hn {pZ:List (Addr×Obj)} {σ:St} {H:Hp} {s:Shared} {R:It->Hp->Prop} {a:Addr} {xs:List V} (I:Inv X pZ σ H s) (ha:bU X.K H a xs) (q:R (Jd X.K a) H):
  wpAny (model X.prog X.w) X.A (call (.type "enumerate") [.ref a]) (λv s1=>wpAny (model X.prog X.w) X.A (pyIter v) (Nz X pZ σ (.Tuple elts kk tpos) R) X.xe s1) X.xe s:=by
 obtain⟨aC,rv,p1,hz⟩:=I.list ha
 refine call_enumerate_list p1.isList λh1 he hit hsz k1=>?_
 have I1:Inv X pZ σ H {s with heap:=h1}:=I.kept (t':=s.toks) k1
 refine wpAny_pyIter_enum (s:={s with heap:=h1}) he ?_
 refine⟨_,[s.heap.objs.size+1,s.heap.objs.size],_,Jd X.K a,H,rfl,I1,A4 a _ _ (Nat.succ_ne_self _),⟨⟨_,he⟩,hit⟩,λc hc=>?_,q⟩
 have hle:s.heap.objs.size<=c:=by
  rcases PR.mp hc with h|hc
  ·rw[h];exact Nat.le_succ _
  ·rw[Qf.mp hc];exact PM _
 exact I.pQ hle (I.a9.fresh hle)
def zW (hg:Gl X x) (hm:X.mg x=none) (hv:bootBuiltins x=some (.type "enumerate")) (ha:PA X [e] ta) (hn:x≠"__name__":=by decide) (nV:(x==("__debug__":Str))=false:=by decide)
  (he:starEach [e] X.env=(false,eval e X.env)::starEach [] X.env:=by rfl) (ke:(backTo pos (starEach [] X.env)).any (·.1)=false:=by rfl):PI X (.Tuple elts kk tpos) (.Call (.Name x p) [e] [] pos) (Av X.K ta):=by
 intro pZ s σ H R I h
 refine wpAny_Call_Name_kw (iq I hg hm hv ?_ hn nV)
 refine PyProof.Rows.callWith_type1 (bq (ha pos pZ s σ H _ I h) λus s1 ⟨vs,H1,I1,r1,q1⟩=>?_) he ke
 obtain⟨a,xs,rfl,h1,q⟩:=q1
 obtain⟨u,rfl,ru⟩:=r1.one
 cases ru
 exact Hn I1 h1 q
end
section
variable {φ:dn}
def N8 (l1 l2:List PV):List PV:=List.zipWith (λx y=>PV.tup [x,y]) l1 l2
inductive Px (G:Bg φ) (O:Addr->Prop) (H:Hp):List PV->It->Prop where
 |zip {a b:Addr} {xs ys:List V} {l1 l2:List PV} (na: ¬ O a) (ha:H a=some (.tup xs)) (ra:aO G.B O H l1 xs) (nb: ¬ O b) (hb:H b=some (.tup ys)) (rb:aO G.B O H l2 ys):Px G O H (N8 l1 l2) (Pw a b)
end
section
variable {φ:dn}
section
variable {X:Cx} {e:Expr}
def CT (a b c:Int):Prop:=0 < c/\c < 1000000000/\-1000000000000 < a/\a < 1000000000000/\-1000000000000 < b/\b < 1000000000000
end
end
section
variable {φ:dn}
instance (a b c:Int):Decidable (CT a b c):=by unfold CT;infer_instance
end
def mB (h0:0<=j) (h1:j < 2 ^ 63):mW i j:=by
 have e:(2:Int) ^ 63=9223372036854775808:=by decide
 have e2:(2:Int) ^ 64=18446744073709551616:=by decide
 rw[e] at h1
 exact .inr ⟨by rw[e2];lia,by rw[e2];lia⟩
def ic (h0:0<=i) (h1:i < 2 ^ 63):mW i j:=by
 have e:(2:Int) ^ 63=9223372036854775808:=by decide
 have e2:(2:Int) ^ 64=18446744073709551616:=by decide
 rw[e] at h1
 exact .inl ⟨by rw[e2];lia,by rw[e2];lia⟩
def iZ (x:Int) (ns:List Int):k8 ((x::ns).map V.int) 0=some (.int x):=(AR (j:=0) rfl:k8 ((x::ns).map V.int) ((0:Nat):Int)=some (.int x))
def Pd (x:Int) (ns:List Int):uN ((x::ns).map V.int).length 0=some 0:=by
 simp only[uN,PQ,PY]
 rw[Qv (Int.le_refl 0),Qv (by lia)]
 rfl
def EM (ns:List Int):lQ (ns.map V.int) none (some 63)=(ns.take 63).map V.int:=by
 unfold lQ
 rw[HT.oX]
 have e:HT.cL (ns.map V.int).length (ns.map V.int).length (some 63)=min 63 (ns.map V.int).length:=HT.tm _ _ 63
 rw[e,List.drop_zero,Nat.sub_zero,PD,<-List.map_take]
 congr 1
 rw[List.take_eq_take_iff]
 lia
def El {K:Frag} {a:Addr} {xs:List V} {g:TG} {tb:TS} {D:Ends} {σ:St} {H:Hp} (Pv:Nat->L2.St->Hp->Prop) (h0:Pv 0 σ H) (hl: ∀ i σ H,i<=xs.length->Pv i σ H->bU K H a xs)
  (hs: ∀ i x σ H T,xs[i]?=some x->H T=none->Pv i σ H->g (.ref T) σ (upd H T (.tup [.int i,x])) λσ2 H2=>tb {D with nx:=Pv (i+1),ct:=Pv (i+1),bk:=D.nx} σ2 H2) (hd: ∀ σ H,Pv xs.length σ H->D.nx σ H):
  ∃ W:Nat->Nat->L2.St->Hp->Prop,(∃ m,W 0 m σ H)/\∀ i m σ H,W i m σ H->
   ((Jd K a).stop i H/\D.nx σ H)\/((Jd K a).go i H/\∃ N:L2.St->Hp->Prop,(∀ σ' H',N σ' H'->∃ m',m' < m/\W (i+1) m' σ' H')/\∀ x H',(Jd K a).Ci i H x H'->g x σ H' λσ2 H2=>tb {D with nx:=N,ct:=N,bk:=D.nx} σ2 H2):=by
 refine⟨λi m σ H=>m=xs.length - i/\i<=xs.length/\Pv i σ H,⟨xs.length,by simp,Qe _,h0⟩,?_⟩
 rintro i m σ H ⟨rfl,hi,p⟩
 have q:=hl i σ H hi p
 by_cases dz:i < xs.length
 ·refine .inr ⟨⟨xs,xs[i],q,by simp[dz]⟩,Pv (i+1),λσ' H' p'=>⟨xs.length - (i+1),by lia,rfl,dz,p'⟩,λx H' y=>?_⟩
  obtain⟨T,rfl,hT,y⟩:=y
  rw[y xs xs[i] q (by simp[dz])]
  exact hs i _ σ H T (by simp[dz]) hT p
 ·have e:i=xs.length:=by lia
  subst e
  exact .inl ⟨⟨xs,q,PM _⟩,hd σ H p⟩
section
variable {X:Cx} {x:Str} {p pos tpos:Pos} {e:Expr} {elts:List Expr} {kk:Nat}
def Dl (hg:Gl X x) (hm:X.mg x=none) (hv:bootBuiltins x=some (.type "enumerate")) (ha:PA X [e] ta) (hn:x≠"__name__":=by decide) (nV:(x==("__debug__":Str))=false:=by decide)
  (he:starEach [e] X.env=(false,eval e X.env)::starEach [] X.env:=by rfl) (ke:(backTo pos (starEach [] X.env)).any (·.1)=false:=by rfl):PI X (.Tuple elts kk tpos) (.Call (.Name x p) [e] [] pos) (Av X.K ta):=zW hg hm hv ha hn nV he ke
end
def A9 (t:SetTable) (n:Nat):(t.orStandIn n).led=t.led/\(t.plain=false->(t.orStandIn n).plain=false):=by
 unfold SetTable.orStandIn
 split
 ·exact⟨rfl,id⟩
 ·exact⟨rfl,λ_=>rfl⟩
def G3 (t:SetTable) (es:Array (Int×Value)) (h:Int) (x:Value):(layNew t es h x).2.1.led=t.led/\(t.plain=false->(layNew t es h x).2.1.plain=false):=by
 unfold layNew
 split
 ·exact A9 _ _
 ·exact⟨rfl,λ_=>rfl⟩
def Bj (t:SetTable) (es:Array (Int×Value)) (n:Nat):(relayAll t es n).2.1.led=t.led/\(t.plain=false->(relayAll t es n).2.1.plain=false):=by
 unfold relayAll
 split
 ·rename_i t' order e
  have e':t'.led=t.led/\t'.plain=t.plain:=by
   unfold SetTable.relaid SetTable.laid at e
   cases hl:SetTable.layClean (SetTable.sizeAbove n - 1) (es.map (·.1)) with
   |none=>rw[hl] at e;cases e
   |some ow=>rw[hl] at e;cases e;exact⟨rfl,rfl⟩
  dsimp only
  split
  ·exact⟨e'.1,λh=>e'.2.trans h⟩
  ·exact⟨rfl,λ_=>rfl⟩
 ·exact⟨rfl,λ_=>rfl⟩
def meet (l:List Str) (z:Str):List Str:=if l.any (· ==z) then l else l++[z]
def met (zs:List Str):List Str:=zs.foldl meet []
def bb:Slot "set_iterator" "__next__" "set_iterator.__next__":=by
 refine .of (owner:="set_iterator") (n:="__next__") ?_ (by decide +kernel) (by decide +kernel) (by decide +kernel) ?_ ?_
 ·rw[typeLookup_type,builtinLookup_eq_fast]
  kernel_rfl
 ·first|exact .inl (by decide +kernel)|exact .inr (by decide +kernel)
 ·rw[isSubtype_type]
  kernel_rfl
def dG:entryFor table "set_iterator.__next__"=some Builtin.«set_iterator.__next__»:=by
 first|exact entryFor_of_fast (by kernel_rfl)|exact entryFor_of_tree (by kernel_rfl)
def d9 (a:Value):argsOk "set_iterator.__next__" ⟨[a],[]⟩:=by
 unfold argsOk
 kernel_rfl
def p3:entryFor table "set.__iter__"=some Builtin.«frozenset.__iter__»:=by
 exact entryFor_alias (id':="frozenset.__iter__") (by kernel_rfl) rfl (by decide +kernel) (by kernel_rfl)
abbrev j9 (first:Value) (i:Nat) (D:Addr) (n ep:Nat):Obj:={cls:=.type "set_iterator",data:=.fields #[first,.int i 0,.ref D,.int n 0,.int ep 0]}
section
variable {prog:Program} {w:World} {A:Around} {E:Value->Shared->Prop} {s:Shared} {I D T:Addr} {o:Obj} {es:Array (Int×Value)} {ep i slot nx:Nat} {t:SetTable} {x:Value} {Q:Option Value->Shared->Prop}
def va (hI:s.heap.get? I=some (j9 (.int slot 0) i D es.size ep)) (hD:s.heap.get? D=some o) (hd:o.data= .set es ep t) (hf:t.fits es.size=true)
  (hN: ∀ {Q':Option (Value×Nat)->Shared->Prop} {E':Value->Shared->Prop},Q' (some (x,nx)) s->wpAny (model prog w) A.in1 (setNext D slot i ep) Q' E' s)
  (hQ: ∀ h',h'.get? I=some (j9 (.int nx 0) (i+1) D es.size ep)->Heap.SameBut I s.heap h'->Q (some x) {s with heap:=h'}):wpAny (model prog w) A (pyNext (.ref I)) Q E s:=by
 have hT:s.TypeIs (.ref I) "set_iterator":=⟨_,hI,rfl⟩
 unfold pyNext
 refine Pz (wpAny_attempt (wpAny_callSpecial?_slot (name:=Str.ofString "__next__") hT bb (wpAny_call_entry bb hT dG ?_ (d9 _))))
 unfold Builtin.«set_iterator.__next__» slotArgs fieldsOf
 show wpAny _ _ (pure (Value.ref I,([]:List Value)) >>= _) _ _ s
 refine Pz (PJ ?_)
 show wpAny _ _ ((load I >>= _) >>= _) _ _ s
 refine Pz (Pz (wpAny_load hI (PJ ?_)))
 show wpAny _ _ (setEntries D >>= _) _ _ s
 refine Pz (PySem.wpAny_setEntries_of hD hd hf ?_)
 dsimp only
 rw[Qw (by simp)]
 show wpAny _ _ (setNext D ((slot:Nat):Int).toNat ((i:Nat):Int).toNat ((ep:Nat):Int).toNat >>= _) _ _ s
 simp only[Int.toNat_natCast]
 refine Pz (hN ?_)
 show wpAny _ _ (setField (.ref I) 0 (rawInt nx) >>= _) _ _ s
 refine Pz (wpAny_setField_rec hI (by simp) λh1 g1 b1=>?_)
 show wpAny _ _ (setField (.ref I) 1 (rawInt (i+1)) >>= _) _ _ _
 refine Pz (wpAny_setField_rec g1 (by simp) λh2 g2 b2=>?_)
 exact PJ ⟨x,rfl,PJ (hQ h2 g2 (b1.trans b2))⟩
def zJ (hh:A.handled=none) (hI:s.heap.get? I=some (j9 (.int slot 0) i D es.size ep)) (hD:s.heap.get? D=some o) (hd:o.data= .set es ep t) (hf:t.fits es.size=true)
  (hN: ∀ {Q':Option (Value×Nat)->Shared->Prop} {E':Value->Shared->Prop},Q' none s->wpAny (model prog w) A.in1 (setNext D slot i ep) Q' E' s)
  (hQ: ∀ h',Heap.ExtBut I s.heap h'->Q none {s with heap:=h'}):wpAny (model prog w) A (pyNext (.ref I)) Q E s:=by
 have hT:s.TypeIs (.ref I) "set_iterator":=⟨_,hI,rfl⟩
 unfold pyNext
 refine Pz (wpAny_attempt (wpAny_callSpecial?_slot (name:=Str.ofString "__next__") hT bb (wpAny_call_entry bb hT dG ?_ (d9 _))))
 unfold Builtin.«set_iterator.__next__» slotArgs fieldsOf
 show wpAny _ _ (pure (Value.ref I,([]:List Value)) >>= _) _ _ s
 refine Pz (PJ ?_)
 show wpAny _ _ ((load I >>= _) >>= _) _ _ s
 refine Pz (Pz (wpAny_load hI (PJ ?_)))
 show wpAny _ _ (setEntries D >>= _) _ _ s
 refine Pz (PySem.wpAny_setEntries_of hD hd hf ?_)
 dsimp only
 rw[Qw (by simp)]
 show wpAny _ _ (setNext D ((slot:Nat):Int).toNat ((i:Nat):Int).toNat ((ep:Nat):Int).toNat >>= _) _ _ s
 simp only[Int.toNat_natCast]
 refine Pz (hN ?_)
 show wpAny _ _ (setField (.ref I) 2 Value.none >>= _) _ _ s
 refine Pz (wpAny_setField_rec hI (by simp) λh1 g1 b1=>?_)
 show wpAny _ _ (newExc (.type "StopIteration") [] >>= _) _ _ _
 refine Pz ?_
 simp only[newExc,newTuple]
 refine Pz (wpAny_newObj_type ?_ (by size_fits))
 refine Pz (m:=firstArgMember _ _) (wpAny_of_eq (a:=Value.none) (by first|rfl|(simp only[firstArgMember];rfl)) ?_)
 refine wpAny_newObj_type ?_ (by size_fits)
 simp only[raiseNew]
 refine Pz (wpAny_handled ?_)
 rw[show A.in1.handled=none from hh]
 refine Pz (PJ (wpAny_throw ?_))
 refine Pz (wpAny_isInstance (T:="StopIteration") (b:=true) ⟨_,PZ _ rfl,rfl⟩ isSubtype_stop ?_)
 exact PJ (hQ _ ((b1.extBut.push _).push _))
def Be (hI:s.heap.get? I=some (j9 (.ref T) i D es.size ep)) (hD:s.heap.get? D=some o) (hd:o.data= .set es ep t) (hf:t.fits es.size=true) (hT0:s.heap.get? T=some oT) (hTd:oT.data= .seq places m) (hp:places[i]?=some (.int (j:Nat) 0)) (hx:es[j]?.map (·.2)=some x)
  (hQ: ∀ h',h'.get? I=some (j9 (.ref T) (i+1) D es.size ep)->Heap.SameBut I s.heap h'->Q (some x) {s with heap:=h'}):wpAny (model prog w) A (pyNext (.ref I)) Q E s:=by
 have hT:s.TypeIs (.ref I) "set_iterator":=⟨_,hI,rfl⟩
 unfold pyNext
 refine Pz (wpAny_attempt (wpAny_callSpecial?_slot (name:=Str.ofString "__next__") hT bb (wpAny_call_entry bb hT dG ?_ (d9 _))))
 unfold Builtin.«set_iterator.__next__» slotArgs fieldsOf
 show wpAny _ _ (pure (Value.ref I,([]:List Value)) >>= _) _ _ s
 refine Pz (PJ ?_)
 show wpAny _ _ ((load I >>= _) >>= _) _ _ s
 refine Pz (Pz (wpAny_load hI (PJ ?_)))
 show wpAny _ _ (setEntries D >>= _) _ _ s
 refine Pz (PySem.wpAny_setEntries_of hD hd hf ?_)
 dsimp only
 rw[Qw (by simp)]
 show wpAny _ _ (seqItems? (.ref T) >>= _) _ _ s
 refine Pz (wpAny_seqItems hT0 hTd ?_)
 simp only[Int.toNat_natCast,hp]
 show wpAny _ _ (setNextDrawn D _ _ >>= _) _ _ s
 refine Pz ?_
 unfold setNextDrawn
 refine Pz (PySem.wpAny_setState_of hD hd hf ?_)
 cases hj:es[j]? with
 |none=>rw[hj] at hx;cases hx
 |some e=>
  rw[hj] at hx
  cases hx
  simp only[Int.toNat_natCast,bne_self_eq_false,Qp,if_false,hj]
  refine PJ ?_
  show wpAny _ _ (setField (.ref I) 1 (rawInt (i+1)) >>= _) _ _ _
  refine Pz (wpAny_setField_rec hI (by simp) λh2 g2 b2=>?_)
  exact PJ ⟨e.2,rfl,PJ (hQ h2 g2 b2)⟩
def CW (hh:A.handled=none) (hI:s.heap.get? I=some (j9 (.ref T) i D es.size ep)) (hD:s.heap.get? D=some o) (hd:o.data= .set es ep t) (hf:t.fits es.size=true) (hT0:s.heap.get? T=some oT) (hTd:oT.data= .seq places m) (hp:places[i]?=none)
  (hQ: ∀ h',Heap.ExtBut I s.heap h'->Q none {s with heap:=h'}):wpAny (model prog w) A (pyNext (.ref I)) Q E s:=by
 have hT:s.TypeIs (.ref I) "set_iterator":=⟨_,hI,rfl⟩
 unfold pyNext
 refine Pz (wpAny_attempt (wpAny_callSpecial?_slot (name:=Str.ofString "__next__") hT bb (wpAny_call_entry bb hT dG ?_ (d9 _))))
 unfold Builtin.«set_iterator.__next__» slotArgs fieldsOf
 show wpAny _ _ (pure (Value.ref I,([]:List Value)) >>= _) _ _ s
 refine Pz (PJ ?_)
 show wpAny _ _ ((load I >>= _) >>= _) _ _ s
 refine Pz (Pz (wpAny_load hI (PJ ?_)))
 show wpAny _ _ (setEntries D >>= _) _ _ s
 refine Pz (PySem.wpAny_setEntries_of hD hd hf ?_)
 dsimp only
 rw[Qw (by simp)]
 show wpAny _ _ (seqItems? (.ref T) >>= _) _ _ s
 refine Pz (wpAny_seqItems hT0 hTd ?_)
 simp only[Int.toNat_natCast,hp]
 show wpAny _ _ (setField (.ref I) 0 (rawInt 0) >>= _) _ _ s
 refine Pz (wpAny_setField_rec hI (by simp) λh0 g0 b0=>?_)
 show wpAny _ _ (setField (.ref I) 2 Value.none >>= _) _ _ _
 refine Pz (wpAny_setField_rec g0 (by simp) λh1 g1 b1=>?_)
 show wpAny _ _ (newExc (.type "StopIteration") [] >>= _) _ _ _
 refine Pz ?_
 simp only[newExc,newTuple]
 refine Pz (wpAny_newObj_type ?_ (by size_fits))
 refine Pz (m:=firstArgMember _ _) (wpAny_of_eq (a:=Value.none) (by first|rfl|(simp only[firstArgMember];rfl)) ?_)
 refine wpAny_newObj_type ?_ (by size_fits)
 simp only[raiseNew]
 refine Pz (wpAny_handled ?_)
 rw[show A.in1.handled=none from hh]
 refine Pz (PJ (wpAny_throw ?_))
 refine Pz (wpAny_isInstance (T:="StopIteration") (b:=true) ⟨_,PZ _ rfl,rfl⟩ isSubtype_stop ?_)
 exact PJ (hQ _ (((b0.trans b1).extBut.push _).push _))
end
def ki:Slot "set_iterator" "__iter__" "set_iterator.__iter__":=by
 refine .of (owner:="set_iterator") (n:="__iter__") ?_ (by decide +kernel) (by decide +kernel) (by decide +kernel) ?_ ?_
 ·rw[typeLookup_type,builtinLookup_eq_fast]
  kernel_rfl
 ·first|exact .inl (by decide +kernel)|exact .inr (by decide +kernel)
 ·rw[isSubtype_type]
  kernel_rfl
def pY:entryFor table "set_iterator.__iter__"=some Builtin.«dict_keyiterator.__iter__»:=by
 exact entryFor_alias (id':="dict_keyiterator.__iter__") (by kernel_rfl) rfl (by decide +kernel) (by kernel_rfl)
def qS (a:Value):argsOk "set_iterator.__iter__" ⟨[a],[]⟩:=by
 unfold argsOk
 kernel_rfl
theorem kT: ∀ (l:List α) (i:Nat) (x:α),l[i]?=some x->(x::l.eraseIdx i).Perm l
 |[],i,x,h=>by simp at h
 |y::l,0,x,h=>by simp at h;subst h;exact .rfl
 |y::l,i+1,x,h=>by
  simp only[P0] at h
  exact(List.Perm.swap y x _).trans ((kT l i x h).cons y)
theorem rC (next:Nat->Nat): ∀ (n k:Nat) (l:List α) (out:Array α),l.length=n->(pickOrder.go next n k l out).toList.Perm (out.toList++l)
 |0,k,l,out,h=>by
  have:l=[]:=Ql h
  subst this
  simp[pickOrder.go]
 |n+1,k,l,out,h=>by
  unfold pickOrder.go
  have hl:next k % l.length < l.length:=Nat.mod_lt _ (by lia)
  have e:l[next k % l.length]?=some l[next k % l.length]:=Py hl
  rw[e]
  dsimp only
  refine(rC next n (k+1) (l.eraseIdx (next k % l.length)) _ (by rw[List.length_eraseIdx];split<;>lia)).trans ?_
  rw[Array.toList_push,List.append_assoc]
  exact(kT l _ _ e).append_left _
section
variable {prog:Program} {w:World} {A:Around} {E:Value->Shared->Prop}
def FC (hn:0 < n) (h: ∀ (j:Nat) d',j < n->Q j {s with drawn:=d'}):wpAny (model prog w) A (choose .order n) Q E s:=λΓ p hΓ=>by
 unfold choose
 rw[Sem.wp_choose]
 exact⟨by lia,h _ _ (Nat.mod_lt _ hn)⟩
theorem sj: ∀ (n:Nat) (l:List α) (s:Shared) (Q:List α->Shared->Prop),l.length=n->(∀ (ys:List α) d',ys.Perm l->Q ys {s with drawn:=d'})->wpAny (model prog w) A (drawOrder n l) Q E s
 |0,l,s,Q,hl,h=>by
  have:l=[]:=Ql hl
  subst this
  exact PJ (h [] s.drawn .rfl)
 |n+1,[],s,Q,hl,h=>by cases hl
 |n+1,y::l,s,Q,hl,h=>by
  unfold drawOrder
  refine Pz (FC (by simp) λj d' hj=>?_)
  have e:(y::l)[j]?=some (y::l)[j]:=Py hj
  rw[e]
  dsimp only
  refine Pz (sj n _ _ _ (by rw[List.length_eraseIdx];split<;>lia) λys d2 hp=>?_)
  exact PJ (h _ d2 ((hp.cons _).trans (kT _ _ _ e)))
def oS (hI:s.heap.get? I=some (j9 first i D n ep)) (h:Q (.ref I) s):wpAny (model prog w) A (pyIter (.ref I)) Q E s:=by
 have hT:s.TypeIs (.ref I) "set_iterator":=⟨_,hI,rfl⟩
 refine wpAny_pyIter_slot hT ki (wpAny_call_entry ki hT pY ?_ (qS _))
 show wpAny _ _ (ret (.ref I)) _ _ s
 exact PJ ⟨_,rfl,"set_iterator",_,hT,bb.lookup,h⟩
def Mj {I D T:Addr} {o oT:Obj} {ps:List Nat} (hh:A.handled=none) (hID:I≠D) (hIT:I≠T) (hd:o.data= .set es ep t) (hf:t.fits es.size=true) (hTd:oT.data= .seq (ps.map λ(j:Nat)=>rawInt j).toArray m) (hps: ∀ j∈ps,j < es.size):
  Walks prog w A I [I,D,T] [I] ps.length (λi v=>(ps.map λj=>(es[j]?.map (·.2)).getD .none)[i]?=some v) (λi h=>h.get? I=some (j9 (.ref T) i D es.size ep)/\h.get? D=some o/\h.get? T=some oT) where
 sub:=λc hc=>by simp at hc;simp[hc]
 frame:=λi h h' st k=>⟨k I (by simp) _ st.1,k D (by simp) _ st.2.1,k T (by simp) _ st.2.2⟩
 item:=λi s Q E hi st hQ=>by
  have hj:=hps ps[i] (Qq hi)
  refine Be (x:=(es[ps[i]]).2) (j:=ps[i]) st.1 st.2.1 hd hf st.2.2 hTd ?_ ?_ λh' g sb=>?_
  ·simp[Py hi,rawInt]
  ·rw[Qd hj];rfl
  ·refine hQ _ h' s.toks ?_ ⟨g,(sb.2 D hID.symm).trans st.2.1,(sb.2 T hIT.symm).trans st.2.2⟩ λc u hc e=>(sb.2 c λz=>hc (by simp[z])).trans e
   simp[Py hi,Qd hj]
 done:=λs Q E st hQ=>by
  refine CW hh st.1 st.2.1 hd hf st.2.2 hTd (by simp) λh' eb=>?_
  exact hQ h' s.toks λc u hc e=>eb c u (λz=>hc (by simp[z])) e
 self:=λi s Q E st hQ=>oS st.1 hQ
end
section
variable {prog:Program} {w:World} {A:Around} {E:Value->Shared->Prop} {s:Shared} {I D:Addr} {o:Obj} {es:Array (Int×Value)} {ep:Nat} {t:SetTable}
def jX (h:Q (w.params.followText "set-order") s):wpAny (model prog w) A setsByText Q E s:=by
 unfold setsByText
 exact Pz (wpAny_askSetting (PJ h))
def nextT (hb:w.params.followText "set-order"=true) (hD:s.heap.get? D=some o) (hd:o.data= .set es ep t) (hf:t.fits es.size=true) (h:Q (((pickOrder (w.params.setOrder D ep) es)[i]?).map λe=>(e.2,slot)) s):wpAny (model prog w) A (setNext D slot i ep) Q E s:=by
 unfold setNext
 refine Pz (PySem.wpAny_setState_of hD hd hf ?_)
 dsimp only
 refine Pz (jX ?_)
 rw[hb,Qv rfl,Qw (by simp)]
 refine Pz ?_
 unfold setWalk
 refine Pz (PySem.wpAny_setState_of hD hd hf ?_)
 dsimp only
 refine Pz (jX ?_)
 rw[hb,Qv rfl]
 refine Pz (wpAny_askSetting (PJ ?_))
 exact PJ h
def rD (next:Nat->Nat) (es:Array (Int×Value)):(pickOrder next es).toList.Perm es.toList:=by
 have:=rC next es.size 0 es.toList #[] (by simp)
 simpa[pickOrder] using this
def mr (next:Nat->Nat) (es:Array (Int×Value)):(pickOrder next es).size=es.size:=by
 have:=(rD next es).length_eq
 simpa using this
def Mh (hh:A.handled=none) (hID:I≠D) (hb:w.params.followText "set-order"=true) (hd:o.data= .set es ep t) (hf:t.fits es.size=true):
  Walks prog w A I [I,D] [I] es.size (λi v=>((pickOrder (w.params.setOrder D ep) es).toList.map (·.2))[i]?=some v) (λi h=>h.get? I=some (j9 (.int (0:Nat) 0) i D es.size ep)/\h.get? D=some o) where
 sub:=λc hc=>by simp at hc;simp[hc]
 frame:=λi h h' st k=>⟨k I (by simp) _ st.1,k D (by simp) _ st.2⟩
 item:=λi s Q E hi st hQ=>by
  have hz:=mr (w.params.setOrder D ep) es
  have e:(pickOrder (w.params.setOrder D ep) es)[i]?=some (pickOrder (w.params.setOrder D ep) es)[i]:=Qd (by lia)
  refine va (x:=(pickOrder (w.params.setOrder D ep) es)[i].2) (nx:=0) st.1 st.2 hd hf (λ{Q' E'} h=>nextT hb st.2 hd hf (by rw[e];exact h)) λh' g sb=>?_
  refine hQ _ h' s.toks ?_ ⟨g,(sb.2 D hID.symm).trans st.2⟩ λc u hc e=>(sb.2 c λz=>hc (by simp[z])).trans e
  rw[P6,Array.getElem?_toList,e]
  rfl
 done:=λs Q E st hQ=>by
  have hz:=mr (w.params.setOrder D ep) es
  refine zJ hh st.1 st.2 hd hf (λ{Q' E'} h=>nextT hb st.2 hd hf (by rw[Array.getElem?_eq_none (by lia)];exact h)) λh' eb=>?_
  exact hQ h' s.toks λc u hc e=>eb c u (λz=>hc (by simp[z])) e
 self:=λi s Q E st hQ=>oS st.1 hQ
def Jh (prog:Program) (w:World) (A:Around) (es:Array (Int×Value)) (D I:Addr) (h:Heap) (z:Nat):Prop:=
 ∃ (out:List Value) (fp:List Addr) (Sx:Nat->Heap->Prop),out.Perm (es.toList.map (·.2))/\Walks prog w A I fp [I] out.length (λi v=>out[i]?=some v) Sx/\Sx 0 h/\∀ c∈fp,c=D\/z<=c
end
abbrev HE (w:World):Bool:=w.params.followText "set-order"
def oU:typeLookup (.type "set") "__len__"=pure (some (.builtin "set.__len__")):=by
 rw[typeLookup_type,builtinLookup_eq_fast]
 kernel_rfl
def Inv.M5 (I:Inv X pZ σ H s) (k: ∀ b u,s.heap.get? b=some u->h'.get? b=some u):Inv X pZ σ H {s with heap:=h',drawn:=d',toks:=t'}:=by
 refine I.step (g':=s.gens) (ch:=[]) (λ_ z=>nomatch z) (λb u _ _ _ e _=>k b u e) (λb u _ _ _ e _=>⟨u.slots,k b u e⟩) (λb u _ e n=>n) (λb u _ e=>⟨u,k b u e⟩) (λb xs e=>e) (λb ob u e=>e) (λb ps e=>⟨#[],by rw[e];simp⟩) (λm hm=>?_) (I.a9.kept k) I.bare
 obtain⟨ob,es,ep,ho,r⟩:=hm
 exact⟨ob,es,ep,k _ ob ho,r⟩
mutual
def toD:PV->Option PyData
 | .aD=>some .none
 | .bl b=>some (.bool b)
 | .int i=>some (.int i)
 | .str x=>some (.str x)
 | .tup l=>(lY l).map .tuple
 | .lst l=>(lY l).map .list
 |_=>none
def lY:List PV->Option (List PyData)
 |[]=>some []
 |y::l=>(toD y).bind λd=>(lY l).map (d:: ·)
end
theorem mm: ∀ (l:List PV) (xs:List V) (aC:List Value) (ds:List PyData),l.length=xs.length->(∀ (i:Nat) (y:PV) (x:V),l[i]?=some y->xs[i]?=some x->∀ v d,RelV x v->toD y=some d->∃ as,Reads h v d as)->Vals xs aC->lY l=some ds->∃ as,ReadsAll h aC ds as
 |[],[],_,ds,_,_,.nil,e=>by
  simp only[lY] at e
  cases e
  exact⟨_,.nil⟩
 |y::l,x::xs,_,ds,hl,ih,.cons r rs,e=>by
  simp only[lY] at e
  cases e1:toD y with
  |none=>rw[e1] at e;cases e
  |some d=>
   rw[e1] at e
   cases e2:lY l with
   |none=>rw[e2] at e;cases e
   |some dl=>
    rw[e2] at e
    cases e
    obtain⟨as,r1⟩:=ih 0 y x rfl rfl _ d r e1
    obtain⟨bs,r2⟩:=mm l xs _ dl (by simpa using hl) (λi y' x' hy hx=>ih (i+1) y' x' hy hx) rs e2
    exact⟨_,.cons r1 r2⟩
 |[],_::_,_,_,hl,_,_,_=>by cases hl
 |_::_,[],_,_,hl,_,_,_=>by cases hl
def C3 (ok:jU P w H h) (r:Rep B O H y x): ∀ v d,RelV x v->toD y=some d->∃ as,Reads h v d as:=by
 induction r with
 |aD=>
  intro v d rv e
  simp only[toD] at e
  cases e
  cases rv
  exact⟨_,.none⟩
 |bl b=>
  intro v d rv e
  simp only[toD] at e
  cases e
  cases rv
  exact⟨_,.bool b⟩
 |int i=>
  intro v d rv e
  simp only[toD] at e
  cases e
  obtain⟨t,rfl⟩:=rv
  exact⟨_,.int i t⟩
 |str z=>
  intro v d rv e
  simp only[toD] at e
  cases e
  obtain⟨t,rfl⟩:=rv
  exact⟨_,.str z t⟩
 |tup hO hp hl hr ih=>
  intro v d rv e
  simp only[toD] at e
  obtain⟨ds,e1,rfl⟩:=Qa.mp e
  cases rv
  obtain⟨_,aC,rs,o,ho,hc,n,hd⟩:=ok _ _ hp
  obtain⟨as,ra⟩:=mm _ _ aC ds hl ih rs e1
  exact⟨_,.tuple ho hc hd (by simpa using ra)⟩
 |lst hO hp hl hr ih=>
  intro v d rv e
  simp only[toD] at e
  obtain⟨ds,e1,rfl⟩:=Qa.mp e
  cases rv
  obtain⟨_,aC,n,rs,ho⟩:=ok _ _ hp
  obtain⟨as,ra⟩:=mm _ _ aC ds hl ih rs e1
  exact⟨_,.list ho rfl rfl (by simpa using ra)⟩
 |cU hO hp hk hr ih=>
  intro v d rv e
  simp only[toD] at e
  cases e
 |sP hO hp=>
  intro v d rv e
  simp only[toD] at e
  cases e
 |bD=>
  intro v d rv e
  simp only[toD] at e
  cases e
section
variable {X:Cx}
def jb (d:PyData):Prop:=d.showable=true/\d.hasDict=false/\d.shown.length<=1000000/\d.depth<=40
def JR:List V->Hp->VK->Prop:=λxs H Q=> ∃ (B:Addr) (O:Addr->Prop) (l:List PV) (x:V) (d:PyData),xs=[x]/\Rep B O H (.tup l) x/\toD (.tup l)=some d/\jb d/\Q (.str d.shown) H
def yM (hg:X.A.guards=some []) (hu:X.A.units+64 < cLine):fL X (.builtin "repr") JR:=by
 intro pZ s σ H xs us Q I r h
 obtain⟨B,O,l,x,d,rfl,rp,hd,⟨h1,h2,h3,h4⟩,q⟩:=h
 obtain⟨u,rfl,rx⟩:=vals1 r
 obtain⟨as,rd⟩:=C3 I.a9 rp u d rx hd
 simp only[toD] at hd
 obtain⟨ds,e1,rfl⟩:=Qa.mp hd
 have hz:(PyData.tuple ds).shown.length<=sizeLine:=by rw[Qm];lia
 have rd0:=rd
 cases rd with
 |tuple g1 g2 g3 g4=>
  rename_i a o vs n
  have hz':(tupleText (PyData.shownAll ds)).length<=sizeLine:=by simpa only[PyData.shown] using hz
  obtain⟨bs,hb,hk⟩:=ReprAllK.of_readsAll (prog:=X.prog) (w:=X.w) g4 (by simpa[PyData.showable] using h1) (λhx=>absurd hx (by simpa[PyData.hasDict] using h2)) (λt ht=>P7 (tupleText_mem_le ht) hz')
  have hna:a∉bs:=not_mem_of_deeper rd0 (by simp only[PyData.depth];lia) hb
  simp only[PyData.depth] at h4
  refine call_repr_slot (by lia) ⟨o,g1,g2⟩ PySem.F.slot_tuple_repr ?_
  refine call_tuple_reprK (h₀:=s.heap) g1 g2 g3 hna hk (g:=[]) (by first|exact hg|simpa[Around.in1] using hg) (λb _=>Clear.nil b) (by show X.A.units+1+_ < cLine;lia) (λ_ _ e=>e) (λh' u tk k=>⟨_,_,rfl,?_⟩) hz'
  exact⟨.str _,H,I.kept k,⟨_,rfl⟩,by simpa only[PyData.shown] using q⟩
end
instance (d:PyData):Decidable (jb d):=by unfold jb;infer_instance
section
open PySem.W (KasT kas_rev kas_asc kas_desc kas_tail3 kas_descPart kas_count kas_place kas_bin kas_sort)
section
variable (r:Nat->Int)
def runK {α:Type}:KasT α->α
 | .ret a=>a
 | .ask i j k=>runK (k (decide (r i < r j)))
theorem run_bind (f:α->KasT β): ∀ t:KasT α,runK r (t.bind f)=runK r (f (runK r t))
 | .ret a=>rfl
 | .ask i j k=>run_bind f (k (decide (r i < r j)))
def zO [Decidable c] (a b:KasT α):runK r (if c then a else b)=if c then runK r a else runK r b:=by split<;>rfl
def kg (p:Array Nat) (k:Nat):Int:=r (p.getD k 0)
def xw (p:Array Nat) (m:Nat):Prop:= ∀ i j,i < j->j < m->kg r p i < kg r p j
def Fx (p:Array Nat):Prop:= ∀ i j,i < p.size->j < p.size->i≠j->kg r p i≠kg r p j
variable {r}
def Cv (h1:1<=n) (h:xw r p n) (h':kg r p (n - 1) < kg r p n):xw r p (n+1):=λi j hij hj=>by
 by_cases e:j=n
 ·subst e
  by_cases e2:i=j - 1
  ·subst e2;exact h'
  ·exact Int.lt_trans (h i (j - 1) (by lia) (by lia)) h'
 ·exact h i j hij (by lia)
theorem y0 (u:Fx r p): ∀ (f n:Nat),1<=n->n+f<=p.size->xw r p n->∃ m,runK r (kas_asc p f n)=m/\n<=m/\m<=n+f/\xw r p m/\(m < n+f->kg r p m < kg r p (m - 1))
 |0,n,h1,hz,h=>⟨n,rfl,by lia,by lia,h,λz=>by lia⟩
 |f+1,n,h1,hz,h=>by
  unfold kas_asc
  show ∃ m,runK r (if decide (r (p.getD n 0) < r (p.getD (n - 1) 0))=true then KasT.ret n else kas_asc p f (n+1))=m/\_
  by_cases c:r (p.getD n 0) < r (p.getD (n - 1) 0)
  ·rw[Qv (by simpa using c)]
   exact⟨n,rfl,by lia,by lia,h,λ_=>c⟩
  ·rw[Qw (by simpa using c)]
   have ne:=u (n - 1) n (by lia) (by lia) (by lia)
   have lt:kg r p (n - 1) < kg r p n:=by
    have: ¬ kg r p n < kg r p (n - 1):=c
    lia
   obtain⟨m,e,a1,a2,a3,a4⟩:=y0 u f (n+1) (by lia) (by lia) (Cv h1 h lt)
   exact⟨m,e,by lia,by lia,a3,λz=>a4 (by lia)⟩
def NJ (r:Nat->Int) (p:Array Nat) (m:Nat):Prop:= ∀ i j,i < j->j < m->kg r p j < kg r p i
def wA (h1:1<=n) (h:NJ r p n) (h':kg r p n < kg r p (n - 1)):NJ r p (n+1):=λi j hij hj=>by
 by_cases e:j=n
 ·subst e
  by_cases e2:i=j - 1
  ·subst e2;exact h'
  ·exact Int.lt_trans h' (h i (j - 1) (by lia) (by lia))
 ·exact h i j hij (by lia)
theorem AE (u:Fx r p): ∀ (f n:Nat),1<=n->n+f<=p.size->NJ r p n->∃ m,runK r (kas_desc f p n 0)=(p,m,0)/\n<=m/\m<=n+f/\NJ r p m
 |0,n,h1,hz,h=>⟨n,rfl,by lia,by lia,h⟩
 |f+1,n,h1,hz,h=>by
  unfold kas_desc
  by_cases c:r (p.getD n 0) < r (p.getD (n - 1) 0)
  ·obtain⟨m,e,a1,a2,a3⟩:=AE u f (n+1) (by lia) (by lia) (wA h1 h c)
   refine⟨m,?_,by lia,by lia,a3⟩
   show runK r (if decide (r (p.getD n 0) < r (p.getD (n - 1) 0))=true then _ else _)=_
   rw[Qv (by simpa using c),Qw (by lia)]
   exact e
  ·have ne:=u (n - 1) n (by lia) (by lia) (by lia)
   have lt:r (p.getD (n - 1) 0) < r (p.getD n 0):=by
    have n1: ¬ kg r p n < kg r p (n - 1):=c
    have n2:kg r p (n - 1) < kg r p n:=by lia
    exact n2
   refine⟨n,?_,by lia,by lia,h⟩
   show runK r (if decide (r (p.getD n 0) < r (p.getD (n - 1) 0))=true then _ else _)=_
   rw[Qw (by simpa using c)]
   show runK r (if decide (r (p.getD (n - 1) 0) < r (p.getD n 0))=true then _ else _)=_
   rw[Qv (by simpa using lt)]
   rfl
def JQ (hm:m<=p.size):(kas_rev p 0 m).getD k 0=if k < m then p.getD (m - 1 - k) 0 else p.getD k 0:=by
 have e:=getElem?_mirror_all (xs:=p) (i:=0) (j:=m) hm k
 unfold kas_rev
 rw[P8,e]
 by_cases c:k < m
 ·rw[Qv ⟨Qe _,c⟩,Qv c,P8]
  congr 2
  lia
 ·rw[Qw (λz=>c z.2),Qw c,P8]
def tw (hm:m<=p.size) (k:Nat):kg r (kas_rev p 0 m) k=if k < m then kg r p (m - 1 - k) else kg r p k:=by
 unfold kg
 rw[JQ hm]
 by_cases c:k < m
 ·rw[Qv c,Qv c]
 ·rw[Qw c,Qw c]
def zR (hm:m<=p.size) (u:Fx r p):Fx r (kas_rev p 0 m):=λi j hi hj ne=>by
 have hz:(kas_rev p 0 m).size=p.size:=mirror_size _ _ _ _
 rw[hz] at hi hj
 rw[tw hm,tw hm]
 split<;>split
 ·exact u _ _ (by lia) (by lia) (by lia)
 ·exact u _ _ (by lia) (by lia) (by lia)
 ·exact u _ _ (by lia) (by lia) (by lia)
 ·exact u _ _ hi hj ne
def Gd (hm:m<=p.size) (h:NJ r p m):xw r (kas_rev p 0 m) m:=λi j hij hj=>by
 rw[tw hm,tw hm,Qv (by lia),Qv hj]
 exact h (m - 1 - j) (m - 1 - i) (by lia) (by lia)
def count_is (u:Fx r p) (h2:1<=p.size): ∃ m p',runK r (kas_count p.size p)=(m,p')/\1<=m/\m<=p.size/\p'.size=p.size/\p'.Perm p/\Fx r p'/\xw r p' m:=by
 unfold kas_count
 rw[run_bind]
 obtain⟨n,e,a1,a2,a3,a4⟩:=y0 u (p.size - 1) 1 (by lia) (by lia) (λi j hij hj=>by lia)
 rw[e]
 by_cases c1:n=p.size
 ·rw[Qv (by simpa using c1)]
  exact⟨n,p,rfl,a1,by lia,rfl,.refl _,u,a3⟩
 ·rw[Qw (by simpa using c1)]
  by_cases c2:n > 1
  ·rw[Qv c2]
   have lt:r (p.getD 0 0) < r (p.getD (n - 1) 0):=a3 0 (n - 1) (by lia) (by lia)
   refine⟨n,p,?_,a1,by lia,rfl,.refl _,u,a3⟩
   show runK r (if decide (r (p.getD 0 0) < r (p.getD (n - 1) 0))=true then _ else _)=_
   rw[Qv (by simpa using lt)]
   rfl
  ·rw[Qw c2]
   have en:n=1:=by lia
   subst en
   have lt:=a4 (by lia)
   unfold kas_descPart
   rw[run_bind]
   obtain⟨m,e2,b1,b2,b3⟩:=AE u (p.size - (1+1)) (1+1) (by lia) (by lia) (wA (PM 1) (λi j hij hj=>by lia) lt)
   rw[e2]
   rw[Qw (by show ¬ (0 > 0);lia)]
   unfold kas_tail3
   rw[run_bind]
   have hz:(kas_rev p 0 m).size=p.size:=mirror_size _ _ _ _
   obtain⟨m',e3,d1,d2,d3,d4⟩:=y0 (zR (m:=m) (by lia) u) (p.size - m) m (by lia) (by rw[hz];lia) (Gd (by lia) b3)
   rw[e3]
   exact⟨m',kas_rev p 0 m,rfl,by lia,by lia,hz,mirror_perm _ _ _ _,zR (by lia) u,d3⟩
theorem o5 (u:Fx r p) (hk:k < p.size) (h:xw r p k): ∀ (f l q:Nat),q<=l+f->q<=k->l<=q->(∀ i,i < l->kg r p i < kg r p k)->(∀ i,q<=i->i < k->kg r p k < kg r p i)->∃ m,runK r (kas_place p k f l q)=m/\m<=k/\(∀ i,i < m->kg r p i < kg r p k)/\∀ i,m<=i->i < k->kg r p k < kg r p i
 |0,l,q,hf,hq,hl,lo,hi=>⟨l,rfl,by lia,lo,λi h1 h2=>hi i (by lia) h2⟩
 |f+1,l,q,hf,hq,hl,lo,hi=>by
  unfold kas_place
  rw[zO]
  by_cases c:l ≥ q
  ·rw[Qv c]
   exact⟨l,rfl,by lia,lo,λi h1 h2=>hi i (by lia) h2⟩
  ·rw[Qw c]
   show ∃ m,runK r (if decide (r (p.getD k 0) < r (p.getD ((l+q) / 2) 0))=true then _ else _)=m/\_
   have hmid:(l+q) / 2 < q:=by lia
   by_cases d:r (p.getD k 0) < r (p.getD ((l+q) / 2) 0)
   ·rw[Qv (by simpa using d)]
    refine o5 u hk h f l ((l+q) / 2) (by lia) (by lia) (by lia) lo λi h1 h2=>?_
    by_cases e:i=(l+q) / 2
    ·subst e;exact d
    ·exact Int.lt_trans d (h _ i (by lia) h2)
   ·rw[Qw (by simpa using d)]
    have ne:=u ((l+q) / 2) k (by lia) hk (by lia)
    have lt:kg r p ((l+q) / 2) < kg r p k:=by
     have d': ¬ kg r p k < kg r p ((l+q) / 2):=d
     lia
    refine o5 u hk h f ((l+q) / 2+1) q (by lia) hq (by lia) (λi h1=>?_) hi
    by_cases e:i=(l+q) / 2
    ·subst e;exact lt
    ·exact Int.lt_trans (h i _ (by lia) (by lia)) lt
def Lv (hk:k < p.size) (hl:l<=k):kg r (bubble p k (k - l)) i=if i=l then kg r p k else if l < i/\i<=k then kg r p (i - 1) else kg r p i:=by
 have e:=getElem?_bubble (xs:=p) hk (k - l) (by lia) i
 unfold kg
 rw[P8,e,show k - (k - l)=l by lia]
 by_cases c1:i=l
 ·rw[Qv c1,Qv c1,P8]
 ·rw[Qw c1,Qw c1]
  by_cases c2:l < i/\i<=k
  ·rw[Qv c2,Qv c2,P8]
  ·rw[Qw c2,Qw c2,P8]
theorem EX: ∀ (f:Nat) (p:Array Nat) (k:Nat),k+f=p.size->Fx r p->xw r p k->∃ p',runK r (kas_bin f p k)=p'/\p'.size=p.size/\p'.Perm p/\xw r p' p.size
 |0,p,k,hz,u,h=>⟨p,rfl,rfl,.refl _,by rw[<-hz];exact h⟩
 |f+1,p,k,hz,u,h=>by
  unfold kas_bin
  rw[run_bind]
  obtain⟨l,e,a1,a2,a3⟩:=o5 u (show k < p.size by lia) h k 0 k (by lia) (PM _) (Qe _) (λi hi=>by lia) (λi h1 h2=>by lia)
  rw[e]
  have hb:(bubble p k (k - l)).size=p.size:=bubble_size _ _ _
  have at_:=λi=>Lv (r:=r) (p:=p) (k:=k) (l:=l) (i:=i) (by lia) a1
  have u':Fx r (bubble p k (k - l)):=λi j hi hj ne=>by
   rw[hb] at hi hj
   rw[at_ i,at_ j]
   repeat' split
   all_goals first|(exfalso;lia)|exact u _ _ (by lia) (by lia) (by lia)
  have h':xw r (bubble p k (k - l)) (k+1):=λi j hij hj=>by
   rw[at_ i,at_ j]
   repeat' split
   all_goals first|(exfalso;lia)|exact a2 _ (by lia)|exact a3 _ (by lia) (by lia)|exact h _ _ (by lia) (by lia)
  obtain⟨p',e',b1,b2,b3⟩:=EX f (bubble p k (k - l)) (k+1) (by rw[hb];lia) u' h'
  exact⟨p',e',b1.trans hb,b2.trans (bubble_perm _ _ _),by rw[hb] at b3;exact b3⟩
def FU (hn:1<=n) (u: ∀ i j,i < n->j < n->i≠j->r i≠r j): ∃ p,runK r (kas_sort n)=p/\p.size=n/\p.Perm (List.toArray (List.range n))/\xw r p n:=by
 have hz:(List.toArray (List.range n)).size=n:=by simp
 have u0:Fx r (List.toArray (List.range n)):=λi j hi hj ne=>by
  rw[hz] at hi hj
  unfold kg
  have e: ∀ k,k < n->(List.toArray (List.range n)).getD k 0=k:=λk hk=>by
   rw[P8]
   simp[hk]
  rw[e i hi,e j hj]
  exact u i j hi hj ne
 unfold kas_sort
 rw[run_bind]
 obtain⟨m,p',e,a1,a2,a3,a4,a5,a6⟩:=count_is u0 (by rw[hz];exact hn)
 rw[hz] at e a2 a3
 rw[e]
 dsimp only
 rw[zO]
 by_cases c:m < n
 ·rw[Qv c,Nat.max_eq_left a1]
  obtain⟨p2,e2,b1,b2,b3⟩:=EX (n - m) p' m (by lia) a5 a6
  rw[a3] at b1 b3
  exact⟨p2,e2,b1,b2.trans a4,b3⟩
 ·rw[Qw c]
  have:m=n:=by lia
  subst this
  exact⟨p',rfl,a3,a4,a6⟩
end
end
def FA (h:Heap) (mg:Str->Option Value):Prop:= ∃ bm ob,mg "__builtins__"=some (.ref bm)/\bm≠builtinsNs/\h.get? bm=some ob/\ob.cls= .type "module"/\ob.dict=some builtinsNs/\ob.data= .plain
abbrev wz:Obj:={cls:=.none,data:=.fields #[]}
def BU {K:Frag} {a:Addr} {tbs:List Addr} {x:Str} {s:Shared} {vs:List Value}
  (KX:K.In s.heap) (hns:s.heap.Ns mainGlobals mg) (hbn:s.heap.Ns builtinsNs mb) (hbb: ∀ x:Str,x≠"__name__"->mb x=bootBuiltins x) (hlim:s.heap.NoLimit) (hbm:FA s.heap mg) (hg:s.gens= #[])
  (ha:s.heap.get? a=some {cls:=.type "list",data:=.seq vs.toArray}) (hi:IntsAre vs ns) (hl:ns.length<=sizeLine) (hr:cM k callerA)
  (ht: ∀ tb∈tbs,isCodeTable s.heap tb/\s.heap.get? tb=some wz/\K.lookup tb=none)
  (F: ∀ base:Heap,K.In base->base.Ns mainGlobals mg->FA base mg->di P w K mg base CX k fa fd [x] sp) (hbind: ∀ (s:Shared) (u:Value),BindsTo s fd ⟨[u],[]⟩ [(x,u)])
  (hsp: ∀ H:Hp,(∀ tb∈tbs,H tb=some (.nE #[]))->bU K H a (ns.map V.int)->sp [.ref a] H (λv _=>v= .bl true) λ_ _ _=>False)
  (hCX: ∀ H e s',CX [] H s (λ_ _ _=>False) e s'->False):
  codeAny (model P w) callerA (.call (.ref fa) ⟨[.ref a],[]⟩) (λr s'=>r= .ok (.ret (.bool true))/\OldK s.heap s'.heap/\s'.os=s.os/\AllBare s'.gens) s:=by
 have hta:a∉tbs:=λz=>by
  have gt:=(ht a z).2.1
  rw[ha] at gt
  cases gt
 let so:HO:=.fc {cls:=.type "list",data:=.seq vs.toArray} (.lst (ns.map V.int))
 let H:Hp:=λb=>if b∈tbs then some (.nE #[]) else if b=a/\K.lookup a=none then some so else none
 have Ht: ∀ tb∈tbs,H tb=some (.nE #[]):=λtb z=>Qv z
 have cases_: ∀ b u,H b=some u->(b∈tbs/\u= .nE #[])\/(b=a/\K.lookup a=none/\u=so):=λb u e=>by
  by_cases c1:b∈tbs
  ·rw[Ht b c1] at e
   cases e
   exact .inl ⟨c1,rfl⟩
  ·by_cases c2:b=a/\K.lookup a=none
   ·rw[show H b=some so from(Qw c1).trans (Qv c2)] at e
    cases e
    exact .inr ⟨c2.1,c2.2,rfl⟩
   ·rw[show H b=none from(Qw c1).trans (Qw c2)] at e
    cases e
 have a9:jU P w H s.heap:=λb u e=>by
  rcases cases_ b u e with⟨z,rfl⟩|⟨rfl,_,rfl⟩
  ·exact(ht b z).2.1
  ·exact⟨ha,by rw[PD];exact hl,vs,_,jY hi,ha⟩
 have free': ∀ {b:Addr} {o:Obj},s.heap.get? b=some o->o≠wz->o≠{cls:=.type "list",data:=.seq vs.toArray}->H b=none:=λ{b o} e n1 n2=>by
  cases q:H b with
  |none=>rfl
  |some u=>
   rcases cases_ b u q with⟨z,_⟩|⟨rfl,_,_⟩
   ·rw[(ht b z).2.1] at e;cases e;exact(n1 rfl).elim
   ·rw[ha] at e;cases e;exact(n2 rfl).elim
 have free: ∀ {b:Addr} {o:Obj} {es:Array DictEntry} {ep:Nat},s.heap.get? b=some o->o.data= .dict es ep->H b=none:=λ{b o es ep} e d=>free' e (λz=>by rw[z] at d;cases d) (λz=>by rw[z] at d;cases d)
 have nsK: ∀ {b:Addr} {m:Str->Option Value},s.heap.Ns b m->(ud s.heap H).Ns b m:=λ{b m} ⟨o,es,ep,e,d,r⟩=>⟨o,es,ep,pP e (free e d),d,r⟩
 have hKb:K.In (ud s.heap H):=λb o e=>pP (KX b o e) (by
  cases q:H b with
  |none=>rfl
  |some u=>
   rcases cases_ b u q with⟨z,_⟩|⟨rfl,hk,_⟩
   ·rw[(ht b z).2.2] at e;cases e
   ·rw[hk] at e;cases e)
 have hBI:FA (ud s.heap H) mg:=by
  obtain⟨bm,ob,b1,b2,b3,b4,b5,b6⟩:=hbm
  exact⟨bm,ob,b1,b2,pP b3 (free' b3 (λz=>by rw[z] at b6;cases b6) (λz=>by rw[z] at b6;cases b6)),b4,b5,b6⟩
 have md:Mod K mg (ud s.heap H):=⟨hKb,nsK hns,⟨mb,nsK hbn,hbb⟩,let ⟨mc,h1,h2⟩:=hlim;⟨mc,nsK h1,h2⟩⟩
 have e0:Ce P w K mg (ud s.heap H) callerA [] s H:=⟨rfl,md,λb o e=>GL e,Nat.le_of_eq (BR _ _),trivial,λb hb=>(nomatch (show b∈([]:List Addr) from hb)),a9,.of_eq hg⟩
 have sq:bU K H a (ns.map V.int):=by
  cases hk:K.lookup a with
  |some o=>
   have e:=KX a o hk
   rw[ha] at e
   cases e
   exact .inr ⟨_,vs.toArray,_,hk,rfl,rfl,rfl,by rw[PK,hi.length];exact hl,by simpa using jY hi⟩
  |none=>exact .inl (.inr ⟨_,(Qw hta).trans (Qv ⟨rfl,hk⟩)⟩)
 refine codeAny_mono ((F _ hKb (nsK hns) hBI).run callerA [] s H ⟨[.ref a],[]⟩ [.ref a] [.ref a] _ _ hr e0 (hbind s (.ref a)) (.cons rfl .nil) (hsp H Ht sq)) λr s' h=>?_
 match r,h with
 | .error e,h=>exact(hCX H e s' h).elim
 | .ok (.ret u),h=>
  obtain⟨v,H',os,bare,un,hok',r',q⟩:=h
  obtain rfl:v= .bl true:=q
  obtain rfl:u=Value.bool true:=r'
  have kept: ∀ b o,b∉tbs->s.heap.get? b=some o->s'.heap.get? b=some o:=λb o nb e=>by
   cases qb:H b with
   |none=>exact un.keep b o e qb (λz=>nomatch (show b∈([]:List Addr) from z)) (λz=>nomatch z)
   |some u=>
    rcases cases_ b u qb with⟨z,_⟩|⟨rfl,_,rfl⟩
    ·exact absurd z nb
    ·obtain⟨e1,_⟩:=a9 b _ qb
     obtain⟨e2,_⟩:=hok' b _ (un.lM b _ _ qb)
     rw[e] at e1
     cases e1
     exact e2
  have grown: ∀ b∈tbs,∃ more,s'.heap.get? b=some {cls:=.none,data:=.fields (#[]++more)}:=λb z=>by
   obtain⟨more,et⟩:=un.qx b #[] (Ht b z)
   exact⟨more,hok' b _ et⟩
  refine⟨rfl,⟨λb o e=>?_,λb o e=>?_⟩,os,bare⟩
  ·by_cases nb:b∈tbs
   ·obtain⟨more,gt'⟩:=grown b nb
    rw[(ht b nb).2.1] at e
    cases e
    exact .inr (.inl ⟨(ht b nb).1,rfl,#[],more,rfl,gt'⟩)
   ·exact .inl (kept b o nb e)
  ·by_cases nb:b∈tbs
   ·obtain⟨more,gt'⟩:=grown b nb
    exact⟨_,gt'⟩
   ·exact⟨o,kept b o nb e⟩
def A1 {l:PySem.W.OpenLaw} {YP:World->Heap->Prop} {d:DefRec} {K:Params->Frag} {CX:World->Fo} {sp:World->List Addr->Sp} {x:Str}
  (hn:l.most=some n) (hn2:n<=sizeLine) (hdf:d.params.defaults=[]) (hr:cM k callerA)
  (hY: ∀ (w:World) (h:Heap),YP w h->(K w.params).In h)
  (F: ∀ (w:World) (mg:Str->Option Value) (fa:Addr) (h:Heap),(K w.params).In h->h.Ns mainGlobals mg->mg d.name=some (.ref fa)->
   ∃ (fd:FuncData) (ts:List (Str×Addr×Addr)),(∀ e∈ts,PySem.W.tabIn (K w.params) e.1=some e.2/\(K w.params).lookup e.2.2=none/\((recsOf q).find? λr=>r.name==e.1).isSome=true)/\
    (∀ (s:Shared) (u:Value),BindsTo s fd ⟨[u],[]⟩ [(x,u)])/\
    ∀ base:Heap,(K w.params).In base->base.Ns mainGlobals mg->FA base mg->di l.prog w (K w.params) mg base (CX w) k fa fd [x] (sp w (ts.map (·.2.2))))
  (hsp: ∀ (w:World) (H:Hp) (a:Addr) (ns:List Int) (tbs:List Addr),ns.length<=n->(∀ tb∈tbs,H tb=some (.nE #[]))->bU (K w.params) H a (ns.map V.int)->sp w tbs [.ref a] H (λv _=>v= .bl true) λ_ _ _=>False)
  (hCX: ∀ (w:World) (H:Hp) (s:Shared) (e:Value) (s':Shared),CX w [] H s (λ_ _ _=>False) e s'->False):
  PySem.W.WalkO q loose XP YP l.row.toRowW d [] (λf vs=>PySem.call f vs):=by
 refine Att.wX hn hdf λw s₀ s₁ mg mb fa o pm cd doc a vs ns G Y ho hd hcd hmg hobj hints hlen hg=>?_
 have KX:=hY w _ Y
 obtain⟨fd,ts,hts,hb,hF⟩:=F w mg fa _ KX G.T.g hmg
 refine BU (tbs:=ts.map (·.2.2)) KX G.T.g G.T.b G.T.builtins G.T.nolimit ?_ hg hobj hints (P7 hlen hn2) hr (λtb z=>?_) hF hb (λH hO hS=>hsp w H a ns _ hlen hO hS) λH e s'=>hCX w H s₁ e s'
 ·obtain⟨bm,ob,b1,b2,b3,b4,b5,b6⟩:=G.T.bmain
  exact⟨bm,ob,b1,b2,b3,b4,b5,b6⟩
 ·obtain⟨e,he,rfl⟩:=PX.mp z
  obtain⟨h1,h2,h3⟩:=hts e he
  obtain⟨d',h3⟩:=Option.isSome_iff_exists.mp h3
  obtain⟨g1,g2⟩:=PySem.W.tab_of G.T KX h3 h1
  exact⟨(g1.tab g2).isCodeTable,g2,h2⟩
section
open PySem.W (KasT kas_rev kas_asc kas_desc kas_tail3 kas_descPart kas_count kas_place kas_bin kas_sort)
def jT (N:Nat) {α:Type} (V:α->Prop):KasT α->Prop
 | .ret a=>V a
 | .ask i j k=>i < N/\j < N/\∀ b,jT N V (k b)
theorem jT.bind {N:Nat} {α β:Type} {V:α->Prop} {W:β->Prop} {f:α->KasT β}: ∀ {t:KasT α},jT N V t->(∀ a,V a->jT N W (f a))->jT N W (t.bind f)
 | .ret a,h,k=>k a h
 | .ask i j g,h,k=>⟨h.1,h.2.1,λb=>jT.bind (h.2.2 b) k⟩
def jT.ite {N:Nat} {α:Type} {V:α->Prop} {c:Prop} [Decidable c] {a b:KasT α} (h1:jT N V a) (h2:jT N V b):jT N V (if c then a else b):=by
 by_cases h:c
 ·rw[Qv h];exact h1
 ·rw[Qw h];exact h2
def Bd (N:Nat) (p:Array Nat):Prop:=0 < N/\∀ x∈p.toList,x < N
def Bd.at (h:Bd N p) (k:Nat):p.getD k 0 < N:=by
 rw[P8]
 cases e:p[k]? with
 |none=>exact h.1
 |some x=>exact h.2 x (Array.mem_toList_iff.mpr (Array.mem_of_getElem? e))
def Bd.perm (h:Bd N p) (pm:q.Perm p):Bd N q:=⟨h.1,λx hx=>h.2 x ((Array.perm_iff_toList_perm.mp pm).mem_iff.mp hx)⟩
def Bd.rev (h:Bd N p) (i j:Nat):Bd N (kas_rev p i j):=h.perm (mirror_perm _ _ _ _)
section
variable {N:Nat}
theorem y1 (h:Bd N p): ∀ f n,jT N (λ_=>True) (kas_asc p f n)
 |0,_=>trivial
 |f+1,n=>⟨h.at _,h.at _,λb=>jT.ite trivial (y1 h f (n+1))⟩
theorem oB: ∀ (f:Nat) {p:Array Nat} (n q:Nat),Bd N p->jT N (λr=>Bd N r.1) (kas_desc f p n q)
 |0,_,_,_,h=>h
 |f+1,p,n,q,h=>⟨h.at _,h.at _,λb=>jT.ite (jT.ite (oB f _ _ (h.rev _ _)) (oB f _ _ h)) ⟨h.at _,h.at _,λd=>jT.ite h (oB f _ _ h)⟩⟩
def uV (h:Bd N p) (n m:Nat):jT N (λr=>Bd N r.2) (kas_tail3 n m p):=jT.bind (y1 (h.rev _ _) _ _) λa _=>h.rev _ _
def nh (h:Bd N p) (n m:Nat):jT N (λr=>Bd N r.2) (kas_descPart n m p):=jT.bind (oB _ _ _ h) λr hr=>jT.ite (uV (hr.rev _ _) _ _) (uV hr _ _)
def EN (h:Bd N p) (m:Nat):jT N (λr=>Bd N r.2) (kas_count m p):=
 jT.bind (y1 h _ _) λn _=>jT.ite h (jT.ite ⟨h.at _,h.at _,λc=>jT.ite h (nh (h.rev _ _) _ _)⟩ (nh h _ _))
theorem o6 {p:Array Nat} (h:Bd N p) (k:Nat): ∀ f l r,jT N (λ_=>True) (kas_place p k f l r)
 |0,_,_=>trivial
 |f+1,l,r=>by
  unfold kas_place
  exact jT.ite trivial ⟨h.at _,h.at _,λc=>jT.ite (o6 h k f _ _) (o6 h k f _ _)⟩
theorem EY: ∀ (f:Nat) {p:Array Nat} (k:Nat),Bd N p->jT N (Bd N) (kas_bin f p k)
 |0,_,_,h=>h
 |f+1,p,k,h=>jT.bind (o6 h _ _ _ _) λl _=>EY f (k+1) (h.perm (bubble_perm _ _ _))
def FV (hN:0 < N):jT N (Bd N) (kas_sort N):=by
 have h:Bd N (List.toArray (List.range N)):=⟨hN,λx hx=>by simpa using hx⟩
 exact jT.bind (EN h _) λr hr=>jT.ite (EY _ _ hr) hr
theorem wp_run {α:Type} {V:α->Prop} {r:Nat->Int} {cmp:Nat->Nat->(Bool->Shared->Prop)->Shared->Prop} {Q:α->Shared->Prop} {s:Shared} (hc: ∀ i j C,i < N->j < N->C (decide (r i < r j)) s->cmp i j C s): ∀ (t:KasT α),jT N V t->Q (runK r t) s->t.kasWp cmp Q s
 | .ret a,_,h=>h
 | .ask i j k,hi,h=>hc i j _ hi.1 hi.2.1 (wp_run hc (k (decide (r i < r j))) (hi.2.2 _) h)
end
def KG (hx:s.heap.get? x=some ox) (dx:ox.data= .seq #[.int a ta,.int b tb] nx) (hy:s.heap.get? y=some oy) (dy:oy.data= .seq #[.int c tc,.int d td] ny)
  (hb:0<=b/\b < 1000000) (hd:0<=d/\d < 1000000) (h:Q (decide (a * 1000000+b < c * 1000000+d)) s):wpAny (model prog w) A (keyLt' (tuples' true) (.ref x) (.ref y)) Q E s:=by
 refine PySem.W.kat_lt hx dx hy dy ?_
 show PySem.W.KatLex prog w A true false Q [(.int a ta,.int c tc),(.int b tb,.int d td)] 0 s
 refine PySem.W.kat_cons (wpAny_eqBool_int ?_)
 by_cases e1:a=c
 ·subst e1
  have z:(a==a)=true:=by simp
  rw[z]
  refine PySem.W.kat_yes (PySem.W.kat_cons (wpAny_eqBool_int ?_))
  by_cases e2:b=d
  ·subst e2
   have z:(b==b)=true:=by simp
   rw[z]
   refine PySem.W.kat_yes (PySem.W.kat_nil ?_)
   have q:decide (a * 1000000+b < a * 1000000+b)=false:=by simp
   rw[q] at h
   exact h
  ·have z:(b==d)=false:=by simpa using e2
   rw[z]
   refine PySem.W.kat_no ?_
   show wpAny (model prog w) A (oneLt' false (.int b tb) (.int d td)) Q _ s
   refine PySem.W.kat_one _ _ ?_
   have q:decide (a * 1000000+b < a * 1000000+d)=decide (b < d):=decide_eq_decide.mpr ⟨λz=>by lia,λz=>by lia⟩
   rw[q] at h
   exact lt_int h
 ·have z:(a==c)=false:=by simpa using e1
  rw[z]
  refine PySem.W.kat_no ?_
  show wpAny (model prog w) A (oneLt' true (.int a ta) (.int c tc)) Q _ s
  refine oneLt_int ?_
  have q:decide (a * 1000000+b < c * 1000000+d)=decide (a < c):=decide_eq_decide.mpr ⟨λz=>by lia,λz=>by lia⟩
  rw[q] at h
  exact h
end
section
open PySem.W (kla_fn kla_obj CodeHd tabObj)
def G6 {CX:Fo} {P:Program} {w:World} {K:Frag} {mg:Str->Option Value} {base:Heap} {f c:Addr} {name qual:Str} {params:Arguments} {body:Expr} {scope:Scope} {pm ctv:Value} {oc:Obj} {fs:Array Value} {tq:Tok} {N ps:List Str} {k:Nat}
  {A:Around} {outer:List Env} {s:Shared} {H:Hp} {args:Args} {us:List Value} {vs:List V} {Q:VK} {E:XK} {tE:TE}
  (S:aB N ps scope) (hr:cM (k+1) A) (e0:Ce P w K mg base A outer s H) (hf:s.heap.get? f=some (kla_obj name qual params body scope [] pm c ctv))
  (hc:s.heap.get? c=some oc) (hoc:oc.data= .fields fs) (hfs:fs[1]?=some (.str qual tq))
  (hb:BindsTo s (kla_fn name qual params body scope [] pm (.ref c) ctv) args (ps.zip us)) (hl:vs.length=ps.length) (r:Vals vs us)
  (gB:PE (gE CX P w K mg base N qual scope f (.ref c) A outer s H E) body tE) (hq:tE (start N vs) H Q):
  codeAny (model P w) A (.call (.ref f) args) (CR CX outer P w H s Q E) s:=by
 have lim:s.heap.NoLimit:=e0.mod.nolimit.keeps λb o e=>(e0.bs b o e).1
 have hkind: ∀ y∈ps.zip us,scope.names.lookup y.1=some .local\/(scope.names.lookup y.1=some .cell/\((cellsFrom (s.heap.objs.size+1) scope.names []).lookup y.1).isSome=true):=λbu hy=>by
  obtain⟨n,v⟩:=bu
  rcases S.par n (List.of_mem_zip hy).1 with q|q
  ·exact .inl q
  ·exact .inr ⟨q,PySem.W.cellsFrom_some _ _ _ (.inl q)⟩
 refine PySem.W.kla_callFunE hr.depth hf rfl S.co S.gen rfl ⟨c,oc,fs,tq,rfl,hc,hoc,hfs⟩ (hb _ _ _ _ ?_)
 refine wpAny_newFunctionEnv_cells S.kind hkind λenv he s1 x=>?_
 subst he
 refine⟨lim.keeps x.toInCall.keep,PySem.W.kla_codeExpr ?_⟩
 have I:Inv (gE CX P w K mg base N qual scope f (.ref c) A outer s H E) [] (start N vs) H s1:=rT S hr.hd e0 hl r x
 refine wpAny_mono (gB [] s1 (start N vs) H _ I hq) (λu s' hs=>?_) λe s' hs=>hs
 obtain⟨v,H',J,rv,q⟩:=hs
 exact⟨v,H',J.os,J.bare,J.base,J.a9,rv,q⟩
def v5 (S:aB N ps scope) (hr:cM (k+1) A) (hA:A.frames=X.A.frames) (I:Inv X pZ σ H s) (hf:s.heap.get? f=some (kla_obj name qual params body scope [] pm c ctv))
  (hc:s.heap.get? c=some oc) (hoc:oc.data= .fields fs) (hfs:fs[1]?=some (.str qual tq))
  (hb:BindsTo s (kla_fn name qual params body scope [] pm (.ref c) ctv) ⟨us,[]⟩ (ps.zip us)) (hl:vs.length=ps.length) (r:Vals vs us)
  (gB:PE (gE i5 X.prog X.w X.K X.mg X.base N qual scope f (.ref c) A X.stack s H E0).rH body tE) (hq:tE (start N vs) H Q):
  wpAny (model X.prog X.w) A (call (.ref f) us) (EP X pZ σ Q) (λ_ _=>False) s:=by
 have e0:Ce X.prog X.w X.K X.mg X.base A X.stack s H:=⟨hA.trans I.ui.frames,I.ui.mod,I.ui.bs,I.ui.Fw,I.ui.mK,I.ui.IT,I.ui.a9,I.ui.bare⟩
 refine wpAny_call (codeAny_mono (G6 S hr e0 hf hc hoc hfs hb hl r gB.rH hq) λr s' h=>?_)
 cases r with
 |error e=>exact h
 |ok fl=>
  cases fl with
  |ret u=>exact I.after h
  |next=>exact False.elim h
  |brk=>exact False.elim h
  |cont=>exact False.elim h
end
section
open PySem.W (kas_sort kas_ask KatTups)
def Inv.OO (I:Inv X pZ σ H s) (fp:cW X pZ H D) (k: ∀ b u,b≠D->s.heap.get? b=some u->h'.get? b=some u) (new:cg X.prog X.w (upd H D o) h' D o):
  Inv X pZ σ (upd H D o) {s with heap:=h',toks:=t'}:=by
 obtain⟨hn,hL,hF,h1,h2,h3⟩:=fp
 have nD: ∀ b u,H b=some u->b≠D:=λb u e z=>by rw[z,hn] at e;cases e
 refine I.step (g':=s.gens) (d':=s.drawn) (ch:=[D]) (λb hb=>?_) (λb u _ _ hc e _=>k b u (λz=>hc (by simp[z])) e) (λb u _ _ hc e _=>⟨u.slots,k b u (λz=>hc (by simp[z])) e⟩) (λb u hc _ n=>by rw[ag (λz=>hc (by simp[z]))];exact n)
  (λb u hc e=>⟨u,k b u (λz=>hc (by simp[z])) e⟩) (λb xs e=>by rw[ag (nD b _ e)];exact e) (λb ob u e=>by rw[ag (nD b _ e)];exact e) (λb ps e=>⟨#[],by rw[ag (nD b _ e),e];simp⟩) (λm hm=>?_) (λb u e=>?_) I.bare
 ·have e:b=D:=by simpa using hb
  subst e
  exact⟨h1,hL,h2,h3⟩
 ·obtain⟨ob,es,ep,ho,r⟩:=hm
  exact⟨ob,es,ep,k _ ob (Ne.symm hL) ho,r⟩
 ·by_cases z:b=D
  ·subst z
   rw[av] at e
   cases e
   exact new
  ·rw[ag z] at e
   refine(I.a9 b u e).oM (λc v hc q=>k c v ?_ q) (λc q=>?_) λc xs q=>?_
   ·rcases hc with y|y
    ·rw[y];exact z
    ·exact nD c _ y
   ·rw[ag (nD c _ q)];exact q
   ·rw[ag (nD c _ q)];exact q
def rk (kf:Nat->Int×Int) (i:Nat):Int:=(kf i).1 * 1000000+(kf i).2
theorem qX: ∀ {Ts:List Addr} {us:List Value},Vals (Ts.map V.ref) us->us=Ts.map Value.ref
 |[],us,h=>by cases h;rfl
 |T::Ts,us,h=>by
  cases h with
  |cons r t=>cases r;rw[qX t];rfl
def lC (hk:jU P w H h) (e:H T=some (.tup [.int a,.int b])): ∃ o n ta tb,h.get? T=some o/\o.cls= .type "tuple"/\o.data= .seq #[.int a ta,.int b tb] n:=by
 obtain⟨_,aC,rv,o,ho,hc,n,hd⟩:=hk T _ e
 cases rv with
 |cons r1 t=>
  cases t with
  |cons r2 t=>
   cases t
   obtain⟨ta,rfl⟩:=r1
   obtain⟨tb,rfl⟩:=r2
   exact⟨o,n,ta,tb,ho,hc,hd⟩
theorem zw: ∀ (Ts:List Addr),(∀ T∈Ts,∃ o n a b ta tb,h.get? T=some o/\o.cls= .type "tuple"/\o.data= .seq #[.int a ta,.int b tb] n)->∃ fs,KatTups h (Ts.map Value.ref) fs/\fs.length=Ts.length/\∀ v∈fs,∃ i t,v=Value.int i t
 |[],_=>⟨[],PySem.W.KatTups.nil,rfl,λv hv=>nomatch hv⟩
 |T::Ts,k=>by
  obtain⟨o,n,a,b,ta,tb,h1,h2,h3⟩:=k T PB
  obtain⟨fs,g1,g2,g3⟩:=zw Ts λT' h'=>k T' (PH _ h')
  refine⟨.int a ta::fs,PySem.W.KatTups.cons h1 h2 h3 rfl g1,by simp[g2],λv hv=>?_⟩
  rcases PR.mp hv with rfl|hv
  ·exact⟨a,ta,rfl⟩
  ·exact g3 v hv
section
variable {X:Cx} {A:Around} {E:Value->Shared->Prop} {pZ:List (Addr×Obj)} {σ:St} {H:Hp} {s:Shared} {f D:Addr} {aC:List Value} {xs:List V} {kf:Nat->Int×Int} {P:PySem.Fin->Shared->Prop}
def rm {kS:Addr} {Ts:List Addr} {e1:Nat} {st:SortSt} {p:Array Nat} {H1:Hp} (I:Inv X ((D,seqObj "list" #[] e1)::pZ) σ H1 s) (fp:cW X pZ H1 D) (hk:H1 kS=some (.lst (Ts.map V.ref))) (rv:Vals xs aC) (h64:xs.length < 64) (hTs:Ts.length=xs.length)
  (hz:p.size=xs.length) (har:(arrOf st).map (·.2)=List.toArray (p.toList.map λi=>aC.getD i Value.none)) (hin: ∀ i∈p.toList,i < xs.length) (hf:failedOf st=none)
  (h: ∀ s',Inv X pZ σ (upd (upd H1 kS (.lst [])) D (.lst (p.toList.map λi=>xs.getD i .aD))) s'->P (.done (.ret .none)) s'):
  wpAny (model X.prog X.w) A (ksk_tail D false e1 (.ref kS) st) P E s:=by
 obtain⟨_,bc,n',r1,r2,ho⟩:=I.kc hk
 have hl:=rv.length
 unfold ksk_tail
 try dsimp only
 rw[har]
 refine Pz (listUpdate_at ho rfl ?_ (by rw[PK,Qm];simp at r2;lia) (Qe _))
 have I1:=I.BH (t':=s.toks) (f:=λ_=>(#[]:Array Value)) (bc:=[]) (ys:=[]) hk ho rfl .nil (Qe _)
 have hD:=(I1.pin _ (P5 _ PB)).1
 refine Pz (wpAny_letGo ?_)
 refine Pz (seqEpoch_at hD rfl ?_)
 refine Pz (listUpdate_at hD rfl ?_ (Qe _) (by simp only[Qp,if_false,PK,PD,Qj];rw[hz,Qm];lia))
 rw[hf]
 simp only[bne_self_eq_false,Qp,if_false]
 have neD:kS≠D:=λz=>by rw[z,fp.1] at hk;cases hk
 have fp1:cW X pZ (upd H1 kS (.lst [])) D:=⟨by rw[ag (Ne.symm neD)];exact fp.1,fp.2⟩
 have I2:Inv X pZ σ (upd H1 kS (.lst [])) {s with heap:=s.heap.update kS (Obj.mapSeq λ_=>(#[]:Array Value))}:=I1.j3 λq hq=>I1.pin q (P5 _ (PH _ hq))
 refine PJ (h _ (I2.OO (t':=s.toks) fp1 (λb u hb e=>(Heap.get?_update_other _ _ (Ne.symm hb)).trans e) ?_))
 have g:=get?_update_seq hD λ_=>List.toArray (p.toList.map λi=>aC.getD i Value.none)
 refine⟨by rw[PD,Qj,hz,Qm];lia,p.toList.map λi=>aC.getD i Value.none,_,?_,g⟩
 have go: ∀ l:List Nat,(∀ i∈l,i < xs.length)->Vals (l.map λi=>xs.getD i V.aD) (l.map λi=>aC.getD i Value.none):=λl=>by
  induction l with
  |nil=>intro _;exact .nil
  |cons i l ih=>
   intro hl'
   refine .cons ?_ (ih λj hj=>hl' j (PH _ hj))
   have hi:=hl' i PB
   obtain⟨u,hu,ru⟩:=rv.get (Py hi)
   show RelV (xs.getD i V.aD) (aC.getD i Value.none)
   rw[P4,P4,hu,Py hi]
   exact ru
 exact go _ hin
def xQ (I:Inv X pZ σ H s) (fp:cW X pZ H D) (ho:s.heap.get? D=some (seqObj "list" aC.toArray n0)) (rv:Vals xs aC) (h64:xs.length < 64)
  (lJ: ∀ (fo:List (Addr×Obj)) (H1:Hp) (s1:Shared) (i:Nat) (u:Value),aC[i]?=some u->eJ H H1->Inv X fo σ H1 s1->wpAny (model X.prog X.w) A (call (.ref f) [u]) (EP X fo σ λv H2=> ∃ T,v= .ref T/\H1 T=none/\H2=upd H1 T (.tup [.int (kf i).1,.int (kf i).2])) (λ_ _=>False) s1)
  (hb: ∀ i,i < xs.length->0<=(kf i).2/\(kf i).2 < 1000000) (bY: ∀ i j,i < xs.length->j < xs.length->i≠j->rk kf i≠rk kf j)
  (h: ∀ (H':Hp) (p:Array Nat) (s':Shared),Inv X pZ σ H' s'->H' D=some (.lst (p.toList.map λi=>xs.getD i .aD))->eJ H H'->p.size=xs.length->p.Perm (List.toArray (List.range xs.length))->xw (rk kf) p xs.length->P (.done (.ret .none)) s'):
  wpAny (model X.prog X.w) A (Builtin.«list.sort» ⟨[.ref D],[(Str.ofString "key",.ref f)]⟩) P E s:=by
 have hl:=rv.length
 have hzL:aC.length<=sizeLine:=by rw[Qm];lia
 rw[ksk_t1]
 unfold ksk_tree
 refine Pz (listItems_at ho rfl ?_)
 refine Pz (listUpdate_at ho rfl ?_ (by rw[PK];exact hzL) (Qe _))
 obtain⟨e1,ho1⟩: ∃ e1,(s.heap.update D (Obj.mapSeq λ_=>(#[]:Array Value))).get? D=some (seqObj "list" #[] e1):=⟨_,get?_update_seq ho λ_=> #[]⟩
 refine Pz (seqEpoch_at ho1 rfl ?_)
 refine Pz (wpAny_newTuple ?_ hzL)
 refine Pz (wpAny_newList ?_ (Qe _))
 refine wpAny_holding ?_
 have I1:Inv X pZ σ H {s with heap:=s.heap.update D (Obj.mapSeq λ_=>(#[]:Array Value))}:=I.turned (t':=s.toks) (λb u hb' e=>(Heap.get?_update_other _ _ (Ne.symm hb')).trans e) fp.1 fp.2.1 fp.2.2.2.1 fp.2.2.2.2.1 fp.2.2.2.2.2
 have I2:Inv X ((D,seqObj "list" #[] e1)::pZ) σ H {s with heap:=s.heap.update D (Obj.mapSeq λ_=>(#[]:Array Value))}:=I1.j3 λq hq=>by
  rcases PR.mp hq with rfl|hq
  ·exact⟨ho1,fp.1,fp.2.1,fp.2.2.1,λv z=>by cases z⟩
  ·exact I1.pin q (P5 _ hq)
 have I3:Inv X ((D,seqObj "list" #[] e1)::pZ) σ H {s with heap:=(s.heap.update D (Obj.mapSeq λ_=>(#[]:Array Value))).push (seqObj "tuple" aC.toArray 0)}:=I2.kept (t':=s.toks) λb u e=>PF _ e
 have hkn:H ((s.heap.update D (Obj.mapSeq λ_=>(#[]:Array Value))).push (seqObj "tuple" aC.toArray 0)).objs.size=none:=I3.fresh
 have I4:=I3.DS (t':=s.toks) (ys:=[]) (aC:=[]) .nil (Qe _)
 generalize hks:((s.heap.update D (Obj.mapSeq λ_=>(#[]:Array Value))).push (seqObj "tuple" aC.toArray 0)).objs.size=kS at *
 have hDk: ∀ (H1:Hp),H1 D=none->H1 kS≠none->kS≠D:=λH1 a b z=>b (z▸a)
 unfold ksk_rest
 refine Pz (wpAny_rule ?_)
 rw[List.forIn_toArray]
 refine Pz (ksk_fold (λi s'=> ∃ (Hi:Hp) (Ts:List Addr),Inv X ((D,seqObj "list" #[] e1)::pZ) σ Hi s'/\Hi kS=some (.lst (Ts.map V.ref))/\Ts.length=i/\(∀ j T,Ts[j]?=some T->Hi T=some (.tup [.int (kf j).1,.int (kf j).2]))/\eJ H Hi) aC 0 _ ?_ (λj x s' hx hJ=>?_) λs' hJ=>?_)
 ·refine⟨_,[],I4,av,rfl,λj T e=>by simp at e,λb o e=>?_⟩
  rw[ag (aG e hkn)]
  exact e
 ·obtain⟨Hi,Ts,J,hk,hT,tt,sm⟩:=hJ
  rw[Nat.zero_add] at hT
  refine Pz (wpAny_attempt (wpAny_mono (lJ _ Hi s' j x hx sm J) (λk s'' hk'=>?_) λ_ _ hF=>hF.elim))
  obtain⟨v,H2,J2,rk',T,rfl,hTn,rfl⟩:=hk'
  cases rk'
  have nT:kS≠T:=aG hk hTn
  have hk2:upd Hi T (.tup [.int (kf j).1,.int (kf j).2]) kS=some (.lst (Ts.map V.ref)):=by rw[ag nT];exact hk
  obtain⟨_,bc,n',r1,r2,hob⟩:=J2.kc hk2
  have hjl:j < aC.length:=(PL.mp hx).1
  have hs':bc.length=j:=by rw[<-r2,PD,hT]
  try dsimp only
  refine Pz (listUpdate_at hob rfl ?_ (by rw[PK,Qm];lia) (P7 (Nat.le_of_eq (Array.size_push ..)) (by rw[PK,Qm];lia)))
  have J3:=J2.BH (t':=s''.toks) (f:=(·.push (Value.ref T))) (bc:=bc++[.ref T]) (ys:=Ts.map V.ref++[.ref T]) hk2 hob (by simp) (r1.append (show Vals [V.ref T] [Value.ref T] from .cons rfl .nil)) (by rw[Qc,PD,List.length_singleton,Qm];lia)
  refine PJ ⟨rfl,_,Ts++[T],J3,by rw[av];simp,by simp[hT],λi T' e=>?_,λb o e=>?_⟩
  ·by_cases c:i < Ts.length
   ·rw[Qn c] at e
    have g:=tt i T' e
    have n1:T'≠kS:=λz=>by rw[z,hk] at g;cases g
    rw[ag n1,ag (aG g hTn)]
    exact g
   ·rw[List.getElem?_append_right (by lia)] at e
    have hi:i=Ts.length:=by
     by_cases z:i - Ts.length=0
     ·lia
     ·rw[List.getElem?_eq_none (by simp;lia)] at e;cases e
    subst hi
    simp at e
    subst e
    rw[ag (Ne.symm nT),av,hT]
  ·have g:=sm b o e
   have n1:b≠kS:=aG e hkn
   rw[ag n1,ag (aG g hTn)]
   exact g
 ·obtain⟨Hi,Ts,J,hk,hT,tt,sm⟩:=hJ
  rw[Nat.zero_add] at hT
  have hTx:Ts.length=xs.length:=by lia
  obtain⟨_,bc,n',r1,r2,hob⟩:=J.kc hk
  have hks':=qX r1
  subst hks'
  have fpD:cW X pZ Hi D:=⟨(J.pin _ (P5 _ PB)).2.1,fp.2⟩
  have hkD:kS≠D:=λz=>by rw[z,fpD.1] at hk;cases hk
  have fin: ∀ (p:Array Nat) (s'':Shared),p.size=xs.length->p.Perm (List.toArray (List.range xs.length))->xw (rk kf) p xs.length->Inv X pZ σ (upd (upd Hi kS (.lst [])) D (.lst (p.toList.map λi=>xs.getD i .aD))) s''->P (.done (.ret .none)) s'':=λp s'' hz hp hu J'=>by
   refine h _ p s'' J' av (λb o e=>?_) hz hp hu
   rw[ag (aG e fp.1),ag (aG e hkn)]
   exact sm b o e
  have inP: ∀ p:Array Nat,p.Perm (List.toArray (List.range xs.length))->∀ i∈p.toList,i < xs.length:=λp hp i hi=>by
   have:=(Array.perm_iff_toList_perm.mp hp).mem_iff.mp hi
   simpa using this
  have hkl:(Ts.map Value.ref).length=aC.length:=by simp[hT]
  try dsimp only
  refine Pz (listItems_at hob rfl ?_)
  unfold ksk_end
  try dsimp only
  simp only[Qp,if_false]
  by_cases h2:aC.toArray.size < 2
  ·rw[Qv h2,Qv h2]
   refine Pz (PJ ?_)
   rw[StateT.run_pure]
   refine Pz (PJ ?_)
   try dsimp only
   rw[PK] at h2
   have hz:(List.toArray (List.range xs.length)).size=xs.length:=by simp
   refine rm (p:=List.toArray (List.range xs.length)) J fpD hk rv h64 hTx hz ?_ (inP _ (Array.Perm.refl _)) rfl λs'' J'=>fin _ s'' hz (Array.Perm.refl _) (λi j hij hj=>by lia) J'
   have hmap:=PySem.W.kat_snds (ks:=Ts.map Value.ref) (vs:=aC) hkl (st:=SortSt.mk' general' ((Ts.map Value.ref).toArray.zip aC.toArray) #[] 7 none) (p:=List.toArray (List.range xs.length)) (by
    have e:=PySem.W.kas_range ((Ts.map Value.ref).toArray.zip aC.toArray)
    rw[show ((Ts.map Value.ref).toArray.zip aC.toArray).size=xs.length by simp[hT];lia] at e
    exact e.symm)
   exact hmap
  ·rw[Qw h2,Qw h2]
   rw[PK] at h2
   obtain⟨fs,kt,hfl,hfi⟩:=zw (h:=s'.heap) Ts λT hT'=>by
    obtain⟨i,hi,e⟩:=List.getElem_of_mem hT'
    obtain⟨o,n,ta,tb,g1,g2,g3⟩:=lC J.a9 (tt i T (PL.mpr ⟨hi,e⟩))
    exact⟨o,n,_,_,ta,tb,g1,g2,g3⟩
   refine Pz (PySem.W.kat_kind (T:=Value.type "int") kt (by lia) (λv hv=>?_) rfl ?_)
   ·obtain⟨i,t,rfl⟩:=hfi v hv
    exact PySem.W.Looks.now
   ·obtain⟨p,ep,hz,hp,hu⟩:=FU (r:=rk kf) (n:=xs.length) (by lia) bY
    refine Pz (wpAny_mono (PySem.W.kat_run (vs:=aC) (ks:=Ts.map Value.ref) (Q:=λst' s''=> ∃ p':Array Nat,arrOf st'=p'.map (PySem.W.kas_item ((Ts.map Value.ref).toArray.zip aC.toArray))/\failedOf st'=none/\p'=p/\s''=s') (G:=λp' s''=>p'=p/\s''=s')
     hkl (by lia) (by lia) (λp' st' s'' a1 a2 a3 a4=>⟨p',a2,a3,a4.1,a4.2⟩) ?_) ?_ λ_ _ e=>e)
    ·rw[show aC.length=xs.length from hl.symm]
     refine wp_run (N:=xs.length) (V:=Bd xs.length) (r:=rk kf) (λi j C hi hj hC=>?_) _ (FV (by lia)) ⟨ep,rfl⟩
     have hi':i < Ts.length:=by lia
     have hj':j < Ts.length:=by lia
     obtain⟨oi,ni,ai,bi,g1,g2,g3⟩:=lC J.a9 (tt i _ (Py hi'))
     obtain⟨oj,nj,aj,bj,k1,k2,k3⟩:=lC J.a9 (tt j _ (Py hj'))
     unfold PySem.W.kas_ask
     rw[P4,P4,P6,P6,Py hi',Py hj']
     exact KG g1 g3 k1 k3 (hb i hi) (hb j hj) hC
    ·rintro⟨⟨⟩,st'⟩ s'' ⟨p',har,hf,rfl,rfl⟩
     try dsimp only
     exact rm J fpD hk rv h64 hTx hz (PySem.W.kat_snds hkl har) (inP _ hp) hf λs3 J'=>fin _ s3 hz hp hu J'
end
end
section
open PySem.W (kla_fn kla_obj CodeHd tabObj)
def sL (I:Inv X pZ σ H s) (hT:T="list"\/T="tuple") (ho:s.heap.get? l=some o) (hc:o.cls= .type T) (hd:o.data= .seq aC.toArray n0) (rv:Vals xs aC) (h64:xs.length < 64)
  (lJ: ∀ (fo:List (Addr×Obj)) (H1:Hp) (s1:Shared) (i:Nat) (u:Value),aC[i]?=some u->eJ H H1->Inv X fo σ H1 s1->wpAny (model X.prog X.w) X.A.in1.in1 (call (.ref f) [u]) (EP X fo σ λv H2=> ∃ T,v= .ref T/\H1 T=none/\H2=upd H1 T (.tup [.int (kf i).1,.int (kf i).2])) (λ_ _=>False) s1)
  (hb: ∀ i,i < xs.length->0<=(kf i).2/\(kf i).2 < 1000000) (bY: ∀ i j,i < xs.length->j < xs.length->i≠j->rk kf i≠rk kf j)
  (hq: ∀ (D:Addr) (H':Hp) (p:Array Nat),H D=none->H' D=some (.lst (p.toList.map λi=>xs.getD i .aD))->eJ H H'->p.size=xs.length->p.Perm (List.toArray (List.range xs.length))->xw (rk kf) p xs.length->Q (.ref D) H'):
  wpAny (model X.prog X.w) X.A (call (.builtin "sorted") [.ref l] [(Str.ofString "key",.ref f)]) (EP X pZ σ Q) X.xe s:=by
 have hl:=rv.length
 refine call_function_entry_kw kind_sorted plain_sorted entry_sorted (ksk_s1 _ _) ?_
 unfold Builtin.«sorted»
 refine Pz (m:=checkCount "sorted" 1 1 _) (PJ ?_)
 refine Pz (wpAny_collect_seq l hT ho hc hd (λh1 kp=>?_) (by rw[PK,Qm];lia))
 have I1:Inv X pZ σ H {s with heap:=h1}:=I.kept (t':=s.toks) kp
 have fr:H h1.objs.size=none:=I1.fresh
 have fp:cW X pZ H h1.objs.size:=I1.pQ (PM _) fr
 refine Pz (wpAny_newList ?_ (by show aC.length<=_;rw[Qm];lia))
 have I2:Inv X pZ σ H {s with heap:=h1.push (seqObj "list" aC.toArray 0)}:=I1.kept (t':=s.toks) λb u e=>PF _ e
 have hoL:(h1.push (seqObj "list" aC.toArray 0)).get? h1.objs.size=some (seqObj "list" aC.toArray 0):=PZ _ rfl
 refine Pz (wpAny_holding (wpAny_call_entry_kw slot_list_sort ⟨_,hoL,rfl⟩ entry_list_sort ?body (ksk_l1 _ _)))
 case body=>
  show wpAny (model X.prog X.w) X.A.in1.in1 (Builtin.«list.sort» ⟨[.ref h1.objs.size],[(Str.ofString "key",.ref f)]⟩) _ _ {s with heap:=h1.push (seqObj "list" aC.toArray 0)}
  refine xQ I2 fp hoL rv h64 lJ hb bY λH' p s' J e1 sm hz hp hu=>⟨_,rfl,PJ ⟨_,rfl,.ref h1.objs.size,H',J,rfl,hq _ H' p fr e1 sm hz hp hu⟩⟩
def y3 (l:List Value) (h:TriplesOk l) (hn:codeAmong pos (l++[rawInt a,rawInt b,c])=some cv):codeAmong pos l=some cv\/cv=c:=by
 fun_induction TriplesOk l with
 |case1=>
  simp[codeAmong,rawInt] at hn
  exact .inr hn.2.symm
 |case2 a' t b' u x rest ih=>
  simp only[List.cons_append,codeAmong] at hn ⊢
  split at hn
  ·rename_i hc
   rw[Qv hc]
   exact .inl hn
  ·rename_i hc
   rw[Qw hc]
   exact ih h hn
 |case3 l h1 h2=>exact h.elim
def v3 (I:Inv X pZ σ H s) (hB:FA X.base X.mg) (hcode:X.env.code= .ref c) (hC:CodeHd X.base c P) (tab:TabAt H (P,X.env.qual++"<lambda>")) (hcl:closureFor scope X.env=pure []) (hdef:defaultsOf params X.env=([],[]))
  (h: ∀ (f c':Addr) (oc:Obj) (fs:Array Value) (tq:Tok) (pm ctv:Value) (H':Hp) (s':Shared),Inv X pZ σ H' s'->H f=none->H' f=some (.fc (kla_obj "<lambda>" (X.env.qual++"<lambda>") params body scope [] pm c' ctv) (.own f))->H' c'=some (.fc oc (.own c'))->oc.data= .fields fs->fs[1]?=some (.str (X.env.qual++"<lambda>") tq)->
   TabAt H' (P,X.env.qual++"<lambda>")->(∀ b o,b≠P->H b=some o->H' b=some o)->Q (.ref f) s'):
  wpAny (model X.prog X.w) X.A (eval (.Lambda params body scope pos) X.env) Q E s:=by
 obtain⟨ps,hP,ht,hrow⟩:=tab
 have gP:s.heap.get? P=some (tabObj ps):=I.a9 P _ hP
 obtain⟨bm,ob,b1,b2,b3,b4,b5,b6⟩:=hB
 have hg:s.heap.Ns mainGlobals X.mg:=I.mod.glob.keeps I.bk
 have hgP:mainGlobals≠P:=λq=>by
  obtain⟨o,es,ep,e,hd,_⟩:=hg
  rw[q,gP] at e;cases e;cases hd
 have hbP:bm≠P:=λq=>by
  have e:=I.bk _ _ b3
  rw[q,gP] at e;cases e;cases b4
 have hbG:bm≠mainGlobals:=λq=>by
  obtain⟨o,es,ep,e,hd,_⟩:=I.mod.glob
  rw[q,e] at b3;cases b3;rw[hd] at b6;cases b6
 have hBA:s.heap.BuiltinsAt X.mg P:=⟨bm,ob,b1,b2,hbG,hbP,I.bk _ _ b3,b4,b5,b6⟩
 refine PySem.W.kla_eval hdef ?_
 cases hf:codeAmong pos ps.toList with
 |none=>
  refine PySem.W.kla_makeFunction (mg:=X.mg) hcl I.ok.glob hg hcode (hC.keeps I.bk) gP ht hf hgP hBA λc' ctv h' tk hx hge dz hrec htb=>?_
  obtain⟨c2,oc,fs,tq,e2,hoc,hfd,hfs⟩:=hrec
  cases e2
  generalize hko:kla_obj "<lambda>" (X.env.qual++"<lambda>") params body scope [] ((X.mg "__name__").getD .none) c' ctv=ko
  have hkf:ko.isFreed=false:=by rw[<-hko];rfl
  have hcn:H c'=none:=I.a9.fresh hge
  have hfn:H h'.objs.size=none:=I.a9.fresh (P7 hge (Nat.le_of_lt dz))
  have ncP:c'≠P:=λz=>by rw[z,hP] at hcn;cases hcn
  have nfP:h'.objs.size≠P:=λz=>by rw[z,hP] at hfn;cases hfn
  have nfc:h'.objs.size≠c':=Nat.ne_of_gt dz
  let H':Hp:=upd (upd (upd H P (.nE (ps++ #[rawInt pos.line,rawInt pos.col,.ref c']))) c' (.fc oc (.own c'))) h'.objs.size (.fc ko (.own h'.objs.size))
  have at_f:H' h'.objs.size=some (.fc ko (.own h'.objs.size)):=av
  have at_c:H' c'=some (.fc oc (.own c')):=by
   show upd _ _ _ c'=_
   rw[ag (Ne.symm nfc),av]
  have at_P:H' P=some (.nE (ps++ #[rawInt pos.line,rawInt pos.col,.ref c'])):=by
   show upd _ _ _ P=_
   rw[ag (Ne.symm nfP),ag (Ne.symm ncP),av]
  have at_o: ∀ b,b≠h'.objs.size->b≠c'->b≠P->H' b=H b:=λb n1 n2 n3=>by
   show upd _ _ _ b=_
   rw[ag n1,ag n2,ag n3]
  have eE: ∀ b o,b≠P->H b=some o->H' b=some o:=λb o nb e=>by
   rw[at_o b (aG e hfn) (aG e hcn) nb]
   exact e
  have kp: ∀ b o,b≠P->s.heap.get? b=some o->(h'.push ko).get? b=some o:=λb o nb e=>PF _ (hx b o nb e)
  have tbP:(h'.push ko).get? P=some (tabObj (ps++ #[rawInt pos.line,rawInt pos.col,.ref c'])):=PF _ htb
  have un:Un X.fs [] H H' s.heap (h'.push ko):=by
   have nP: ∀ b,H b=none->b≠P:=λb n z=>by rw[z,hP] at n;cases n
   refine⟨λb o e n _ _=>kp b o (nP b n) e,λb o e n _ _=>⟨o.slots,kp b o (nP b n) e⟩,λb o e n _=>?_,λb o e _=>?_,λb xs e=>eE b _ (λz=>by rw[z,hP] at e;cases e) e,λb ob u e=>eE b _ (λz=>by rw[z,hP] at e;cases e) e,λb qs e=>?_⟩
   ·have lt:=P2 e
    rw[at_o b (Qg (P9 lt (P7 hge (Nat.le_of_lt dz)))) (Qg (P9 lt hge)) (nP b n)]
    exact n
   ·by_cases z:b=P
    ·exact⟨_,z▸tbP⟩
    ·exact⟨o,kp b o z e⟩
   ·by_cases z:b=P
    ·subst z
     rw[hP] at e
     cases e
     exact⟨_,at_P⟩
    ·exact⟨#[],by rw[eE b _ z e];simp⟩
  have a9:jU X.prog X.w H' (h'.push ko):=λb u e=>by
   by_cases n1:b=h'.objs.size
   ·subst n1
    rw[at_f] at e
    cases e
    exact⟨PZ _ hkf,_,PZ _ hkf⟩
   ·by_cases n2:b=c'
    ·subst n2
     rw[at_c] at e
     cases e
     exact⟨PF _ hoc,_,PF _ hoc⟩
    ·by_cases n3:b=P
     ·subst n3
      rw[at_P] at e
      cases e
      exact tbP
     ·rw[at_o b n1 n2 n3] at e
      refine(I.a9 b u e).oM (λd v hd q=>kp d v ?_ q) (λd q=>eE d _ (λz=>by rw[z,hP] at q;cases q) q) λd xs q=>eE d _ (λz=>by rw[z,hP] at q;cases q) q
      rcases hd with z|z
      ·rw[z];exact n3
      ·exact λy=>by rw[y,hP] at z;cases z
  subst hko
  refine h h'.objs.size c' oc fs tq _ ctv H' _ (I.un (t':=tk) un a9) hfn at_f at_c hfd hfs ⟨_,at_P,?_,λpos' cv e=>?_⟩ eE
  ·rw[Array.toList_append]
   exact TriplesOk_snoc _ _ _ _ ht
  ·rw[Array.toList_append] at e
   rcases y3 _ ht e with e|rfl
   ·obtain⟨c3,o3,f3,t3,rfl,g1,g2,g3⟩:=hrow pos' cv e
    exact⟨c3,o3,f3,t3,rfl,eE _ _ (λz=>by rw[z,hP] at g1;cases g1) g1,g2,g3⟩
   ·exact⟨c',oc,fs,tq,rfl,at_c,hfd,hfs⟩
 |some cv=>
  obtain⟨c',oc,fs,tq,rfl,g1,hfd,hfs⟩:=hrow pos cv hf
  refine PySem.W.kla_makeFunctionHit (mg:=X.mg) hcl I.ok.glob hg hcode (hC.keeps I.bk) gP ht hf hBA λctv h' tk hk hsz=>?_
  have hfn:H h'.objs.size=none:=I.a9.fresh hsz
  have nf: ∀ b u,H b=some u->b≠h'.objs.size:=λb u e=>aG e hfn
  have J:=I.laid (t':=tk) (h':=h'.push (kla_obj "<lambda>" (X.env.qual++"<lambda>") params body scope [] ((X.mg "__name__").getD .none) c' ctv)) (a:=h'.objs.size) (o:=.fc (kla_obj "<lambda>" (X.env.qual++"<lambda>") params body scope [] ((X.mg "__name__").getD .none) c' ctv) (.own h'.objs.size))
   (λb u e=>PF _ (hk b u e)) hsz ⟨PZ _ rfl,_,PZ _ rfl⟩
  refine h h'.objs.size c' oc fs tq _ ctv _ _ J hfn av (by rw[ag (nf _ _ g1)];exact g1) hfd hfs ⟨ps,by rw[ag (nf _ _ hP)];exact hP,ht,λpos' cv e=>?_⟩ λb o _ e=>by rw[ag (nf _ _ e)];exact e
  obtain⟨c3,o3,f3,t3,rfl,k1,k2,k3⟩:=hrow pos' cv e
  exact⟨c3,o3,f3,t3,rfl,by rw[ag (nf _ _ k1)];exact k1,k2,k3⟩
end
section
open PySem.W (kla_fn kla_obj CodeHd tabObj)
def Jb (e:Addr×Str) (N:List Str) (tE:TE) (Q:VK) (x:V) (H1:Hp):Prop:= ∃ (l:Addr) (xs:List V) (kf:Nat->Int×Int),x= .ref l/\(H1 l=some (.lst xs)\/H1 l=some (.tup xs))/\xs.length < 64/\TabAt H1 e/\
 (∀ i x,xs[i]?=some x->∀ H2,(∀ b o,b≠e.1->H1 b=some o->H2 b=some o)->tE (start N [x]) H2 λv H3=> ∃ T,v= .ref T/\H2 T=none/\H3=upd H2 T (.tup [.int (kf i).1,.int (kf i).2]))/\
 (∀ i,i < xs.length->0<=(kf i).2/\(kf i).2 < 1000000)/\(∀ i j,i < xs.length->j < xs.length->i≠j->rk kf i≠rk kf j)/\
 ∀ (D:Addr) (H':Hp) (p:Array Nat),H1 D=none->H' D=some (.lst (p.toList.map λi=>xs.getD i .aD))->(∀ b o,b≠e.1->H1 b=some o->H' b=some o)->TabAt H' e->p.size=xs.length->p.Perm (List.toArray (List.range xs.length))->xw (rk kf) p xs.length->Q (.ref D) H'
def CG (e:Addr×Str) (N:List Str) (tE ta:TE):TE:=λσ H Q=>ta σ H (Jb e N tE Q)
def LJ (e:Addr×Str) (N:List Str) (tE:TE) (Q:VK):List V->Hp->Prop
 |[x],H1=>Jb e N tE Q x H1
 |_,_=>False
def Dq (hr:cM (k+3) X.A) (hB:FA X.base X.mg) (hcode:X.env.code= .ref c) (hC:CodeHd X.base c P) (hcl:closureFor scope X.env=pure []) (hdef:defaultsOf params X.env=([],[])) (S:aB N [y] scope)
  (hbind: ∀ (s:Shared) (pm:Value) (c:Addr) (ctv u:Value),BindsTo s (kla_fn "<lambda>" (X.env.qual++"<lambda>") params body scope [] pm (.ref c) ctv) ⟨[u],[]⟩ [(y,u)])
  (gB: ∀ (f c:Addr) (A:Around) (s:Shared) (H:Hp),PE (gE i5 X.prog X.w X.K X.mg X.base N (X.env.qual++"<lambda>") scope f (.ref c) A X.stack s H E0).rH body tE)
  (hg:Gl X "sorted") (hm:X.mg "sorted"=none) (ha:PE X e ta) (hs:starEach [e] X.env=(false,eval e X.env)::starEach [] X.env:=by rfl):
  PE X (.Call (.Name "sorted" p) [e] [⟨some (Str.ofString "key"),.Lambda params body scope lpos,kpos⟩] pos) (CG (P,X.env.qual++"<lambda>") N tE ta):=by
 intro pZ s σ H Q I h
 refine wpAny_Call_Name_kw (iq I hg hm boot_sorted ?_)
 have hpa:=cD ha eL hs
 refine callWith_kw (bq (hpa pos pZ s σ H (LJ (P,X.env.qual++"<lambda>") N tE Q) I h) λus s1 hu=>?_) (by rw[hs];rfl) (by rw[hs];rfl)
 obtain⟨vs,H1,I1,r,q⟩:=hu
 match vs,r,q with
 |[x],r,q=>
 obtain⟨u,rfl,rx⟩:=vals1 r
 obtain⟨l,xs,kf,rfl,hl,h64,tab,hk,hb,bY,q⟩:=q
 cases rx
 refine kws_cons (v3 I1 hB hcode hC tab hcl hdef λf c' oc fs tq pm ctv H' s' J hfn at_f at_c hfd hfs tab' eE=>kws_nil ?_)
 show wpAny (model X.prog X.w) X.A (call (.builtin "sorted") [.ref l] [(Str.ofString "key",.ref f)]) (EP X pZ σ Q) X.xe s'
 have nl:l≠P:=λz=>by
  obtain⟨ps,hP,_⟩:=tab
  have hP:H1 P=some (.nE ps):=hP
  rw[z,hP] at hl
  rcases hl with z|z<;>cases z
 have src: ∃ T o n0 aC,(T="list"\/T="tuple")/\s'.heap.get? l=some o/\o.cls= .type T/\o.data= .seq (List.toArray aC) n0/\Vals xs aC:=by
  rcases hl with hl|hl
  ·obtain⟨_,aC,n,rv,ho⟩:=J.a9 l _ (eE l _ nl hl)
   exact⟨"list",_,n,aC,.inl rfl,ho,rfl,rfl,rv⟩
  ·obtain⟨_,aC,rv,o,ho,hc,n,hd⟩:=J.a9 l _ (eE l _ nl hl)
   exact⟨"tuple",o,n,aC,.inr rfl,ho,hc,hd,rv⟩
 obtain⟨T,o,n0,aC,hT,ho,hc,hd,rv⟩:=src
 refine sL J hT ho hc hd rv h64 (λfo H2 s2 i u hu sm J2=>?_) hb bY λD H3 p' hD e1 sm hz hp hu=>?_
 ·have hi:i < xs.length:=by rw[rv.length];exact(PL.mp hu).1
  obtain⟨u',hu',ru⟩:=rv.get (Py hi)
  rw[hu] at hu'
  cases hu'
  exact v5 S hr.in1.in1 rfl J2 (J2.a9 f _ (sm _ _ at_f)).1 (J2.a9 c' _ (sm _ _ at_c)).1 hfd hfs (hbind s2 pm c' ctv u) rfl (show Vals [xs[i]] [u] from .cons ru .nil) (gB f c' _ s2 H2)
   (hk i _ (Py hi) H2 λb o nb e=>sm b o (eE b o nb e))
 ·refine q D H3 p' ?_ e1 (λb o nb e=>sm b o (eE b o nb e)) (tab'.keep (λps e=>sm _ _ e) λb ob u e=>sm _ _ e) hz hp hu
  cases e:H1 D with
  |none=>rfl
  |some o=>
   by_cases z:D=P
   ·obtain⟨ps,hP,_⟩:=tab'
    have hP:H' P=some (.nE ps):=hP
    rw[z,hP] at hD
    cases hD
   ·rw[eE D o z e] at hD
    cases hD
def CH (K:Frag) (i j:Int):TE:=Mm (lu (FI (Gg K) (nF 0) (tC (.int i))) (lu (FI (Gg K) (nF 0) (tC (.int j))) xK))
def uW {K:Frag} {i j a b:Int} {N:List Str} {H:Hp} {p:Addr} {ys:List V} (h:H p=some (.tup ys)) (hi:k8 ys i=some (.int a)) (hj:k8 ys j=some (.int b)):
  CH K i j (start N [.ref p]) H λv H3=> ∃ T,v= .ref T/\H T=none/\H3=upd H T (.tup [.int a,.int b]):=by
 have e0:(start N [V.ref p])[0]?=some (some (.ref p)):=jZ rfl
 exact⟨_,e0,p,ys,i,_,rfl,rfl,dh.of h,hi,_,e0,p,ys,j,_,rfl,rfl,dh.of h,hj,by show 2<=sizeLine;rw[Qm];lia,λT hT=>⟨T,rfl,hT,rfl⟩⟩
def jB:PV->Option (Int×Int)
 | .tup l=>match (l[2]?:Option PV),(l[1]?:Option PV) with
  |some (PV.int m),some (PV.int n)=>some (m,n)
  |_,_=>none
 |_=>none
def xu (y:PV):Int×Int:=(jB y).getD (0,0)
def kH (y:PV):Int:=(xu y).1 * 1000000+(xu y).2
def rO (h:jB y=some k): ∃ l,y= .tup l/\l[2]?=some (.int k.1)/\l[1]?=some (.int k.2):=by
 cases y with
 |tup l=>
  simp only[jB] at h
  split at h
  ·rename_i m n e1 e2
   cases h
   exact⟨l,rfl,e1,e2⟩
  ·cases h
 |_=>cases h
def BP (y:PV):List PV->List PV
 |[]=>[y]
 |z::l=>if kH y < kH z then y::z::l else z::BP y l
def aI:List PV->List PV
 |[]=>[]
 |y::l=>BP y (aI l)
def Fu (y:PV):Bool:=match jB y with
 |some k=>decide (0<=k.2)&&decide (k.2 < 1000000)
 |none=>false
def L1 (l:List PV):Bool:=decide (l.length < 64)&&l.all Fu&&decide (l.map kH).Nodup
def oh (h:Fu y=true): ∃ k,jB y=some k/\0<=k.2/\k.2 < 1000000:=by
 unfold Fu at h
 cases e:jB y with
 |none=>rw[e] at h;cases h
 |some k=>
  rw[e] at h
  simp only[Qk,decide_eq_true_eq] at h
  exact⟨k,rfl,h.1,h.2⟩
theorem mH (y:PV): ∀ l,(BP y l).Perm (y::l)
 |[]=>.refl _
 |z::l=>by
  unfold BP
  split
  ·exact .refl _
  ·exact((mH y l).cons z).trans (.swap _ _ _)
theorem du: ∀ l,(aI l).Perm l
 |[]=>.refl _
 |y::l=>(mH y _).trans ((du l).cons y)
abbrev Ma (a b:PV):Prop:=kH a < kH b
theorem Ar (y:PV): ∀ l,l.Pairwise Ma->(∀ z∈l,kH y≠kH z)->(BP y l).Pairwise Ma
 |[],_,_=>List.pairwise_singleton _ _
 |z::l,h,n=>by
  have h':=Qy.mp h
  unfold BP
  split
  ·rename_i c
   refine Qy.mpr ⟨λx hx=>?_,h⟩
   rcases PR.mp hx with rfl|hx
   ·exact c
   ·exact Int.lt_trans c (h'.1 x hx)
  ·rename_i c
   have nz:=n z PB
   refine Qy.mpr ⟨λx hx=>?_,Ar y l h'.2 λx hx=>n x (PH _ hx)⟩
   rcases PR.mp ((mH y l).mem_iff.mp hx) with rfl|hx
   ·show kH z < kH x
    lia
   ·exact h'.1 x hx
theorem oq: ∀ l,(l.map kH).Nodup->(aI l).Pairwise Ma
 |[],_=>.nil
 |y::l,h=>by
  rw[PQ,List.nodup_cons] at h
  refine Ar y _ (oq l h.2) λz hz e=>h.1 ?_
  rw[e]
  exact Qh ((du l).mem_iff.mp hz)
theorem Cw: ∀ (l m:List PV),l.Pairwise Ma->m.Pairwise Ma->l.Perm m->l=m
 |[],m,_,_,p=>(List.nil_perm.mp p).symm
 |a::l,[],_,_,p=>absurd p.length_eq (by simp)
 |a::l,b::m,h1,h2,p=>by
  have h1':=Qy.mp h1
  have h2':=Qy.mp h2
  have ea:a=b:=by
   rcases PR.mp (p.mem_iff.mp PB) with e|ha
   ·exact e
   rcases PR.mp (p.mem_iff.mpr PB) with e|hb
   ·exact e.symm
   have x1:kH a < kH b:=h1'.1 b hb
   have x2:kH b < kH a:=h2'.1 a ha
   lia
  subst ea
  rw[Cw l m h1'.2 h2'.2 (List.perm_cons a |>.mp p)]
def An (nd:(l.map kH).Nodup) (p:m.Perm l) (u:m.Pairwise Ma):aI l=m:=Cw _ _ (oq l nd) u ((du l).trans p.symm)
def DB (nd:(l.map kH).Nodup) (hk: ∀ i,i < l.length->kf i=xu (l.getD i .aD)) (hz:p.size=l.length) (hp:p.Perm (List.toArray (List.range l.length))) (hu:xw (rk kf) p l.length):aI l=p.toList.map λi=>l.getD i .aD:=by
 have ke:p.toList.Perm (List.range l.length):=Array.perm_iff_toList_perm.mp hp
 have dz: ∀ i∈p.toList,i < l.length:=λi hi=>by
  have:=ke.mem_iff.mp hi
  simpa using this
 refine An nd ?_ ?_
 ·have e:(List.range l.length).map (λi=>l.getD i .aD)=l:=by
   apply List.ext_getElem?
   intro i
   rw[P6]
   by_cases hi:i < l.length
   ·rw[List.getElem?_range hi,Py hi]
    simp[hi]
   ·rw[List.getElem?_eq_none (by simpa using hi),List.getElem?_eq_none (by simpa using hi)]
    rfl
  rw[<-e]
  have:=ke.map λi=>l.getD i .aD
  rw[e] at this ⊢
  exact this
 ·rw[List.pairwise_map,List.pairwise_iff_getElem]
  intro i j hi hj hij
  have hj':j < l.length:=by rw[Qj,hz] at hj;exact hj
  have x:=hu i j hij hj'
  unfold kg rk at x
  have gi:p.getD i 0=p.toList[i]:=by
   rw[P8,Qd (by rw[hz];lia)]
   rfl
  have gj:p.getD j 0=p.toList[j]:=by
   rw[P8,Qd (by rw[hz];lia)]
   rfl
  rw[gi,gj,hk _ (dz _ (Qq hi)),hk _ (dz _ (Qq hj))] at x
  exact x
end
section
variable {φ:dn}
def zL:PV->Option (List PV)
 | .lst l=>some l
 | .tup l=>some l
 |_=>none
def rq (y:PV):M (List PV):=match zL y with
 |some l=>if L1 l then .ret (aI l) else .fail
 |none=>.fail
def Ba (w:(rq y).wp n R): ∃ l,zL y=some l/\l.length < 64/\(∀ z∈l,Fu z=true)/\(l.map kH).Nodup/\R (aI l) n:=by
 unfold rq at w
 cases e:zL y with
 |none=>rw[e] at w;exact w.elim
 |some l=>
  rw[e] at w
  dsimp only at w
  by_cases c:L1 l=true
  ·rw[Qv c] at w
   unfold L1 at c
   simp only[Qk,decide_eq_true_eq,List.all_eq_true] at c
   exact⟨l,rfl,c.1.1,c.1.2,c.2,w⟩
  ·rw[Qw c] at w;exact w.elim
def FZ (r:bH G O H y x) (e:zL y=some l): ∃ p xs,x= .ref p/\(H p=some (.lst xs)\/H p=some (.tup xs))/\aO G.B O H l xs:=by
 cases y with
 |lst l'=>
  cases e
  obtain⟨p,xs,rfl,h,r⟩:=r.eQ
  exact⟨p,xs,rfl,.inl h,r⟩
 |tup l'=>
  cases e
  obtain⟨p,xs,rfl,h,r⟩:=r.i7
  exact⟨p,xs,rfl,.inr h,r⟩
 |_=>cases e
def iH {α:Type} {l:List α} {k:Nat} {x:α} (h:l[k]?=some x):k8 l (k:Int)=some x:=by
 have hk:k < l.length:=(PL.mp h).1
 unfold k8 uN
 rw[Qv (by lia),Qv (by lia)]
 show l[((k:Nat):Int).toNat]?=_
 rw[Int.toNat_natCast]
 exact h
def Ez {X:Cx} {e:Expr} {tb:Addr×Str} {N:List Str} {me:ae->M PV} (hin:tb∈φ.tabs) (hun: ∀ q∈φ.tabs,q.1=tb.1->q=tb) (h:BE X e (CG tb N (CH X.K 2 1) (rf φ me))):EF φ X e (λρ=>(me ρ).bind rq):=BE.mono h λσ H Q bu=>by
 obtain⟨G,O,ρ,n,R,s,w,q⟩:=bu
 rw[M.wZ] at w
 refine⟨G,O,ρ,n,_,s,w,λy x H1 n1 e1 ba r1 w1=>?_⟩
 obtain⟨l,hl,h64,a9,nd,hR⟩:=Ba w1
 obtain⟨p,xs,rfl,hp,rs⟩:=FZ r1 hl
 have s1:=s.ext e1 ba
 have tab:=G.tab H1 n1 ba tb hin
 have hlen:l.length=xs.length:=rs.1
 have pO:O tb.1:=s.pr _ (G.tp tb hin)
 obtain⟨ps,hP,_⟩:=id tab
 refine⟨p,xs,λi=>xu (l.getD i .aD),rfl,hp,by lia,tab,λi x hx H2 k2=>?_,λi hi=>?_,λi j hi hj ne=>?_,λD H' p' hD hD' kp tab' hz hpm hu=>?_⟩
 ·obtain⟨y,hy,ry⟩:=rs.at' hx
  obtain⟨k,ek,b0,b1⟩:=oh (a9 y (List.mem_of_getElem? hy))
  obtain⟨l',rfl,g2,g1⟩:=rO ek
  obtain⟨q',ys,rfl,hq',r'⟩:=(bH.full ry:bH G O H1 _ _).i7
  obtain⟨v2,hv2,rv2⟩:=r'.at g2
  obtain⟨v1,hv1,rv1⟩:=r'.at g1
  cases rv2
  cases rv1
  have ekk:xu (l.getD i .aD)=k:=by
   rw[P4,hy]
   show (jB _).getD _=k
   rw[Option.getD_some,ek]
   rfl
  dsimp only
  rw[ekk]
  exact uW (k2 _ _ (λz=>by rw[z,hP] at hq';cases hq') hq') (iH hv2) (iH hv1)
 ·have hi':i < l.length:=by lia
  obtain⟨k,ek,b0,b1⟩:=oh (a9 _ (Qq hi'))
  have ekk:xu (l.getD i .aD)=k:=by
   rw[P4,Py hi']
   show (jB _).getD _=k
   rw[Option.getD_some,ek]
   rfl
  dsimp only
  rw[ekk]
  exact⟨b0,b1⟩
 ·have hi':i < l.length:=by lia
  have hj':j < l.length:=by lia
  intro z
  have e1: ∀ k,(hk:k < l.length)->rk (λi=>xu (l.getD i .aD)) k=(l.map kH)[k]'(by simpa using hk):=λk hk=>by
   rw[List.getElem_map]
   unfold rk kH
   dsimp only
   rw[P4,Py hk]
   rfl
  rw[e1 i hi',e1 j hj'] at z
  have pw:=List.pairwise_iff_getElem.mp nd
  rcases Nat.lt_or_gt_of_ne ne with c|c
  ·exact pw i j (by simpa using hi') (by simpa using hj') c z
  ·exact pw j i (by simpa using hj') (by simpa using hi') c z.symm
 ·have kp1: ∀ b o,¬ O b->H1 b=some o->H' b=some o:=λb o nb eb=>kp b o (λz=>nb (z▸pO)) eb
  have ext:Ext G.B H1 H':=λb o nb eb=>by
   by_cases z:b=tb.1
   ·obtain⟨qs,hQ,_⟩:=tab'
    rw[z,hP] at eb
    cases eb
    exact⟨qs,z▸hQ⟩
   ·exact .of (kp b o z eb)
  have ok':G.ok H' n1:=G.xF H1 H' n1 ba (λq' hq'=>by
   by_cases z:q'.1=tb.1
   ·rw[hun q' hq' z]
    exact tab'
   ·exact(G.tab H1 n1 ba q' hq').keep (λqs eq=>kp _ _ z eq) λb ob u eq=>kp b _ (λy=>by rw[y,hP] at eq;cases eq) eq) λb o nb eb=>kp b o (λz=>nb (PX.mpr ⟨tb,hin,z.symm⟩)) eb
  have ei:=DB (p:=p') nd (kf:=λi=>xu (l.getD i .aD)) (λi _=>rfl) (by lia) (by rw[hlen];exact hpm) (by rw[hlen];exact hu)
  have dz: ∀ i∈p'.toList,i < l.length:=λi hi=>by
   have:=(Array.perm_iff_toList_perm.mp hpm).mem_iff.mp hi
   simp at this
   lia
  refine q (aI l) D _ H' n1 (e1.trans ext) ok' (ft e1 ba hD) hD' ?_ hR
  rw[ei]
  have go:aO G.B O H1 (p'.toList.map λi=>l.getD i .aD) (p'.toList.map λi=>xs.getD i .aD):=by
   refine⟨by simp,λi y x a b=>?_⟩
   rw[P6] at a b
   cases c:p'.toList[i]? with
   |none=>rw[c] at a;cases a
   |some j=>
    rw[c] at a b
    cases a
    cases b
    have hj:=dz j (List.mem_of_getElem? c)
    obtain⟨x,hx,rx⟩:=rs.at (Py hj)
    show Rep G.B O H1 (l.getD j .aD) (xs.getD j .aD)
    rw[P4,P4,hx,Py hj]
    exact rx
  exact go.keep (O':=λq=>O q\/q=D) (H':=H') λb o nb eb=>⟨kp1 b o nb eb,λz=>by
   rcases z with z|z
   ·exact nb z
   ·rw[z,hD] at eb;cases eb⟩
end
structure Cd (K:Frag) (x qual:Str) (st:Stmt) (f:Addr) (fd:FuncData) (c tb:Addr):Prop where
 ex: ∃ (oc:Value) (od:Option Addr) (kV doc pm:Value) (an:Option Addr) (ct:Value) (osl:Array (Option Value)),
  fd=fnOf x qual (d7 st) (bo st) (ao st) .none kV doc pm an (.ref c) ct/\K.lookup f=some ⟨oc,od,.func fd,osl⟩/\codeIn K (.ref c) qual=true
 hd:PySem.W.codeHdIn K c tb=true
section
variable {φ:dn} {P:Program} {w:World} {K:Frag} {mg:Str->Option Value} {base:Heap}
def Cd.ok {x qual:Str} {st:Stmt} {f c tb:Addr} {fd:FuncData} {N ps:List Str} {k:Nat} {sp:Sp} (F:Cd K x qual st f fd c tb) (S:aB N ps (ao st)) (len: ∀ vs H Q E,sp vs H Q E->vs.length=ps.length)
  (gB: ∀ (A:Around) (outer:List Env) (s:Shared) (H:Hp) (vs:List V) (Q:VK) (E:XK),cM k (A.deeper (envOfC qual (ao st) s.heap.objs.size f (.ref c)))->sp vs H Q E->
   ∃ t,xx (gE i5 P w K mg base N qual (ao st) f (.ref c) A outer s H E).rH (bo st) t/\t {nx:=λ_ H'=>Q .aD H',rt:=Q} (start N vs) H):di P w K mg base i5 (k+1) f fd ps sp:=by
 obtain⟨oc,od,kV,doc,pm,an,ct,osl,rfl,lk,hcd⟩:=F.ex
 refine IW lk hcd S len λA outer s H vs Q E hr hsp=>?_
 obtain⟨t,h,q⟩:=gB A outer s H vs Q E hr hsp
 exact⟨t,h.rH,q⟩
def Hj {x qual:Str} {st:Stmt} {f c tb:Addr} {fd:FuncData} {N ps:List Str} {k:Nat} {m:ae->M Fl} (F:Cd K x qual st f fd c tb) (S:aB N ps (ao st)) (hN:ps.length<=N.length)
  (hb: ∀ (A:Around) (outer:List Env) (s:Shared) (H:Hp) (E:XK),cM k (A.deeper (envOfC qual (ao st) s.heap.objs.size f (.ref c)))->Fd φ (gE i5 P w K mg base N qual (ao st) f (.ref c) A outer s H E).rH (bo st) m):
  di P w K mg base i5 (k+1) f fd ps (xP φ (gp ps.length N.length m)):=by
 refine F.ok S (λvs H Q E h=>?_) (λA outer s H vs Q E hr h=>⟨_,(hb A outer s H E hr).out,?_⟩)
 ·obtain⟨G,O,l,n,R,_,_,_,r,w,_⟩:=h
  unfold gp at w
  by_cases hc:l.length=ps.length
  ·rw[<-r.1,hc]
  ·rw[Qw hc] at w;exact w.elim
 ·obtain⟨G,O,l,n,R,pr,dm,ok,r,w,q⟩:=h
  unfold gp at w
  by_cases hc:l.length=ps.length
  ·rw[Qv hc,M.wZ] at w
   refine⟨G,O,H,O,gM N.length l,n,⟨⟨⟨?_,λi e he=>?_⟩,ok,pr,dm⟩,pr,λp h=>h,Ext.refl _ _,λp h=>.inl h,dm,λi p h=>?_,λi j p h=>?_⟩,M.wp_mono w λf n' h=>?_⟩
   ·unfold start gM;simp[r.1]
   ·unfold gM at he
    by_cases hi:i < l.length
    ·rw[Qn (by simpa using hi),P6,Py hi] at he
     cases he
     obtain⟨x,hx,rr⟩:=r.at (Py hi)
     exact⟨x,by rw[jZ hx];rfl,rr⟩
    ·rw[List.getElem?_append_right (by simpa using hi),List.getElem?_replicate] at he
     split at he
     ·cases he;trivial
     ·cases he
   all_goals try (
    obtain⟨t,h1,h2,_⟩:=h
    exfalso
    unfold gM at h1
    by_cases hi:i < l.length
    ·rw[Qn (by simpa using hi),P6,Py hi] at h1
     cases h1;cases h2
    ·rw[List.getElem?_append_right (by simpa using hi),List.getElem?_replicate] at h1
     split at h1
     ·cases h1;cases h2
     ·cases h1)
   cases f with
   |nx ρ=>exact λO' σ' H' s'=>q .aD .aD H' n' s'.ext s'.es.ok .aD h
   |rt y=>exact λx' H' e' ok' r'=>q y x' H' n' e' ok' r' h
   |bk ρ=>exact h.elim
   |ct ρ=>exact h.elim
  ·rw[Qw hc] at w;exact w.elim
def Em {x qual:Str} {st:Stmt} {f c tb:Addr} {fd:FuncData} {N ps:List Str} {k:Nat} {m:ae->M Fl} {body:List Stmt} {sc:Scope} {Ff:List PV->M PV} (hF:Ff=gp ps.length N.length m) (F:Cd K x qual st f fd c tb) (S:aB N ps (ao st)) (hN:ps.length<=N.length) (eb:bo st=body) (es:ao st=sc)
  (hb: ∀ (A:Around) (outer:List Env) (s:Shared) (H:Hp) (E:XK),cM k (A.deeper (envOfC qual sc s.heap.objs.size f (.ref c)))->Fd φ (gE i5 P w K mg base N qual sc f (.ref c) A outer s H E).rH body m):
  di P w K mg base i5 (k+1) f fd ps (xP φ Ff):=by
 subst hF eb es
 exact Hj F S hN hb
end
noncomputable def l6 (K:Frag) (tbs:List Addr):Sp:=λvs H Q _=> ∃ (a:Addr) (ns:List Int),vs=[.ref a]/\bU K H a (ns.map V.int)/\ns.length<=63/\(∀ tb∈tbs,H tb=some (.nE #[]))/\∀ H',Q (.bl true) H'
def nX (c dp:Nat) (y:PV):Prop:= ∃ d:PyData,toD y=some d/\d.showable=true/\d.hasDict=false/\d.shown.length<=c/\d.depth<=dp
def nX.mono (h:nX c dp y) (hc:c<=c') (hd:dp<=dp'):nX c' dp' y:=by
 obtain⟨d,h1,h2,h3,h4,h5⟩:=h
 exact⟨d,h1,h2,h3,P7 h4 hc,P7 h5 hd⟩
def FX (h:i.natAbs < 10 ^ 61):nX 62 0 (.int i):=by
 refine⟨.int i,by simp only[toD],?_,by simp only[PyData.hasDict],?_,by simp only[PyData.depth];lia⟩
 ·simp only[PyData.showable,decide_eq_true_eq]
  by_cases z:i.natAbs=0
  ·rw[z];decide
  ·rw[Nat.log2_lt z]
   exact P9 h (by decide +kernel)
 ·simp only[PyData.shown]
  have:=int_text_length_le10 (k:=61) (by decide) h
  show (Str.ofString (toString i)).length<=62
  rw[PySem.ofString_length]
  lia
def FW (h:x.length<=k) (hc: ∀ c∈x.cps.toList,c < 16 ^ 8):nX (10 * k+2) 0 (.str x):=by
 refine⟨.str x,by simp only[toD],by simp only[PyData.showable],by simp only[PyData.hasDict],?_,by simp only[PyData.depth];lia⟩
 simp only[PyData.shown]
 have:=PySem.StrLaws.reprText_len x hc
 lia
theorem Mw: ∀ (l:List PV),(∀ z∈l,nX c dp z)->∃ ds,lY l=some ds/\ds.length=l.length/\PyData.showableAll ds=true/\PyData.hasDictAll ds=false/\(∀ t∈PyData.shownAll ds,t.length<=c)/\(PyData.shownAll ds).length=l.length/\PyData.depthAll ds<=dp
 |[],_=>⟨[],by simp only[lY],rfl,by simp only[PyData.showableAll],by simp only[PyData.hasDictAll],(by simp only[PyData.shownAll];exact λt h=>absurd h PU),(by simp only[PyData.shownAll,List.length_nil]),(by simp only[PyData.depthAll];lia)⟩
 |y::l,h=>by
  obtain⟨d,h1,h2,h3,h4,h5⟩:=h y PB
  obtain⟨ds,g1,g2,g3,g4,g5,g6,g7⟩:=Mw l λz hz=>h z (PH _ hz)
  refine⟨d::ds,by simp only[lY,h1,g1,Option.bind_some,Option.map_some],by simp[g2],by simp only[PyData.showableAll,h2,g3,Bool.and_self],by simp only[PyData.hasDictAll,h3,g4,Bool.or_self],?_,by simp only[PyData.shownAll,PY,g6],by simp only[PyData.depthAll];lia⟩
  simp only[PyData.shownAll]
  intro t ht
  rcases PR.mp ht with rfl|ht
  ·exact h4
  ·exact g5 t ht
theorem join_le: ∀ (ts:List Str),(∀ t∈ts,t.length<=c)->(Str.join ", " ts).length<=ts.length * (c+2)
 |[],_=>by show (0:Nat)<=_;lia
 |[x],h=>by
  have:=h x PB
  show x.length<=1 * (c+2)
  lia
 |x::y::r,h=>by
  have ih:=join_le (y::r) λt ht=>h t (PH _ ht)
  have hx:=h x PB
  show (x++", "++Str.join ", " (y::r)).length<=_
  have e2:((", ":String):Str).length=2:=rfl
  rw[strLen_append,strLen_append,e2,PY,Nat.succ_mul]
  lia
def j0 (h: ∀ z∈l,nX c dp z) (hl:l.length<=n):nX (n * (c+2)+3) (dp+1) (.tup l):=by
 obtain⟨ds,g1,g2,g3,g4,g5,g6,g7⟩:=Mw l h
 refine⟨.tuple ds,by simp only[toD,g1,Option.map_some],by simp only[PyData.showable,g3],by simp only[PyData.hasDict,g4],?_,by simp only[PyData.depth];lia⟩
 simp only[PyData.shown]
 have hj:=join_le _ g5
 rw[g6] at hj
 have hm:l.length * (c+2)<=n * (c+2):=Nat.mul_le_mul_right _ hl
 unfold tupleText
 rw[strLen_append,strLen_append]
 have e1:(("(":String):Str).length=1:=rfl
 have e2:((if(PyData.shownAll ds).length==1 then ",)" else ")":String):Str).length<=2:=by
  by_cases z:((PyData.shownAll ds).length==1)=true
  ·rw[Qv z];decide
  ·rw[Qw z];decide
 lia
theorem lP: ∀ (l:List PV),(∀ z∈l,f z z=some true)->eqs f l l=some true
 |[],_=>rfl
 |y::l,h=>by
  simp only[eqs,h y PB,lP l λz hz=>h z (PH _ hz),Option.bind_some,Bool.and_self]
theorem oJ: ∀ {l:List PV} {ds:List PyData},lY l=some ds->∀ z∈l,∃ d,toD z=some d/\d.depth<=PyData.depthAll ds
 |[],ds,e,z,hz=>nomatch hz
 |y::l,ds,e,z,hz=>by
  simp only[lY] at e
  cases e1:toD y with
  |none=>rw[e1] at e;cases e
  |some d=>
   rw[e1] at e
   cases e2:lY l with
   |none=>rw[e2] at e;cases e
   |some dl=>
    rw[e2] at e
    cases e
    simp only[PyData.depthAll]
    rcases PR.mp hz with rfl|hz
    ·exact⟨d,e1,by lia⟩
    ·obtain⟨d',h1,h2⟩:=oJ e2 z hz
     exact⟨d',h1,by lia⟩
theorem eq_self: ∀ (k:Nat) (y:PV) (d:PyData),toD y=some d->d.depth < k->qv k y y=some true
 |0,_,_,_,h=>absurd h (by lia)
 |k+1,y,d,e,h=>by
  cases y with
  |tup l=>
   simp only[toD] at e
   obtain⟨ds,e1,rfl⟩:=Qa.mp e
   simp only[PyData.depth] at h
   simp only[qv]
   refine lP l λz hz=>?_
   obtain⟨d',h1,h2⟩:=oJ e1 z hz
   exact eq_self k z d' h1 (by lia)
  |lst l=>
   simp only[toD] at e
   obtain⟨ds,e1,rfl⟩:=Qa.mp e
   simp only[PyData.depth] at h
   simp only[qv]
   refine lP l λz hz=>?_
   obtain⟨d',h1,h2⟩:=oJ e1 z hz
   exact eq_self k z d' h1 (by lia)
  |aD=>rfl
  |bl b=>cases b<;>rfl
  |int i=>simp[qv,aV,toV,se,cH]
  |str x=>simp[qv,aV,toV,se,cH]
  |cU l=>simp only[toD] at e;cases e
  |sP l=>simp only[toD] at e;cases e
  |bD=>simp only[toD] at e;cases e
def NI (K:Frag) (a:Addr) (xs:List V):It:=⟨λi H=>bU K H a xs/\i < xs.length,λi H x H'=>H'=H/\xs.reverse[i]?=some x,λi H=>bU K H a xs/\i=xs.length⟩
def CB {P:Program} {w:World} {K:Frag} {tg:Expr} (a it:Addr) (xs:List V):Turn P w K tg (NI K a xs) [it] it (λi h=>h.IsRevIter it a ((xs.length:Int) - 1 - i)) where
 mem:=by simp
 obj:=λi h st b hb=>by
  have e:b=it:=by simpa using hb
  subst e
  obtain⟨o,e,c,d⟩:=st
  exact⟨o,e,λv z=>by rw[d] at z;cases z⟩
 keep:=λi h h' st k=>st.at λo e=>k it (by simp) o e
 item:=by
  intro X hP hw hK hc i pZ s σ H E I hf st hg
  subst hP hw hK
  obtain⟨hq,hi⟩:=hg
  obtain⟨aC,rv,p,hz⟩:=I.list hq
  have hl:=rv.length
  obtain⟨u,hu,ru⟩:=rv.get (Py (show xs.length - 1 - i < xs.length by lia))
  obtain⟨f0,f1,f2,f3,f4,f5⟩:=hf it (by simp)
  have ei:(xs.length:Int) - 1 - i=((xs.length - 1 - i:Nat):Int):=by lia
  have st2:=st
  rw[ei] at st2
  refine wpAny_pyNext_rev_item st2 p.isList (x:=u) (by simpa using hu) λh' st' sb=>?_
  have I1:Inv X pZ σ H {s with heap:=h'}:=I.turned (t':=s.toks) (λb o hb e=>(sb.2 b hb).trans e) f0 f1 f3 f4 f5
  have e2:((xs.length - 1 - i:Nat):Int) - 1=(xs.length:Int) - 1 - ((i+1:Nat):Int):=by lia
  rw[e2] at st'
  obtain⟨o,e,c,d⟩:=id st'
  refine⟨u,rfl,rV (s:={s with heap:=h'}) e c d (by decide) ⟨_,H,I1,ru,⟨rfl,?_⟩,st',λb hb=>(hf b hb).1⟩⟩
  rw[List.getElem?_reverse hi]
  exact Py _
 done:=by
  intro X hP hw hK hc i pZ s σ H E I hf st hg
  subst hP hw hK
  obtain⟨hq,rfl⟩:=hg
  obtain⟨f0,f1,f2,f3,f4,f5⟩:=hf it (by simp)
  rw[show (xs.length:Int) - 1 - (xs.length:Int)= -1 by lia] at st
  exact wpAny_pyNext_rev_end (I.ok.hd hc) st λh' eb=>⟨rfl,I.turned (t':=s.toks) (λb o hb e=>eb b o hb e) f0 f1 f3 f4 f5⟩
 self:=λ_ _ _ _ _ st h=>wpAny_pyIter_revIter st h
def ON (K:Frag) (ta:TA):TI:=λσ H R=>ta σ H λvs H1=> ∃ a xs,vs=[.ref a]/\bU K H1 a xs/\R (NI K a xs) H1
section
variable {X:Cx} {x:Str} {p pos:Pos} {e tg:Expr}
def J1 {ta:TA} (hg:Gl X x) (hm:X.mg x=none) (hv:bootBuiltins x=some (.type "reversed")) (ha:PA X [e] ta) (hn:x≠"__name__":=by decide) (nV:(x==("__debug__":Str))=false:=by decide)
  (he:starEach [e] X.env=(false,eval e X.env)::starEach [] X.env:=by rfl) (ke:(backTo pos (starEach [] X.env)).any (·.1)=false:=by rfl):PI X tg (.Call (.Name x p) [e] [] pos) (ON X.K ta):=by
 intro pZ s σ H R I h
 refine wpAny_Call_Name_kw (iq I hg hm hv ?_ hn nV)
 refine PyProof.Rows.callWith_type1 (bq (ha pos pZ s σ H _ I h) λus s1 ⟨vs,H1,I1,r1,q1⟩=>?_) he ke
 obtain⟨a,xs,rfl,hq,q⟩:=q1
 obtain⟨u,rfl,ru⟩:=r1.one
 cases ru
 obtain⟨aC,rv,p,hz⟩:=I1.list hq
 have hl:=rv.length
 refine call_reversed_list p.isList ?_
 have I2:Inv X pZ σ H1 {s1 with heap:=s1.heap.push (revObj a ((aC.toArray.size:Int) - 1))}:=I1.kept (t':=s1.toks) λb o e=>PF _ e
 have ez:((aC.toArray.size:Nat):Int) - 1=(xs.length:Int) - 1 - ((0:Nat):Int):=by rw[PK];lia
 have st:(s1.heap.push (revObj a ((aC.toArray.size:Int) - 1))).IsRevIter s1.heap.objs.size a ((xs.length:Int) - 1 - ((0:Nat):Int)):=by
  rw[<-ez]
  exact⟨_,PZ _ rfl,rfl,rfl⟩
 refine wpAny_pyIter_revIter st ?_
 refine⟨s1.heap.objs.size,[s1.heap.objs.size],_,_,H1,rfl,I2,CB a _ xs,st,λb hb=>?_,q⟩
 have e:b=s1.heap.objs.size:=by simpa using hb
 subst e
 exact I1.pQ (PM _) (I1.a9.fresh (PM _))
end
def Hh {K:Frag} {a:Addr} {xs:List V} {g:TG} {tb:TS} {D:Ends} {σ:St} {H:Hp} (Pv:Nat->L2.St->Hp->Prop) (h0:Pv 0 σ H) (hl: ∀ i σ H,i<=xs.length->Pv i σ H->bU K H a xs)
  (hs: ∀ i x σ H,x∈xs->i < xs.length->Pv i σ H->g x σ H λσ2 H2=>tb {D with nx:=Pv (i+1),ct:=Pv (i+1),bk:=D.nx} σ2 H2) (hd: ∀ σ H,Pv xs.length σ H->D.nx σ H):
  ∃ W:Nat->Nat->L2.St->Hp->Prop,(∃ m,W 0 m σ H)/\∀ i m σ H,W i m σ H->
   ((NI K a xs).stop i H/\D.nx σ H)\/((NI K a xs).go i H/\∃ N:L2.St->Hp->Prop,(∀ σ' H',N σ' H'->∃ m',m' < m/\W (i+1) m' σ' H')/\∀ x H',(NI K a xs).Ci i H x H'->g x σ H' λσ2 H2=>tb {D with nx:=N,ct:=N,bk:=D.nx} σ2 H2):=by
 refine⟨λi m σ H=>m=xs.length - i/\i<=xs.length/\Pv i σ H,⟨xs.length,by simp,Qe _,h0⟩,?_⟩
 rintro i m σ H ⟨rfl,hi,p⟩
 have q:=hl i σ H hi p
 by_cases dz:i < xs.length
 ·refine .inr ⟨⟨q,dz⟩,Pv (i+1),λσ' H' p'=>⟨xs.length - (i+1),by lia,rfl,dz,p'⟩,λx H' y=>?_⟩
  obtain⟨rfl,y⟩:=y
  exact hs i x σ _ (List.mem_reverse.mp (List.mem_of_getElem? y)) dz p
 ·have e:i=xs.length:=by lia
  subst e
  exact .inl ⟨⟨q,rfl⟩,hd σ H p⟩
structure Ny (H:Hp) (a:Addr) (n:Nat):Prop where
 ex: ∃ (d sd k:Int),H a=some (.lst [.int d,.int sd,.int k])/\0<=d/\0<=sd/\sd < 2305843009213693951/\0<=k/\k<=n
noncomputable def CQ:Sp:=λvs H Q _=> ∃ (a:Addr) (n:Nat) (m:Int),vs=[.ref a,.int m]/\Ny H a n/\n < 1000000/\0 < m/\m < 1073741824/\
 ∀ (d:Int) (o:HO),0<=d->d < m->Ny (upd H a o) a (n+1)->Q (.int d) (upd H a o)
def sJ (K:Frag):Sp:=λvs H Q _=> ∃ (a:Addr) (ns:List Int),vs=[.ref a]/\bU K H a (ns.map V.int)/\ns.length<=63/\∀ (b:Addr) (H':Hp),eJ H H'->Ny H' b 0->Q (.ref b) H'
abbrev yy (K:Frag) (tabs:List (Addr×Str)):dn:=⟨K,CQ,tabs⟩
noncomputable def rB (K:Frag) (tabs:List (Addr×Str)) (a:Addr):Bg (yy K tabs) where
 B:=a
 cu:=λp=>p=a\/p∈tabs.map (·.1)
 ok:=λH n=>(∃ k,k+n<=1000000/\Ny H a k)/\∀ e∈tabs,TabAt H e
 pB:=.inl rfl
 keep:=λH H' n k h=>by
  obtain⟨⟨j,hj,b⟩,ht⟩:=h
  obtain⟨d,sd,k',h1,r⟩:=b.ex
  exact⟨⟨j,hj,d,sd,k',k a _ (.inl (.inl rfl)) h1,r⟩,λe he=>(ht e he).keep (λps z=>k _ _ (.inl (.inr (Qh he))) z) λb ob u z=>k _ _ (.inr trivial) z⟩
 tp:=λe he=>.inr (Qh he)
 tab:=λH n h=>h.2
 xF:=λH H' n h h1 h2=>by
  obtain⟨⟨j,hj,b⟩,ht⟩:=h
  obtain⟨d,sd,k',g1,r⟩:=b.ex
  have no:a∉tabs.map (·.1):=λz=>by
   obtain⟨e',he',z2⟩:=PX.mp z
   obtain⟨ps,e2,_⟩:=ht e' he'
   rw[z2,g1] at e2;cases e2
  exact⟨⟨j,hj,d,sd,k',h2 a _ no g1,r⟩,h1⟩
 EH:=λH n p h z=>by
  obtain⟨⟨j,hj,b⟩,ht⟩:=h
  obtain⟨d,sd,k',g1,r⟩:=b.ex
  rcases z with rfl|z
  ·exact⟨_,g1⟩
  ·obtain⟨e',he',rfl⟩:=PX.mp z
   obtain⟨ps,e3,_⟩:=ht e' he'
   exact⟨_,e3⟩
 dr:=λH n m Q E ok h0 h1 q=>by
  obtain⟨⟨k,hk,b⟩,ht⟩:=ok
  obtain⟨_,_,_,e1,_⟩:=id b.ex
  exact⟨a,k,m,rfl,b,by lia,h0,h1,λd o d0 d1 b'=>q d _ d0 d1 (λp u np hp=>.of (by rw[ag np];exact hp)) ⟨⟨k+1,by lia,b'⟩,λe he=>(ht e he).keep (λps z=>by rw[ag (DL z e1 (by intro y;cases y))];exact z) λb ob u z=>by rw[ag (DL z e1 (by intro y;cases y))];exact z⟩⟩
def G4 {tabs:List (Addr×Str)} {P:Program} {w:World} {K:Frag} {mg:Str->Option Value} {base:Heap} {x qual:Str} {st s0:Stmt} {f:Addr} {fd:FuncData} {N:List Str} {k b:Nat} {m:ae->M Fl} {rest:List Stmt} {sc:Scope} (F:Fz K x qual st f fd) (S:aB N ["_law_script"] (ao st)) (eb:bo st=s0::rest) (es:ao st=sc)
  (h0: ∀ (eF:Value) (A:Around) (outer:List Env) (s:Shared) (H:Hp) (E:XK),cM k (A.deeper (envOfC qual sc s.heap.objs.size f eF))->BS (gE i5 P w K mg base N qual sc f eF A outer s H E).rH s0 (gL (uX (sJ K) [] E0 (lu (nF 0) xK)) (c7 b)))
  (hb: ∀ (eF:Value) (A:Around) (outer:List Env) (s:Shared) (H:Hp) (E:XK),cM k (A.deeper (envOfC qual sc s.heap.objs.size f eF))->Fd (yy K tabs) (gE i5 P w K mg base N qual sc f eF A outer s H E).rH rest m)
  (hm:(m ((List.replicate N.length un).set b (.val .bD))).wp 1000000 λf _=>f= .rt (.bl true)) (h1:0 < N.length) (hb1:b < N.length) (hb0:b≠0):
  di P w K mg base i5 (k+1) f fd ["_law_script"] (l6 K (tabs.map (·.1))):=by
 subst es
 refine F.ok S (λvs H Q E h=>by obtain⟨a,ns,rfl,_⟩:=h;rfl) (λeF A outer s H vs Q E hr h=>?_)
 rw[eb]
 refine⟨_,cq (h0 eF A outer s H E hr).out (hb eF A outer s H E hr).out,?_⟩
 obtain⟨a,ns,rfl,hS,h63,ht,q⟩:=h
 refine⟨.ref a,?_,a,ns,rfl,hS,h63,λb' H' sm bD=>?_⟩
 ·exact jZ (N:=N) rfl
 ·have hl:(start N [V.ref a]).length=N.length:=by
   unfold start
   simp only[Qc,PD,List.length_replicate,PY,List.length_nil]
   lia
  have qM:(rB K tabs b').ok H' 1000000:=⟨⟨0,by lia,bD⟩,λe he=>⟨#[],sm _ _ (ht _ (Qh he)),trivial,λpos cv z=>nomatch z⟩⟩
  have no: ∀ i p,¬ dN ((List.replicate N.length un).set b (.val .bD)) ((start N [V.ref a]).set b (some (V.ref b'))) i p:=λi p hh=>by
   obtain⟨t,g1,g2,_⟩:=hh
   by_cases e:b=i
   ·subst e
    rw[Qx (by simpa using hb1)] at g1
    cases g1;cases g2
   ·rw[Qi e,List.getElem?_replicate] at g1
    split at g1
    ·cases g1;cases g2
    ·cases g1
  refine⟨rB K tabs b',(rB K tabs b').cu,H',(rB K tabs b').cu,_,1000000,⟨⟨⟨by simp[hl],λi e he=>?_⟩,qM,λp z=>z,λp z=>(rB K tabs b').EH H' 1000000 p qM z⟩,λp z=>z,λp z=>z,Ext.refl _ _,λp z=>.inl z,λp z=>(rB K tabs b').EH H' 1000000 p qM z,λi p hh=>(no i p hh).elim,λi j p hh=>(no i p hh).elim⟩,M.wp_mono hm λf n' hf=>?_⟩
  ·by_cases e1:b=i
   ·subst e1
    rw[Qx (by simpa using hb1)] at he
    cases he
    rw[Qx (by lia)]
    exact⟨_,rfl,.bD⟩
   ·rw[Qi e1,List.getElem?_replicate] at he
    split at he
    ·cases he;trivial
    ·cases he
  ·subst hf
   intro x' H2 _ _ r2
   cases r2
   exact q H2
end L2
namespace HT
open L2
open L2.Ent (val un)
def C5 (A:Around) (s:Shared) (a:Int) (t:Tok) (c:Int) (u:Tok) (prog:Program) (w:World) (E:Value->Shared->Prop) (Q:Value->Shared->Prop) (h:Q (.bool (decide (c < a))) s):
  wpAny (model prog w) A (richCompare .Gt (.int a t) (.int c u)) Q E s:=(gt_int h:wpAny (model prog w) A (compareOp .Gt (.int a t) (.int c u)) Q E s)
section
open PySem.SeqAt
open PySem.AutoSeq1 (wpAny_loadPart')
open PySem.MeetsSeq PySem.MeetsSeq2 PySem.MeetsSeq3
def qw (l b:Addr) (items ir:Array Value) (n n2:Nat) (dd dd2:Option Addr) (sl sl2:Array (Option Value)) (ns ms:List Int) (hi:IntsAre items.toList ns) (hj:IntsAre ir.toList ms):
  Meets (Builtin.«tuple.__gt__» ⟨[.ref l,.ref b],[]⟩)
   (λ_ R s=>s.heap.get? l=some {cls:=.type "tuple",dict:=dd,data:=.seq items n,slots:=sl}/\s.heap.get? b=some {cls:=.type "tuple",dict:=dd2,data:=.seq ir n2,slots:=sl2}/\
    R (.ok (.ret (.bool (lexLt ms ns)))) s):=
 .of_wp λprog w A R s h=>by
  obtain⟨hp,g,d,tk,os⟩:=s;obtain⟨hl,hb,h⟩:=h
  have f2:=AutoSeq1.sub_tuple_tuple
  have z1:items.size=ns.length:=by rw[<-hi.length];simp
  have z2:ir.size=ms.length:=by rw[<-hj.length];simp
  wp_walk using wpAny_loadPart' hl,wpAny_loadPart' hb,wpAny_forIn_list _ (λrest b s'=>b.1=none/\s'=⟨hp,g,d,tk,os⟩/\∃ (vs ws:List Value) (ns' ms':List Int),rest=vs.zip ws/\
   IntsAre vs ns'/\IntsAre ws ms'/\ns'.length+ir.size=ms'.length+items.size/\R (.ok (.ret (.bool (lexLt ms' ns')))) ⟨hp,g,d,tk,os⟩) _
  case turn=>
   rintro⟨y,x⟩ rest b s' ⟨hb',rfl,vs,ws,ns',ms',hz,hvi,hwi,hlen,hR⟩
   cases hvi with
   |nil=>rw[List.zip_nil_left] at hz;cases hz
   |cons a t hvi'=>
    cases hwi with
    |nil=>rw[List.zip_nil_right] at hz;cases hz
    |cons c u hwi'=>
     rw[List.zip_cons_cons] at hz
     injection hz with hyx hrest
     injection hyx with hy hx
     subst hy hx
     rw[kR] at hR
     simp only[PY] at hlen
     obtain⟨e,he,hiff⟩:=Et A.in1 ⟨hp,g,d,tk,os⟩ a t c u
     refine Pz (he prog w _ _ ?_)
     cases e with
     |true=>
      rw[Qv (hiff.mp rfl).symm] at hR
      wp_walk
      exact⟨rfl,rfl,_,_,_,_,hrest,hvi',hwi',by lia,hR⟩
     |false=>
      rw[Qw (λq=>absurd (hiff.mpr q.symm) Bool.false_ne_true)] at hR
      have hri:=C5 A.in1 ⟨hp,g,d,tk,os⟩ a t c u prog w
      wp_walk using hri
      exact⟨_,rfl,by simpa using hR⟩
  case fin=>
   rintro⟨b1,b2⟩ s' ⟨hb',rfl,vs,ws,ns',ms',hz,hvi,hwi,hlen,hR⟩
   simp only at hb'
   subst hb'
   have hv:lexLt ms' ns'=decide (ir.size < items.size):=by
    cases hvi with
    |nil=>
     cases hwi with
     |nil=>
      simp only[List.length_nil] at hlen
      rw[kl]
      exact(Qb (by lia)).symm
     |cons c u hw=>
      simp only[List.length_nil,PY] at hlen
      rw[pz]
      exact(Qb (by lia)).symm
    |cons a t hv=>
     cases hwi with
     |nil=>
      simp only[List.length_nil,PY] at hlen
      rw[pq]
      exact(decide_eq_true (by lia)).symm
     |cons c u hw=>
      rw[List.zip_cons_cons] at hz
      cases hz
   rw[hv] at hR
   wp_walk
   exact⟨_,rfl,by simpa[Builtin.Tuple.tupleCompareSizes] using hR⟩
  case h=>
   exact⟨rfl,rfl,items.toList,ir.toList,ns,ms,rfl,hi,hj,by lia,h⟩
end
section
variable {prog:Program} {w:World} {A:Around} {E:Value->Shared->Prop} {s:Shared}
def yu (hl:IsTup s.heap l items) (hb:IsTup s.heap b ir) (hi:IntsAre items.toList ns) (hj:IntsAre ir.toList ms)
  (hu:A.units < cLine) (h:Q (.bool (lexLt ms ns)) s):wpAny (model prog w) A (compareOp .Gt (.ref l) (.ref b)) Q E s:=by
 obtain⟨⟨cls,dd,data,sl⟩,ho,hc,n,hd⟩:=id hl
 obtain⟨⟨cls2,dd2,data2,sl2⟩,ho2,hc2,n2,hd2⟩:=id hb
 simp only at hc hd hc2 hd2
 subst hc hd hc2 hd2
 exact richCompare_meets_room (op:=.Gt) ⟨_,ho,rfl⟩ ⟨_,ho2,rfl⟩ PySem.F.slot_tuple_gt PySem.F.entry_tuple_gt (PySem.F.args_tuple_gt_2 _ _) (qw l b items ir n n2 dd dd2 sl sl2 ns ms hi hj)
  ⟨ho,ho2,show Value.bool (lexLt ms ns)≠Value.notImplemented/\Q (.bool (lexLt ms ns)) s from⟨(λx=>nomatch x),h⟩⟩ hu
end
end HT
namespace L2
section
open PySem.W (kla_fn kla_obj CodeHd tabObj)
def C6:List V->Hp->VK->Prop:=λxs H Q=> ∃ (B:Addr) (O:Addr->Prop) (y:PV) (x:V) (d:PyData),xs=[x]/\Rep B O H y x/\(∀ l,y≠.lst l)/\toD y=some d/\jb d/\Q (.str d.shown) H
def df (hg:X.A.guards=some []) (hu:X.A.units+64 < cLine):fL X (.builtin "repr") C6:=by
 intro pZ s σ H xs us Q I r h
 obtain⟨B,O,y,x,d,rfl,rp,nl,hd,hs,q⟩:=h
 cases y with
 |tup l=>exact yM hg hu pZ s σ H [x] us Q I r ⟨B,O,l,x,d,rfl,rp,hd,hs,q⟩
 |lst l=>exact absurd rfl (nl l)
 |aD=>
  obtain⟨u,rfl,rx⟩:=vals1 r
  cases rp
  cases rx
  simp only[toD] at hd
  cases hd
  exact PySem.P.repr_of_none ⟨.str _,H,I.tok _,⟨_,rfl⟩,by simpa only[PyData.shown] using q⟩
 |bl b=>
  obtain⟨u,rfl,rx⟩:=vals1 r
  cases rp
  cases rx
  simp only[toD] at hd
  cases hd
  exact PySem.P.repr_of_bool ⟨.str _,H,I.tok _,⟨_,rfl⟩,by simpa only[PyData.shown] using q⟩
 |int i=>
  obtain⟨u,rfl,rx⟩:=vals1 r
  cases rp
  obtain⟨t,rfl⟩:=rx
  simp only[toD] at hd
  cases hd
  exact PySem.P.repr_of_int (by simpa only[PyData.showable,decide_eq_true_eq] using hs.1) ⟨.str _,H,I.tok _,⟨_,rfl⟩,by simpa only[PyData.shown] using q⟩
 |str z=>
  obtain⟨u,rfl,rx⟩:=vals1 r
  cases rp
  obtain⟨t,rfl⟩:=rx
  simp only[toD] at hd
  cases hd
  have h3:=hs.2.2.1
  simp only[PyData.shown] at h3
  exact PySem.P.repr_of_str ⟨.str _,H,I.tok _,⟨_,rfl⟩,by simpa only[PyData.shown] using q⟩ (by rw[Qm];lia)
 |cU l=>simp only[toD] at hd;cases hd
 |sP l=>simp only[toD] at hd;cases hd
 |bD=>simp only[toD] at hd;cases hd
def Kq:PV->Bool
 | .lst _=>false
 |_=>true
def dD:List PV->M PV
 |[y]=>if Kq y then(M.bK (toD y)).bind λd=>if jb d then .ret (.str d.shown) else .fail else .fail
 |_=>.fail
def fB:nA C6 dD:=λφ G O H n R Q l xs pr dm ok r w q=>by
 match l,r,w with
 |[y],r,w=>
  obtain⟨x,rfl,r1⟩:=r.one
  unfold dD at w
  dsimp only at w
  by_cases c:Kq y=true
  ·rw[Qv c] at w
   cases e:toD y with
   |none=>rw[e] at w;exact w.elim
   |some d=>
    rw[e] at w
    have w':(if jb d then M.ret (PV.str d.shown) else .fail).wp n R:=w
    by_cases hs:jb d
    ·rw[Qv hs] at w'
     cases r1 with
     |full h=>exact⟨G.B,O,y,x,d,rfl,h,(λl z=>by rw[z] at c;cases c),e,hs,q.sc ok (.str _) w'⟩
     |top np h r=>cases c
     |xI np h r=>simp only[toD] at e;cases e
    ·rw[Qw hs] at w';exact w'.elim
  ·rw[Qw c] at w;exact w.elim
def o1 (h:nX c dp y) (hl:Kq y=true) (hc:c<=1000000) (hd:dp<=40): ∃ t:Str,dD [y]= .ret (.str t):=by
 obtain⟨d,h1,h2,h3,h4,h5⟩:=h
 refine⟨d.shown,?_⟩
 unfold dD
 dsimp only
 rw[Qv hl,h1]
 show (if jb d then M.ret (PV.str d.shown) else .fail)=_
 rw[Qv ⟨h2,h3,by lia,by lia⟩]
def bi (kf:Nat->Int×Int):Nat->Option Nat
 |0=>none
 |j+1=>match bi kf j with
  |none=>some j
  |some b=>if rk kf b < rk kf j then some j else some b
theorem wV: ∀ {j b:Nat},bi kf j=some b->b < j
 |0,b,h=>by cases h
 |j+1,b,h=>by
  unfold bi at h
  cases e:bi kf j with
  |none=>rw[e] at h;cases h;lia
  |some c=>
   rw[e] at h
   dsimp only at h
   have:=wV e
   by_cases z:rk kf c < rk kf j
   ·rw[Qv z] at h;cases h;lia
   ·rw[Qw z] at h;cases h;lia
theorem AN: ∀ {j:Nat},0 < j->∃ b,bi kf j=some b
 |j+1,_=>by
  unfold bi
  cases e:bi kf j with
  |none=>exact⟨_,rfl⟩
  |some c=>
   dsimp only
   by_cases z:rk kf c < rk kf j
   ·exact⟨_,Qv z⟩
   ·exact⟨_,Qw z⟩
def DP (a v u:Value):argsOk "max" ⟨[a],[(Str.ofString "key",v),(Str.ofString "default",u)]⟩:=by unfold argsOk;kernel_rfl
def My (h0:0<=n) (h1:n < 1000000) (h0':0<=n') (h1':n' < 1000000):HT.lexLt [m,n] [m',n']=decide (m * 1000000+n < m' * 1000000+n'):=by
 rw[HT.kR,HT.kR,HT.kl]
 by_cases c:m=m'
 ·subst c
  rw[Qv rfl]
  by_cases d:n=n'
  ·subst d
   rw[Qv rfl]
   simp
  ·rw[Qw d]
   exact decide_eq_decide.mpr ⟨λz=>by lia,λz=>by lia⟩
 ·rw[Qw c]
  exact decide_eq_decide.mpr ⟨λz=>by lia,λz=>by lia⟩
section
variable {X:Cx} {pZ:List (Addr×Obj)} {σ:St} {H:Hp} {s:Shared} {f l It S:Addr} {aC:List Value} {xs:List V} {kf:Nat->Int×Int} {R:Result->Shared->Prop}
def IZ (xs:List V):Option (Nat×Addr)->List V
 |none=>[]
 |some (b,T)=>[xs.getD b .aD,.ref T]
def DO (hh:X.A.handled=none) (hu:X.A.units+64 < cLine) (hl:H l=some (.lst xs)) (rvl:xs.length < 100000) (nl:H It=none) (hSn:H S=none) (hIS:It≠S)
  (lJ: ∀ (fo:List (Addr×Obj)) (H1:Hp) (s1:Shared) (i:Nat) (x:V) (u:Value),xs[i]?=some x->RelV x u->eJ H H1->Inv X fo σ H1 s1->wpAny (model X.prog X.w) X.A.in1 (call (.ref f) [u]) (EP X fo σ λv H2=> ∃ T,v= .ref T/\H1 T=none/\H2=upd H1 T (.tup [.int (kf i).1,.int (kf i).2])) (λ_ _=>False) s1)
  (hb: ∀ i,i < xs.length->0<=(kf i).2/\(kf i).2 < 1000000)
  (hR: ∀ (H':Hp) (s':Shared) (v:V) (u:Value),Inv X pZ σ H' s'->eJ H H'->RelV v u->v=(match bi kf xs.length with|none=>.aD|some b=>xs.getD b .aD)->R (.ok (.ret u)) s'):
  ∀ (r j:Nat) (H1:Hp) (s1:Shared) (o:Option (Nat×Addr)),xs.length - j=r->j<=xs.length->Inv X pZ σ H1 s1->cW X pZ H1 It->eJ H H1->s1.heap.IsListIter It l j->H1 S=some (.lst (IZ xs o))->o.map (·.1)=bi kf j->(∀ b T,o=some (b,T)->H1 T=some (.tup [.int (kf b).1,.int (kf b).2]))->
   codeAny (model X.prog X.w) X.A (.builtin "max.loop" ⟨[.ref It,.ref f,.ref S],[(Str.ofString "default",.none)]⟩) R s1:=by
 have hname:(toString "max"++toString ".loop":String)="max.loop":=by decide
 intro r
 induction r with
 |zero=>
  intro j H1 s1 o hr hj I fp sm st hS ho hT
  have ej:j=xs.length:=by lia
  subst ej
  obtain⟨_,aC,n,r1,r2,gS⟩:=I.kc hS
  obtain⟨_,itl,nl',r3,r4,gl⟩:=I.kc (sm _ _ hl)
  obtain⟨f0,f1,f2,f3,f4,f5⟩:=fp
  refine codeAny_builtin PySem.F.entry_max_loop ?_
  rw[Around.under_plainId PySem.F.plain_max_loop _]
  show wpAny _ X.A.in1 (seqItems? (.ref S) >>= _) _ _ _
  refine Pz (wpAny_seqItems gS rfl ?_)
  show wpAny _ X.A.in1 (tryCatch (pyNext (.ref It)) _ >>= _) _ _ _
  refine Pz (wpAny_tryCatch (wpAny_pyNext_list_end (A:=X.A.in1) hh st (items:=itl.toArray) ⟨_,gl,rfl,nl',rfl⟩ (by simp;lia) λh' eb=>?_))
  have I1:Inv X pZ σ H1 {s1 with heap:=h'}:=I.turned (t':=s1.toks) (λb o hb e=>eb b o hb e) f0 f1 f3 f4 f5
  cases o with
  |none=>
   have e0:aC=[]:=by
    cases r1;rfl
   subst e0
   have eb0:bi kf xs.length=none:=ho.symm
   show wpAny _ X.A.in1 (rule _ >>= _) _ _ _
   refine Pz (wpAny_rule (PJ ?_))
   exact hR H1 _ .aD .none I1 sm rfl (by rw[eb0])
  |some p=>
   obtain⟨b,T⟩:=p
   have eb0:bi kf xs.length=some b:=ho.symm
   obtain⟨_,nR,n2,q1,q2,gS2⟩:=I1.kc hS
   have gSe:h'.get? S=some {cls:=.type "list",data:=.seq aC.toArray n}:=eb S _ (Ne.symm hIS) gS
   cases r1 with
   |cons ra rest=>
    cases rest with
    |cons rb rest=>
     cases rest
     cases rb
     rename_i u
     show wpAny _ X.A.in1 (updateSeq S (λ_=> #[]) >>= _) _ _ _
     refine Pz ?_
     refine wpAny_updateSeq gSe rfl (Pz (wpAny_letGo (PJ ?_)))
     have I2:=I1.BH (t':=s1.toks) (f:=λ_=>(#[]:Array Value)) (bc:=[]) (ys:=[]) hS gSe rfl .nil (Qe _)
     refine hR _ _ _ u I2 (λb' o' e=>?_) ra (by rw[eb0])
     rw[ag (aG e hSn)]
     exact sm _ _ e
 |succ r ih=>
  intro j H1 s1 o hr hj I fp sm st hS ho hT
  have dz:j < xs.length:=by lia
  obtain⟨_,aC,n,r1,r2,gS⟩:=I.kc hS
  obtain⟨_,itl,nl',r3,r4,gl⟩:=I.kc (sm _ _ hl)
  obtain⟨f0,f1,f2,f3,f4,f5⟩:=id fp
  obtain⟨u,hu',ru⟩:=r3.get (Py dz)
  refine codeAny_builtin PySem.F.entry_max_loop ?_
  rw[Around.under_plainId PySem.F.plain_max_loop _]
  show wpAny _ X.A.in1 (seqItems? (.ref S) >>= _) _ _ _
  refine Pz (wpAny_seqItems gS rfl ?_)
  show wpAny _ X.A.in1 (tryCatch (pyNext (.ref It)) _ >>= _) _ _ _
  refine Pz (wpAny_tryCatch (wpAny_pyNext_list_item (A:=X.A.in1) st (items:=itl.toArray) ⟨_,gl,rfl,nl',rfl⟩ (x:=u) (by simpa using hu') λh' st' sb=>?_))
  have I1:Inv X pZ σ H1 {s1 with heap:=h'}:=I.turned (t':=s1.toks) (λb o hb e=>(sb.2 b hb).trans e) f0 f1 f3 f4 f5
  obtain⟨oI,gI,cI,dI⟩:=id st'
  have I2:Inv X ((It,oI)::pZ) σ H1 {s1 with heap:=h'}:=I1.j3 λq hq=>by
   rcases PR.mp hq with rfl|hq
   ·exact⟨gI,f0,f1,f2,λv z=>by rw[dI] at z;cases z⟩
   ·exact I1.pin q (P5 _ hq)
  show wpAny _ X.A.in1 (tryCatch (holding [u] (call (.ref f) [u])) _ >>= _) _ _ _
  refine Pz (wpAny_tryCatch (wpAny_holding (wpAny_mono (lJ _ H1 _ j _ u (Py dz) ru sm I2) (λkv s2 he=>?_) λ_ _ hF=>hF.elim)))
  obtain⟨v,H2,J2,rk',T,rfl,hTn,rfl⟩:=he
  cases rk'
  have st2:s2.heap.IsListIter It l (j+1):=⟨oI,(J2.pin _ (P5 _ PB)).1,cI,dI⟩
  have J3:Inv X pZ σ (upd H1 T (.tup [.int (kf j).1,.int (kf j).2])) s2:=J2.j3 λq hq=>J2.pin q (P5 _ (PH _ hq))
  have hTS:S≠T:=aG hS hTn
  have hS2:upd H1 T (.tup [.int (kf j).1,.int (kf j).2]) S=some (.lst (IZ xs o)):=by rw[ag hTS];exact hS
  have sm2:eJ H (upd H1 T (.tup [.int (kf j).1,.int (kf j).2])):=λb' o' e=>by
   rw[ag (aG (sm _ _ e) hTn)]
   exact sm _ _ e
  have fp2:cW X pZ (upd H1 T (.tup [.int (kf j).1,.int (kf j).2])) It:=⟨(J2.pin _ (P5 _ PB)).2.1,f1,f2,f3,f4,f5⟩
  obtain⟨_,itS,nS,q1,q2,gS2⟩:=J3.kc hS2
  have new:bi kf (j+1)=some j->codeAny (model X.prog X.w) X.A (.builtin "max.loop" ⟨[.ref It,.ref f,.ref S],[(Str.ofString "default",.none)]⟩) R {s2 with heap:=s2.heap.update S (Obj.mapSeq λ_=> #[u,.ref T])}:=λeb=>by
   have I4:=J3.BH (t':=s2.toks) (f:=λ_=> #[u,.ref T]) (bc:=[u,.ref T]) (ys:=[xs.getD j .aD,.ref T]) hS2 gS2 rfl (.cons (by rw[P4,Py dz];exact ru) (.cons rfl .nil)) (by show 2<=sizeLine;rw[Qm];lia)
   refine ih (j+1) _ _ (some (j,T)) (by lia) dz I4 ⟨by rw[ag hIS];exact fp2.1,fp2.2⟩ (λb' o' e=>?_) ?_ av eb.symm (λb' T' e=>?_)
   ·rw[ag (aG e hSn)]
    exact sm2 _ _ e
   ·obtain⟨o',g',c',d'⟩:=st2
    exact⟨o',(Heap.get?_update_other _ _ (Ne.symm hIS)).trans g',c',d'⟩
   ·cases e
    rw[ag (Ne.symm hTS),av]
  cases o with
  |none=>
   have e0:aC=[]:=by
    cases r1;rfl
   subst e0
   have eb0:bi kf j=none:=ho.symm
   show wpAny _ X.A.in1 (updateSeq S (λ_=> #[u,.ref T]) >>= _) _ _ _
   refine Pz ?_
   refine wpAny_updateSeq gS2 rfl ?_
   rw[hname]
   exact PJ ⟨plainId_quiet PySem.F.plain_max_loop _,new (by unfold bi;rw[eb0])⟩
  |some p=>
   obtain⟨b,T'⟩:=p
   have eb0:bi kf j=some b:=ho.symm
   have hbj:=wV eb0
   have hT':=hT b T' rfl
   have hT2:upd H1 T (.tup [.int (kf j).1,.int (kf j).2]) T'=some (.tup [.int (kf b).1,.int (kf b).2]):=by rw[ag (aG hT' hTn)];exact hT'
   cases r1 with
   |cons ra rest=>
    cases rest with
    |cons rb rest=>
     cases rest
     cases rb
     rename_i ub
     show wpAny _ X.A.in1 (tryCatch (holding [u,.ref T] (richCompare .Gt (.ref T) (.ref T') >>= _)) _ >>= _) _ _ _
     obtain⟨oa,na,ta,tb',ga,ca,da⟩:=lC J3.a9 (show upd H1 T (.tup [.int (kf j).1,.int (kf j).2]) T=_ from av)
     obtain⟨oc,nc,tc,td,gc,cc,dc⟩:=lC J3.a9 hT2
     refine Pz (wpAny_tryCatch (wpAny_holding (Pz (HT.yu (A:=X.A.in1) (ns:=[(kf j).1,(kf j).2]) (ms:=[(kf b).1,(kf b).2]) ⟨oa,ga,ca,na,da⟩ ⟨oc,gc,cc,nc,dc⟩ (.cons _ _ (.cons _ _ .nil)) (.cons _ _ (.cons _ _ .nil)) (by show X.A.units+1 < cLine;lia) ?_))))
     rw[My (hb b (by lia)).1 (hb b (by lia)).2 (hb j dz).1 (hb j dz).2]
     refine Pz (wpAny_holding (wpAny_truthy_bool ?_))
     refine Pz (wpAny_letGo (PJ ?_))
     by_cases c:rk kf b < rk kf j
     ·have c':(kf b).1 * 1000000+(kf b).2 < (kf j).1 * 1000000+(kf j).2:=c
      simp only[c',decide_true,if_true]
      refine Pz ?_
      refine wpAny_updateSeq gS2 rfl (Pz (wpAny_letGo ?_))
      rw[hname]
      exact PJ ⟨plainId_quiet PySem.F.plain_max_loop _,new (by unfold bi;rw[eb0];exact Qv c)⟩
     ·have c': ¬ (kf b).1 * 1000000+(kf b).2 < (kf j).1 * 1000000+(kf j).2:=c
      simp only[c',decide_false,Qp,if_false]
      refine Pz (wpAny_letGo ?_)
      rw[hname]
      exact PJ ⟨plainId_quiet PySem.F.plain_max_loop _,ih (j+1) _ _ (some (b,T')) (by lia) dz J3 fp2 sm2 st2 hS2 (by unfold bi;rw[eb0];exact(Qw c).symm) (λb' T'' e=>by cases e;exact hT2)⟩
end
end
section
open PySem.W (kla_fn kla_obj CodeHd tabObj)
variable {φ:dn}
abbrev Kw (kf:Nat->Int×Int) (xs:List V):V:=match bi kf xs.length with|none=>.aD|some b=>xs.getD b .aD
def BD (I:Inv X pZ σ H s) (hh:X.A.handled=none) (hu:X.A.units+64 < cLine) (hl:H l=some (.lst xs)) (rvl:xs.length < 100000)
  (lJ: ∀ (fo:List (Addr×Obj)) (H1:Hp) (s1:Shared) (i:Nat) (x:V) (u:Value),xs[i]?=some x->RelV x u->eJ H H1->Inv X fo σ H1 s1->wpAny (model X.prog X.w) X.A.in1 (call (.ref f) [u]) (EP X fo σ λv H2=> ∃ T,v= .ref T/\H1 T=none/\H2=upd H1 T (.tup [.int (kf i).1,.int (kf i).2])) (λ_ _=>False) s1)
  (hb: ∀ i,i < xs.length->0<=(kf i).2/\(kf i).2 < 1000000)
  (hq: ∀ H':Hp,eJ H H'->Q (Kw kf xs) H'):
  wpAny (model X.prog X.w) X.A (call (.builtin "max") [.ref l] [(Str.ofString "key",.ref f),(Str.ofString "default",.none)]) (EP X pZ σ Q) X.xe s:=by
 have hname:(toString "max"++toString ".loop":String)="max.loop":=by decide
 obtain⟨_,aC,n,r1,r2,gl⟩:=I.kc hl
 refine kmk_tree PySem.F.kind_max PySem.F.plain_max PySem.F.entry_max (DP _ _ _) ?_
 show wpAny _ X.A.in1 (Builtin.Builtins.bindParams "max" ["key","default"] 0 ⟨[],[(Str.ofString "key",.ref f),(Str.ofString "default",.none)]⟩ >>= _) _ _ s
 refine Pz (wpAny_of_eq (show Builtin.Builtins.bindParams "max" ["key","default"] 0 ⟨[],[(Str.ofString "key",.ref f),(Str.ofString "default",.none)]⟩=pure [some (.ref f),some .none] from rfl) ?_)
 refine Pz (PJ ?_)
 refine Pz (wpAny_pyIter_list (items:=aC.toArray) ⟨_,gl,rfl,n,rfl⟩ ?_)
 have I1:Inv X pZ σ H {s with heap:=s.heap.push {cls:=.type "list_iterator",data:=.fields #[.ref l,.int 0 0]}}:=I.kept (t':=s.toks) λb o e=>PF _ e
 have nI:H s.heap.objs.size=none:=I.a9.fresh (PM _)
 have fpI:cW X pZ H s.heap.objs.size:=I.pQ (PM _) nI
 refine Pz (wpAny_newList ?_ (Qe _))
 have nS:H (s.heap.push {cls:=.type "list_iterator",data:=.fields #[.ref l,.int 0 0]}).objs.size=none:=I1.fresh
 have I2:=I1.DS (t':=s.toks) (ys:=[]) (aC:=[]) .nil (Qe _)
 have bY:s.heap.objs.size≠(s.heap.push {cls:=.type "list_iterator",data:=.fields #[.ref l,.int 0 0]}).objs.size:=by rw[size_push'];lia
 have gI:((s.heap.push {cls:=.type "list_iterator",data:=.fields #[.ref l,.int 0 0]}).push {cls:=.type "list",data:=.seq ([]:List Value).toArray}).IsListIter s.heap.objs.size l 0:=⟨_,PF _ (PZ _ rfl),rfl,rfl⟩
 rw[hname]
 refine PJ ⟨plainId_quiet PySem.F.plain_max_loop _,?_⟩
 refine DO (H:=H) hh hu hl rvl nI nS bY lJ hb (λH' s' v u J sm rv ev=>⟨v,H',J,rv,ev▸hq H' sm⟩) _ 0 _ _ none rfl (Qe _) I2 ⟨by rw[ag bY];exact nI,fpI.2⟩ (λb o e=>?_) gI av rfl (λb T e=>by cases e)
 rw[ag (aG e nS)]
 exact e
def NF (e:Addr×Str) (N:List Str) (tE:TE) (Q:VK) (x:V) (H1:Hp):Prop:= ∃ (l:Addr) (xs:List V) (kf:Nat->Int×Int),x= .ref l/\H1 l=some (.lst xs)/\xs.length < 100000/\TabAt H1 e/\
 (∀ i x,xs[i]?=some x->∀ H2,(∀ b o,b≠e.1->H1 b=some o->H2 b=some o)->tE (start N [x]) H2 λv H3=> ∃ T,v= .ref T/\H2 T=none/\H3=upd H2 T (.tup [.int (kf i).1,.int (kf i).2]))/\
 (∀ i,i < xs.length->0<=(kf i).2/\(kf i).2 < 1000000)/\
 ∀ H':Hp,(∀ b o,b≠e.1->H1 b=some o->H' b=some o)->TabAt H' e->Q (Kw kf xs) H'
def Iq (e:Addr×Str) (N:List Str) (tE ta:TE):TE:=λσ H Q=>ta σ H (NF e N tE Q)
def ND (e:Addr×Str) (N:List Str) (tE:TE) (Q:VK):List V->Hp->Prop
 |[x],H1=>NF e N tE Q x H1
 |_,_=>False
def Gu (hr:cM (k+3) X.A) (hB:FA X.base X.mg) (hcode:X.env.code= .ref c) (hC:CodeHd X.base c P) (hcl:closureFor scope X.env=pure []) (hdef:defaultsOf params X.env=([],[])) (S:aB N [y] scope)
  (hbind: ∀ (s:Shared) (pm:Value) (c:Addr) (ctv u:Value),BindsTo s (kla_fn "<lambda>" (X.env.qual++"<lambda>") params body scope [] pm (.ref c) ctv) ⟨[u],[]⟩ [(y,u)])
  (gB: ∀ (f c:Addr) (A:Around) (s:Shared) (H:Hp),PE (gE i5 X.prog X.w X.K X.mg X.base N (X.env.qual++"<lambda>") scope f (.ref c) A X.stack s H E0).rH body tE)
  (hg:Gl X "max") (hm:X.mg "max"=none) (ha:PE X e ta) (hs:starEach [e] X.env=(false,eval e X.env)::starEach [] X.env:=by rfl):
  PE X (.Call (.Name "max" p) [e] [⟨some (Str.ofString "key"),.Lambda params body scope lpos,kpos⟩,⟨some (Str.ofString "default"),.Constant .none nk npos,dpos⟩] pos) (Iq (P,X.env.qual++"<lambda>") N tE ta):=by
 intro pZ s σ H Q I h
 refine wpAny_Call_Name_kw (iq I hg hm boot_max ?_)
 have hpa:=cD ha eL hs
 refine callWith_kw (bq (hpa pos pZ s σ H (ND (P,X.env.qual++"<lambda>") N tE Q) I h) λus s1 hu=>?_) (by rw[hs];rfl) (by rw[hs];rfl)
 obtain⟨vs,H1,I1,r,q⟩:=hu
 match vs,r,q with
 |[x],r,q=>
 obtain⟨u,rfl,rx⟩:=vals1 r
 obtain⟨l,xs,kf,rfl,hl,hz,tab,hk,hb,q⟩:=q
 cases rx
 refine kws_cons (v3 I1 hB hcode hC tab hcl hdef λf c' oc fs tq pm ctv H' s' J hfn at_f at_c hfd hfs tab' eE=>kws_cons (Constant_none (kws_nil ?_)))
 show wpAny (model X.prog X.w) X.A (call (.builtin "max") [.ref l] [(Str.ofString "key",.ref f),(Str.ofString "default",.none)]) (EP X pZ σ Q) X.xe s'
 have nl:l≠P:=λz=>by
  obtain⟨ps,hP,_⟩:=tab
  have hP:H1 P=some (.nE ps):=hP
  rw[z,hP] at hl
  cases hl
 refine BD J hr.hd hr.units (eE l _ nl hl) hz (λfo H2 s2 i x u hx ru sm J2=>?_) hb λH3 sm=>?_
 ·exact v5 S hr.in1 rfl J2 (J2.a9 f _ (sm _ _ at_f)).1 (J2.a9 c' _ (sm _ _ at_c)).1 hfd hfs (hbind s2 pm c' ctv u) rfl (show Vals [x] [u] from .cons ru .nil) (gB f c' _ s2 H2)
   (hk i _ hx H2 λb o nb e=>sm b o (eE b o nb e))
 ·exact q H3 (λb o nb e=>sm b o (eE b o nb e)) (tab'.keep (λps e=>sm _ _ e) λb ob u e=>sm _ _ e)
def iR:List PV->Option PV:=λl=>(bi (λi=>xu (l.getD i .aD)) l.length).map λb=>l.getD b .aD
def BF (y:PV):M PV:=match y with
 | .lst l=>if decide (l.length < 100000)&&l.all Fu then .ret ((iR l).getD .aD) else .fail
 |_=>.fail
def DQ (w:(BF y).wp n R): ∃ l,y= .lst l/\l.length < 100000/\(∀ z∈l,Fu z=true)/\R ((iR l).getD .aD) n:=by
 unfold BF at w
 cases y with
 |lst l=>
  dsimp only at w
  by_cases c:(decide (l.length < 100000)&&l.all Fu)=true
  ·rw[Qv c] at w
   simp only[Qk,decide_eq_true_eq,List.all_eq_true] at c
   exact⟨l,rfl,c.1,c.2,w⟩
  ·rw[Qw c] at w;exact w.elim
 |_=>exact w.elim
def Hl (hin:tb∈φ.tabs) (hun: ∀ q∈φ.tabs,q.1=tb.1->q=tb) (h:BE X e (Iq tb N (CH X.K 2 1) (rf φ me))):EV φ X e (λρ=>(me ρ).bind BF):=BE.mono h λσ H Q bu=>by
 obtain⟨G,O,ρ,n,R,s,w,q⟩:=bu
 rw[M.wZ] at w
 refine⟨G,O,ρ,n,_,s,w,λy x H1 n1 e1 ba r1 w1=>?_⟩
 obtain⟨l,rfl,hz,a9,hR⟩:=DQ w1
 obtain⟨p,xs,rfl,hp,rs⟩:=r1.eQ
 have tab:=G.tab H1 n1 ba tb hin
 have hlen:l.length=xs.length:=rs.1
 have pO:O tb.1:=s.pr _ (G.tp tb hin)
 obtain⟨ps,hP,_⟩:=id tab
 refine⟨p,xs,λi=>xu (l.getD i .aD),rfl,hp,by lia,tab,λi x hx H2 k2=>?_,λi hi=>?_,λH' kp tab'=>?_⟩
 ·obtain⟨y,hy,ry⟩:=rs.at' hx
  obtain⟨k,ek,b0,b1⟩:=oh (a9 y (List.mem_of_getElem? hy))
  obtain⟨l',rfl,g2,g1⟩:=rO ek
  obtain⟨q',ys,rfl,hq',r'⟩:=(bH.full ry:bH G O H1 _ _).i7
  obtain⟨v2,hv2,rv2⟩:=r'.at g2
  obtain⟨v1,hv1,rv1⟩:=r'.at g1
  cases rv2
  cases rv1
  have ekk:xu (l.getD i .aD)=k:=by
   rw[P4,hy]
   show (jB _).getD _=k
   rw[Option.getD_some,ek]
   rfl
  dsimp only
  rw[ekk]
  exact uW (k2 _ _ (λz=>by rw[z,hP] at hq';cases hq') hq') (iH hv2) (iH hv1)
 ·have hi':i < l.length:=by lia
  obtain⟨k,ek,b0,b1⟩:=oh (a9 _ (Qq hi'))
  have ekk:xu (l.getD i .aD)=k:=by
   rw[P4,Py hi']
   show (jB _).getD _=k
   rw[Option.getD_some,ek]
   rfl
  dsimp only
  rw[ekk]
  exact⟨b0,b1⟩
 ·have ext:Ext G.B H1 H':=λb o nb eb=>by
   by_cases z:b=tb.1
   ·obtain⟨qs,hQ,_⟩:=tab'
    rw[z,hP] at eb
    cases eb
    exact⟨qs,z▸hQ⟩
   ·exact .of (kp b o z eb)
  have ok':G.ok H' n1:=G.xF H1 H' n1 ba (λq' hq'=>by
   by_cases z:q'.1=tb.1
   ·rw[hun q' hq' z]
    exact tab'
   ·exact(G.tab H1 n1 ba q' hq').keep (λqs eq=>kp _ _ z eq) λb ob u eq=>kp b _ (λy=>by rw[y,hP] at eq;cases eq) eq) λb o nb eb=>kp b o (λz=>nb (PX.mpr ⟨tb,hin,z.symm⟩)) eb
  refine q _ _ H' n1 (e1.trans ext) ok' ?_ hR
  unfold iR Kw
  rw[<-hlen]
  cases eb:bi (λi=>xu (l.getD i .aD)) l.length with
  |none=>exact .aD
  |some b=>
   have hbl:=wV eb
   obtain⟨x,hx,rx⟩:=rs.at (Py hbl)
   show Rep G.B O H' (l.getD b .aD) (xs.getD b .aD)
   rw[P4,P4,hx,Py hbl]
   exact rx.ext (s.pr _ G.pB) ext
end
section
variable {X:Cx} {pZ:List (Addr×Obj)} {σ:St} {H:Hp} {s:Shared} {d:Addr} {o:Obj} {ks:List (Key×V)}
def Eb (x:jU P w H h) (e:H d=some u) (no: ∀ y,u≠.own y) (nt: ∀ xs,u≠.tup xs) (new:cg P w H h d u'):jU P w (upd H d u') h:=λb v q=>by
 have ho: ∀ y c,H c=some (.own y)->upd H d u' c=some (.own y):=λy c g=>by
  rw[ag (λz=>by subst z;rw[e] at g;exact no y (Qz g))];exact g
 have ht: ∀ c xs,H c=some (.tup xs)->upd H d u' c=some (.tup xs):=λc xs g=>by
  rw[ag (λz=>by subst z;rw[e] at g;exact nt xs (Qz g))];exact g
 by_cases hb:b=d
 ·subst hb
  rw[av] at q;cases q
  exact new.oM (λ_ _ _ g=>g) (λc g=>ho _ c g) ht
 ·rw[ag hb] at q
  exact(x b v q).oM (λ_ _ _ g=>g) (λc g=>ho _ c g) ht
def Inv.swap (I:Inv X pZ σ H s) (e:H d=some u) (no: ∀ y,u≠.own y) (nt: ∀ xs,u≠.tup xs) (nb: ∀ ps,u≠.nE ps) (nf: ∀ ob v,X.H₀ d=some (.fc ob v)->u'= .fc ob v) (new:cg X.prog X.w H s.heap d u'):Inv X pZ σ (upd H d u') s:=by
 have nn: ∀ b,H b=none->upd H d u' b=none:=λb g=>by
  rw[ag (λz=>by subst z;rw[e] at g;cases g)];exact g
 refine⟨I.ok,I.os,I.bare,⟨I.base.keep,I.base.slot,λb o q n hx=>nn b (I.base.free b o q n hx),I.base.there,λb xs q=>?_,λb ob v q=>?_,λb ps q=>?_⟩,I.loc,I.cell,nn _ I.free,λx c q=>nn _ (I.jD x c q),λp hp=>?_,Eb I.a9 e no nt new,I.len⟩
 ·have g:=I.base.sD b xs q
  rw[ag (λz=>by subst z;rw[e] at g;exact nt xs (Qz g))];exact g
 ·by_cases hb:b=d
  ·subst hb
   rw[av,nf ob v q]
  ·rw[ag hb];exact I.base.lM b ob v q
 ·obtain⟨more,g⟩:=I.base.qx b ps q
  exact⟨more,by rw[ag (λz=>by subst z;rw[e] at g;exact nb _ (Qz g))];exact g⟩
 ·obtain⟨a1,a2,a3⟩:=I.pin p hp
  exact⟨a1,nn _ a2,a3⟩
def L7 (X:Cx) (d:Addr) (o:Obj) (ks:List (Key×V)) (u:HO):Prop:=(u= .dK ks/\∀ ob v,X.H₀ d≠some (.fc ob v))\/u= .fc o (.dK ks)
def Inv.OJ (I:Inv X pZ σ H s) (r:Rd H d (.dK ks)): ∃ o u,s.heap.get? d=some o/\H d=some u/\L7 X d o ks u/\Inv X pZ σ (upd H d (.fc o (.dK ks))) s:=by
 rcases r with e|⟨o,e⟩
 ·obtain⟨_,_,vs,_,o,es,ep,g,_⟩:=I.a9 d _ e
  refine⟨o,_,g,e,.inl ⟨rfl,λob v q=>?_⟩,I.swap e (λ_ z=>nomatch z) (λ_ z=>nomatch z) (λ_ z=>nomatch z) (λob v q=>?_) ⟨g,I.a9 d _ e⟩⟩
  ·have:=I.base.lM d ob v q;rw[e] at this;cases this
  ·have:=I.base.lM d ob v q;rw[e] at this;cases this
 ·obtain⟨g,_⟩:=I.a9 d _ e
  refine⟨o,_,g,e,.inr rfl,I.swap e (λ_ z=>nomatch z) (λ_ z=>nomatch z) (λ_ z=>nomatch z) (λob v q=>?_) (I.a9 d _ e)⟩
  have:=I.base.lM d ob v q;rw[e] at this;exact Qz this
def Inv.sG (I:Inv X pZ σ H s) (e:H d=some (.fc o (.dK ks))) (w:L7 X d o ks u):Inv X pZ σ (upd H d u) s:=by
 rcases w with⟨rfl,nf⟩|rfl
 ·exact I.swap e (λ_ z=>nomatch z) (λ_ z=>nomatch z) (λ_ z=>nomatch z) (λob v q=>absurd q (nf ob v)) (I.a9 d _ e).2
 ·exact I.swap e (λ_ z=>nomatch z) (λ_ z=>nomatch z) (λ_ z=>nomatch z) (λob v q=>by have:=I.base.lM d ob v q;rw[e] at this;exact Qz this) (I.a9 d _ e)
def sE (X:Cx) (P:Hp->Prop) (H:Hp):Prop:= ∃ d o ks u,H d=some (.fc o (.dK ks))/\L7 X d o ks u/\P (upd H d u)
def Ends.sG (X:Cx) (D:Ends):Ends:=⟨λσ H=>sE X (D.nx σ) H,λv H=>sE X (D.rt v) H,λσ H=>sE X (D.bk σ) H,λσ H=>sE X (D.ct σ) H⟩
def Gn {st:Stmt} {t:TS} (h:PS X st t):PS X st (λD σ H=>t (D.sG X) σ H):=λpZ s σ H D I q=>by
 refine bq (h pZ s σ H (D.sG X) I q) λf s1 q1=>?_
 cases f with
 |next=>obtain⟨σ',H',I',d,o,ks,u,e,w,p⟩:=q1;exact⟨σ',_,I'.sG e w,p⟩
 |brk=>obtain⟨σ',H',I',d,o,ks,u,e,w,p⟩:=q1;exact⟨σ',_,I'.sG e w,p⟩
 |cont=>obtain⟨σ',H',I',d,o,ks,u,e,w,p⟩:=q1;exact⟨σ',_,I'.sG e w,p⟩
 |ret v=>obtain⟨x,σ',H',I',r,d,o,ks,u,e,w,p⟩:=q1;exact⟨x,σ',_,I'.sG e w,r,p⟩
def M6 (h:(aY P w).is k u=true):RelV (kV k) u:=by
 rw[yo] at h
 rcases bw h with⟨i,t,rfl,rfl⟩|⟨x,t,rfl,rfl⟩
 ·exact⟨t,rfl⟩
 ·exact⟨t,rfl⟩
noncomputable def Ph (d:Addr) (o:Obj) (ks:List (Key×V)):It:=
 ⟨λi H=>H d=some (.fc o (.dK ks))/\i < ks.length,λi H x H'=>H'=H/\∃ k,(ks.map (·.1))[i]?=some k/\x=kV k,λi H=>H d=some (.fc o (.dK ks))/\ks.length<=i⟩
def KV.at {kvs:List (Key×V)} {vs:List (Key×Value)} (r:KV kvs vs) (i:Nat) (h:i < kvs.length): ∃ k v,vs[i]?=some (k,v)/\(kvs.map (·.1))[i]?=some k:=by
 have hl:=r.length
 refine⟨(vs[i]'(by lia)).1,(vs[i]'(by lia)).2,by rw[Py],?_⟩
 rw[KV.keys r,P6,Py (by lia)]
 rfl
def A5 {P:Program} {w:World} {K:Frag} {tg:Expr} {vs:List (Key×Value)} {es:Array DictEntry} {ep:Nat} (d it:Addr) (o:Obj) (ks:List (Key×V)) (r:KV ks vs) (ho:o.ExactDict/\o.data= .dict es ep/\KeysOf (aY P w) es/\Pairs (aY P w) es.toList vs/\(vs.map (·.1)).Nodup):
  Turn P w K tg (Ph d o ks) [it] it (λi h=>h.IsKeyIter it d i vs.length ep) where
 mem:=by simp
 obj:=λi h st b hb=>by
  have e:b=it:=by simpa using hb
  subst e
  obtain⟨o,e,c,d⟩:=st
  exact⟨o,e,λv z=>by rw[d] at z;cases z⟩
 keep:=λi h h' st k=>st.at λo e=>k it (by simp) o e
 item:=by
  intro X hP hw hK hc i pZ s σ H E I hf st hg
  subst hP hw hK
  obtain⟨e,hi⟩:=hg
  obtain⟨g,_⟩:=I.a9 d _ e
  obtain⟨f0,f1,f2,f3,f4,f5⟩:=hf it (by simp)
  obtain⟨k,v,hk,hk'⟩:=r.at i hi
  refine wpAny_pyNext_dict_item (knd:=aY X.prog X.w) st ⟨o,es,g,ho⟩ hk λkey h' ik st' sb=>?_
  have I1:Inv X pZ σ H {s with heap:=h'}:=I.turned (t':=s.toks) (λb o hb e=>(sb.2 b hb).trans e) f0 f1 f3 f4 f5
  obtain⟨o',e',c',d'⟩:=id st'
  exact⟨key,rfl,rV (s:={s with heap:=h'}) e' c' d' (by decide) ⟨kV k,H,I1,M6 ik,⟨rfl,k,hk',rfl⟩,st',λb hb=>(hf b hb).1⟩⟩
 done:=by
  intro X hP hw hK hc i pZ s σ H E I hf st hg
  subst hP hw hK
  obtain⟨e,hi⟩:=hg
  obtain⟨g,_⟩:=I.a9 d _ e
  obtain⟨f0,f1,f2,f3,f4,f5⟩:=hf it (by simp)
  have hl:=r.length
  exact wpAny_pyNext_dict_end (knd:=aY X.prog X.w) (I.ok.hd hc) st ⟨o,es,g,ho⟩ (List.getElem?_eq_none_iff.mpr (by lia)) λh' eb=>⟨rfl,I.turned (t':=s.toks) (λb o hb e=>eb b o hb e) f0 f1 f3 f4 f5⟩
 self:=λ_ _ _ _ _ st h=>wpAny_pyIter_keyiter st h
def D9 (X:Cx) (td:TE):TI:=λσ H R=>td σ H λx H1=> ∃ d ks,x= .ref d/\Rd H1 d (.dK ks)/\∀ o u,H1 d=some u->L7 X d o ks u->R (Ph d o ks) (upd H1 d (.fc o (.dK ks)))
def Gs {l:Expr} {tg:Expr} {td:TE} (hl:PE X l td):PI X tg l (D9 X td):=by
 intro pZ s σ H R I h
 refine bq (hl pZ s σ H _ I h) λv s1 ⟨x,H1,I1,r1,q1⟩=>?_
 obtain⟨a,ks,e,hq,q⟩:=q1
 subst e
 cases r1
 obtain⟨o,u,g,eu,wu,I2⟩:=I1.OJ hq
 obtain⟨_,hs,vs,r,ob,es,ep,g',rest⟩:=hq.ok I1.a9
 rw[g] at g';cases g'
 refine wpAny_pyIter_dict (knd:=aY X.prog X.w) (kvs:=vs) (ep:=ep) hs ⟨o,es,g,rest⟩ ?_
 refine⟨s1.heap.objs.size,[s1.heap.objs.size],_,_,_,rfl,I2.kept (t':=s1.toks) λb o e=>PF _ e,A5 a _ o ks r rest,⟨_,PZ _ rfl,rfl,rfl⟩,λb hb=>?_,q o u eu wu⟩
 have e:b=s1.heap.objs.size:=by simpa using hb
 subst e
 exact I2.pQ (PM _) (I2.a9.fresh (PM _))
end
section
variable {φ:dn} {G:Bg φ} {O0 O:Addr->Prop} {H0 H H':Hp} {σ:St} {ρ:ae} {n n':Nat}
def SI.Ol (s:SI G O0 H0 O H σ ρ n) (k:Nat) (x:Ext G.B H H') (ok:G.ok H' n') (hp:H p=none) (hp':H' p=some (.dK xs)) (r:aX G.B (λq=>O q\/q=p) H' l xs):
  SI G O0 H0 (λq=>O q\/q=p) H' (σ.set k (some (.ref p))) (ρ.set k (.bt l)) n':=by
 have nO: ¬ O p:=λz=>by obtain⟨o,g⟩:=s.es.dm p z;rw[hp] at g;cases g
 have np: ¬ G.cu p:=λz=>nO (s.es.pr p z)
 have h0:H0 p=none:=by
  cases e:H0 p with
  |none=>rfl
  |some o=>obtain⟨_,this⟩:=(s.ext p o (λz=>np (z▸G.pB)) e).there;rw[hp] at this;cases this
 have hB:O G.B:=s.es.B
 have gw: ∀ q,(O q\/q=p)->O q\/H q=none:=λq z=>by
  rcases z with z|z
  ·exact .inl z
  ·subst z;exact .inr hp
 have s':=s.es.ext x ok
 have es:ES G (λq=>O q\/q=p) H' σ ρ n':=by
  refine⟨⟨s.es.er.1,λi e he=>?_⟩,ok,λq z=>.inl (s.es.pr q z),λq z=>?_⟩
  ·have r1:=s.es.er.2 i e he
   cases e with
   |un=>trivial
   |val y=>obtain⟨v,hv,rr⟩:=r1;exact⟨v,hv,(rr.grow gw).ext (.inl hB) x⟩
   |own t=>
    obtain⟨q,ys,hv,hq,nq,hh,rr⟩:=r1
    exact⟨q,ys,hv,.inl hq,nq,x q _ (λz=>nq (z▸G.pB)) hh,(rr.grow gw).ext (.inl hB) x⟩
   |bt t=>
    obtain⟨q,ys,hv,hq,nq,hh,rr⟩:=r1
    exact⟨q,ys,hv,.inl hq,nq,x q _ (λz=>nq (z▸G.pB)) hh,⟨rr.1,λi a b c d=>((rr.2 i a b c d).grow gw).ext (.inl hB) x⟩⟩
  ·rcases z with z|z
   ·exact s'.dm q z
   ·subst z;exact⟨_,hp'⟩
 have ow: ∀ i q,dN (ρ.set k (.bt l)) (σ.set k (some (.ref p))) i q->(i=k/\q=p)\/(i≠k/\dN ρ σ i q):=λi q h=>by
  obtain⟨t,h1,h2,h3⟩:=h
  by_cases hk:k=i
  ·subst hk
   rw[List.getElem?_set] at h3
   split at h3
   ·split at h3
    ·cases h3;exact .inl ⟨rfl,rfl⟩
    ·cases h3
   ·rename_i hh;exact absurd rfl hh
  ·rw[Qi hk] at h1 h3
   exact .inr ⟨λz=>hk z.symm,t,h1,h2,h3⟩
 refine⟨es.set k (t:=.bt l) ⟨p,xs,rfl,.inr rfl,np,hp',r⟩,s.p0,λq z=>.inl (s.sub q z),s.ext.trans x,λq z=>?_,s.d0,λi q h=>?_,λi j q h h'=>?_⟩
 ·rcases z with z|z
  ·exact s.gr q z
  ·subst z;exact .inr h0
 ·rcases ow i q h with⟨_,rfl⟩|⟨_,h⟩
  ·exact h0
  ·exact s.fr i q h
 ·rcases ow i q h with⟨rfl,rfl⟩|⟨n1,h1⟩
  ·rcases ow j q h' with⟨rfl,_⟩|⟨n2,h2⟩
   ·rfl
   ·obtain⟨_,_,o,g⟩:=eU s.es h2;rw[hp] at g;cases g
  ·rcases ow j q h' with⟨rfl,rfl⟩|⟨n2,h2⟩
   ·obtain⟨_,_,o,g⟩:=eU s.es h1;rw[hp] at g;cases g
   ·exact s.dj i j q h1 h2
def SI.putD (s:SI G O0 H0 O H σ ρ n) (hk:ρ[k]?=some (.bt l)) (hp:σ[k]?=some (some (.ref p))) (r:aX G.B O H l' xs'):SI G O0 H0 O (upd H p (.dK xs')) σ (ρ.set k (.bt l')) n:=by
 have ho:dN ρ σ k p:=⟨_,hk,rfl,hp⟩
 obtain⟨hO,np,o,hh⟩:=eU s.es ho
 have MV:=vy s.es ho hh
 have kp: ∀ q u,¬ O q->H q=some u->upd H p (.dK xs') q=some u/\¬ O q:=λq u nq hq=>⟨by
  have bY:q≠p:=λz=>nq (z▸hO)
  rw[ag bY];exact hq,nq⟩
 have ow: ∀ i q,dN (ρ.set k (.bt l')) σ i q->dN ρ σ i q:=λi q h=>by
  obtain⟨t,h1,h2,h3⟩:=h
  by_cases e:k=i
  ·subst e;exact⟨_,hk,rfl,h3⟩
  ·rw[Qi e] at h1;exact⟨t,h1,h2,h3⟩
 refine⟨⟨⟨by simp[s.es.er.1],λi e he=>?_⟩,G.keep H _ _ (λq u hq hu=>by
   have bY:q≠p:=λz=>by
    rcases hq with hq|hq
    ·exact np (z▸hq)
    ·rw[z,hh] at hu;cases hu;exact MV hq
   rw[ag bY];exact hu) s.es.ok,s.es.pr,λq hq=>?_⟩,s.p0,s.sub,λq u nb hq=>?_,s.gr,s.d0,λi q h=>s.fr i q (ow i q h),λi j q h h'=>s.dj i j q (ow i q h) (ow j q h')⟩
 ·by_cases e1:k=i
  ·subst e1
   have hl:k < ρ.length:=(PL.mp hk).1
   rw[Qx hl] at he
   cases he
   rw[hp]
   exact⟨p,xs',rfl,hO,np,av,r.keep kp⟩
  ·rw[Qi e1] at he
   have r1:=s.es.er.2 i e he
   cases e with
   |un=>trivial
   |val y=>obtain⟨v,hv,rr⟩:=r1;exact⟨v,hv,rr.keep kp⟩
   |own t=>
    obtain⟨q,ys,hv,hq,nq,hh',rr⟩:=r1
    have bY:q≠p:=λz=>by
     subst z
     exact e1 (s.dj k i q ho ⟨_,he,rfl,dA s.es.er he hv⟩)
    exact⟨q,ys,hv,hq,nq,by rw[ag bY];exact hh',rr.keep kp⟩
   |bt t=>
    obtain⟨q,ys,hv,hq,nq,hh',rr⟩:=r1
    have bY:q≠p:=λz=>by
     subst z
     exact e1 (s.dj k i q ho ⟨_,he,rfl,dA s.es.er he hv⟩)
    exact⟨q,ys,hv,hq,nq,by rw[ag bY];exact hh',rr.keep kp⟩
 ·by_cases e1:q=p
  ·subst e1;exact⟨_,av⟩
  ·obtain⟨u,g⟩:=s.es.dm q hq;exact⟨u,by rw[ag e1];exact g⟩
 ·have bY:q≠p:=λz=>by subst z;rw[s.fr k q ho] at hq;cases hq
  exact(s.ext q u nb hq).to λv e=>.of (by rw[ag bY];exact e)
end
def iS (l:List (Key×PV)) (k:Key):Option PV:=(l.find? λkv=>decide (kv.1=k)).map (·.2)
def nJ (l:List (Key×PV)) (k:Key) (y:PV):List (Key×PV):=
 if(l.any λkv=>decide (kv.1=k))=true then l.map (λkv=>if kv.1=k then(kv.1,y) else kv) else l++[(k,y)]
def BL:Key->PV
 | .inl i=>.int i
 | .inr x=>.str x
def nQ:PV->Option Key
 | .int i=>some (.inl i)
 | .str x=>some (.inr x)
 |_=>none
section
variable {B:Addr} {O:Addr->Prop} {H:Hp}
def aX.nil:aX B O H [] []:=⟨rfl,λi y x a=>by simp at a⟩
def aX.cons {y:Key×PV} {x:Key×V} {l:List (Key×PV)} {ks:List (Key×V)} (e:y.1=x.1) (r:Rep B O H y.2 x.2) (t:aX B O H l ks):aX B O H (y::l) (x::ks):=by
 refine⟨by simp[e,t.1],λi a b h1 h2=>?_⟩
 cases i with
 |zero=>simp at h1 h2;subst h1 h2;exact r
 |succ i=>simp at h1 h2;exact t.2 i a b h1 h2
def aX.inv (r:aX B O H l ks):(l=[]/\ks=[])\/∃ y l' x ks',l=y::l'/\ks=x::ks'/\y.1=x.1/\Rep B O H y.2 x.2/\aX B O H l' ks':=by
 cases l with
 |nil=>exact .inl ⟨rfl,by have:=r.1;simpa using this.symm⟩
 |cons y l=>
  cases ks with
  |nil=>have:=r.1;simp at this
  |cons x ks=>
   have h:=r.1
   simp only[PQ,List.cons.injEq] at h
   exact .inr ⟨y,l,x,ks,rfl,rfl,h.1,r.2 0 y x rfl rfl,h.2,λi a b h1 h2=>r.2 (i+1) a b (by simpa using h1) (by simpa using h2)⟩
theorem aX.val (k:Key): ∀ {l:List (Key×PV)} {ks:List (Key×V)},aX B O H l ks->(iS l k=none/\lr ks k=none)\/∃ y x,iS l k=some y/\lr ks k=some x/\Rep B O H y x
 |[],ks,r=>by
  rcases r.inv with⟨_,rfl⟩|⟨_,_,_,_,e,_⟩
  ·exact .inl ⟨rfl,rfl⟩
  ·cases e
 |y::l,ks,r=>by
  rcases r.inv with⟨e,_⟩|⟨y',l',x,ks',e,rfl,ek,ry,rt⟩
  ·cases e
  ·cases e
   by_cases c:y.1=k
   ·refine .inr ⟨y.2,x.2,by simp[iS,c],?_,ry⟩
    exact ll (ek.symm.trans c)
   ·have c': ¬ x.1=k:=λz=>c (ek.trans z)
    rw[lq c']
    have e1:iS (y::l) k=iS l k:=by simp[iS,List.find?_cons,c]
    rw[e1]
    exact aX.val k rt
theorem aX.any (k:Key) (r:aX B O H l ks):(l.any λkv=>decide (kv.1=k))=ks.any λkv=>decide (kv.1=k):=by
 have e1:(l.any λkv=>decide (kv.1=k))=(l.map (·.1)).any λz=>decide (z=k):=by rw[List.any_map];rfl
 have e2:(ks.any λkv=>decide (kv.1=k))=(ks.map (·.1)).any λz=>decide (z=k):=by rw[List.any_map];rfl
 rw[e1,e2,r.1]
theorem aX.snoc (rx:Rep B O H y x): ∀ {l:List (Key×PV)} {ks:List (Key×V)},aX B O H l ks->aX B O H (l++[(k,y)]) (ks++[(k,x)])
 |[],ks,r=>by
  rcases r.inv with⟨_,rfl⟩|⟨_,_,_,_,e,_⟩
  ·exact aX.cons (y:=(k,y)) (x:=(k,x)) rfl rx aX.nil
  ·cases e
 |z::l,ks,r=>by
  rcases r.inv with⟨e,_⟩|⟨y',l',x',ks',e,rfl,ek,ry,rt⟩
  ·cases e
  ·cases e
   exact aX.cons ek ry (aX.snoc rx rt)
theorem aX.xV (rx:Rep B O H y x): ∀ {l:List (Key×PV)} {ks:List (Key×V)},aX B O H l ks->aX B O H (l.map λkv=>if kv.1=k then(kv.1,y) else kv) (ks.map λkv=>if kv.1=k then(kv.1,x) else kv)
 |[],ks,r=>by
  rcases r.inv with⟨_,rfl⟩|⟨_,_,_,_,e,_⟩
  ·exact aX.nil
  ·cases e
 |z::l,ks,r=>by
  rcases r.inv with⟨e,_⟩|⟨y',l',x',ks',e,rfl,ek,ry,rt⟩
  ·cases e
  ·cases e
   rw[PQ,PQ]
   by_cases c:z.1=k
   ·rw[Qv c,Qv (ek.symm.trans c)]
    exact aX.cons ek rx (aX.xV rx rt)
   ·rw[Qw c,Qw (λq=>c (ek.trans q))]
    exact aX.cons ek ry (aX.xV rx rt)
def aX.put (r:aX B O H l ks) (rx:Rep B O H y x):aX B O H (nJ l k y) (putK ks k x):=by
 unfold nJ putK
 rw[r.any k]
 split
 ·exact r.xV rx
 ·exact r.snoc rx
def D2 (k:Key):Rep B O H (BL k) (kV k):=by
 cases k with
 |inl i=>exact .int i
 |inr x=>exact .str x
end
def pF (r:bH G O H y x) (e:nQ y=some k):x=kV k:=by
 cases y<;>first|cases e|skip
 ·rw[r.bL];rfl
 ·rw[r.fO];rfl
def aX.len (r:aX B O H l ks):l.length=ks.length:=by simpa using congrArg List.length r.1
section
variable {φ:dn} {X:Cx} {e o i a b:Expr} {pos:Pos} {md mk mv:ae->M PV}
def dU:PV->PV->M PV
 | .cU l,y=>(M.bK (nQ y)).bind λk=>M.bK (iS l k)
 |_,_=>.fail
def tX {α:Type} {o:Option α} {n:Nat} {R:α->Nat->Prop} (w:(M.bK o).wp n R): ∃ y,o=some y/\R y n:=by
 cases o with
 |none=>exact w.elim
 |some y=>exact⟨y,rfl,w⟩
def Hm (h:BE X e (Ir (rf φ md) (rf φ mk))):EV φ X e (ab dU md mk):=BE.mono h λσ H Q bu=>by
 obtain⟨G,O,ρ,n,R,s,w,q⟩:=bu
 unfold ab at w
 rw[M.wZ] at w
 refine⟨G,O,ρ,n,_,s,w,λy x H1 n1 e1 ba r1 w1=>?_⟩
 have s1:=s.ext e1 ba
 rw[M.wZ] at w1
 refine⟨G,O,ρ,n1,_,s1,w1,λz x' H2 n2 e2 nM r2 w2=>?_⟩
 cases y<;>first|exact w2.elim|skip
 rename_i l
 unfold dU at w2
 rw[M.wZ] at w2
 obtain⟨k,ek,w2⟩:=tX w2
 obtain⟨v,ev,w2⟩:=tX w2
 obtain⟨p,ks,rfl,hd,rr⟩:=(r1.ext s.B e2).AF
 rcases rr.val k with⟨z1,_⟩|⟨v',xv,z1,z2,rv⟩
 ·rw[z1] at ev;cases ev
 ·rw[z1] at ev;cases ev
  exact⟨p,xv,rfl,.inl ⟨ks,k,hd,pF r2 ek,z2.symm⟩,q _ _ _ _ (e1.trans e2) nM rv w2⟩
def p6 (neg:Bool):PV->PV->M PV
 |y,.cU l=>(M.bK (nQ y)).bind λk=>.ret (.bl ((iS l k).isSome !=neg))
 |_,_=>.fail
def wD {neg:Bool} {σ:St} {H:Hp} {Q:VK} (h:oK φ (ab (p6 neg) mk md) σ H Q):rf φ mk σ H λy H1=>rf φ md σ H1 λx H2=> ∃ a o,x= .ref a/\Cg H2 a y o/\Q (.bl (o.isSome !=neg)) H2:=by
 obtain⟨G,O,ρ,n,R,s,w,q⟩:=h
 unfold ab at w
 rw[M.wZ] at w
 refine⟨G,O,ρ,n,_,s,w,λz x' H1 n1 e1 ba r1 w1=>?_⟩
 have s1:=s.ext e1 ba
 rw[M.wZ] at w1
 refine⟨G,O,ρ,n1,_,s1,w1,λy x H2 n2 e2 nM r2 w2=>?_⟩
 cases y<;>first|(simp only[p6] at w2;exact w2.elim)|skip
 rename_i l
 have w2':((M.bK (nQ z)).bind λk=>M.ret (.bl ((iS l k).isSome !=neg)):M PV).wp n2 R:=by cases z<;>exact w2
 rw[M.wZ] at w2'
 obtain⟨k,ek,w2'⟩:=tX w2'
 obtain⟨p,ks,rfl,hd,rr⟩:=r2.AF
 refine⟨p,lr ks k,rfl,.inl ⟨ks,k,hd,pF (r1.ext s.B e2) ek,rfl⟩,q _ _ _ _ (e1.trans e2) nM (.bl _) ?_⟩
 have e3:(lr ks k).isSome=(iS l k).isSome:=by
  rcases rr.val k with⟨z1,z2⟩|⟨_,_,z1,z2,_⟩<;>simp[z1,z2]
 rw[e3]
 exact w2'
def LB (hu:X.A.units+1 < cLine) (hk:EB φ X a mk) (hd:EB φ X b md) (hm:behindInMarks .In b=false):EV φ X (.Compare a [.In] [b] pos) (ab (p6 false) mk md):=
 BE.mono ⟨J7 (Du hu hk.out hd.out) hm⟩ λσ H Q h=>by
  obtain h:=wD h
  unfold JD
  simpa only[Bool.bne_false] using h
def Jx (hu:X.A.units+1 < cLine) (hk:EB φ X a mk) (hd:EB φ X b md) (hm:behindInMarks .In b=false):TV φ X (.Compare a [.In] [b] pos) (aF (ab (p6 false) mk md)):=
 BT.mono ⟨JY (Du hu hk.out hd.out) hm⟩ (uI λσ H Q h=>by
  obtain h:=wD h
  unfold JD
  simpa only[Bool.bne_false] using h)
def AO (hu:X.A.units+1 < cLine) (ho:EB φ X o md) (hi:EB φ X i mk) (hs:LL i):EV φ X (.Subscript o i pos) (ab dU md mk):=Hm ⟨Gv hu ho.out hi.out hs⟩
end
section
variable {φ:dn} {X:Cx} {st:Stmt}
def Aa (k:Nat):ae->M Fl:=λρ=>.ret (.nx (ρ.set k (.bt [])))
def FP (h:BS X st (gL CI (c7 k))):SV φ X st (Aa k):=BS.mono h λD σ H ⟨G,O0,H0,O,ρ,n,s,w⟩ p hp=>
 w _ _ _ (s.Ol k (Ext.new hp _) (Bg.new s.es.ok hp _) hp av aX.nil)
noncomputable def jH (k:Nat) (mk mv:ae->M PV):ae->M Fl:=λρ=>(mv ρ).bind λy=>match ρ[k]? with|some (.bt l)=>(mk ρ).bind λz=>(M.bK (nQ z)).bind λkey=>if l.length < 100000 then .ret (.nx (ρ.set k (.bt (nJ l key y)))) else .fail|_=>.fail
def FO {k:Nat} {mk mv:ae->M PV} (h:BS X st (C1 (nF k) (rf φ mk) (oK φ mv))):SV φ X st (jH k mk mv):=BS.mono h λD σ H bu=>by
 obtain⟨G,O0,H0,O,ρ,n,s,w⟩:=bu
 unfold jH at w
 rw[M.wZ] at w
 refine⟨G,O,ρ,n,_,s.es,w,λy x H1 n1 e1 ba r1 w1=>?_⟩
 have s1:=s.to e1 ba
 cases hk:ρ[k]? with
 |none=>simp only[hk] at w1;exact w1.elim
 |some t=>
  cases t with
  |bt l=>
   simp only[hk] at w1
   obtain⟨p,xs,hx,hO,np,hh,rr⟩:=s1.es.er.2 k _ hk
   have hs:=dA s.es.er hk hx
   have npB:p≠G.B:=λz=>np (z▸G.pB)
   rw[M.wZ] at w1
   refine⟨_,hs,G,O,ρ,n1,_,s1.es,w1,λi x2 H2 n2 e2 nM r2 w2=>?_⟩
   rw[M.wZ] at w2
   obtain⟨key,ek,w2⟩:=tX w2
   by_cases c:l.length < 100000
   ·rw[Qv c] at w2
    have s2:=s1.to e2 nM
    have hh2:H2 p=some (.dK xs):=e2 p _ npB hh
    refine⟨p,_,rfl,.inl ⟨xs,key,hh2,pF r2 ek,?_,rfl⟩,w2 O _ _ (s2.putD hk hs ((rr.ext s.es.B e2).put (r1.ext s.es.B e2)))⟩
    rw[<-rr.len,Qm];lia
   ·rw[Qw c] at w2;exact w2.elim
  |_=>simp only[hk] at w1;exact w1.elim
def HG (hu:X.A.units+1 < cLine) (ho:BE X o td) (hi:BE X i ty) (hv:BE X value tv) (hs:swapsWith value (some (.Subscript o i pos')) pos.line X.env=pure false:=by rfl):
  BS X (.Assign [.Subscript o i pos'] value pos) (C1 td ty tv):=⟨Gq hu ho.out hi.out hv.out hs⟩
end
def DK (ks:List (Key×V)) (u:HO):Prop:=u= .dK ks\/∃ o,u= .fc o (.dK ks)
def DK.rd (h:DK ks u) (e:H p=some u):Rd H p (.dK ks):=by
 rcases h with rfl|⟨o,rfl⟩
 ·exact .inl e
 ·exact .inr ⟨o,e⟩
def DK.MV (h:DK ks u): ¬ LM u:=by
 rcases h with rfl|⟨o,rfl⟩<;>exact id
section
variable {B:Addr} {O:Addr->Prop} {H:Hp} {p:Addr} {ks:List (Key×V)} {u u':HO}
def Rep.gq (r:Rep B O H y x) (e:H p=some u) (d:DK ks u) (d':DK ks u'):Rep B O (upd H p u') y x:=by
 have ne: ∀ q v,H q=some v->¬ DK ks v->upd H p u' q=some v:=λq v g nd=>by
  rw[ag (λz=>by subst z;rw[e] at g;cases g;exact nd d)];exact g
 induction r with
 |aD=>exact .aD
 |bl b=>exact .bl b
 |int i=>exact .int i
 |str x=>exact .str x
 |tup hO h hl hr ih=>exact .tup hO (ne _ _ h (λz=>by rcases z with z|⟨_,z⟩<;>cases z)) hl ih
 |lst hO h hl hr ih=>exact .lst hO (ne _ _ h (λz=>by rcases z with z|⟨_,z⟩<;>cases z)) hl ih
 |sP hO h=>
  obtain⟨o,h⟩:=h
  exact .sP hO ⟨o,ne _ _ h (λz=>by rcases z with z|⟨_,z⟩<;>cases z)⟩
 | @cU q ks' l hO h hl hr ih=>
  by_cases c:q=p
  ·subst c
   obtain rfl:=C4 h (d.rd e)
   exact .cU hO (d'.rd av) hl ih
  ·refine .cU hO ?_ hl ih
   rcases h with h|⟨o,h⟩
   ·exact .inl (by rw[ag c];exact h)
   ·exact .inr ⟨o,by rw[ag c];exact h⟩
 |bD=>exact .bD
def lK (h:q≠p):hide O0 O (upd H p u') q=hide O0 O H q:=by
 unfold hide
 by_cases c:O q/\¬ O0 q
 ·rw[Qv c,Qv c]
 ·rw[Qw c,Qw c,ag h]
end
section
variable {φ:dn} {G:Bg φ} {O0 O O':Addr->Prop} {H Ha Hx:Hp} {σ:St} {ρ:ae} {n:Nat} {p:Addr} {ks:List (Key×V)} {u u':HO}
def Ext.gq (nO: ¬ O p) (x:Ext G.B (hide O0 O Ha) Hx):Ext G.B (hide O0 O (upd Ha p u')) (upd Hx p u'):=λq v nb h=>by
 by_cases c:q=p
 ·subst c
  rw[fz (λz=>nO z.1),av] at h
  cases h
  exact .of av
 ·rw[lK c] at h
  exact(x q v nb h).to λv e=>.of (by rw[ag c];exact e)
def Bg.gq (ok:G.ok Hx n) (np: ¬ G.cu p) (e:Hx p=some u) (d:DK ks u):G.ok (upd Hx p u') n:=G.keep Hx _ _ (λq v hq hv=>by
 have bY:q≠p:=λz=>by
  rcases hq with hq|hq
  ·exact np (z▸hq)
  ·rw[z,e] at hv;cases hv;exact d.MV hq
 rw[ag bY];exact hv) ok
theorem SI.gq (s:SI G O0 (hide O0 O Ha) O' Hx σ ρ n) (nO: ¬ O p) (nO': ¬ O' p) (e:Hx p=some u) (d:DK ks u) (d':DK ks u'):SI G O0 (hide O0 O (upd Ha p u')) O' (upd Hx p u') σ ρ n:=by
 have np: ¬ G.cu p:=λz=>nO' (s.es.pr p z)
 have ne: ∀ q,O' q->q≠p:=λq h z=>nO' (z▸h)
 refine⟨⟨⟨s.es.er.1,λi t ht=>?_⟩,Bg.gq s.es.ok np e d,s.es.pr,λq hq=>?_⟩,s.p0,s.sub,Ext.gq nO s.ext,λq hq=>?_,λq hq=>?_,λi q h=>?_,s.dj⟩
 ·have r1:=s.es.er.2 i t ht
  cases t with
  |un=>trivial
  |val y=>obtain⟨v,hv,rr⟩:=r1;exact⟨v,hv,rr.gq e d d'⟩
  |own t=>
   obtain⟨q,ys,hv,hq,nq,hh,rr⟩:=r1
   exact⟨q,ys,hv,hq,nq,by rw[ag (ne q hq)];exact hh,rr.1,λi a b c f=>(rr.2 i a b c f).gq e d d'⟩
  |bt t=>
   obtain⟨q,ys,hv,hq,nq,hh,rr⟩:=r1
   exact⟨q,ys,hv,hq,nq,by rw[ag (ne q hq)];exact hh,rr.1,λi a b c f=>(rr.2 i a b c f).gq e d d'⟩
 ·obtain⟨v,g⟩:=s.es.dm q hq
  exact⟨v,by rw[ag (ne q hq)];exact g⟩
 ·rw[lK (ne q hq)];exact s.gr q hq
 ·rw[lK (ne q (s.sub q hq))];exact s.d0 q hq
 ·rw[lK (ne q (eU s.es h).1)];exact s.fr i q h
end
section
variable {φ:dn} {X:Cx} {st:Stmt}
def v7:PV->M (List PV)
 | .cU l=>.ret (l.map λkv=>BL kv.1)
 |_=>.fail
def Js (e:H p=some u):upd H p u=H:=by
 funext q
 by_cases c:q=p
 ·subst c;rw[av,e]
 ·rw[ag c]
def L7.dk (h:L7 X d o ks u):DK ks u:=by
 rcases h with⟨rfl,_⟩|rfl
 ·exact .inl rfl
 ·exact .inr ⟨o,rfl⟩
def FN (h:BS X st (λD σ H=>A6 (D9 X (oK φ mi)) (NP φ bd) (Im φ mb) (D.sG X) σ H)):SV φ X st (aK (λρ=>(mi ρ).bind v7) bd mb):=BS.mono h λD σ H bu=>by
 obtain⟨G,O0,H0,O,ρ,n,s,w⟩:=bu
 unfold aK at w
 rw[M.bZ,M.wZ] at w
 refine⟨G,O,ρ,n,_,s.es,w,λy x H1 n1 e1 ba r1 w1=>?_⟩
 cases y<;>first|exact w1.elim|skip
 rename_i l0
 obtain⟨l,hl⟩: ∃ l,l=l0.map λkv=>BL kv.1:=⟨_,rfl⟩
 replace w1:(bp bd mb l ρ).wp n1 (λf n'=>nY G O0 H0 D n' f):=by rw[hl];exact w1
 cases r1 with
 | @cU p ks _ hO hd hk hr=>
 refine⟨p,ks,rfl,hd,λo u eu wu=>?_⟩
 have s1:=s.to e1 ba
 have sf:SI G O0 (hide O0 O (upd H1 p (.fc o (.dK ks)))) O (upd H1 p (.fc o (.dK ks))) σ ρ n1:=s1.now.gq hO hO eu wu.dk (.inr ⟨o,rfl⟩)
 have nB:p≠G.B:=λz=>hO (z▸s.es.B)
 have hlen:l.length=ks.length:=by rw[hl,PD];simpa using congrArg List.length hk
 have hid: ∀ q:Addr,hide O0 O (upd (upd H1 p (.fc o (.dK ks))) p u) q=hide O0 O H1 q:=λq=>by rw[FG,Js eu]
 have hid':hide O0 O (upd (upd H1 p (.fc o (.dK ks))) p u)=hide O0 O H1:=funext hid
 have hpf:hide O0 O (upd H1 p (.fc o (.dK ks))) p=some (.fc o (.dK ks)):=by rw[fz (λz=>hO z.1)];exact av
 have at_: ∀ {H3:Hp},Ext G.B (hide O0 O (upd H1 p (.fc o (.dK ks)))) H3->H3 p=some (.fc o (.dK ks)):=λx=>x p _ nB hpf
 have nO': ∀ {O':Addr->Prop} {H':Hp} {σ':St} {ρ':ae} {n':Nat},SI G O0 (hide O0 O (upd H1 p (.fc o (.dK ks)))) O' H' σ' ρ' n'->¬ O' p:=λx z=>by
  rcases x.gr p z with g|g
  ·exact hO (s.sub p g)
  ·rw[hpf] at g;cases g
 have thw: ∀ {O':Addr->Prop} {H':Hp} {σ':St} {ρ':ae} {n':Nat},SI G O0 (hide O0 O (upd H1 p (.fc o (.dK ks)))) O' H' σ' ρ' n'->SI G O0 H0 O' (upd H' p u) σ' ρ' n':=λx=>by
  have q:=x.gq hO (nO' x) (at_ x.ext) (.inr ⟨o,rfl⟩) wu.dk
  rw[hid'] at q
  exact s1.back q
 refine⟨λi m σ' H'=>m=l.length - i/\i<=l.length/\∃ (O':Addr->Prop) (ρ':ae) (n':Nat),SI G O0 (hide O0 O (upd H1 p (.fc o (.dK ks)))) O' H' σ' ρ' n'/\(bp bd mb (l.drop i) ρ').wp n' (λf n'=>nY G O0 H0 D n' f),
  ⟨l.length,by simp,Qe _,O,ρ,n1,sf,by simpa using w1⟩,?_⟩
 rintro i m σ' H' ⟨rfl,hi,O',ρ',n',s',w'⟩
 have hp':=at_ s'.ext
 by_cases dz:i < l.length
 ·have jC:l.drop i=l[i]::l.drop (i+1):=List.drop_eq_getElem_cons dz
  rw[jC] at w'
  unfold bp at w'
  refine .inr ⟨⟨hp',by lia⟩,λσ2 H2=> ∃ (O':Addr->Prop) (ρ':ae) (n':Nat),SI G O0 (hide O0 O (upd H1 p (.fc o (.dK ks)))) O' H2 σ2 ρ' n'/\(bp bd mb (l.drop (i+1)) ρ').wp n' (λf n'=>nY G O0 H0 D n' f),λσ2 H2 hh=>⟨l.length - (i+1),by lia,rfl,dz,hh⟩,λx H2 yl=>?_⟩
  obtain⟨eH,k,ek,rfl⟩:=yl
  subst eH
  have elk:l[i]=BL k:=by
   have g:l[i]?=some (BL k):=by
    have g0:(l0.map λx=>x.1)[i]?=some k:=by rw[hk];exact ek
    rw[P6] at g0
    rw[hl,P6]
    cases c:l0[i]? with
    |none=>rw[c] at g0;cases g0
    |some z=>
     rw[c] at g0
     have g1:z.1=k:=Qz g0
     show some (BL z.1)=_
     rw[g1]
   rw[Py dz] at g
   exact Qz g
  rw[M.wZ] at w'
  refine⟨G,O0,_,O',ρ',n',_,l[i],s',by rw[elk];exact D2 k,w',λσ2 ρ2 n2 s2 w2=>?_⟩
  rw[M.wZ] at w2
  refine⟨G,O0,_,O',ρ2,n2,s2,M.wp_mono w2 λf n3 w3=>?_⟩
  cases f with
  |nx ρ3=>exact λO3 σ3 H3 s3=>⟨O3,ρ3,n3,s3,w3⟩
  |ct ρ3=>exact λO3 σ3 H3 s3=>⟨O3,ρ3,n3,s3,w3⟩
  |bk ρ3=>exact λO3 σ3 H3 s3=>⟨p,o,ks,u,at_ s3.ext,wu,w3 O3 σ3 _ (thw s3)⟩
  |rt y=>exact λx3 H3 e3 ok3 r3=>⟨p,o,ks,u,at_ e3,wu,w3 x3 _ (by
    have q:=Ext.gq (u':=u) hO e3
    rw[hid'] at q
    exact s1.base.trans q) (Bg.gq ok3 (λz=>hO (s.es.pr p z)) (at_ e3) (.inr ⟨o,rfl⟩)) (r3.gq (at_ e3) (.inr ⟨o,rfl⟩) wu.dk)⟩
 ·have e:i=l.length:=by lia
  subst e
  rw[List.drop_length] at w'
  exact .inl ⟨⟨hp',by lia⟩,p,o,ks,u,hp',wu,w' O' σ' _ (thw s')⟩
def HF (hp:PassesOwn (model X.prog X.w) X.A X.env X.xe) (hc:X.calm=true) (hi:BE X iter td) (hg:BG X tg g) (hb:Fq X body tb)
  (hs: ∀ x,foldedSetIterable iter X.env x=pure x:=by intro _;rfl):BS X (.For tg iter body [] pos) (λD σ H=>A6 (D9 X td) g tb (D.sG X) σ H):=⟨Gn (tH hp hc (Gs hi.out) hg.out hb.out hs)⟩
end
section
open AutoSeq1 (wpAny_loadPart')
def BC (l:Addr) (items:Array Value) (n:Nat) (cU:Option Addr) (sl:Array (Option Value)):
  Meets (Builtin.«enumerate.__new__» ⟨[.type "enumerate",.ref l],[]⟩) (λ_ R s=>s.heap.get? l=some {cls:=.type "tuple",dict:=cU,data:=.seq items n,slots:=sl}/\
   R (.ok (.ret (.ref (s.heap.push {cls:=.type "tuple_iterator",data:=.fields #[.ref l,.int 0 0]}).objs.size)))
    {s with heap:=(s.heap.push {cls:=.type "tuple_iterator",data:=.fields #[.ref l,.int 0 0]}).push {cls:=.type "enumerate",data:=.fields #[.none,.bool false,.ref s.heap.objs.size,rawInt 0,.none,.none]}}):=
 .of_wp λprog w A R s h=>by
  obtain⟨hp,g,d,tk,os⟩:=s;obtain⟨hl,h⟩:=h
  have hsub:=sub_enumerate
  have hL:Heap.IsTuple (Shared.heap ⟨hp,g,d,tk,os⟩) l items:=⟨_,hl,rfl,n,rfl⟩
  wp_walk using wpAny_loadPart' hl
  refine wpAny_stack_any λst=>PJ ?_
  split
  ·rename_i c _ _ _ _ _
   cases (c==Value.type "enumerate")
   ·wp_walk using wpAny_loadPart' hl,wpAny_pyIter_tuple hL
    exact⟨_,rfl,h⟩
   ·wp_walk using wpAny_loadPart' hl,wpAny_pyIter_tuple hL
    exact⟨_,rfl,h⟩
  ·wp_walk using wpAny_loadPart' hl,wpAny_pyIter_tuple hL
   exact⟨_,rfl,h⟩
section
variable {prog:Program} {w:World} {A:Around} {E:Value->Shared->Prop} {s:Shared}
def jI (hL:s.heap.IsTuple l items)
  (h: ∀ h',IsEnum h' (s.heap.objs.size+1) s.heap.objs.size 0 .none->h'.IsTupleIter s.heap.objs.size l 0->h'.objs.size=s.heap.objs.size+2->
   (∀ b o,s.heap.get? b=some o->h'.get? b=some o)->Q (.ref (s.heap.objs.size+1)) {s with heap:=h'}):
  wpAny (model prog w) A (call (.type "enumerate") [.ref l]) Q E s:=by
 obtain⟨⟨c,cU,dt,sl⟩,hl,hc,n,hd⟩:=hL
 replace hc:c= .type "tuple":=hc
 replace hd:dt= .seq items n:=hd
 subst hc hd
 refine callType_new F.called_enumerate (by decide) (F.typeCall_enumerate_1 _) (F.newCall_enumerate_1 _) (λobj=>F.args_object_init_2 obj _) F.entry_enumerate_new
  (BC l items n cU sl) ⟨hl,?_⟩
 have hz:(s.heap.push {cls:=.type "tuple_iterator",data:=.fields #[.ref l,.int 0 0]}).objs.size=s.heap.objs.size+1:=Heap.size_push ..
 show _/\_
 rw[hz]
 have he:IsEnum ((s.heap.push {cls:=.type "tuple_iterator",data:=.fields #[.ref l,.int 0 0]}).push
   {cls:=.type "enumerate",data:=.fields #[.none,.bool false,.ref s.heap.objs.size,rawInt 0,.none,.none]}) (s.heap.objs.size+1) s.heap.objs.size 0 .none:=by
  have:=PZ (s.heap.push {cls:=.type "tuple_iterator",data:=.fields #[.ref l,.int 0 0]})
   (o:={cls:=.type "enumerate",data:=.fields #[.none,.bool false,.ref s.heap.objs.size,rawInt 0,.none,.none]}) rfl
  rw[hz] at this;exact this
 refine⟨⟨_,he,rfl⟩,h _ he ⟨_,PF _ (PZ _ rfl),rfl,rfl⟩ (by rw[Heap.size_push,hz]) λb o x=>PF _ (PF _ x)⟩
def uT {h h':Heap} (p:h.IsTuple l items) (k: ∀ o,h.get? l=some o->h'.get? l=some o):h'.IsTuple l items:=let ⟨o,e,r⟩:=p;⟨o,k o e,r⟩
def Ll (hh:A.handled=none) (it l:Addr) (bY:l≠it) (items:Array Value):
  Draws prog w A it [it,l] items.size (λi v=>items[i]?=some v) (λi h=>h.IsTupleIter it l i/\h.IsTuple l items) where
 live:=λ_ _ st=>let ⟨o,ho,_⟩:=st.1;⟨o,ho⟩
 frame:=λ_ _ _ st hk=>⟨st.1.at λo e=>hk it (by simp) o e,uT st.2 λo e=>hk l (by simp) o e⟩
 item:=λi s Q E hi st hQ=>by
  refine Kl st.1 st.2 (x:=items[i]) (by simp[hi]) λh' hit' hs'=>?_
  exact hQ _ h' s.toks (by simp[hi]) ⟨hit',uT st.2 λo e=>(hs'.2 l bY).trans e⟩ hs'
 done:=λs Q E st hE=>o9 hh st.1 st.2 (by simp) hE
def gH (hh:A.in1.handled=none) (he:IsEnum s.heap e it i old) (ht:s.heap.IsTupleIter it t j) (hl:s.heap.IsTuple t items) (hx:items[j]?=none)
  (hQ: ∀ h',Heap.ExtBut it s.heap h'->Q none {s with heap:=h'}):wpAny (model prog w) A (pyNext (.ref e)) Q E s:=by
 have hT:s.TypeIs (.ref e) "enumerate":=⟨_,he,rfl⟩
 unfold pyNext
 refine Pz (wpAny_attempt (wpAny_callSpecial?_slot (name:=Str.ofString "__next__") hT F.slot_enumerate_next
  (wpAny_call_entry F.slot_enumerate_next hT F.entry_enumerate_next ?_ (F.args_enumerate_next_1 _))))
 show wpAny _ _ (field (.ref e) 2 >>= _) _ _ _
 refine Pz (wpAny_field he rfl (x:=.ref it) rfl ?_)
 refine Pz (o9 hh ht hl hx λh' x he' hx'=>?_)
 obtain⟨o,ho,hc⟩:=hx'
 refine Pz (wpAny_isInstance (T:="StopIteration") (b:=true) ⟨o,ho,hc⟩ isSubtype_stop ?_)
 exact PJ (hQ _ he')
end
noncomputable def Fe (K:Frag) (a:Addr):It:=
 ⟨λi H=> ∃ xs x,dh K H a xs/\xs[i]?=some x,λi H y H'=> ∃ T,y= .ref T/\H T=none/\∀ xs x,dh K H a xs->xs[i]?=some x->H'=upd H T (.tup [.int i,x]),λi H=> ∃ xs,dh K H a xs/\xs.length<=i⟩
def CC {P:Program} {w:World} {K:Frag} {elts:List Expr} {kk:Nat} {pos:Pos} (a e it:Addr) (bY:e≠it):Turn P w K (.Tuple elts kk pos) (Fe K a) [e,it] e (λi h=>(∃ old,IsEnum h e it i old)/\h.IsTupleIter it a i) where
 mem:=by simp
 obj:=λi h st b hb=>by
  obtain⟨⟨old,he⟩,o,ho,hc,hd⟩:=st
  have hb':b=e\/b=it:=by simpa using hb
  rcases hb' with rfl|rfl
  ·exact⟨_,he,λv z=>by cases z⟩
  ·exact⟨o,ho,λv z=>by rw[hd] at z;cases z⟩
 keep:=λi h h' st k=>by
  obtain⟨⟨old,he⟩,o,ho,hc,hd⟩:=st
  exact⟨⟨old,k e (by simp) _ he⟩,o,k it (by simp) _ ho,hc,hd⟩
 item:=by
  intro X hP hw hK hc i pZ s σ H E I hf st hg
  subst hP hw hK
  obtain⟨xs,x,hq,hx⟩:=hg
  obtain⟨aC,rv,p,hz⟩:=I.tuple hq
  obtain⟨u,hu,ru⟩:=rv.get hx
  obtain⟨⟨old,he⟩,hit⟩:=st
  have hTu:s.heap.IsTuple a aC.toArray:=p
  have hia:i < aC.toArray.size:=by
   have:=(PL.mp hu).1
   simpa using this
  have hae:a≠e:=λz=>by
   exact(by obtain⟨o2,ho2,hc2,_⟩:=hTu;have he':=he;rw[<-z] at he';unfold IsEnum at he';rw[ho2] at he';cases he';injection hc2 with hc2;exact absurd hc2 (by decide))
  have hai:a≠it:=λz=>by
   obtain⟨ob,hob,hco,_⟩:=hit
   obtain⟨o2,ho2,hc2,_⟩:=hTu
   rw[<-z,ho2] at hob
   cases hob
   rw[hc2] at hco;injection hco with hco;exact absurd hco (by decide)
  refine wpAny_pyNext_enum_itemD (Ll (show X.A.in1.handled=none from I.ok.hd hc) it a hai aC.toArray) he ⟨hit,hTu⟩ hia bY (by
   intro z
   have z':e=it\/e=a:=by simpa using z
   rcases z' with z'|z'
   ·exact bY z'
   ·exact hae z'.symm) λx' h1 tk hP ho hst1 hT hsz k1=>?_
  have hx':x'=u:=by
   have:aC.toArray[i]?=some u:=by simpa using hu
   rw[this] at hP;exact(Qz hP).symm
  subst hx'
  obtain⟨hit1,_⟩:=hst1
  refine⟨_,rfl,wpAny_letOwnedTupleGo_enum (s:={s with heap:=h1,toks:=tk+1}) ho λh2 he2 s2=>?_⟩
  have lt: ∀ b o,s.heap.get? b=some o->b≠s.heap.objs.size:=λb o q=>Qg (P2 q)
  have neT:s.heap.objs.size≠e:=λz=>lt e _ he z.symm
  have hT2:h2.get? s.heap.objs.size=some {cls:=.type "tuple",data:=.seq #[.int i tk,x']}:=(s2.2 _ neT).trans hT
  have I2:=I.zt (t':=tk+1) (h':=h2) (wr:=[e,it]) (T:=s.heap.objs.size) (o:=.tup [.int i,x]) hf (λb o hb q=>by
   have hb':b≠e/\b≠it:=by simpa using hb
   exact(s2.2 b hb'.1).trans (k1 b o hb'.1 hb'.2 q)) (PM _) (zZ hT2 ⟨_,rfl⟩ ru)
  refine⟨.ref s.heap.objs.size,_,I2,rfl,⟨_,rfl,I.a9.fresh (PM _),λys y hy hyx=>?_⟩,⟨⟨_,by simpa using he2⟩,hit1.at λo q=>(s2.2 it bY.symm).trans q⟩,λb hb=>?_⟩
  ·rw[I.qZ hy hq,hx] at hyx
   cases hyx
   rfl
  ·have dz:b≠s.heap.objs.size:=by
    have hb':b=e\/b=it:=by simpa using hb
    rcases hb' with rfl|rfl
    ·exact λz=>neT z.symm
    ·obtain⟨o,ho',_⟩:=hit
     exact lt _ _ ho'
   rw[ag dz]
   exact(hf b hb).1
 done:=by
  intro X hP hw hK hc i pZ s σ H E I hf st hg
  subst hP hw hK
  obtain⟨xs,hq,hx⟩:=hg
  obtain⟨aC,rv,p,hz⟩:=I.tuple hq
  have hl:=rv.length
  obtain⟨⟨old,he⟩,hit⟩:=st
  have hTu:s.heap.IsTuple a aC.toArray:=p
  have hai:a≠it:=λz=>by
   obtain⟨ob,hob,hco,_⟩:=hit
   obtain⟨o2,ho2,hc2,_⟩:=hTu
   rw[<-z,ho2] at hob
   cases hob
   rw[hc2] at hco;injection hco with hco;exact absurd hco (by decide)
  have hend:aC.toArray[i]?=none:=by simp;lia
  refine gH (show X.A.in1.handled=none from I.ok.hd hc) he hit hTu hend λh1 k1=>⟨rfl,I.zu (t':=s.toks) hf λb o hb q=>k1 b o (λz=>hb (by simp[z])) q⟩
 self:=λ_ _ _ _ _ st h=>by
  obtain⟨⟨old,he⟩,_⟩:=st
  exact wpAny_pyIter_enum he h
section
variable {X:Cx} {e e2:Expr} {t1 t2:TE} {elts:List Expr} {kk:Nat} {tpos pos p:Pos} {x:Str}
def KU (K:Frag) (ta:TA):TI:=λσ H R=>ta σ H λvs H1=> ∃ a xs,vs=[.ref a]/\dh K H1 a xs/\R (Fe K a) H1
def La {pZ:List (Addr×Obj)} {σ:St} {H:Hp} {s:Shared} {R:It->Hp->Prop} {a:Addr} {xs:List V} (I:Inv X pZ σ H s) (ha:dh X.K H a xs) (q:R (Fe X.K a) H):
  wpAny (model X.prog X.w) X.A (call (.type "enumerate") [.ref a]) (λv s1=>wpAny (model X.prog X.w) X.A (pyIter v) (Nz X pZ σ (.Tuple elts kk tpos) R) X.xe s1) X.xe s:=by
 obtain⟨aC,rv,p1,hz⟩:=I.tuple ha
 refine jI (show s.heap.IsTuple a aC.toArray from p1) λh1 he hit hsz k1=>?_
 have I1:Inv X pZ σ H {s with heap:=h1}:=I.kept (t':=s.toks) k1
 refine wpAny_pyIter_enum (s:={s with heap:=h1}) he ?_
 refine⟨_,[s.heap.objs.size+1,s.heap.objs.size],_,Fe X.K a,H,rfl,I1,CC a _ _ (Nat.succ_ne_self _),⟨⟨_,he⟩,hit⟩,λc hc=>?_,q⟩
 have hle:s.heap.objs.size<=c:=by
  rcases PR.mp hc with h|hc
  ·rw[h];exact Nat.le_succ _
  ·rw[Qf.mp hc];exact PM _
 exact I.pQ hle (I.a9.fresh hle)
def Dm (hg:Gl X x) (hm:X.mg x=none) (hv:bootBuiltins x=some (.type "enumerate")) (ha:PA X [e] ta) (hn:x≠"__name__":=by decide) (nV:(x==("__debug__":Str))=false:=by decide)
  (he:starEach [e] X.env=(false,eval e X.env)::starEach [] X.env:=by rfl) (ke:(backTo pos (starEach [] X.env)).any (·.1)=false:=by rfl):PI X (.Tuple elts kk tpos) (.Call (.Name x p) [e] [] pos) (KU X.K ta):=by
 intro pZ s σ H R I h
 refine wpAny_Call_Name_kw (iq I hg hm hv ?_ hn nV)
 refine PyProof.Rows.callWith_type1 (bq (ha pos pZ s σ H _ I h) λus s1 ⟨vs,H1,I1,r1,q1⟩=>?_) he ke
 obtain⟨a,xs,rfl,h1,q⟩:=q1
 obtain⟨u,rfl,ru⟩:=r1.one
 cases ru
 exact La I1 h1 q
end
end
section
variable {φ:dn}
def jG (l:List PV):List PV:=l.mapIdx λi x=>PV.tup [.int i,x]
inductive xy (K:Frag) (G:Bg φ) (O:Addr->Prop) (H:Hp):List PV->It->Prop where
 |Lc {a:Addr} {xs:List V} {l:List PV} (na: ¬ O a) (ha:H a=some (.lst xs)) (ra:aO G.B O H l xs):xy K G O H (jG l) (Jd K a)
 |Lb {a:Addr} {xs:List V} {l:List PV} (na: ¬ O a) (ha:H a=some (.tup xs)) (ra:aO G.B O H l xs):xy K G O H (jG l) (Fe K a)
def wx {i:Nat} (h:(jG l)[i]?=some y): ∃ u,l[i]?=some u/\y= .tup [.int i,u]:=by
 unfold jG at h
 rw[List.getElem?_mapIdx] at h
 cases e:l[i]? with
 |none=>rw[e] at h;cases h
 |some u=>rw[e] at h;exact⟨u,rfl,(Qz h).symm⟩
def mL (l:List PV):(jG l).length=l.length:=by simp[jG]
def xy.go {K:Frag} {G:Bg φ} {O:Addr->Prop} {H:Hp} {l:List PV} {J:It} (t:xy K G O H l J) {i:Nat} {y:PV} (hi:l[i]?=some y):J.go i H/\∀ x H2,J.Ci i H x H2->∃ T us vs,x= .ref T/\H T=none/\H2=upd H T (.tup vs)/\y= .tup us/\aO G.B O H us vs:=by
 cases t with
 | @Lc a xs l1 na ha ra=>
  obtain⟨u,e1,rfl⟩:=wx hi
  obtain⟨x1,hx1,r1⟩:=ra.at e1
  refine⟨⟨xs,x1,bU.of ha,hx1⟩,λx H2 z=>?_⟩
  obtain⟨T,rfl,hT,q⟩:=z
  exact⟨T,[.int i,u],[.int i,x1],rfl,hT,q xs x1 (bU.of ha) hx1,rfl,.cons (.int _) (.cons r1 .nil)⟩
 | @Lb a xs l1 na ha ra=>
  obtain⟨u,e1,rfl⟩:=wx hi
  obtain⟨x1,hx1,r1⟩:=ra.at e1
  refine⟨⟨xs,x1,dh.of ha,hx1⟩,λx H2 z=>?_⟩
  obtain⟨T,rfl,hT,q⟩:=z
  exact⟨T,[.int i,u],[.int i,x1],rfl,hT,q xs x1 (dh.of ha) hx1,rfl,.cons (.int _) (.cons r1 .nil)⟩
def xy.stop {K:Frag} {G:Bg φ} {O:Addr->Prop} {H:Hp} {l:List PV} {J:It} (t:xy K G O H l J):J.stop l.length H:=by
 cases t with
 | @Lc a xs l1 na ha ra=>exact⟨xs,bU.of ha,by rw[mL,ra.1];exact PM _⟩
 | @Lb a xs l1 na ha ra=>exact⟨xs,dh.of ha,by rw[mL,ra.1];exact PM _⟩
section
variable {G:Bg φ} {O0 O:Addr->Prop} {H0 H:Hp} {σ:St} {ρ:ae} {n n':Nat}
def SI.Mi {K:Frag} {H1:Hp} {O':Addr->Prop} {σ':St} {ρ':ae} {l:List PV} {J:It} (s:SI G O0 H0 O H σ ρ n) (x:SI G O0 (hide O0 O H) O' H1 σ' ρ' n') (it:xy K G O H l J):xy K G O' H1 l J:=by
 have k: ∀ p o,¬ O p->H p=some o->fG H1 p o/\¬ O' p:=λp o np hp=>by
  have e:hide O0 O H p=some o:=by rw[fz (λz=>np z.1)];exact hp
  refine⟨x.ext p o (λz=>np (z▸s.es.B)) e,λz=>?_⟩
  rcases x.gr p z with w|w
  ·exact np (s.sub p w)
  ·rw[w] at e;cases e
 cases it with
 |Lc na ha ra=>exact .Lc (k _ _ na ha).2 (k _ _ na ha).1 (ra.cE k)
 |Lb na ha ra=>exact .Lb (k _ _ na ha).2 (k _ _ na ha).1 (ra.cE k)
end
noncomputable def LX (φ:dn) (K:Frag) (m:ae->M (List PV)):TI:=λσ H Q=> ∃ (G:Bg φ) (O:Addr->Prop) (ρ:ae) (n:Nat) (R:List PV->Nat->Prop),ES G O H σ ρ n/\(m ρ).wp n R/\
 ∀ (l:List PV) (J:It) (H':Hp) (n':Nat),Ext G.B H H'->G.ok H' n'->xy K G O H' l J->R l n'->Q J H'
section
variable {X:Cx} {st:Stmt} {e e2:Expr} {p pos tpos:Pos} {elts:List Expr} {kk:Nat}
def qP:List PV->M (List PV)
 |[.tup l]=>.ret (jG l)
 |_=>.fail
def yB:List PV->M (List PV)
 |[.lst l]=>.ret (jG l)
 |_=>.fail
def Ew (w:(qP l).wp n R): ∃ l1,l=[.tup l1]:=by
 unfold qP at w
 split at w
 ·exact⟨_,rfl⟩
 ·exact w.elim
def Ey (w:(yB l).wp n R): ∃ l1,l=[.lst l1]:=by
 unfold yB at w
 split at w
 ·exact⟨_,rfl⟩
 ·exact w.elim
def Ly (hg:Gl X "enumerate") (hm:X.mg "enumerate"=none) (ha:BA X [e] ta)
  (he:starEach [e] X.env=(false,eval e X.env)::starEach [] X.env:=by rfl) (ke:(backTo pos (starEach [] X.env)).any (·.1)=false:=by rfl):BI X (.Tuple elts kk tpos) (.Call (.Name "enumerate" p) [e] [] pos) (KU X.K ta):=⟨Dm hg hm PyProof.Rows.boot_enumerate ha.out (by decide) (by decide) he ke⟩
def E1 (hg:Gl X "enumerate") (hm:X.mg "enumerate"=none) (ha:BA X [e] ta)
  (he:starEach [e] X.env=(false,eval e X.env)::starEach [] X.env:=by rfl) (ke:(backTo pos (starEach [] X.env)).any (·.1)=false:=by rfl):BI X (.Tuple elts kk tpos) (.Call (.Name "enumerate" p) [e] [] pos) (Av X.K ta):=⟨zW hg hm PyProof.Rows.boot_enumerate ha.out (by decide) (by decide) he ke⟩
def OM (h:BI X tg iter (KU X.K (Mk φ ml))):BI X tg iter (LX φ X.K λρ=>(ml ρ).bind qP):=BI.mono h λσ H Q bu=>by
 obtain⟨G,O,ρ,n,R,s,w,q⟩:=bu
 rw[M.wZ] at w
 refine⟨G,O,ρ,n,_,s,w,λl xs H1 n1 e1 ba r1 w1=>?_⟩
 obtain⟨l1,rfl⟩:=Ew w1
 obtain⟨x1,t1,rfl,a1,r2⟩:=r1.cons_inv
 rw[r2.nil_inv]
 cases a1 with
 |tup na ha la ra=>exact⟨_,_,rfl,dh.of ha,q _ _ _ _ e1 ba (.Lb na ha ⟨la,ra⟩) w1⟩
def M7 (h:BI X tg iter (Av X.K (Mk φ ml))):BI X tg iter (LX φ X.K λρ=>(ml ρ).bind yB):=BI.mono h λσ H Q bu=>by
 obtain⟨G,O,ρ,n,R,s,w,q⟩:=bu
 rw[M.wZ] at w
 refine⟨G,O,ρ,n,_,s,w,λl xs H1 n1 e1 ba r1 w1=>?_⟩
 obtain⟨l1,rfl⟩:=Ey w1
 obtain⟨x1,t1,rfl,a1,r2⟩:=r1.cons_inv
 rw[r2.nil_inv]
 cases a1 with
 |lst na ha la ra=>exact⟨_,_,rfl,bU.of ha,q _ _ _ _ e1 ba (.Lc na ha ⟨la,ra⟩) w1⟩
def FL {mi:ae->M (List PV)} {bd:PV->ae->M ae} {mb:ae->M Fl} (h:BS X st (A6 (LX φ X.K mi) (NP φ bd) (Im φ mb))):SV φ X st (aK mi bd mb):=BS.mono h λD σ H bu=>by
 obtain⟨G,O0,H0,O,ρ,n,s,w⟩:=bu
 unfold aK at w
 rw[M.wZ] at w
 refine⟨G,O,ρ,n,_,s.es,w,λl J H1 n1 e1 ba it w1=>?_⟩
 have s1:=s.to e1 ba
 refine⟨λi m σ' H'=>m=l.length - i/\i<=l.length/\∃ (O':Addr->Prop) (ρ':ae) (n':Nat),SI G O0 (hide O0 O H1) O' H' σ' ρ' n'/\(bp bd mb (l.drop i) ρ').wp n' (λf n'=>nY G O0 H0 D n' f),
  ⟨l.length,by simp,Qe _,O,ρ,n1,s1.now,by simpa using w1⟩,?_⟩
 rintro i m σ' H' ⟨rfl,hi,O',ρ',n',s',w'⟩
 have it':=s1.Mi s' it
 by_cases dz:i < l.length
 ·have hget:l[i]?=some l[i]:=Py dz
  have jC:l.drop i=l[i]::l.drop (i+1):=List.drop_eq_getElem_cons dz
  rw[jC] at w'
  unfold bp at w'
  obtain⟨g1,g2⟩:=it'.go hget
  refine .inr ⟨g1,λσ2 H2=> ∃ (O':Addr->Prop) (ρ':ae) (n':Nat),SI G O0 (hide O0 O H1) O' H2 σ2 ρ' n'/\(bp bd mb (l.drop (i+1)) ρ').wp n' (λf n'=>nY G O0 H0 D n' f),λσ2 H2 hh=>⟨l.length - (i+1),by lia,rfl,dz,hh⟩,λx H2 yl=>?_⟩
  obtain⟨T,us,vs,rfl,hT,rfl,ey,rr⟩:=g2 x H2 yl
  have ex:Ext G.B H' (upd H' T (.tup vs)):=Ext.new hT _
  have nT: ¬ O' T:=λz=>by obtain⟨o,g⟩:=s'.es.dm T z;rw[hT] at g;cases g
  have rx:Rep G.B O' (upd H' T (.tup vs)) l[i] (.ref T):=by
   rw[ey]
   exact .tup nT av rr.1 (rr.ext s'.es.B ex).2
  rw[M.wZ] at w'
  refine⟨G,O0,_,O',ρ',n',_,l[i],s'.to ex (Bg.new s'.es.ok hT _),rx,w',λσ2 ρ2 n2 s2 w2=>?_⟩
  rw[M.wZ] at w2
  refine⟨G,O0,_,O',ρ2,n2,s2,M.wp_mono w2 λf n3 w3=>?_⟩
  cases f with
  |nx ρ3=>exact λO3 σ3 H3 s3=>⟨O3,ρ3,n3,s3,w3⟩
  |ct ρ3=>exact λO3 σ3 H3 s3=>⟨O3,ρ3,n3,s3,w3⟩
  |bk ρ3=>exact λO3 σ3 H3 s3=>w3 O3 σ3 H3 (s1.back s3)
  |rt y=>exact λx3 H3 e3 ok3 r3=>w3 x3 H3 (s1.base.trans e3) ok3 r3
 ·have e:i=l.length:=by lia
  subst e
  rw[List.drop_length] at w'
  exact .inl ⟨it'.stop,w' O' σ' H' (s1.back s')⟩
end
end
section
variable {φ:dn}
theorem xy.cE {K:Frag} {G G':Bg φ} {O O':Addr->Prop} {H H':Hp} {l:List PV} {J:It} (t:xy K G O H l J) (hB:G'.B=G.B) (k: ∀ p o,¬ O p->H p=some o->fG H' p o/\¬ O' p):xy K G' O' H' l J:=by
 cases t with
 |Lc na ha ra=>exact .Lc (k _ _ na ha).2 (k _ _ na ha).1 (by rw[hB];exact ra.cE k)
 |Lb na ha ra=>exact .Lb (k _ _ na ha).2 (k _ _ na ha).1 (by rw[hB];exact ra.cE k)
section
variable {X:Cx} {e:Expr}
def DU {K:Frag} {js:List (Option Nat)} {mi:ae->M (List PV)} {bd:PV->ae->M ae} {tt:ae->M Bool} {te:ae->M PV}: ∀ σ H Q,Io φ (a8 js mi bd tt te) σ H Q->Cj js (LX φ K mi) (FH φ bd) (zy φ tt) (oK φ te) σ H Q:=λσ H Q bu=>by
 obtain⟨G,O,ρ,n,R,s,w,q⟩:=bu
 unfold a8 at w
 rw[M.wZ] at w
 refine⟨G,O,ρ,n,_,s,w,λl J H1 n1 e1 ba it w1=>λD hD=>?_⟩
 by_cases hl:l.length<=100000
 case neg=>rw[Qw hl] at w1;exact w1.elim
 rw[Qv hl] at w1
 have s1:=s.ext e1 ba
 have nD: ¬ O D:=λz=>by obtain⟨o,g⟩:=s1.dm D z;rw[hD] at g;cases g
 have pD: ¬ G.cu D:=λz=>nD (s.pr _ z)
 have hBD:D≠G.B:=λz=>pD (z▸G.pB)
 have bY: ∀ p o,H1 p=some o->p≠D:=λp o hp z=>by subst z;rw[hD] at hp;cases hp
 let O':Addr->Prop:=λp=>O p\/p=D
 let G':Bg φ:=G.with D hBD
 have k0: ∀ p o,¬ O p->H1 p=some o->upd H1 D (HO.lst []) p=some o/\¬ O' p:=λp o np hp=>⟨by rw[ag (bY p o hp)];exact hp,λz=>by
  rcases z with z|z
  ·exact np z
  ·exact bY p o hp z⟩
 have kD: ∀ (H5:Hp) (o:HO) p u,¬ O' p->H5 p=some u->upd H5 D o p=some u/\¬ O' p:=λH5 o p u np hp=>⟨by rw[ag (λz=>np (.inr z))];exact hp,np⟩
 refine⟨λi m σ' H'=>m=l.length - i/\i<=l.length/\∃ (ys:List V) (zs:List PV) (ρ':ae) (n':Nat),ys.length<=i/\H' D=some (.lst ys)/\aO G.B O' H' zs ys/\ES G' O' H' σ' ρ' n'/\Ext G.B H1 H'/\xy K G' O' H' l J/\
  (pC bd tt te (l.drop i) ρ').wp n' (λt k=>R (zs++t) k),⟨l.length,by simp,Qe _,[],[],de js ρ,n1,PM _,av,.nil,?_,Ext.new hD _,?_,?_⟩,?_⟩
 ·have er:=p9 s1.er js
  refine⟨⟨er.1,λi e he=>?_⟩,⟨Bg.new ba hD _,[],av⟩,λp z=>?_,λp z=>?_⟩
  ·have r1:=er.2 i e he
   cases e with
   |un=>trivial
   |val y=>obtain⟨x,hx,rr⟩:=r1;exact⟨x,hx,rr.keep k0⟩
   |own t=>
    obtain⟨p,xs,hx,hp,np,hh,rr⟩:=r1
    exact⟨p,xs,hx,.inl hp,λz=>by
     rcases z with z|z
     ·exact np z
     ·exact bY p _ hh z,by rw[ag (bY p _ hh)];exact hh,rr.keep k0⟩
   |bt t=>
    obtain⟨p,xs,hx,hp,np,hh,rr⟩:=r1
    exact⟨p,xs,hx,.inl hp,λz=>by
     rcases z with z|z
     ·exact np z
     ·exact bY p _ hh z,by rw[ag (bY p _ hh)];exact hh,rr.keep k0⟩
  ·rcases z with z|z
   ·exact .inl (s.pr p z)
   ·exact .inr z
  ·rcases z with z|z
   ·obtain⟨o,g⟩:=s1.dm p z;exact⟨o,by rw[ag (bY p o g)];exact g⟩
   ·subst z;exact⟨_,av⟩
 ·exact it.cE rfl λp o np hp=>⟨.of (k0 p o np hp).1,(k0 p o np hp).2⟩
 ·simpa using w1
 ·rintro i m σ' H' ⟨rfl,hi,ys,zs,ρ',n',hy,hDy,rz,s',ex,it',w'⟩
  by_cases dz:i < l.length
  ·have hget:l[i]?=some l[i]:=Py dz
   have jC:l.drop i=l[i]::l.drop (i+1):=List.drop_eq_getElem_cons dz
   rw[jC] at w'
   unfold pC at w'
   obtain⟨g1,g2⟩:=it'.go hget
   refine .inr ⟨g1,λx H2 yl=>?_⟩
   obtain⟨T,us,vs,rfl,hT,rfl,ey,rr⟩:=g2 x H2 yl
   have e0:Ext G.B H' (upd H' T (.tup vs)):=Ext.new hT _
   have nT: ¬ O' T:=λz=>by obtain⟨o,g⟩:=s'.dm T z;rw[hT] at g;cases g
   have DT:upd H' T (.tup vs) D=some (.lst ys):=by rw[ag (aG hDy hT)];exact hDy
   have s'':=s'.ext e0 (Bg.new s'.ok hT _)
   have rx:Rep G'.B O' (upd H' T (.tup vs)) l[i] (.ref T):=by
    rw[ey]
    exact .tup nT av rr.1 (rr.ext s'.B e0).2
   have itT:xy K G' O' (upd H' T (.tup vs)) l J:=it'.cE rfl λp o np hp=>⟨e0 p o (λz=>np (.inl (z▸s.B))) hp,np⟩
   have rzT:=rz.ext (.inl s.B) e0
   have exT:=ex.trans e0
   rw[M.wZ] at w'
   refine⟨G',O',ρ',n',_,l[i],s'',rx,w',λσ2 ρ2 n2 s2 w2=>?_⟩
   rw[M.wZ] at w2
   refine⟨G',O',ρ2,n2,_,s2,w2,λok H4 n4 e4 ok4 w4=>?_⟩
   have D4:H4 D=some (.lst ys):=e4 D _ hBD DT
   have it4:xy K G' O' H4 l J:=itT.cE rfl λp o np hp=>⟨e4 p o (λz=>np (.inl (z▸s.B))) hp,np⟩
   cases ok with
   |true=>
    simp only[if_true] at w4 ⊢
    rw[M.wZ] at w4
    refine⟨G',O',ρ2,n4,_,s2.ext e4 ok4,w4,λz x5 H5 n5 e5 ok5 r5 w5=>?_⟩
    have D5:H5 D=some (.lst ys):=e5 D _ hBD D4
    rw[M.wZ] at w5
    have s5:=s2.ext (e4.trans e5) ok5
    have it5:xy K G' O' H5 l J:=it4.cE rfl λp o np hp=>⟨e5 p o (λz=>np (.inl (z▸s.B))) hp,np⟩
    refine⟨ys,D5,by rw[Qm];lia,l.length - (i+1),by lia,rfl,dz,ys++[x5],zs++[z],ρ2,n5,by simp;lia,av,?_,?_,?_,?_,?_⟩
    ·exact((rzT.ext (.inl s.B) (e4.trans e5)).append (.cons r5 .nil)).keep (kD H5 _)
    ·refine⟨⟨s5.er.1,λj e he=>?_⟩,⟨G.keep H5 _ _ (λp o hp hpo=>by
      have hpd:p≠D:=λz=>by
       rcases hp with hp|hp
       ·exact pD (z▸hp)
       ·rw[z,D5] at hpo;cases hpo;exact hp
      rw[ag hpd];exact hpo) ok5.1,_,av⟩,s5.pr,λp hp=>?_⟩
     ·have r1:=s5.er.2 j e he
      cases e with
      |un=>trivial
      |val y=>obtain⟨x,hx,rr⟩:=r1;exact⟨x,hx,rr.keep (kD H5 _)⟩
      |own t=>
       obtain⟨p,xs,hx,hp,np,hh,rr⟩:=r1
       exact⟨p,xs,hx,hp,np,by rw[ag (λz=>np (.inr z))];exact hh,rr.keep (kD H5 _)⟩
      |bt t=>
       obtain⟨p,xs,hx,hp,np,hh,rr⟩:=r1
       exact⟨p,xs,hx,hp,np,by rw[ag (λz=>np (.inr z))];exact hh,rr.keep (kD H5 _)⟩
     ·by_cases hpd:p=D
      ·subst hpd;exact⟨_,av⟩
      ·obtain⟨o,g⟩:=s5.dm p hp;exact⟨o,by rw[ag hpd];exact g⟩
    ·intro p o np hp
     exact((exT.trans (e4.trans e5)) p o np hp).to λu e=>.of (by rw[ag (bY p o hp)];exact e)
    ·exact it5.cE rfl λp o np hp=>⟨.of (kD H5 _ p o np hp).1,np⟩
    ·refine M.wp_mono w5 λt k' hk=>?_
     have hk':R (zs++z::t) k':=hk
     simpa using hk'
   |false=>
    exact⟨l.length - (i+1),by lia,rfl,dz,ys,zs,ρ2,n4,by lia,D4,rzT.ext (.inl s.B) e4,s2.ext e4 ok4,exT.trans e4,it4,w4⟩
  ·have e:i=l.length:=by lia
   subst e
   refine .inl ⟨it'.stop,?_⟩
   rw[List.drop_length] at w'
   have w2:R (zs++[]) n':=w'
   rw[List.append_nil] at w2
   exact q zs D ys H' n' (e1.trans ex) s'.ok.1 (ft e1 ba hD) hDy rz w2
def Ld (h:BE X e (Cj js (LX φ X.K mi) (FH φ bd) (zy φ tt) (oK φ te))):EF φ X e (a8 js mi bd tt te):=BE.mono h DU
def uH {st:Stmt} {k:Nat} {js:List (Option Nat)} {mi:ae->M (List PV)} {bd:PV->ae->M ae} {tt:ae->M Bool} {te:ae->M PV} (h:BS X st (gL (Cj js (LX φ X.K mi) (FH φ bd) (zy φ tt) (oK φ te)) (c7 k))):BS X st (gL (Io φ (a8 js mi bd tt te)) (c7 k)):=
 BS.mono h λD σ H q=>DU σ H _ q
end
end
abbrev fb (xs:Array Nat):Prop:=xs.toList.Pairwise (· < ·)
def fb.lt (h:fb xs) {i j:Nat} (hij:i < j) (ha:xs[i]?=some a) (hb:xs[j]?=some b):a < b:=by
 obtain⟨hi,rfl⟩:=Array.getElem?_eq_some_iff.mp ha
 obtain⟨hj,rfl⟩:=Array.getElem?_eq_some_iff.mp hb
 have:=List.pairwise_iff_getElem.mp h i j (by simpa using hi) (by simpa using hj) hij
 simpa using this
theorem qf {j:Nat} (h:fb xs): ∀ (fuel lo hi:Nat),lo<=hi->hi<=xs.size->hi - lo<=fuel->(∀ i a,i < lo->xs[i]?=some a->a < j)->(∀ i a,hi<=i->xs[i]?=some a->j<=a)->
  SetTable.below.go xs j fuel lo hi<=xs.size/\(∀ i a,i < SetTable.below.go xs j fuel lo hi->xs[i]?=some a->a < j)/\∀ i a,SetTable.below.go xs j fuel lo hi<=i->xs[i]?=some a->j<=a
 |0,lo,hi,h1,h2,h3,h4,h5=>by
  have:lo=hi:=by lia
  subst this
  exact⟨h2,h4,h5⟩
 |fuel+1,lo,hi,h1,h2,h3,h4,h5=>by
  unfold SetTable.below.go
  by_cases c:lo < hi
  ·rw[Qv c]
   have hm:(lo+hi) / 2 < hi:=by lia
   have hm2:lo<=(lo+hi) / 2:=by lia
   have e:xs[(lo+hi) / 2]?=some xs[(lo+hi) / 2]:=Qd (by lia)
   have eg:xs.getD ((lo+hi) / 2) j=xs[(lo+hi) / 2]:=by
    rw[P8,e]
    rfl
   dsimp only
   rw[eg]
   by_cases d:xs[(lo+hi) / 2] < j
   ·rw[Qv d]
    refine qf h fuel _ hi (by lia) h2 (by lia) (λi a hi' ha=>?_) h5
    by_cases ei:i=(lo+hi) / 2
    ·subst ei;rw[e] at ha;cases ha;exact d
    ·exact Nat.lt_trans (h.lt (by lia) ha e) d
   ·rw[Qw d]
    refine qf h fuel lo _ hm2 (by lia) (by lia) h4 (λi a hi' ha=>?_)
    by_cases ei:i=(lo+hi) / 2
    ·subst ei;rw[e] at ha;cases ha;lia
    ·have:=h.lt (by lia:(lo+hi) / 2 < i) e ha
     lia
  ·rw[Qw c]
   have:lo=hi:=by lia
   subst this
   exact⟨h2,h4,h5⟩
def wW (h:fb xs) (j:Nat):SetTable.below xs j<=xs.size/\(∀ i a,i < SetTable.below xs j->xs[i]?=some a->a < j)/\∀ i a,SetTable.below xs j<=i->xs[i]?=some a->j<=a:=
 qf h _ 0 _ (Qe _) (PM _) (by lia) (λi a hi=>absurd hi (Nat.not_lt_zero _)) λi a hi ha=>by
  rw[Array.getElem?_eq_none hi] at ha;cases ha
def qg (h:fb xs) (hp:p<=xs.size) (h1: ∀ i a,i < p->xs[i]?=some a->a < j) (h2: ∀ i a,p<=i->xs[i]?=some a->j<=a):SetTable.below xs j=p:=by
 obtain⟨b0,b1,b2⟩:=wW h j
 rcases Nat.lt_trichotomy (SetTable.below xs j) p with c|c|c
 ·have e:xs[SetTable.below xs j]?=some xs[SetTable.below xs j]:=Qd (by lia)
  have:=h1 _ _ c e
  have:=b2 _ _ (PM _) e
  lia
 ·exact c
 ·have e:xs[p]?=some xs[p]:=Qd (by lia)
  have:=b1 _ _ c e
  have:=h2 _ _ (PM _) e
  lia
def v9 (xs:Array α) (p:Nat) (x:α):(SetTable.insertAt xs p x).toList=xs.toList.take p++x::xs.toList.drop p:=by
 unfold SetTable.insertAt
 simp[Array.toList_append,Array.toList_push]
 exact List.take_of_length_le (by simp)
def C9 {t:SetTable} {j:Nat} (h:fb t.place) (hj:j∉t.place.toList):fb (t.put j).1.place:=by
 obtain⟨b0,b1,b2⟩:=wW h j
 show (SetTable.insertAt t.place (SetTable.below t.place j) j).toList.Pairwise _
 rw[v9,List.pairwise_append]
 have tk: ∀ a∈t.place.toList.take (SetTable.below t.place j),a < j:=λa ha=>by
  obtain⟨i,hi,e⟩:=List.getElem_of_mem ha
  have hi':i < SetTable.below t.place j:=by simp at hi;lia
  refine b1 i a hi' ?_
  rw[<-e]
  simp at hi ⊢
 have dr: ∀ a∈t.place.toList.drop (SetTable.below t.place j),j < a:=λa ha=>by
  obtain⟨i,hi,e⟩:=List.getElem_of_mem ha
  have h1:t.place[SetTable.below t.place j+i]?=some a:=by
   rw[<-e]
   simp at hi ⊢
  have h2:=b2 _ a (by lia) h1
  have h3:a∈t.place.toList:=List.mem_of_mem_drop ha
  rcases Nat.lt_or_eq_of_le h2 with c|c
  ·exact c
  ·exact absurd (c▸h3) hj
 refine⟨h.sublist (List.take_sublist _ _),Qy.mpr ⟨dr,h.sublist (List.drop_sublist _ _)⟩,λa ha b hb=>?_⟩
 rcases PR.mp hb with rfl|hb
 ·exact tk a ha
 ·exact Nat.lt_trans (tk a ha) (dr b hb)
def zH {t:SetTable} (h:fb t.place) (hs: ∀ i,t.slot j≠.live i):j∉t.place.toList:=λhj=>by
 obtain⟨i,hi,e⟩:=List.getElem_of_mem hj
 have e':t.place[i]?=some j:=by
  rw[<-e]
  simp at hi ⊢
 have hb:SetTable.below t.place j=i:=qg h (by simp at hi;lia) (λk a hk ha=>h.lt hk ha e') λk a hk ha=>by
  rcases Nat.lt_or_eq_of_le hk with c|c
  ·exact Nat.le_of_lt (h.lt c e' ha)
  ·subst c;rw[e'] at ha;cases ha;exact PM _
 refine hs i ?_
 unfold SetTable.slot
 rw[hb]
 dsimp only
 rw[e']
 simp
theorem o4: ∀ (fuel:Nat) (p:SetTable.Probe) (j:Nat) (d:Option Nat),(∀ k,p.dummy=some k->t.slot k= .dummy)->SetTable.probe.go t hashAt h fuel p=some (.empty j d)->t.slot j= .empty/\∀ k,d=some k->t.slot k= .dummy
 |0,p,j,d,hd,e=>by unfold SetTable.probe.go at e;cases e
 |fuel+1,p,j,d,hd,e=>by
  have ad: ∀ q:SetTable.Probe,(t.advance q).dummy=q.dummy:=λq=>by
   unfold SetTable.advance
   split<;>rfl
  unfold SetTable.probe.go at e
  split at e
  ·rename_i c
   cases e
   exact⟨c,hd⟩
  ·rename_i c
   refine o4 fuel _ j d (λk hk=>?_) e
   rw[ad] at hk
   cases hk
   exact c
  ·rename_i i c
   split at e
   ·cases e
   ·refine o4 fuel _ j d (λk hk=>?_) e
    rw[ad] at hk
    exact hd k hk
def Hg {t:SetTable} {j:Nat} {b:Bool} (hr:fb t.place) (e:t.freeSlot h=some (j,b)):j∉t.place.toList:=by
 unfold SetTable.freeSlot at e
 split at e
 ·rename_i j' d c
  cases e
  obtain⟨h1,h2⟩:=o4 _ _ _ _ (λk hk=>by cases hk) c
  cases d with
  |none=>exact zH hr λi z=>by have z':t.slot j'= .live i:=z;rw[h1] at z';cases z'
  |some k=>exact zH hr λi z=>by have z':t.slot k= .live i:=z;rw[h2 k rfl] at z';cases z'
 ·cases e
def g8 (n:Nat):fb (Array.range n):=by
 show (Array.range n).toList.Pairwise _
 rw[Array.toList_range]
 exact List.pairwise_lt_range
def xO {t:SetTable} (h:fb t.place):fb (t.orStandIn n).place:=by
 unfold SetTable.orStandIn
 split
 ·exact h
 ·exact g8 n
def DW {t:SetTable} (hr:fb t.place):fb (layNew t es h x).2.1.place:=by
 unfold layNew
 split
 ·rename_i slot wd e
  exact xO (C9 hr (Hg hr e))
 ·exact g8 _
def xW (t:SetTable) (es:Array (Int×Value)) (n:Nat):fb (relayAll t es n).2.1.place:=by
 unfold relayAll
 split
 ·rename_i t' order e
  have r':fb t'.place:=by
   unfold SetTable.relaid SetTable.laid at e
   cases hl:SetTable.layClean (SetTable.sizeAbove n - 1) (es.map (·.1)) with
   |none=>rw[hl] at e;cases e
   |some ow=>
    rw[hl] at e
    cases e
    show List.Pairwise _ _
    rw[List.pairwise_map,List.pairwise_filterMap]
    refine List.pairwise_lt_range.imp λ{a b} hab p hp q hq=>?_
    obtain⟨_,_,rfl⟩:=Qa.mp hp
    obtain⟨_,_,rfl⟩:=Qa.mp hq
    exact hab
  dsimp only
  split
  ·exact r'
  ·exact g8 _
 ·exact g8 _
def mU (h:Heap) (a:Addr) (b:Bool):Prop:= ∃ o es ep t,h.get? a=some o/\o.data= .set es ep t/\t.led=b/\fb t.place
def mU.at (x:mU h a b) (k: ∀ o,h.get? a=some o->h'.get? a=some o):mU h' a b:=by
 obtain⟨o,es,ep,t,ho,r⟩:=x
 exact⟨o,es,ep,t,k o ho,r⟩
section
variable {prog:Program} {w:World} {A:Around} {E:Value->Shared->Prop} {s:Shared} {K:Type} [DecidableEq K] {knd:PySem.KeyKind prog w K}
def rh {h:Heap} {a:Addr} {es':Array (Int×Value)} {t':SetTable} {S':K->Bool} {b:Bool} (ho:h.get? a=some o) (hex:o.ExactSet) (hd:o.data= .set es ep t) (hel:PySem.ElemsOf knd es'.toList) (hmem: ∀ k,S' k=true↔∃ e∈es'.toList,knd.is k e.2=true) (hb:es'.size < PySem.scanBound) (hf:t'.fits es'.size=true) (hl:t'.led=b) (hp:fb t'.place):
  (h.update a (Obj.putSet es' t')).SetOf knd a S' es'.size/\mU (h.update a (Obj.putSet es' t')) a b:=by
 obtain⟨h1,h2⟩:=PySem.SetOf_store (knd:=knd) ho hex hd hel hmem hb hf
 exact⟨h2,_,es',ep+1,t',h1,rfl,hl,hp⟩
def HL {Q:Bool->Shared->Prop} (lJ:knd.is k x=true) (hsc:x.scannable=true) (hS:s.heap.SetOf knd a S n) (hL:mU s.heap a b) (hroom:n+1 < PySem.scanBound)
  (h: ∀ h',Heap.SameBut a s.heap h'->h'.SetOf knd a (λk'=>S k'||decide (k'=k)) (if S k then n else n+1)->mU h' a b->Q (!S k) {s with heap:=h'}):
  wpAny (model prog w) A (setAddHashed a x (knd.hash k)) Q E s:=by
 have hS0:=hS
 obtain⟨o,es,ep,t,ho,hex,hd,hel,hmem,hb,hf,hn⟩:=hS
 obtain⟨o',es',ep',t',ho',hd',led,pl⟩:=id hL
 rw[ho] at ho'
 cases ho'
 rw[hd] at hd'
 cases hd'
 unfold setAddHashed setAddHashedIn
 refine wpAny_holding (Pz (PySem.wpAny_setState_of ho hd hf ?_))
 dsimp only
 rw[PySem.byScan_of hsc hb hel]
 simp only[↓reduceIte]
 unfold setAddByScan
 refine Pz (Pz (wpAny_rule (Pz (PySem.wpAny_setScan_of lJ ho hd hf hel ?_))))
 cases hr:List.findIdx? (λe=>knd.is k e.2) es.toList with
 |some j=>
  dsimp only
  obtain⟨hj,hpj,_⟩:=List.findIdx?_eq_some_iff_getElem.mp hr
  have hSk:S k=true:=(hmem k).mpr ⟨_,Qq hj,hpj⟩
  refine PJ (PJ ?_)
  have q:=h s.heap (Heap.SameBut.refl a s.heap)
  rw[hSk] at q
  refine q ⟨o,es,ep,t,ho,hex,hd,hel,λk'=>?_,hb,hf,hn⟩ hL
  rw[Bool.or_eq_true,decide_eq_true_eq,<-hmem k']
  exact⟨λz=>z.elim id λe=>e▸hSk,.inl⟩
 |none=>
  dsimp only
  have hSk:S k=false:=by
   cases hk:S k with
   |false=>rfl
   |true=>
    obtain⟨e,he,hp⟩:=(hmem k).mp hk
    have z:=List.findIdx?_eq_none_iff.mp hr e he
    rw[hp] at z
    cases z
  have gw: ∀ (g:Bool) {s₁:Shared} {Q':Unit->Shared->Prop},Q' () s₁->wpAny (model prog w) A (match g with|true=>rule "set.scan.the-table-gave-way"|false=>pure ()) Q' E s₁:=λg s₁ Q' hq=>by
   cases g
   ·exact PJ hq
   ·exact wpAny_rule hq
  have l1:=layNew_perm t es (knd.hash k) x
  have l2:=layNew_fits t es (knd.hash k) x
  have l3:=G3 t es (knd.hash k) x
  have l4:=DW (es:=es) (h:=knd.hash k) (x:=x) pl
  generalize layNew t es (knd.hash k) x=L at l1 l2 l3 l4 ⊢
  obtain⟨es1,t1,wasDummy,gave⟩:=L
  dsimp only at l1 l2 l3 l4 ⊢
  rw[Array.toList_push] at l1
  have z1:es1.size=n+1:=by
   rw[<-Qj,l1.length_eq,Qc,Qj,hn]
   rfl
  have hel1:PySem.ElemsOf knd es1.toList:=(hel.push lJ hsc).perm l1
  have hmem1:=PySem.mem_push_iff lJ hmem l1
  have q: ∀ h',Heap.SameBut a s.heap h'->h'.SetOf knd a (λk'=>S k'||decide (k'=k)) (n+1)->mU h' a b->Q true {s with heap:=h'}:=λh' c1 c2 c3=>by
   have q:=h h' c1
   rw[hSk] at q
   exact q c2 c3
  refine Pz (gw _ ?_)
  have fin: ∀ t2:SetTable,t2.fits es1.size=true->t2.led=b->fb t2.place->wpAny (model prog w) A (do
    storeSet a es1 t2
    if(!wasDummy&&t2.tooFull)=true then do
      (match (relayAll t2 es1 (SetTable.grown es1.size)).2.2 with|true=>rule "set.scan.the-table-gave-way"|false=>pure ())
      storeSet a (relayAll t2 es1 (SetTable.grown es1.size)).1 (relayAll t2 es1 (SetTable.grown es1.size)).2.1
      pure (some true)
     else pure (some true)) (λr s'=>wpAny (model prog w) A (match r with|some added=>pure added|none=>setAddHashedIn a x (knd.hash k) 99999) Q E s') E s:=λt2 f2 led2 pl2=>by
   refine Pz (PySem.wpAny_storeSet_of ho hd ?_ (PySem.fits_of_scanBound (by lia)))
   obtain⟨c1,c2⟩:=rh (knd:=knd) (b:=b) ho hex hd hel1 hmem1 (by lia) f2 led2 pl2
   obtain⟨c3,_⟩:=PySem.SetOf_store (knd:=knd) ho hex hd hel1 hmem1 (by lia) f2
   have c4:=Heap.SameBut.update s.heap a (Obj.putSet es1 t2)
   split
   ·have r1:=relayAll_perm t2 es1 (SetTable.grown es1.size)
    have r2:=relayAll_fits t2 es1 (SetTable.grown es1.size)
    have r3:=Bj t2 es1 (SetTable.grown es1.size)
    have r4:=xW t2 es1 (SetTable.grown es1.size)
    generalize relayAll t2 es1 (SetTable.grown es1.size)=Rl at r1 r2 r3 r4 ⊢
    obtain⟨es2,t3,gave2⟩:=Rl
    dsimp only at r1 r2 r3 r4 ⊢
    have z2:es2.size=n+1:=by rw[<-Qj,r1.length_eq,Qj,z1]
    refine Pz (gw _ ?_)
    refine Pz (PySem.wpAny_storeSet_of c3 rfl ?_ (PySem.fits_of_scanBound (by lia)))
    obtain⟨d1,d2⟩:=rh (knd:=knd) (b:=b) c3 hex rfl (hel1.perm r1) (λk'=>(hmem1 k').trans ⟨λ⟨e,he,q⟩=>⟨e,r1.mem_iff.mpr he,q⟩,λ⟨e,he,q⟩=>⟨e,r1.mem_iff.mp he,q⟩⟩) (by lia) r2 (r3.1.trans led2) r4
    rw[z2] at d1
    exact PJ (PJ (q _ (c4.trans (Heap.SameBut.update _ a _)) d1 d2))
   ·rw[z1] at c1
    exact PJ (PJ (q _ c4 c1 c2))
  cases hp:t1.plain with
  |true=>
   simp only[if_true]
   refine Pz ?_
   rw[PySem.hashByValue_scannable 8 hsc]
   cases PySem.plainKind x with
   |true=>exact PJ (fin t1 l2 (l3.1.trans led) l4)
   |false=>exact PJ (fin {t1 with plain:=false} (PySem.SetTable.fits_plain_off l2) (l3.1.trans led) l4)
  |false=>
   simp only[Qp,if_false]
   refine Pz (PJ ?_)
   simp only[↓reduceIte]
   exact fin t1 l2 (l3.1.trans led) l4
def Fc (lJ:knd.is k key=true) (hsc:key.scannable=true) (hS:s.heap.SetOf knd a S n) (hL:mU s.heap a b) (hroom:n+1 < PySem.scanBound)
  (h: ∀ h',Heap.SameBut a s.heap h'->h'.SetOf knd a (λk'=>S k'||decide (k'=k)) (if S k then n else n+1)->mU h' a b->Q .none {s with heap:=h',toks:=s.toks+1}):
  wpAny (model prog w) A (call (.builtin "set.add") [.ref a,key]) Q E s:=by
 refine wpAny_call_entry PySem.F.slot_set_add hS.typeIs PySem.F.entry_set_add ?_ (PySem.F.args_set_add_2 _ _)
 unfold Builtin.«set.add» Builtin.Frozenset.oneOther
 simp only[List.isEmpty_nil,bind_assoc]
 unfold Builtin.Frozenset.addrOf setAdd
 refine Pz (PJ ?_)
 try dsimp only
 refine Pz (PJ ?_)
 try dsimp only
 refine Pz ?_
 refine wpAny_holding ?_
 refine Pz (knd.pyHash lJ ?_)
 refine HL (s:={s with toks:=s.toks+1}) lJ hsc hS hL hroom λh' hsb hS' hL'=>?_
 show wpAny _ _ (ret Value.none) _ _ _
 exact PJ ⟨_,rfl,h h' hsb hS' hL'⟩
def GO (h:(s.heap.push {cls:=.type "set",dict:=none,data:=.set #[] 0 (.fresh 0 0 (!HE w))}).SetOf knd s.heap.objs.size (λ_=>false) 0->mU (s.heap.push {cls:=.type "set",dict:=none,data:=.set #[] 0 (.fresh 0 0 (!HE w))}) s.heap.objs.size (!HE w)->
   Q (.ref s.heap.objs.size) {s with heap:=s.heap.push {cls:=.type "set",dict:=none,data:=.set #[] 0 (.fresh 0 0 (!HE w))}}):
  wpAny (model prog w) A (newSet (.type "set")) Q E s:=by
 unfold newSet setsByText
 refine Pz (Pz (wpAny_askSetting (PJ ?_)))
 dsimp only
 simp only[newObj]
 exact Pz (wpAny_alloc (PJ (h ⟨_,#[],0,_,PZ _ rfl,⟨rfl,rfl,rfl⟩,rfl,λe he=>by simp at he,λk=>by simp,by decide,by rfl,rfl⟩ ⟨_,#[],0,_,PZ _ rfl,rfl,rfl,.nil⟩)))
end
def eC (P:Program) (w:World) (D:Addr) (S:Key->Bool) (n:Nat):HO:=.ext λh=>h.SetOf (aY P w) D S n/\mU h D (!HE w)
def sO (hS:h.SetOf (aY P w) D S n) (hL:mU h D (!HE w)):cg P w H h D (eC P w D S n):=by
 refine⟨⟨hS,hL⟩,?_,?_⟩
 ·obtain⟨o,es,ep,t,e,_⟩:=hS
  exact⟨o,e⟩
 ·rintro h1 h2 ⟨⟨o,es,ep,t,e,c⟩,l⟩ k
  exact⟨⟨o,es,ep,t,k _ e,c⟩,l.at λo e=>k _ e⟩
def zK (x:jU P w H h) (e:H D=some (eC P w D S n)):h.SetOf (aY P w) D S n/\mU h D (!HE w):=(x D _ e).1
section
variable {X:Cx}
noncomputable def MJ (P:Program) (w:World):V->List V->Hp->VK->Prop:=λx vs H Q=> ∃ (D:Addr) (k:Key) (S:Key->Bool) (n:Nat),x= .ref D/\vs=[kV k]/\H D=some (eC P w D S n)/\n+1 < PySem.scanBound/\Q .aD (upd H D (eC P w D (λk'=>S k'||decide (k'=k)) (if S k=true then n else n+1)))
def GU:NC X "set.add" (MJ X.prog X.w):=by
 intro pZ s σ H x vs v us Q I rx rv h
 obtain⟨D,k,S,n,rfl,rfl,hH,hn,q⟩:=h
 cases rx
 obtain⟨u,rfl,ru⟩:=rv.one
 obtain⟨hk,hs⟩:=Ge ru
 refine Fc (knd:=aY X.prog X.w) hk hs (zK I.a9 hH).1 (zK I.a9 hH).2 hn λh' hsb hS' hL'=>?_
 refine⟨.aD,_,I.write (t':=s.toks+1) (x:=D) (e:=D) (o:=eC X.prog X.w D (λk'=>S k'||decide (k'=k)) (if S k=true then n else n+1)) (by rw[hH];exact trivial) (.inl rfl) (λb u hb hu=>(hsb.2 b hb).trans hu) (sO (P:=X.prog) (w:=X.w) (H:=H) hS' hL').2.1 (sO hS' hL'),rfl,q⟩
end
section
variable {X:Cx} {pZ:List (Addr×Obj)} {σ:St} {H:Hp} {s:Shared} {scope:Scope} {N:List Str} {js:List (Option Nat)} {fp:List Addr}
def Pt (P:Program) (w:World) (J:It) (D:Addr) (g:TG) (tt:TT) (te:TE) (Q:VK) (σ0:St) (H1:Hp):Prop:=
 ∃ W:Nat->Nat->St->Hp->Prop,(∃ m,W 0 m σ0 (upd H1 D (eC P w D (λ_=>false) 0)))/\∀ i m σ' H',W i m σ' H'->
  (J.stop i H'/\Q (.ref D) H')\/(J.go i H'/\∀ x H2,J.Ci i H' x H2->g x σ' H2 λσ2 H3=>tt σ2 H3 λok H4=>
   if ok=true then te σ2 H4 λy H5=> ∃ (k:Key) (S:Key->Bool) (c:Nat),y=kV k/\H5 D=some (eC P w D S c)/\c+1 < PySem.scanBound/\∃ m',m' < m/\W (i+1) m' σ2 (upd H5 D (eC P w D (λk'=>S k'||decide (k'=k)) (if S k=true then c else c+1)))
   else ∃ m',m' < m/\W (i+1) m' σ2 H4)
def Mn (P:Program) (w:World) (js:List (Option Nat)) (wi:TI) (g:TG) (tt:TT) (te:TE):TE:=λσ H Q=>wi σ H λJ H1=> ∀ D,H1 D=none->Pt P w J D g tt te Q (fT js σ) H1
def FT {iter:Expr} {Q:VK} {R:Value->Addr->Result->Shared->Prop}
  (L:a7 X scope N js) (hc:X.calm=true)
  (hg: ∀ s₀ H₀ ex pn,PG (fN X scope N s₀ H₀ ex pn) target g) (ht: ∀ s₀ H₀ ex pn,AY (fN X scope N s₀ H₀ ex pn) ifs tt) (he: ∀ s₀ H₀ ex pn,PE (fN X scope N s₀ H₀ ex pn) elt te)
  (I:Inv X pZ σ H s) (T:Turn X.prog X.w X.K target J fp it tn) (st:tn 0 s.heap) (hf: ∀ b∈fp,cW X pZ H b) {h₁:Heap} {tk:Nat} (I3:Inv X pZ σ (upd H D (eC X.prog X.w D (λ_=>false) 0)) s3) (hDl: ∀ b o,s.heap.get? b=some o->b≠D) (k3: ∀ b o,s.heap.get? b=some o->s3.heap.get? b=some o)
  (hns₁:h₁.Ns s3.heap.objs.size (λ_=>none)) (kk: ∀ b o,s3.heap.get? b=some o->h₁.get? b=some o)
  (w: ∃ W:Nat->Nat->St->Hp->Prop,(∃ m,W 0 m (fT js σ) (upd H D (eC X.prog X.w D (λ_=>false) 0)))/\∀ i m σ' H',W i m σ' H'->
   (J.stop i H'/\Q (.ref D) H')\/(J.go i H'/\∀ x H2,J.Ci i H' x H2->g x σ' H2 λσ2 H3=>tt σ2 H3 λok H4=>
    if ok=true then te σ2 H4 λy H5=> ∃ (k:Key) (S:Key->Bool) (c:Nat),y=kV k/\H5 D=some (eC X.prog X.w D S c)/\c+1 < PySem.scanBound/\∃ m',m' < m/\W (i+1) m' σ2 (upd H5 D (eC X.prog X.w D (λk'=>S k'||decide (k'=k)) (if S k=true then c else c+1)))
    else ∃ m',m' < m/\W (i+1) m' σ2 H4))
  (hR: ∀ C s' H',Inv X pZ σ H' s'->cW X pZ H' C->(∃ m,s'.heap.Ns C m)->Q (.ref D) H'->R (.ref D) C (.ok .next) s'):
  codeAny (model X.prog X.w) X.A (.compStart (.SetComp elt [⟨target,iter,ifs,0⟩] scope pos) 0 (.ref it) (.ref D) {newEnv scope s3.heap.objs.size X.env.globals (wO scope.names X.env.cells) X.env.qual none .none (some X.env) builtinsNs with scope:=relabel scope X.env}) (R (.ref D) s3.heap.objs.size) {s3 with heap:=h₁,toks:=tk}:=by
 have obj:=T.obj 0 s.heap st
 have ho3: ∀ b∈fp,∃ o,s3.heap.get? b=some o:=λb hb=>by obtain⟨o,e,_⟩:=obj b hb;exact⟨o,k3 b o e⟩
 have hf3: ∀ b∈fp,cW X pZ (upd H D (eC X.prog X.w D (λ_=>false) 0)) b:=λb hb=>by
  refine⟨?_,(hf b hb).2⟩
  obtain⟨o,e,_⟩:=obj b hb
  rw[ag (hDl b o e)]
  exact(hf b hb).1
 have I4:Inv (fN X scope N s3 (upd H D (eC X.prog X.w D (λ_=>false) 0)) fp (X.pn++pZ)) [] (fT js σ) (upd H D (eC X.prog X.w D (λ_=>false) 0)) {s3 with heap:=h₁,toks:=tk}:=
  L.start I3 hc hf3 ho3 hns₁ kk
 obtain⟨W,⟨m0,w0⟩,turn⟩:=w
 have st4:tn 0 h₁:=T.keep 0 _ _ st λb _ o e=>kk b o (k3 b o e)
 generalize hX:fN X scope N s3 (upd H D (eC X.prog X.w D (λ_=>false) 0)) fp (X.pn++pZ)=Y at I4
 have fpY: ∀ b∈fp,b≠Y.env.locals/\b∉Y.fs/\(b∈Y.ex\/Y.s₀.heap.objs.size<=b)/\(∀ x c,Y.env.cells.lookup x=some c->c≠b)/\∀ p∈Y.pn++[],p.1≠b:=λb hb=>by
  rw[<-hX]
  obtain⟨o,e⟩:=ho3 b hb
  refine⟨Qg (P2 e),λz=>?_,.inl hb,λx c h=>(hf b hb).2.2.2.2.1 x c (dH _ _ _ (λ_ _ e=>by simp at e) x c h),λp hp=>(hf b hb).2.2.2.2.2 p (by simpa[fN] using hp)⟩
  rcases PR.mp (I3.lZ b z) with q|q
  ·exact(hf b hb).2.1 q
  ·exact(hf b hb).2.2.1 q
 have loop:codeAny (model X.prog X.w) X.A (.compLoop (.SetComp elt [⟨target,iter,ifs,0⟩] scope pos) 0 (.ref it) (.ref D) Y.env) (R (.ref D) s3.heap.objs.size) {s3 with heap:=h₁,toks:=tk}:=by
  have pr:Y.prog=X.prog:=by rw[<-hX];rfl
  have pw:Y.w=X.w:=by rw[<-hX];rfl
  have pK:Y.K=X.K:=by rw[<-hX];rfl
  have pA:Y.A=X.A:=by rw[<-hX];rfl
  have pc:Y.calm=true:=by rw[<-hX];rfl
  have px:Y.xe=λ_ _=>False:=by rw[<-hX];rfl
  have oN: ∀ {H':Hp},(∀ b∈fp,H' b=none)->∀ b∈fp,cW Y [] H' b:=λhn b hb=>⟨hn b hb,fpY b hb⟩
  refine yJ (λn s'=> ∃ i σ' H',Inv Y [] σ' H' s'/\tn i s'.heap/\(∀ b∈fp,H' b=none)/\W i n σ' H') ?_ m0 ⟨0,_,_,I4,st4,λb hb=>(hf3 b hb).1,w0⟩
  rintro n s5 ⟨i,σ5,H5,I5,st5,fr5,w5⟩
  have gY:PG Y target g:=by rw[<-hX];exact hg _ _ _ _
  have tY:AY Y ifs tt:=by rw[<-hX];exact ht _ _ _ _
  have eY:PE Y elt te:=by rw[<-hX];exact he _ _ _ _
  unfold PG at gY;unfold AY at tY;unfold PE at eY
  rw[pr,pw,pA,px] at gY tY eY
  have ap:=GU (X:=Y)
  unfold NC at ap
  rw[pr,pw,pA,px] at ap
  rcases turn i n σ5 H5 w5 with⟨stop,q⟩|⟨go,step⟩
  ·have d:=T.done Y pr pw pK pc i [] s5 σ5 H5 (λ_ _=>False) I5 (oN fr5) st5 stop
   rw[pA] at d
   refine bq d λr s6 ⟨hr,I6⟩=>?_
   subst hr
   have I6':Inv (fN X scope N s3 (upd H D (eC X.prog X.w D (λ_=>false) 0)) fp (X.pn++pZ)) [] σ5 H5 s6:=by rw[hX];exact I6
   obtain⟨a1,a2,a3⟩:=DV I3 hf3 I6'
   exact hR _ s6 H5 a1 a2 a3 q
  ·have d:=T.item Y pr pw pK pc i [] s5 σ5 H5 (λ_ _=>False) I5 (oN fr5) st5 go
   rw[pA] at d
   refine bq d λr s6 ⟨u,hr,h6⟩=>?_
   subst hr
   refine bq h6 λ_ s7 ⟨x,H7,I7,r7,y7,st7,fr7⟩=>?_
   have I7':=I7.pinned (oN fr7) (T.obj _ _ st7)
   refine bq (gY _ s7 σ5 H7 x u _ I7' r7 (step x H7 y7)) λ_ s8 ⟨σ8,H8,I8,q8⟩=>?_
   have again: ∀ {σ9:St} {H9:Hp} {s9:Shared},Inv Y ([]++mq fp s7.heap) σ9 H9 s9->(∃ m',m' < n/\W (i+1) m' σ9 H9)->∃ m,m < n/\∃ i σ' H',Inv Y [] σ' H' s9/\tn i s9.heap/\(∀ b∈fp,H' b=none)/\W i m σ' H':=λ{σ9 H9 s9} I9 ⟨m',hm,w9⟩=>by
    refine⟨m',hm,i+1,σ9,H9,I9.i6,T.keep _ _ _ st7 λb hb o e=>(I9.pin (b,o) (P5 _ (P5 _ (dX hb e)))).1,λb hb=>?_,w9⟩
    obtain⟨o,e,d⟩:=T.obj _ _ st7 b hb
    exact(I9.pin (b,o) (P5 _ (P5 _ (dX hb e)))).2.1
   refine bq (tY _ s8 σ8 H8 _ I8 q8) λok s9 ⟨H9,I9,q9⟩=>?_
   cases ok with
   |false=>
    rw[Qw (by decide)] at q9
    rw[Qw (by decide)]
    exact again I9 q9
   |true=>
    rw[Qv rfl] at q9
    rw[Qv rfl]
    refine bq (eY _ s9 σ8 H9 _ I9 q9) λv s10 ⟨y,H10,I10,r10,ky,S,c,eky,eys,lys,q10⟩=>?_
    refine bq (ap _ s10 σ8 H10 (.ref D) [y] (.ref D) [v] (λ_ H'=> ∃ m',m' < n/\W (i+1) m' σ8 H') I10 rfl (.cons r10 .nil) ⟨D,ky,S,c,rfl,by rw[eky],eys,lys,q10⟩) λv2 s11 ⟨y2,H11,I11,_,q11⟩=>?_
    exact again I11 q11
 have ee:({newEnv scope s3.heap.objs.size X.env.globals (wO scope.names X.env.cells) X.env.qual none .none (some X.env) builtinsNs with scope:=relabel scope X.env}:Env)=Y.env:=by rw[<-hX];rfl
 rw[ee]
 exact A8 loop (T.self _ 0 _ _ _ st4 loop)
def CO {iter:Expr} {Q:VK} {E:Value->Shared->Prop} {R:Value->Addr->Result->Shared->Prop}
  (L:a7 X scope N js) (hc:X.calm=true)
  (hg: ∀ s₀ H₀ ex pn,PG (fN X scope N s₀ H₀ ex pn) target g) (ht: ∀ s₀ H₀ ex pn,AY (fN X scope N s₀ H₀ ex pn) ifs tt) (he: ∀ s₀ H₀ ex pn,PE (fN X scope N s₀ H₀ ex pn) elt te)
  (I:Inv X pZ σ H s) (T:Turn X.prog X.w X.K target J fp it tn) (st:tn 0 s.heap) (hf: ∀ b∈fp,cW X pZ H b)
  (w: ∀ D,H D=none->∃ W:Nat->Nat->St->Hp->Prop,(∃ m,W 0 m (fT js σ) (upd H D (eC X.prog X.w D (λ_=>false) 0)))/\∀ i m σ' H',W i m σ' H'->
   (J.stop i H'/\Q (.ref D) H')\/(J.go i H'/\∀ x H2,J.Ci i H' x H2->g x σ' H2 λσ2 H3=>tt σ2 H3 λok H4=>
    if ok=true then te σ2 H4 λy H5=> ∃ (k:Key) (S:Key->Bool) (c:Nat),y=kV k/\H5 D=some (eC X.prog X.w D S c)/\c+1 < PySem.scanBound/\∃ m',m' < m/\W (i+1) m' σ2 (upd H5 D (eC X.prog X.w D (λk'=>S k'||decide (k'=k)) (if S k=true then c else c+1)))
    else ∃ m',m' < m/\W (i+1) m' σ2 H4))
  (hR: ∀ D C s' H',Inv X pZ σ H' s'->cW X pZ H' C->(∃ m,s'.heap.Ns C m)->Q (.ref D) H'->R (.ref D) C (.ok .next) s'):
  wpAny (model X.prog X.w) X.A (newSet (.type "set")) (λacc s₃=>wpAny (model X.prog X.w) X.A (newFunctionEnv scope X.env.globals (wO scope.names X.env.cells) [] X.env.qual none .none (some X.env)) (λcenv s₄=>
   codeAny (model X.prog X.w) X.A (.compStart (.SetComp elt [⟨target,iter,ifs,0⟩] scope pos) 0 (.ref it) acc {cenv with scope:=relabel scope X.env}) (R acc cenv.locals) s₄) E s₃) E s:=by
 have hD:=I.fresh
 refine GO (knd:=aY X.prog X.w) λhS hL=>?_
 have I3:Inv X pZ σ (upd H s.heap.objs.size (eC X.prog X.w s.heap.objs.size (λ_=>false) 0)) {s with heap:=s.heap.push {cls:=.type "set",dict:=none,data:=.set #[] 0 (.fresh 0 0 (!HE X.w))}}:=I.laid (t':=s.toks) (λb o e=>PF _ e) (PM _) (sO hS hL)
 refine wpAny_newFunctionEnv L.yn (by intro y hy;simp at hy) (λh₁ hns₁ hsb₁=>?_) L.kind
 dsimp only at hns₁ hsb₁
 exact FT (Q:=Q) (R:=R) (s3:={s with heap:=s.heap.push {cls:=.type "set",dict:=none,data:=.set #[] 0 (.fresh 0 0 (!HE X.w))}}) L hc hg ht he I T st hf I3 (λb o e=>Qg (P2 e)) (λb o e=>PF _ e) hns₁
  (λb o e=>hsb₁.extBut b o (Qg (P2 e)) (PF _ e)) (w _ hD) (λC=>hR _ C)
def MN (L:a7 X scope N js) (hc:X.calm=true) (hi:PI X target iter wi)
  (hg: ∀ s₀ H₀ ex pn,PG (fN X scope N s₀ H₀ ex pn) target g) (ht: ∀ s₀ H₀ ex pn,AY (fN X scope N s₀ H₀ ex pn) ifs tt) (he: ∀ s₀ H₀ ex pn,PE (fN X scope N s₀ H₀ ex pn) elt te)
  (hs: ∀ x,foldedSetIterable iter X.env x=pure x:=by intro _;rfl):PE X (.SetComp elt [⟨target,iter,ifs,0⟩] scope pos) (Mn X.prog X.w js wi g tt te):=by
 intro pZ s σ H Q I h
 rw[uh]
 refine wpAny_comprehension_free (use:=none) rfl hs (kU (L.HA I.ok)) L.kind L.names (bq (hi pZ s σ H _ I h) λv s1 h1=>bq h1 λitv s2 h2=>?_)
 obtain⟨it,fp,tn,J,H2,e,I2,T,st2,f2,w⟩:=h2
 subst e
 refine CO (Q:=Q) (R:=λacc C=>compPost (model X.prog X.w) X.A X.xe none (EP X pZ σ Q) acc C) L hc hg ht he I2 T st2 f2 w ?_
 intro D C s' H' I' f' ⟨m,hn⟩ q
 exact⟨m,hn,λh' hs'=>⟨.ref D,H',I'.gone (m:=m) f' hs',rfl,q⟩⟩
end
section
variable {prog:Program} {w:World} {A:Around} {E:Value->Shared->Prop} {s:Shared} {I D:Addr} {o:Obj} {es:Array (Int×Value)} {ep:Nat} {t:SetTable}
def vO (hb:w.params.followText "set-order"=false) (hD:s.heap.get? D=some o) (hd:o.data= .set es ep t) (hf:t.fits es.size=true) (hl:t.led=true) (hc:(!t.plain&&decide (es.size > 1))=false)
  (h1: ∀ e j,es[SetTable.below t.place slot]?=some e->t.place[SetTable.below t.place slot]?=some j->Q (some (e.2,j+1)) s) (h2:es[SetTable.below t.place slot]?=none->Q none s):wpAny (model prog w) A (setNext D slot i ep) Q E s:=by
 unfold setNext
 refine Pz (PySem.wpAny_setState_of hD hd hf ?_)
 dsimp only
 refine Pz (jX ?_)
 rw[hb,Qw (by simp)]
 refine wpAny_ite ?_
 split
 ·rename_i c
  have c':(!t.plain&&decide (es.size > 1))=true:=c
  rw[hc] at c'
  cases c'
 ·refine Pz (wpAny_of_eq (a:=PUnit.unit) ?_ ?_)
  ·show (if(!t.led&&!es.isEmpty)=true then(unsupported "set:maker-not-led":Sem PUnit) else pure PUnit.unit)=pure PUnit.unit
   rw[hl]
   rfl
  ·refine PJ ?_
   have z:t.place.size=es.size:=by
    unfold SetTable.fits at hf
    simp at hf
    exact hf.1
   cases e1:es[SetTable.below t.place slot]? with
   |none=>exact h2 e1
   |some e=>
    have lt:=(Array.getElem?_eq_some_iff.mp e1).1
    have e2:t.place[SetTable.below t.place slot]?=some (t.place[SetTable.below t.place slot]'(by lia)):=Qd (by lia)
    have q:=h1 e _ e1 e2
    rw[e2]
    exact q
def slotAt (pl:Array Nat):Nat->Nat
 |0=>0
 |i+1=>pl.getD i 0+1
theorem qe (h:fb pl): ∀ {i:Nat},i<=pl.size->SetTable.below pl (slotAt pl i)=i
 |0,_=>qg h (Qe _) (λk a hk=>absurd hk (Nat.not_lt_zero _)) λk a _ _=>Qe _
 |i+1,hi=>by
  have e:pl[i]?=some pl[i]:=Qd (by lia)
  have eg:slotAt pl (i+1)=pl[i]+1:=by
   show pl.getD i 0+1=_
   rw[P8,e]
   rfl
  rw[eg]
  refine qg h hi (λk a hk ha=>?_) λk a hk ha=>?_
  ·rcases Nat.lt_or_eq_of_le (Nat.le_of_lt_succ hk) with c|c
   ·exact Nat.lt_succ_of_lt (h.lt c ha e)
   ·subst c;rw[e] at ha;cases ha;exact Nat.lt_succ_self _
  ·exact h.lt (by lia) e ha
def Ct (hh:A.handled=none) (hID:I≠D) (hb:w.params.followText "set-order"=false) (hd:o.data= .set es ep t) (hf:t.fits es.size=true) (hl:t.led=true) (hc:(!t.plain&&decide (es.size > 1))=false) (hr:fb t.place):
  Walks prog w A I [I,D] [I] es.size (λi v=>(es.toList.map (·.2))[i]?=some v) (λi h=>h.get? I=some (j9 (.int (slotAt t.place i:Nat) 0) i D es.size ep)/\h.get? D=some o) where
 sub:=λc hc=>by simp at hc;simp[hc]
 frame:=λi h h' st k=>⟨k I (by simp) _ st.1,k D (by simp) _ st.2⟩
 item:=λi s Q E hi st hQ=>by
  have z:t.place.size=es.size:=by
   unfold SetTable.fits at hf
   simp at hf
   exact hf.1
  have e1:es[i]?=some es[i]:=Qd hi
  have e2:t.place[i]?=some (t.place[i]'(by lia)):=Qd (by lia)
  have hbl:=qe hr (i:=i) (by lia)
  refine va (x:=es[i].2) (nx:=slotAt t.place (i+1)) st.1 st.2 hd hf (λ{Q' E'} h=>vO hb st.2 hd hf hl hc (λe j he hj=>?_) λhe=>?_) λh' g sb=>?_
  ·rw[hbl,e1] at he
   rw[hbl,e2] at hj
   cases he
   cases hj
   have eg:slotAt t.place (i+1)=t.place[i]'(by lia)+1:=by
    show t.place.getD i 0+1=_
    rw[P8,e2]
    rfl
   rw[eg] at h
   exact h
  ·rw[hbl,e1] at he
   cases he
  ·refine hQ _ h' s.toks ?_ ⟨g,(sb.2 D hID.symm).trans st.2⟩ λc u hc e=>(sb.2 c λz=>hc (by simp[z])).trans e
   rw[P6,Array.getElem?_toList,e1]
   rfl
 done:=λs Q E st hQ=>by
  have z:t.place.size=es.size:=by
   unfold SetTable.fits at hf
   simp at hf
   exact hf.1
  have hbl:=qe hr (i:=es.size) (by lia)
  have en:es[es.size]?=none:=Array.getElem?_eq_none (PM _)
  refine zJ hh st.1 st.2 hd hf (λ{Q' E'} h=>vO hb st.2 hd hf hl hc (λe j he hj=>?_) λhe=>h) λh' eb=>?_
  ·rw[hbl,en] at he
   cases he
  ·exact hQ h' s.toks λc u hc e=>eb c u (λz=>hc (by simp[z])) e
 self:=λi s Q E st hQ=>oS st.1 hQ
def Bf (hh:A'.handled=none) (hex:o.ExactSet) (hD:s.heap.get? D=some o) (hd:o.data= .set es ep t) (hf:t.fits es.size=true) (hl:t.led=!w.params.followText "set-order") (hr:fb t.place) (hz:es.size<=4096)
  (h: ∀ (I:Addr) (h':Heap) d',Jh prog w A' es D I h' s.heap.objs.size->(∀ b u,s.heap.get? b=some u->h'.get? b=some u)->h'.get? I≠none->s.heap.objs.size<=I->Q (.ref I) {s with heap:=h',drawn:=d'}):
  wpAny (model prog w) A (pyIter (.ref D)) Q E s:=by
 have hT:s.TypeIs (.ref D) "set":=⟨o,hD,hex.1⟩
 have ltD:D < s.heap.objs.size:=P2 hD
 refine wpAny_pyIter_slot hT PySem.F.slot_set_iter (wpAny_call_entry PySem.F.slot_set_iter hT p3 ?_ (PySem.F.args_set_iter_1 _))
 unfold Builtin.«frozenset.__iter__» Builtin.Frozenset.slot0 slotArgs
 show wpAny _ _ ((pure (Value.ref D,([]:List Value)) >>= _) >>= _) _ _ s
 refine Pz (Pz (PJ ?_))
 unfold Builtin.Frozenset.addrOf Builtin.Frozenset.sizeOf
 refine PJ ?_
 refine Pz (Pz (PySem.wpAny_setEntries_of hD hd hf (PJ ?_)))
 have fin: ∀ (first:Value) (h1:Heap) (d1:Drawn),h1.get? D=some o->(∀ b u,s.heap.get? b=some u->h1.get? b=some u)->s.heap.objs.size<=h1.objs.size->Jh prog w A' es D h1.objs.size (h1.push (j9 first 0 D es.size ep)) s.heap.objs.size->
   wpAny (model prog w) A.in1 (setEpoch D >>= λe=>newFields "set_iterator" [first,rawInt 0,Value.ref D,rawInt es.size,rawInt e] >>= λv=>ret v) (λfin s'=> ∃ v,fin=Fin.done (Flow.ret v)/\∃ T' r,s'.TypeIs v T'/\typeLookup (Value.type T') (Str.ofString "__next__")=pure (some r)/\Q v s') E {s with heap:=h1,drawn:=d1}:=λfirst h1 d1 g1 k1 z1 fd=>by
  refine Pz ?_
  unfold setEpoch
  refine Pz (PySem.wpAny_setState_of g1 hd hf (PJ ?_))
  refine Pz (wpAny_newObj_type (PJ ⟨_,rfl,"set_iterator",_,⟨_,PZ _ rfl,rfl⟩,bb.lookup,?_⟩))
  refine h _ _ d1 fd (λb u e=>PF _ (k1 b u e)) ?_ z1
  rw[PZ _ rfl]
  simp
 have new: ∀ (first:Value) (h1:Heap),(h1.push (j9 first 0 D es.size ep)).get? h1.objs.size=some (j9 first 0 D es.size ep):=λ_ _=>PZ _ rfl
 refine Pz ?_
 unfold setDrawn
 refine Pz (PySem.wpAny_setState_of hD hd hf ?_)
 dsimp only
 refine Pz (jX (PJ ?_))
 show wpAny _ _ (if(!w.params.followText "set-order"&&(!t.plain&&decide (es.size > 1)))=true then _ else _) _ _ s
 cases hb:w.params.followText "set-order" with
 |true=>
  rw[Qw (by simp)]
  refine Pz (PJ ?_)
  refine fin (rawInt 0) s.heap s.drawn hD (λ_ _ e=>e) (PM _) ⟨(pickOrder (w.params.setOrder D ep) es).toList.map (·.2),[s.heap.objs.size,D],λi h=>h.get? s.heap.objs.size=some (j9 (.int (0:Nat) 0) i D es.size ep)/\h.get? D=some o,(rD _ _).map _,?_,⟨new _ _,PF _ hD⟩,λc hc=>?_⟩
  ·rw[PD,Qj,mr]
   exact Mh hh (Nat.ne_of_gt ltD) hb hd hf
  ·simp only[PR,PU,or_false] at hc
   rcases hc with rfl|rfl
   ·exact .inr (PM _)
   ·exact .inl rfl
 |false=>
  rw[hb] at hl
  cases hcc:(!t.plain&&decide (es.size > 1)) with
  |true=>
   have c:es.size > 1:=by simp at hcc;exact hcc.2
   rw[Qv (by simp)]
   refine Pz (sj es.size _ s _ (by simp) λps d' pp=>?_)
   have zp:ps.length=es.size:=by rw[pp.length_eq,List.length_range]
   refine Pz (wpAny_newTuple ?_ (by rw[PD,zp,Qm];lia))
   have gT:(s.heap.push {cls:=.type "tuple",data:=.seq (ps.map λ(i:Nat)=>rawInt i).toArray}).get? s.heap.objs.size=some {cls:=.type "tuple",data:=.seq (ps.map λ(i:Nat)=>rawInt i).toArray}:=PZ _ rfl
   have z1:(s.heap.push {cls:=.type "tuple",data:=.seq (ps.map λ(i:Nat)=>rawInt i).toArray}).objs.size=s.heap.objs.size+1:=Heap.size_push ..
   refine fin (.ref s.heap.objs.size) _ d' (PF _ hD) (λ_ _ e=>PF _ e) (by rw[z1];exact Nat.le_succ _) ⟨ps.map λj=>(es[j]?.map (·.2)).getD .none,[s.heap.objs.size+1,D,s.heap.objs.size],λi h=>h.get? (s.heap.objs.size+1)=some (j9 (.ref s.heap.objs.size) i D es.size ep)/\h.get? D=some o/\h.get? s.heap.objs.size=some {cls:=.type "tuple",data:=.seq (ps.map λ(i:Nat)=>rawInt i).toArray},?_,?_,⟨by rw[<-z1];exact new _ _,PF _ (PF _ hD),PF _ gT⟩,λc hc=>?_⟩
   ·refine(pp.map _).trans (List.Perm.of_eq ?_)
    apply List.ext_getElem
    ·simp
    ·intro i h1 h2
     have hi:i < es.size:=by simpa using h1
     simp[hi]
   ·rw[PD]
    rw[z1]
    exact Mj hh (Nat.ne_of_gt (Nat.lt_succ_of_lt ltD)) (Nat.ne_of_gt (Nat.lt_succ_self _)) hd hf rfl λj hj=>by simpa using pp.mem_iff.mp hj
   ·simp only[PR,PU,or_false] at hc
    rcases hc with rfl|rfl|rfl
    ·exact .inr (Nat.le_succ _)
    ·exact .inl rfl
    ·exact .inr (PM _)
  |false=>
   rw[Qw (by simp)]
   refine Pz (PJ ?_)
   refine fin (rawInt 0) s.heap s.drawn hD (λ_ _ e=>e) (PM _) ⟨es.toList.map (·.2),[s.heap.objs.size,D],λi h=>h.get? s.heap.objs.size=some (j9 (.int (slotAt t.place i:Nat) 0) i D es.size ep)/\h.get? D=some o,.rfl,?_,⟨new _ _,PF _ hD⟩,λc hc=>?_⟩
   ·rw[PD,Qj]
    exact Ct hh (Nat.ne_of_gt ltD) hb hd hf hl hcc hr
   ·simp only[PR,PU,or_false] at hc
    rcases hc with rfl|rfl
    ·exact .inr (PM _)
    ·exact .inl rfl
end
section
variable {prog:Program} {w:World} {A:Around} {E:Value->Shared->Prop} {s:Shared} {D:Addr} {o:Obj} {es:Array (Int×Value)} {ep:Nat} {t:SetTable}
def sN (hh:A.handled=none) (hex:o.ExactSet) (hD:s.heap.get? D=some o) (hd:o.data= .set es ep t) (hf:t.fits es.size=true) (hl:t.led=!w.params.followText "set-order") (hr:fb t.place) (hz:es.size<=4096)
  (h: ∀ (out:List Value) (s':Shared),out.Perm (es.toList.map (·.2))->(∀ b u,s.heap.get? b=some u->s'.heap.get? b=some u)->s'.gens=s.gens->s'.os=s.os->s.toks<=s'.toks->Q out s'):
  wpAny (model prog w) A (collect (.ref D)) Q E s:=by
 have ltD:D < s.heap.objs.size:=P2 hD
 unfold collect
 refine Pz (wpAny_runValue (codeAny_builtin PySem.F.entry_proto_collect ?_))
 rw[Around.under_plainId PySem.F.plain_proto_collect _]
 show wpAny _ A.in1 (newList [] >>= λl=>again (.builtin "list.__iadd__" ⟨[l,.ref D],[]⟩)) _ _ s
 refine Pz (wpAny_newObj_type (PJ ⟨plainId_quiet PySem.F.plain_list_iadd _,codeAny_builtin PySem.F.entry_list_iadd ?_⟩))
 rw[Around.under_plainId PySem.F.plain_list_iadd _]
 show wpAny _ A.in1 (Builtin.List.listExtendWith (.ref s.heap.objs.size) (.ref D) (.ref s.heap.objs.size)) _ _ _
 unfold Builtin.List.listExtendWith
 have g0:(s.heap.push {cls:=.type "list",data:=.seq ([]:List Value).toArray}).get? s.heap.objs.size=some {cls:=.type "list",data:=.seq ([]:List Value).toArray}:=PZ _ rfl
 have gD:(s.heap.push {cls:=.type "list",data:=.seq ([]:List Value).toArray}).get? D=some o:=PF _ hD
 generalize hh1:s.heap.push {cls:=.type "list",data:=.seq ([]:List Value).toArray}=h1 at g0 gD
 have k1: ∀ b u,s.heap.get? b=some u->h1.get? b=some u:=λb u e=>hh1▸PF _ e
 have z1:h1.objs.size=s.heap.objs.size+1:=by rw[<-hh1];exact Heap.size_push ..
 have hT:Shared.TypeIs {s with heap:=h1} (.ref D) "set":=⟨o,gD,hex.1⟩
 refine Pz (wpAny_typeOf hT ?_)
 have c1:Builtin.List.listSameRef (.ref s.heap.objs.size) (.ref D)=false:=by simp[Builtin.List.listSameRef,Nat.ne_of_gt ltD]
 have c2:(Value.type "set"==Value.type "list")=false:=by decide
 have c3:(Value.type "set"==Value.type "tuple")=false:=by decide
 simp only[c1,c2,c3,Bool.or_false,Qp,if_false]
 refine Pz (Bf (s:={s with heap:=h1}) (A':=A.in1) (by simp[hh]) hex gD hd hf hl hr hz λI h2 d' fd k2 hI zI=>?_)
 refine Pz (wpAny_holding ?_)
 have hT2:Shared.TypeIs {s with heap:=h2,drawn:=d'} (.ref D) "set":=⟨o,k2 _ _ gD,hex.1⟩
 unfold Builtin.List.listLengthHint
 refine Pz (wpAny_specialOf hT2 oU ?_)
 have sp:splitId "set.__len__"=some ("set","__len__"):=by first|rfl|decide +kernel
 dsimp only
 simp only[sp]
 refine Pz (wpAny_isInstance hT2 sub_set_self ?_)
 simp only[Bool.not_true,Qp,if_false]
 refine wpAny_ite ?_
 rw[Qv (by decide +kernel)]
 refine Pz (wpAny_typeOf hT2 (PJ ?_))
 refine wpAny_ite ?_
 rw[Qv (by decide +kernel)]
 refine Pz (wpAny_rule ?_)
 have g2:h2.get? s.heap.objs.size=some {cls:=.type "list",data:=.seq ([]:List Value).toArray}:=k2 _ _ g0
 refine Pz ?_
 show wpAny _ A.in1 (updateSeq s.heap.objs.size (·.push .none) >>= λ_=>updateSeq s.heap.objs.size (·.pop)) _ _ _
 refine Pz (wpAny_updateSeq g2 rfl ?_)
 have g3:=Heap.get?_update_self (Obj.mapSeq (·.push Value.none)) g2 rfl
 refine wpAny_updateSeq g3 rfl ?_
 have g4:=Heap.get?_update_self (Obj.mapSeq (·.pop)) g3 rfl
 have iU: ∀ b u,b≠s.heap.objs.size->h2.get? b=some u->((h2.update s.heap.objs.size (Obj.mapSeq (·.push Value.none))).update s.heap.objs.size (Obj.mapSeq (·.pop))).get? b=some u:=λb u hb e=>(Heap.get?_update_other _ _ (Ne.symm hb)).trans ((Heap.get?_update_other _ _ (Ne.symm hb)).trans e)
 obtain⟨out,fp,Sx,pm,W,st,lf⟩:=fd
 have nf:s.heap.objs.size∉fp:=λhm=>by
  rcases lf _ hm with e|e
  ·exact absurd e (Nat.ne_of_gt ltD)
  ·have e':h1.objs.size<=s.heap.objs.size:=e
   rw[z1] at e'
   exact absurd e' (Nat.not_succ_le_self _)
 refine PJ ⟨plainId_quiet PySem.F.plain_extend_loop _,codeAny_extend_loopS W.toS (by rw[pm.length_eq,PD,Qj,Qm];lia) _ nf _ out.length 0 _ _ _ rfl (Qe _) (W.frame 0 h2 _ st λb hb u e=>iU b u (λz=>nf (z▸hb)) e) g4 (ItemsOf.nil _) λs' acc c' mv gS ia=>?_⟩
 show wpAny _ A (load s.heap.objs.size >>= _) _ _ s'
 refine Pz (wpAny_load gS (PJ ?_))
 have ea:acc.toList=out:=by
  apply List.ext_getElem?
  intro i
  by_cases hi:i < acc.size
  ·have e:=ia.2 i acc[i] (by simp[hi])
   rw[Array.getElem?_toList,e]
   simp[hi]
  ·rw[List.getElem?_eq_none (by simpa using hi),List.getElem?_eq_none (by have:=ia.1;lia)]
 rw[ea]
 refine h out s' pm (λb u e=>?_) mv.gens mv.os mv.toks
 refine mv.heap b u ?_ (iU b u (Qg (P2 e)) (k2 _ _ (k1 _ _ e)))
 simp only[PR,PU,or_false,not_or]
 have lb:b < s.heap.objs.size:=P2 e
 refine⟨Qg lb,Qg (P9 lb (P7 (Nat.le_succ _) (P7 (Nat.le_of_eq z1.symm) zI)))⟩
end
section
variable {φ:dn}
def x9 (x:Int):List Int->List Int
 |[]=>[x]
 |y::l=>if y < x then y::x9 x l else x::y::l
def ja:List Int->List Int
 |[]=>[]
 |x::l=>x9 x (ja l)
theorem mn (x:Int): ∀ l:List Int,(x9 x l).Perm (x::l)
 |[]=>.rfl
 |y::l=>by
  unfold x9
  split
  ·exact((mn x l).cons y).trans (.swap x y l)
  ·exact .rfl
theorem gN: ∀ l:List Int,(ja l).Perm l
 |[]=>.rfl
 |x::l=>(mn x _).trans ((gN l).cons x)
theorem zV (x:Int): ∀ l:List Int,l.Pairwise (·<=·)->(x9 x l).Pairwise (·<=·)
 |[],_=>by simp[x9]
 |y::l,h=>by
  obtain⟨h1,h2⟩:=Qy.mp h
  unfold x9
  by_cases c:y < x
  ·rw[Qv c]
   refine Qy.mpr ⟨λz hz=>?_,zV x l h2⟩
   rcases PR.mp ((mn x l).mem_iff.mp hz) with rfl|hz
   ·exact Int.le_of_lt c
   ·exact h1 z hz
  ·rw[Qw c]
   refine Qy.mpr ⟨λz hz=>?_,h⟩
   rcases PR.mp hz with rfl|hz
   ·lia
   ·exact Int.le_trans (by lia) (h1 z hz)
theorem oP: ∀ l:List Int,(ja l).Pairwise (·<=·)
 |[]=>.nil
 |x::l=>zV x _ (oP l)
theorem rn: ∀ (l m:List Int),l.Pairwise (·<=·)->m.Pairwise (·<=·)->l.Perm m->l=m
 |[],m,_,_,p=>(List.nil_perm.mp p).symm
 |a::l,[],_,_,p=>absurd p.length_eq (by simp)
 |a::l,b::m,h1,h2,p=>by
  have ea:a=b:=by
   rcases PR.mp (p.mem_iff.mp PB) with e|ha
   ·exact e
   rcases PR.mp (p.mem_iff.mpr PB) with e|hb
   ·exact e.symm
   exact Int.le_antisymm (List.rel_of_pairwise_cons h1 hb) (List.rel_of_pairwise_cons h2 ha)
  subst ea
  rw[rn l m (Qy.mp h1).2 (Qy.mp h2).2 (List.perm_cons a |>.mp p)]
def CS (p:ys.Perm zs) (h:ys.Pairwise (·<=·)):ys=ja zs:=rn _ _ h (oP zs) (p.trans (gN zs).symm)
def intOf:Value->Int
 | .int i _=>i
 |_=>0
theorem intsAre_map: ∀ (vs:List Value),(∀ v,v∈vs->∃ x t,v= .int x t)->IntsAre vs (vs.map intOf)
 |[],_=>.nil
 |v::vs,h=>by
  obtain⟨x,t,rfl⟩:=h v (PB ..)
  exact .cons x t (intsAre_map vs λu hu=>h u (PH _ hu))
theorem mY: ∀ (l m:List Int),l.Nodup->(∀ x∈l,x∈m)->m.length<=l.length->m.Perm l
 |[],m,_,_,h=>by
  have:m=[]:=Ql (Nat.le_zero.mp h)
  rw[this]
 |x::l,m,nd,hs,h=>by
  have hx:=hs x PB
  have p1:=List.perm_cons_erase hx
  rw[List.nodup_cons] at nd
  refine p1.trans ((mY l (m.erase x) nd.2 (λy hy=>?_) ?_).cons x)
  ·refine(List.mem_erase_of_ne ?_).mpr (hs y (PH _ hy))
   rintro rfl
   exact nd.1 hy
  ·rw[List.length_erase_of_mem hx]
   simp only[PY] at h
   lia
section
variable {prog:Program} {w:World} {A:Around} {E:Value->Shared->Prop} {s:Shared} {D:Addr} {o:Obj} {es:Array (Int×Value)} {ep:Nat} {t:SetTable}
def vd (hh:A.handled=none) (hex:o.ExactSet) (hD:s.heap.get? D=some o) (hd:o.data= .set es ep t) (hf:t.fits es.size=true) (hl:t.led=!w.params.followText "set-order") (hr:fb t.place) (hz:es.size < 64) (hs: ∀ v∈es.toList.map (·.2),∃ x u,v= .int x u)
  (h: ∀ (out:Array Value) (n:Nat) (ss:List Int) (s1:Shared) (h':Heap),IntsAre out.toList ss->ss.Perm ((es.toList.map (·.2)).map intOf)->ss.Pairwise (·<=·)->(∀ b u,s.heap.get? b=some u->s1.heap.get? b=some u)->s1.gens=s.gens->s1.os=s.os->(∀ b u,s1.heap.get? b=some u->h'.get? b=some u)->h'.get? s1.heap.objs.size=some (seqObj "list" out n)->Q (.ref s1.heap.objs.size) {s1 with heap:=h'}):
  wpAny (model prog w) A (call (.builtin "sorted") [.ref D]) Q E s:=by
 refine Calls.call_function_entry kind_sorted plain_sorted entry_sorted (args_sorted1 _) ?_
 unfold Builtin.«sorted»
 refine Pz (m:=checkCount "sorted" 1 1 _) (PJ ?_)
 refine Pz (sN (by simp[hh]) hex hD hd hf hl hr (by lia) λvs s1 pm k1 e1 e2 e3=>?_)
 have zv:vs.length < 64:=by rw[pm.length_eq,PD,Qj];exact hz
 have hv: ∀ v,v∈vs->∃ x u,v= .int x u:=λv hv=>hs v (pm.mem_iff.mp hv)
 have hS:=intsAre_map vs hv
 refine Pz (wpAny_newList ?_ (by show vs.length<=_;rw[Qm];lia))
 have hoL:(s1.heap.push (seqObj "list" vs.toArray 0)).get? s1.heap.objs.size=some (seqObj "list" vs.toArray 0):=PZ _ rfl
 refine Pz (wpAny_holding (wpAny_call_entry slot_list_sort ⟨_,hoL,rfl⟩ entry_list_sort (list_sort_tree hoL hS zv λout ns' a1 a2 a3=>⟨_,rfl,?_⟩) (args_list_sort _)))
 refine PJ ⟨_,rfl,?_⟩
 have ne: ∀ b u,s1.heap.get? b=some u->b≠s1.heap.objs.size:=λb u e=>Qg (P2 e)
 obtain⟨n,g⟩:=sortedHeap_at (out:=out) hoL
 refine h _ _ ns' s1 _ a1 (a2.trans (pm.map _)) a3 k1 e1 e2 (λb u e=>?_) g
 rw[sortedHeap_old (ne b u e) (by rw[size_push'];exact Nat.lt_succ_of_lt (P2 e))]
 exact PF _ e
end
def pG (h:lI (.inl i) v=true): ∃ t,v= .int i t:=by
 rcases bw h with⟨j,t,e,rfl⟩|⟨x,t,e,_⟩
 ·cases e;exact⟨t,rfl⟩
 ·cases e
section
variable {X:Cx} {e:Expr}
noncomputable def xZ (P:Program) (w:World):List V->Hp->VK->Prop:=λxs H Q=> ∃ (D:Addr) (is:List Int),xs=[.ref D]/\H D=some (eC P w D (λk=>ua (is.map Sum.inl) k) is.length)/\is.Nodup/\is.length < 64/\∀ (ys:List Int) (p:Addr),ys.Perm is->ys.Pairwise (·<=·)->H p=none->Q (.ref p) (upd H p (.lst (ys.map V.int)))
def yL (hc:X.calm=true):fL X (.builtin "sorted") (xZ X.prog X.w):=by
 intro pZ s σ H xs us Q I r h
 obtain⟨D,is,rfl,hD,nd,n1,q⟩:=h
 obtain⟨u,rfl,rx⟩:=vals1 r
 cases rx
 obtain⟨⟨hS,hL⟩,_⟩:=I.a9 D _ hD
 obtain⟨o,es,ep,t,ho,hex,hd,hel,hmem,hb,hf,hn⟩:=hS
 obtain⟨o',es',ep',t',ho',hd',led,pl⟩:=hL
 rw[ho] at ho'
 cases ho'
 rw[hd] at hd'
 cases hd'
 have num: ∀ e∈es.toList,∃ x u,e.2= .int x u/\x∈is:=λe he=>by
  obtain⟨⟨k,hk,_⟩,_⟩:=hel e he
  have:=(hmem k).mpr ⟨e,he,hk⟩
  obtain⟨z,hz,e'⟩:=List.any_eq_true.mp this
  obtain⟨i,hi,rfl⟩:=PX.mp hz
  have ek:Sum.inl i=k:=of_decide_eq_true e'
  subst ek
  obtain⟨u,hu⟩:=pG hk
  exact⟨i,u,hu,hi⟩
 have cover:((es.toList.map (·.2)).map intOf).Perm is:=by
  refine mY _ _ nd (λx hx=>?_) (by simp[hn])
  obtain⟨e,he,hk⟩:=(hmem (.inl x)).mp (List.any_eq_true.mpr ⟨Sum.inl x,Qh hx,by simp⟩)
  obtain⟨u,hu⟩:=pG hk
  refine PX.mpr ⟨e.2,PX.mpr ⟨e,he,rfl⟩,?_⟩
  rw[hu]
  rfl
 refine vd (I.ok.hd hc) hex ho hd hf led pl (by lia) (λv hv=>?_) λout n ss s1 h' c1 c2 c3 k1 e1 e2 k2 g=>?_
 ·obtain⟨e,he,rfl⟩:=PX.mp hv
  obtain⟨x,u,h1,_⟩:=num e he
  exact⟨x,u,h1⟩
 ·obtain⟨hp1,g1,d1,t1,os1⟩:=s1
  simp only at e1 e2
  subst e1 e2
  have I1:Inv X pZ σ H {s with heap:=hp1,drawn:=d1,toks:=t1}:=I.M5 k1
  have I2:=I1.laid (t':=t1) (h':=h') (a:=hp1.objs.size) (o:=.lst (ss.map V.int)) k2 (PM _) ⟨by rw[PD,(c2.trans cover).length_eq,Qm];lia,out.toList,n,?_,?_⟩
  ·exact⟨.ref hp1.objs.size,_,I2,rfl,q ss _ (c2.trans cover) c3 (I1.a9.fresh (PM _))⟩
  ·exact jY c1
  ·simpa using g
def pE:List Key->Option (List Int)
 |[]=>some []
 | .inl i::l=>(pE l).map (i:: ·)
 | .inr _::_=>none
theorem v8: ∀ {l:List Key} {is:List Int},pE l=some is->l=is.map Sum.inl
 |[],is,e=>by cases e;rfl
 | .inl i::l,is,e=>by
  obtain⟨js,h,rfl⟩:=Qa.mp e
  rw[v8 h]
  rfl
 | .inr _::_,is,e=>by cases e
def sortI (zs:List PV):M (List PV):=(M.bK (pE (dk zs))).bind λis=>if is.length < 64 then .ret ((ja is).map PV.int) else .fail
def wC (zs:List PV):(dk zs).Nodup:=by
 have: ∀ (zs:List PV) (ks:List Key),ks.Nodup->(zs.foldl (λks z=>if ua ks (keyOf z)=true then ks else ks++[keyOf z]) ks).Nodup:=λzs=>by
  induction zs with
  |nil=>exact λks h=>h
  |cons z zs ih=>
   intro ks h
   refine ih _ ?_
   dsimp only
   by_cases c:ua ks (keyOf z)=true
   ·rw[Qv c];exact h
   ·rw[Qw c,List.nodup_append]
    refine⟨h,by simp,λa ha b hb=>?_⟩
    rw[Qf] at hb
    subst hb
    rintro rfl
    exact c (List.any_eq_true.mpr ⟨_,ha,by simp⟩)
 exact this zs [] List.nodup_nil
def Bi (ys:List Int):aO B O H (ys.map PV.int) (ys.map V.int):=by
 refine⟨by simp,λi y x hy hx=>?_⟩
 rw[P6] at hy hx
 obtain⟨z,hz,rfl⟩:=Qa.mp hy
 rw[hz] at hx
 cases hx
 exact .int z
def Bb (w:(sortI zs).wp n R): ∃ is,pE (dk zs)=some is/\is.length < 64/\R ((ja is).map PV.int) n:=by
 unfold sortI at w
 cases e:pE (dk zs) with
 |none=>rw[e] at w;exact w.elim
 |some is=>
  rw[e] at w
  have w':(if is.length < 64 then M.ret ((ja is).map PV.int) else .fail).wp n R:=w
  split at w'
  ·rename_i h
   exact⟨is,rfl,h,w'⟩
  ·exact w'.elim
def Mv {K:Frag} {P:Program} {wd:World} {js:List (Option Nat)} {mi:ae->M (List PV)} {bd:PV->ae->M ae} {tt:ae->M Bool} {te:ae->M PV}: ∀ σ H Q,Io φ (λρ=>(DN js mi bd tt te ρ).bind sortI) σ H Q->Mn P wd js (Jz φ K false mi) (FH φ bd) (zy φ tt) (oK φ te) σ H (λx H'=>xZ P wd [x] H' Q):=λσ H Q bu=>by
 obtain⟨G,O,ρ,n,R,s,w,q⟩:=bu
 rw[M.wZ] at w
 unfold DN at w
 rw[M.wZ] at w
 refine⟨G,O,ρ,n,_,s,w,λl J H1 n1 e1 ba it w1=>λD hD=>?_⟩
 by_cases hl:l.length<=4000
 case neg=>rw[Qw hl] at w1;exact w1.elim
 rw[Qv hl] at w1
 have s1:=s.ext e1 ba
 have nD: ¬ O D:=λz=>by obtain⟨o,g⟩:=s1.dm D z;rw[hD] at g;cases g
 have pD: ¬ G.cu D:=λz=>nD (s.pr _ z)
 have hBD:D≠G.B:=λz=>pD (z▸G.pB)
 have bY: ∀ p o,H1 p=some o->p≠D:=λp o hp z=>by subst z;rw[hD] at hp;cases hp
 let O':Addr->Prop:=λp=>O p\/p=D
 let G':Bg φ:=G.Mg D hBD
 have k0: ∀ p o,¬ O p->H1 p=some o->upd H1 D (eC P wd D (λ_=>false) 0) p=some o/\¬ O' p:=λp o np hp=>⟨by rw[ag (bY p o hp)];exact hp,λz=>by
  rcases z with z|z
  ·exact np z
  ·exact bY p o hp z⟩
 have kD: ∀ (H5:Hp) (o:HO) p u,¬ O' p->H5 p=some u->upd H5 D o p=some u/\¬ O' p:=λH5 o p u np hp=>⟨by rw[ag (λz=>np (.inr z))];exact hp,np⟩
 refine⟨λi m σ' H'=>m=l.length - i/\i<=l.length/\∃ (zs:List PV) (ρ':ae) (n':Nat),zs.length<=i/\H' D=some (eC P wd D (λk=>ua (dk zs) k) (dk zs).length)/\ES G' O' H' σ' ρ' n'/\Ext G.B H1 H'/\fH K G' O' false H' l J/\
  (pC bd tt (λρ=>(te ρ).bind G9) (l.drop i) ρ').wp n' (λt k=>(sortI (zs++t)).wp k R),⟨l.length,by simp,Qe _,[],de js ρ,n1,PM _,av,?_,Ext.new hD _,?_,?_⟩,?_⟩
 ·have er:=p9 s1.er js
  refine⟨⟨er.1,λi e he=>?_⟩,⟨Bg.new ba hD _,_,av⟩,λp z=>?_,λp z=>?_⟩
  ·have r1:=er.2 i e he
   cases e with
   |un=>trivial
   |val y=>obtain⟨x,hx,rr⟩:=r1;exact⟨x,hx,rr.keep k0⟩
   |own t=>
    obtain⟨p,xs,hx,hp,np,hh,rr⟩:=r1
    exact⟨p,xs,hx,.inl hp,λz=>by
     rcases z with z|z
     ·exact np z
     ·exact bY p _ hh z,by rw[ag (bY p _ hh)];exact hh,rr.keep k0⟩
   |bt t=>
    obtain⟨p,xs,hx,hp,np,hh,rr⟩:=r1
    exact⟨p,xs,hx,.inl hp,λz=>by
     rcases z with z|z
     ·exact np z
     ·exact bY p _ hh z,by rw[ag (bY p _ hh)];exact hh,rr.keep k0⟩
  ·rcases z with z|z
   ·exact .inl (s.pr p z)
   ·exact .inr z
  ·rcases z with z|z
   ·obtain⟨o,g⟩:=s1.dm p z;exact⟨o,by rw[ag (bY p o g)];exact g⟩
   ·subst z;exact⟨_,av⟩
 ·cases it with
  |lst np hp h r=>
   exact .lst (λz=>by
    rcases z with z|z
    ·exact np z
    ·exact bY _ _ h z) (λz=>by cases z) (by rw[ag (bY _ _ h)];exact h) (r.keep k0)
  |tup hp h r=>exact .tup (k0 _ _ hp h).2 (k0 _ _ hp h).1 (r.keep k0)
  |txt z=>exact .txt z
  |xt lo n=>exact .xt lo n
 ·simpa using w1
 ·rintro i m σ' H' ⟨rfl,hi,zs,ρ',n',hy,hDy,s',ex,it',w'⟩
  by_cases dz:i < l.length
  ·have hget:l[i]?=some l[i]:=Py dz
   have jC:l.drop i=l[i]::l.drop (i+1):=List.drop_eq_getElem_cons dz
   rw[jC] at w'
   unfold pC at w'
   obtain⟨g1,g2⟩:=it'.go hget
   refine .inr ⟨g1,λx H2 yl=>?_⟩
   obtain⟨eH,rx⟩:=g2 x H2 yl
   subst eH
   rw[M.wZ] at w'
   refine⟨G',O',ρ',n',_,l[i],s',rx,w',λσ2 ρ2 n2 s2 w2=>?_⟩
   rw[M.wZ] at w2
   refine⟨G',O',ρ2,n2,_,s2,w2,λok H4 n4 e4 ok4 w4=>?_⟩
   have D4:H4 D=some (eC P wd D (λk=>ua (dk zs) k) (dk zs).length):=e4 D _ hBD hDy
   have it4:fH K G' O' false H4 l J:=it'.cE (λp o np hp=>⟨e4 p o (λz=>np (.inl (z▸s.B))) hp,np⟩) (.inr λp xs np hp=>e4 p _ (λz=>np (z▸G'.pB)) hp) λp z=>by cases z
   cases ok with
   |true=>
    simp only[if_true] at w4 ⊢
    rw[M.bZ,M.wZ] at w4
    refine⟨G',O',ρ2,n4,_,s2.ext e4 ok4,w4,λz x5 H5 n5 e5 ok5 r5 w5=>?_⟩
    have D5:H5 D=some (eC P wd D (λk=>ua (dk zs) k) (dk zs).length):=e5 D _ hBD D4
    obtain⟨ek,w5⟩:=G8 r5 w5
    rw[M.wZ] at w5
    have s5:=s2.ext (e4.trans e5) ok5
    have it5:fH K G' O' false H5 l J:=it4.cE (λp o np hp=>⟨e5 p o (λz=>np (.inl (z▸s.B))) hp,np⟩) (.inr λp xs np hp=>e5 p _ (λz=>np (z▸G'.pB)) hp) λp z=>by cases z
    have hdl:=Ln zs
    refine⟨keyOf z,_,_,ek,D5,by show _ < 4096;lia,l.length - (i+1),by lia,rfl,dz,zs++[z],ρ2,n5,by simp;lia,by rw[av,OY,OX],?_,?_,?_,?_⟩
    ·refine⟨⟨s5.er.1,λj e he=>?_⟩,⟨G.keep H5 _ _ (λp o hp hpo=>by
      have hpd:p≠D:=λz=>by
       rcases hp with hp|hp
       ·exact pD (z▸hp)
       ·rw[z,D5] at hpo;cases hpo;exact hp
      rw[ag hpd];exact hpo) ok5.1,_,av⟩,s5.pr,λp hp=>?_⟩
     ·have r1:=s5.er.2 j e he
      cases e with
      |un=>trivial
      |val y=>obtain⟨x,hx,rr⟩:=r1;exact⟨x,hx,rr.keep (kD H5 _)⟩
      |own t=>
       obtain⟨p,xs,hx,hp,np,hh,rr⟩:=r1
       exact⟨p,xs,hx,hp,np,by rw[ag (λz=>np (.inr z))];exact hh,rr.keep (kD H5 _)⟩
      |bt t=>
       obtain⟨p,xs,hx,hp,np,hh,rr⟩:=r1
       exact⟨p,xs,hx,hp,np,by rw[ag (λz=>np (.inr z))];exact hh,rr.keep (kD H5 _)⟩
     ·by_cases hpd:p=D
      ·subst hpd;exact⟨_,av⟩
      ·obtain⟨o,g⟩:=s5.dm p hp;exact⟨o,by rw[ag hpd];exact g⟩
    ·intro p o np hp
     exact((ex.trans (e4.trans e5)) p o np hp).to λu e=>.of (by rw[ag (bY p o hp)];exact e)
    ·exact it5.keep (kD H5 _) (.inr λp xs np hp=>by rw[ag (λz=>np (.inr z))];exact hp) λp z=>by cases z
    ·refine M.wp_mono w5 λt k' hk=>?_
     have hk':(sortI (zs++z::t)).wp k' R:=hk
     simpa using hk'
   |false=>
    exact⟨l.length - (i+1),by lia,rfl,dz,zs,ρ2,n4,by lia,D4,s2.ext e4 ok4,ex.trans e4,it4,w4⟩
  ·have e:i=l.length:=by lia
   subst e
   refine .inl ⟨it'.stop,?_⟩
   rw[List.drop_length] at w'
   have w2:(sortI (zs++[])).wp n' R:=w'
   rw[List.append_nil] at w2
   obtain⟨is,hk,h64,hR⟩:=Bb w2
   have hk':=v8 hk
   have nd:=wC zs
   rw[hk'] at hDy nd
   rw[PD] at hDy
   refine⟨D,is,rfl,hDy,?_,h64,λys p pm hs hp=>?_⟩
   ·exact List.Pairwise.of_map Sum.inl (λa b h z=>h (by rw[z])) nd
   ·rw[CS pm hs]
    have e3:Ext G.B H' (upd H' p (.lst ((ja is).map V.int))):=Ext.new hp _
    have nb:H p=none:=ft (e1.trans ex) s'.ok.1 hp
    exact q _ p _ _ n' ((e1.trans ex).trans e3) (Bg.new s'.ok.1 hp _) nb av (Bi _) hR
def Nr (L:a7 X scope N js) (hc:X.calm=true) (hi:BI X target iter wi)
  (hg: ∀ s₀ H₀ ex pn,BG (fN X scope N s₀ H₀ ex pn) target g) (ht: ∀ s₀ H₀ ex pn,Ih (fN X scope N s₀ H₀ ex pn) ifs tt) (he: ∀ s₀ H₀ ex pn,BE (fN X scope N s₀ H₀ ex pn) elt te)
  (hs: ∀ x,foldedSetIterable iter X.env x=pure x:=by intro _;rfl):BE X (.SetComp elt [⟨target,iter,ifs,0⟩] scope pos) (Mn X.prog X.w js wi g tt te):=⟨MN L hc hi.out (λa b c d=>(hg a b c d).out) (λa b c d=>(ht a b c d).out) (λa b c d=>(he a b c d).out) hs⟩
def B0 (h:BE X e (LZ (xZ X.prog X.w) (lu (Mn X.prog X.w js (Jz φ X.K false mi) (FH φ bd) (zy φ tt) (oK φ te)) xK))):EF φ X e (λρ=>(DN js mi bd tt te ρ).bind sortI):=BE.mono h λσ H Q hq=>Mv σ H Q hq
end
end
section
variable {φ:dn}
def Cz:typeOf (.builtin "list.extend")=pure (.type "method_descriptor"):=by show builtinType _=_;rw[builtinType_eq_fast];kernel_rfl
section
variable {X:Cx} {st:Stmt}
def M4:PV->M (List PV)
 | .lst l=>.ret l
 |_=>.fail
noncomputable def BZ (k:Nat) (m:ae->M PV):ae->M Fl:=λρ=>match ρ[k]? with|some (.own l)=>(m ρ).bind λy=>(M4 y).bind λzs=>if l.length+zs.length<=100000 then .ret (.nx (ρ.set k (.own (l++zs)))) else .fail|_=>.fail
def JG (h:BS X st (zz (Mr X.K "list" zS (nF k) (lu (oK φ m) xK)))):SV φ X st (BZ k m):=BS.mono h λD σ H hq=>by
 obtain⟨G,O0,H0,O,ρ,n,s,w⟩:=hq
 unfold BZ at w
 cases hk:ρ[k]? with
 |none=>simp only[hk] at w;exact w.elim
 |some t=>
  cases t with
  |own l=>
   simp only[hk] at w
   obtain⟨p,xs,hx,hO,np,hh,rr⟩:=s.es.er.2 k _ hk
   have hs:=dA s.es.er hk hx
   have npB:p≠G.B:=λz=>np (z▸G.pB)
   rw[M.wZ] at w
   refine⟨_,hs,.inl ⟨rfl,xs,bU.of hh⟩,G,O,ρ,n,_,s.es,w,λy x H1 n1 e1 ba r1 w1=>?_⟩
   have hy: ∃ zs,y= .lst zs/\(if l.length+zs.length<=100000 then(M.ret (Fl.nx (ρ.set k (.own (l++zs))))) else M.fail).wp n1 λf n'=>nY G O0 H0 D n' f:=by
    cases y<;>first|exact⟨_,rfl,w1⟩|exact w1.elim
   obtain⟨zs,rfl,w2⟩:=hy
   obtain⟨b,ys,rfl,hb,e⟩:=(bH.full (G:=G) r1).eQ
   by_cases hc:l.length+zs.length<=100000
   ·rw[Qv hc] at w2
    have s1:=s.to e1 ba
    have big:=dY
    have e':=e.1
    refine⟨p,b,xs,ys,rfl,rfl,e1 p _ npB hh,hb,by rw[<-rr.1,<-e.1];lia,w2 O _ _ (s1.put hk hs ((rr.ext s.es.B e1).append e))⟩
   ·rw[Qw hc] at w2;exact w2.elim
  |_=>simp only[hk] at w;exact w.elim
end
def vn (i:Nat) (hN:X.N[i]?=some x:=by rfl) (hv:L8 X.env.scope x:=by first|exact Or.inl rfl|exact Or.inr (Or.inl rfl)|exact Or.inr (Or.inr rfl)) (hd:(x==("__debug__":Str))=false:=by decide) (hcd:(x==("__classdict__":Str))=false:=by decide):EV φ X (.Name x pos) (λρ=>aq ρ i):=Hk i (bv i hN hv hd hcd)
def vb (i:Nat) (hN:X.N[i]?=some x:=by rfl) (hv:L8 X.env.scope x:=by first|exact Or.inl rfl|exact Or.inr (Or.inl rfl)|exact Or.inr (Or.inr rfl)) (hd:(x==("__debug__":Str))=false:=by decide) (hcd:(x==("__classdict__":Str))=false:=by decide):EB φ X (.Name x pos) (λρ=>aq ρ i):=EV.b (vn i hN hv hd hcd)
def ib:EB φ X (.Constant (.int i) j pos) (λ_=>.ret (.int i)):=EV.b gg
def xi (ha:EB φ X a ma) (hb:EB φ X b mb) (hs:uM b:=by exact λ_ _=>rfl):EV φ X (.Subscript a b pos) (ab aw ma mb):=Na KL MS ha hb hs
section
variable {X:Cx}
def a1 (h0:EV φ X e0 m0) (s0:isStar e0=false:=by rfl):AV φ X [e0] (aa m0 (λ_=>.ret [])):=aQ h0 (dJ) s0
def a2 (h0:EV φ X e0 m0) (h1:EV φ X e1 m1) (s0:isStar e0=false:=by rfl) (s1:isStar e1=false:=by rfl):AV φ X [e0,e1] (aa m0 (aa m1 (λ_=>.ret []))):=aQ h0 (aQ h1 (dJ) s1) s0
def a3 (h0:EV φ X e0 m0) (h1:EV φ X e1 m1) (h2:EV φ X e2 m2) (s0:isStar e0=false:=by rfl) (s1:isStar e1=false:=by rfl) (s2:isStar e2=false:=by rfl):AV φ X [e0,e1,e2] (aa m0 (aa m1 (aa m2 (λ_=>.ret [])))):=aQ h0 (aQ h1 (aQ h2 (dJ) s2) s1) s0
def a4 (h0:EV φ X e0 m0) (h1:EV φ X e1 m1) (h2:EV φ X e2 m2) (h3:EV φ X e3 m3) (s0:isStar e0=false:=by rfl) (s1:isStar e1=false:=by rfl) (s2:isStar e2=false:=by rfl) (s3:isStar e3=false:=by rfl):AV φ X [e0,e1,e2,e3] (aa m0 (aa m1 (aa m2 (aa m3 (λ_=>.ret []))))):=aQ h0 (aQ h1 (aQ h2 (aQ h3 (dJ) s3) s2) s1) s0
def a5 (h0:EV φ X e0 m0) (h1:EV φ X e1 m1) (h2:EV φ X e2 m2) (h3:EV φ X e3 m3) (h4:EV φ X e4 m4) (s0:isStar e0=false:=by rfl) (s1:isStar e1=false:=by rfl) (s2:isStar e2=false:=by rfl) (s3:isStar e3=false:=by rfl) (s4:isStar e4=false:=by rfl):AV φ X [e0,e1,e2,e3,e4] (aa m0 (aa m1 (aa m2 (aa m3 (aa m4 (λ_=>.ret [])))))):=aQ h0 (aQ h1 (aQ h2 (aQ h3 (aQ h4 (dJ) s4) s3) s2) s1) s0
def a6 (h0:EV φ X e0 m0) (h1:EV φ X e1 m1) (h2:EV φ X e2 m2) (h3:EV φ X e3 m3) (h4:EV φ X e4 m4) (h5:EV φ X e5 m5) (s0:isStar e0=false:=by rfl) (s1:isStar e1=false:=by rfl) (s2:isStar e2=false:=by rfl) (s3:isStar e3=false:=by rfl) (s4:isStar e4=false:=by rfl) (s5:isStar e5=false:=by rfl):AV φ X [e0,e1,e2,e3,e4,e5] (aa m0 (aa m1 (aa m2 (aa m3 (aa m4 (aa m5 (λ_=>.ret []))))))):=aQ h0 (aQ h1 (aQ h2 (aQ h3 (aQ h4 (aQ h5 (dJ) s5) s4) s3) s2) s1) s0
end
abbrev gv (i:Nat):ae->M PV:=λρ=>aq ρ i
abbrev gb (i:Nat):ae->M PV:=λρ=>eZ ρ i
abbrev cI (i:Int):ae->M PV:=λ_=>M.ret (.int i)
abbrev cS (x:Str):ae->M PV:=λ_=>M.ret (.str x)
abbrev aN:ae->M (List PV):=λ_=>M.ret []
structure bW (K:Frag) (mg:Str->Option Value) (x:Str) (st:Stmt) (a:Addr) (d:FuncData) (ps:List Str):Prop where
 F:Fz K x x st a d
 m:mg x=some (.ref a)
 b:Binds K d ps []
def ec {X:Cx} {x:Str} {p pos:Pos} {e:Expr} {es:List Expr} {st:Stmt} {k k':Nat} {f:Addr} {fd:FuncData} {ps:List Str} {Fm:List PV->M PV} {ml:ae->M (List PV)} (G:di X.prog X.w X.K X.mg X.base i5 k f fd ps (xP φ Fm)) (c:bW X.K X.mg x st f fd ps) (hr:cM k' X.A) (ha:AV φ X (e::es) ml) (hk:k<=k':=by decide) (hg:Gl X x:=by rfl) (nV:(x==("__debug__":Str))=false:=by decide)
  (he:starEach (e::es) X.env=(false,eval e X.env)::starEach es X.env:=by rfl) (ke:(backTo pos (starEach es X.env)).any (·.1)=false:=by rfl):EV φ X (.Call (.Name x p) (e::es) [] pos) (λρ=>(ml ρ).bind Fm):=Az (oD G (hr.mono hk) hg c.m c.F.kp c.b .nil zY ha nV he ke)
structure cV (K:Frag) (x:Str) (st:Stmt) (a:Addr):Prop where
 n:nsIn K mainGlobals x=some (some (.ref a))
 F: ∃ fd,Fz K x x st a fd
def OQ {K:Frag} {x:Str} {st:Stmt} {f:Addr} {oc:Value} {od an:Option Addr} {osl:Array (Option Value)} {kV doc pm eF ct:Value} (n:nsIn K mainGlobals x=some (some (.ref f))) (l:K.lookup f=some ⟨oc,od,.func (fnOf x x (d7 st) (bo st) (ao st) .none kV doc pm an eF ct),osl⟩) (c:codeIn K eF x=true) (k:keepIn K (.ref f)=true):cV K x st f:=⟨n,_,uf l c k⟩
end
section
variable {φ:dn}
def Pl:Expr->List Str
 | .Name x _=>[x]
 | .Tuple es _ _=>es.filterMap λe=>match e with| .Name x _=>some x|_=>none
 |_=>[]
def NU (tg:Expr) (XN:List Str) (js:List (Option Nat)):List Str:=Pl tg++js.filterMap λo=>o.bind λi=>XN[i]?
def Kp:List Str->Bool
 |[]=>true
 |x::r=>!(r.any λy=>x==y)&&Kp r
theorem DJ: ∀ {l:List Str},Kp l=true->l.Nodup
 |[],_=>List.nodup_nil
 |x::r,h=>by
  simp only[Kp,Qk,Bool.not_eq_true',List.any_eq_false,beq_iff_eq] at h
  exact List.nodup_cons.mpr ⟨λw=>h.1 x w rfl,DJ h.2⟩
section
variable {X:Cx} {e tg iter elt:Expr} {es ifs:List Expr} {pos p:Pos} {x:Str} {st:Stmt} {ml:ae->M (List PV)} {k:Nat} {js:List (Option Nat)} {scope:Scope}
def Nj:Jl X [] (eM []):=uy
def Ni (h1:BG X e (c7 k)) (h2:Jl X es (eM ks)) (hs:(assignEach (e::es) X.env).map (·.2)=assign e X.env::(assignEach es X.env).map (·.2)):Jl X (e::es) (eM (k::ks)):=gF h1 h2 hs
def EJ (h:Jl X es (eM ks)) (hc:X.calm=true) (hn:(assignEach es X.env).length=ks.length) (hst:(assignEach es X.env).findIdx? (·.1)=none):BG X (.Tuple es k p) (yx X.K ks.length (eM ks)):=yP hc h hn hst
def O1 (h:EF φ X e ml):EV φ X e (aE ml):=EF.v h
def Ob {op:BoolOp} {mt:ae->M Bool} (h:WV φ X (.BoolOp op es pos) mt):TV φ X (.BoolOp op es pos) mt:=WV.t h
section
variable {wi:TI} {g:TG} {tt:TT} {te:TE} (hi:BI X tg iter wi) (hg: ∀ s₀ H₀ ex pn,BG (fN X scope (NU tg X.N js) s₀ H₀ ex pn) tg g) (ht: ∀ s₀ H₀ ex pn,Ih (fN X scope (NU tg X.N js) s₀ H₀ ex pn) ifs tt) (he: ∀ s₀ H₀ ex pn,BE (fN X scope (NU tg X.N js) s₀ H₀ ex pn) elt te) (hL:KC scope X.env.scope X.N (NU tg X.N js) js=true) (hc:X.calm=true) (hs: ∀ x,foldedSetIterable iter X.env x=pure x)
include hi hg ht he hL hc hs
theorem E2:BE X (.ListComp elt [⟨tg,iter,ifs,0⟩] scope pos) (Cj js wi g tt te):=E3 (a7.Kv _ _ rfl rfl hL) hc hi hg ht he hs
theorem LA:BE X (.SetComp elt [⟨tg,iter,ifs,0⟩] scope pos) (Mn X.prog X.w js wi g tt te):=Nr (a7.Kv _ _ rfl rfl hL) hc hi hg ht he hs
theorem uw (hsw:swapsWith (.ListComp elt [⟨tg,iter,ifs,0⟩] scope pos) (some (.Name y py)) spos.line X.env=pure true) (hk:X.N[k]?=some y) (hy:Loc X.env.scope y) (hf:X.fn y=true\/X.env.scope.names.lookup y=some .local) (hN:X.N.Nodup):
  BS X (.Assign [.Name y py] (.ListComp elt [⟨tg,iter,ifs,0⟩] scope pos) spos) (gL (Cj js wi g tt te) (c7 k)):=EW hN hk hy (a7.Kv _ _ rfl rfl hL) hc hi hg ht he hsw hs hf
end
section
variable {P:Program} {w:World} {K:Frag} {mg:Str->Option Value} {base:Heap} {f:Addr} {fd:FuncData} {ps:List Str} {Fm:List PV->M PV}
abbrev km (P:Program) (w:World) (base:Heap) (φ:dn) (k:Nat) (_:bW K mg x st f fd ps) (F:List PV->M PV):Prop:=di P w K mg base i5 k f fd ps (xP φ F)
def K3 (C:bW K mg x st f fd ps) (S:aB N ps (ao st)) (hF:Fm=gp ps.length N.length m) (hN:ps.length<=N.length) (eb:bo st=body) (es:ao st=sc)
  (hb: ∀ (eF:Value) (A:Around) (outer:List Env) (s:Shared) (H:Hp) (E:XK),cM k (A.deeper (envOfC x sc s.heap.objs.size f eF))->Fd φ (gE i5 P w K mg base N x sc f eF A outer s H E).rH body m):km P w base φ (k+1) C Fm:=K4 hF C.F S hN eb es hb
section
variable (G:di P w K mg base i5 k f fd ps (xP φ Fm)) (C:bW K mg x st f fd ps) (hr:cM k X.A) (hX:(X.prog,X.w,X.K,X.mg,X.base)=(P,w,K,mg,base)) (hg:Gl X x) (nV:(x==("__debug__":Str))=false) (he:starEach (e::es) X.env=(false,eval e X.env)::starEach es X.env) (ke:(backTo pos (starEach es X.env)).any (·.1)=false)
include G C hr hX hg nV he ke
theorem Nl (ha:AV φ X (e::es) ml):EV φ X (.Call (.Name x p) (e::es) [] pos) (λρ=>(ml ρ).bind Fm):=by
 cases hX
 exact Az (oD G hr hg C.m C.F.kp C.b .nil zY ha nV he ke)
theorem Lu (ha:AB φ X (e::es) ml):EV φ X (.Call (.Name x p) (e::es) [] pos) (λρ=>(ml ρ).bind λl=>(Fm l).bind m9):=by
 cases hX
 exact Er (oD G hr hg C.m C.F.kp C.b .nil zY ha nV he ke)
end
end
end
end
end L2
namespace K80
open L2
open L2.Ent (val un)
def top (i:Nat):Stmt:=PySem.Challenge.pw_homeslopes_k80_whole_open_at_every_momen.main.body.getD i (.Pass ⟨0,0,0,0⟩)
def i4 {N P:List Str} {sc:Scope} (h:sc.kind=.function/\sc.isCoroutine=false/\sc.isGenerator=false/\N.Nodup/\N.take P.length=P/\(∀x∈P,sc.names.lookup x=some .local\/sc.names.lookup x=some .cell)/\∀y∈sc.names,y.2≠.free):aB N P sc:=⟨h.1,h.2.1,h.2.2.1,h.2.2.2.1,h.2.2.2.2.1,h.2.2.2.2.2.1,h.2.2.2.2.2.2⟩
abbrev jc:Stmt:=top 1
def sQ:aB ["hill","name","way"] ["hill","name"] (ao jc):=i4 (by decide +kernel)
abbrev jk:Stmt:=top 3
def sZ:aB ["book","kind","name","t","found","page"] ["book","kind","name","t"] (ao jk):=i4 (by decide +kernel)
abbrev l7:Stmt:=top 4
def xR:aB ["book","post","t","page"] ["book","post","t"] (ao l7):=i4 (by decide +kernel)
abbrev kr:Stmt:=top 5
def vf:aB ["book","w","t","page"] ["book","w","t"] (ao kr):=i4 (by decide +kernel)
abbrev jf:Stmt:=top 6
def sT:aB ["book","w","t","page"] ["book","w","t"] (ao jf):=i4 (by decide +kernel)
abbrev gU:Stmt:=top 8
def qA:aB ["book","rule","t","word","post","n","value"] ["book","rule","t"] (ao gU):=i4 (by decide +kernel)
abbrev gV:Stmt:=top 9
def qB:aB ["book","way","n","t","m"] ["book","way","n","t"] (ao gV):=i4 (by decide +kernel)
abbrev gf:Stmt:=top 10
def oV:aB ["book","way","rule","t","word"] ["book","way","rule","t"] (ao gf):=i4 (by decide +kernel)
abbrev fj:Stmt:=top 11
def nH:aB ["book","way","t","rules"] ["book","way","t"] (ao fj):=i4 (by decide +kernel)
abbrev gZ:Stmt:=top 12
def qE:aB ["asked","found","before","name"] ["asked"] (ao gZ):=i4 (by decide +kernel)
abbrev je:Stmt:=top 13
def sS:aB ["hill","book","t","asked","way","others","found"] ["hill","book","t"] (ao je):=i4 (by decide +kernel)
abbrev kq:Stmt:=top 14
def ve:aB ["hill","book","w","t","way","names","at","rule","holds"] ["hill","book","w","t"] (ao kq):=i4 (by decide +kernel)
abbrev gR:Stmt:=top 16
def qz:aB ["book","w","rule"] ["book","w","rule"] (ao gR):=i4 (by decide +kernel)
abbrev tf:Stmt:=top 17
def CZ:aB ["hill","book","found","page","rule"] ["hill","book"] (ao tf):=i4 (by decide +kernel)
abbrev jd:Stmt:=top 18
def sR:aB ["hill","book"] ["hill","book"] (ao jd):=i4 (by decide +kernel)
abbrev fi:Stmt:=top 19
def nG:aB ["parts","w","dark","found","begun","m","names"] ["parts","w","dark"] (ao fi):=i4 (by decide +kernel)
abbrev tj:Stmt:=top 20
def C0:aB ["hill","book","w"] ["hill","book","w"] (ao tj):=i4 (by decide +kernel)
abbrev l8:Stmt:=top 21
def xS:aB ["hill","book","w","t","now","m","then"] ["hill","book","w","t"] (ao l8):=i4 (by decide +kernel)
abbrev eD:Stmt:=top 23
def bN:aB ["_law_script","_law_digits","_law_cell","_law_seed","_law_k"] ["_law_script"] (ao eD):=i4 (by decide +kernel)
abbrev kC:Stmt:=top 24
def fP:aB ["_law_state","_law_many","_law_found","_law_far"] ["_law_state","_law_many"] (ao kC):=i4 (by decide +kernel)
abbrev ku:Stmt:=top 25
def vg:aB ["_law_state","_law_taken","_law_letters","_law_size","_law_word_here"] ["_law_state","_law_taken"] (ao ku):=i4 (by decide +kernel)
abbrev jg:Stmt:=top 26
def sU:aB ["_law_state","_law_many","_law_found","_law_k"] ["_law_state","_law_many"] (ao jg):=i4 (by decide +kernel)
abbrev kF:Stmt:=top 27
def vm:aB ["_law_state","_law_most","_law_scale","_law_spots","_law_names","_law_ways","_law_name","_law_kind","_law_ends"] ["_law_state","_law_most","_law_scale"] (ao kF):=i4 (by decide +kernel)
abbrev gX:Stmt:=top 28
def qD:aB ["_law_state","_law_hill_here","_law_scale"] ["_law_state","_law_hill_here","_law_scale"] (ao gX):=i4 (by decide +kernel)
abbrev kA:Stmt:=top 29
def vj:aB ["_law_state","_law_hill_here","_law_posts","_law_scale","_law_way","_law_post","_law_value","_law_first","_law_last","_law_other"] ["_law_state","_law_hill_here","_law_posts","_law_scale"] (ao kA):=i4 (by decide +kernel)
abbrev gW:Stmt:=top 30
def qC:aB ["_law_state","_law_taken","_law_number_here","_law_some"] ["_law_state","_law_taken"] (ao gW):=i4 (by decide +kernel)
abbrev ji:Stmt:=top 31
def sX:aB ["_law_state","_law_hill_here","_law_scale","_law_many","_law_posts","_law_slopes","_law_pages_here","_law_taken","_law_k","_law_kind","_law_moment_here","_law_name","_law_size","_law_rules_here","_law_value"] ["_law_state","_law_hill_here","_law_scale","_law_many"] (ao ji):=i4 (by decide +kernel)
abbrev cn:Stmt:=top 32
def vo:aB ["_law_pages_here"] ["_law_pages_here"] (ao cn):=i4 (by decide +kernel)
abbrev bQ:Stmt:=top 33
def mX:aB ["_law_pages_here","_law_kind","_law_name","_law_t","_law_found"] ["_law_pages_here","_law_kind","_law_name","_law_t"] (ao bQ):=i4 (by decide +kernel)
abbrev jj:Stmt:=top 34
def sY:aB ["_law_pages_here","_law_name","_law_rule_here","_law_t","_law_opened","_law_look","_law_told"] ["_law_pages_here","_law_name","_law_rule_here","_law_t","_law_opened"] (ao jj):=i4 (by decide +kernel)
abbrev jh:Stmt:=top 35
def sV:aB ["_law_pages_here","_law_name","_law_t","_law_told"] ["_law_pages_here","_law_name","_law_t"] (ao jh):=i4 (by decide +kernel)
abbrev kE:Stmt:=top 36
def vk:aB ["_law_hill_here","_law_pages_here","_law_t","_law_rules_here","_law_before","_law_opened","_law_name","_law_some"] ["_law_hill_here","_law_pages_here","_law_t"] (ao kE):=i4 (by decide +kernel)
abbrev kx:Stmt:=top 37
def vh:aB ["_law_hill_here","_law_pages_here","_law_opened","_law_t","_law_found","_law_way","_law_rules_here","_law_failing"] ["_law_hill_here","_law_pages_here","_law_opened","_law_t"] (ao kx):=i4 (by decide +kernel)
abbrev l9:Stmt:=top 38
def xT:aB ["_law_table","_law_whys_here","_law_w","_law_t","_law_now","_law_later","_law_m"] ["_law_table","_law_whys_here","_law_w","_law_t"] (ao l9):=i4 (by decide +kernel)
abbrev kz:Stmt:=top 39
def vi:aB ["_law_table","_law_w","_law_runs_here","_law_t","_law_opened"] ["_law_table","_law_w"] (ao kz):=i4 (by decide +kernel)
abbrev fQ:Stmt:=top 40
def dC:aB ["_law_script","_law_state","_law_ways","_law_home","_law_dark","_law_hill_here","_law_pages_here","_law_book_here","_law_table","_law_whys_here","_law_way","_law_t","_law_w"] ["_law_script"] (ao fQ):=i4 (by decide +kernel)
structure N7 where
 (jO jS mR lg jR iJ iK gm fF iL jQ k9 iI uK jP fE uL mS j6 qj yR uC yW ql yU qk uE k7 k6 uF uD yV yS E6 yT sC cf ak cb ah:Addr)
structure N5 where
 (wG wK B3 yG wJ uo uq qQ p8 ur wI yF um Hw wH p7 Hy B4 uj yC Le Hq Lj EG Lh EE Hs yE yD Hu Hr Li Lf Nd Lg IY:FuncData)
structure Txt (K:Frag) (mg:Str->Option Value) (aZ:N7) (dZ:N5):Prop where
 jJ:bW K mg "way_named" jc aZ.jO dZ.wG ["hill","name"]
 eI:bW K mg "last_page" jk aZ.jS dZ.wK ["book","kind","name","t"]
 mN:bW K mg "reading" l7 aZ.mR dZ.B3 ["book","post","t"]
 iz:bW K mg "rules_at" kr aZ.lg dZ.yG ["book","w","t"]
 jL:bW K mg "looked_at" jf aZ.jR dZ.wJ ["book","w","t"]
 iB:bW K mg "post_holds" gU aZ.iJ dZ.uo ["book","rule","t"]
 iC:bW K mg "look_holds" gV aZ.iK dZ.uq ["book","way","n","t"]
 d8:bW K mg "holds_alone" gf aZ.gm dZ.qQ ["book","way","rule","t"]
 fD:bW K mg "others_asked" fj aZ.fF dZ.p8 ["book","way","t"]
 iF:bW K mg "found_open" gZ aZ.iL dZ.ur ["asked"]
 eG:bW K mg "open_ways" je aZ.jQ dZ.wI ["hill","book","t"]
 iy:bW K mg "why_shut" kq aZ.k9 dZ.yF ["hill","book","w","t"]
 iA:bW K mg "rule_turns" gR aZ.iI dZ.um ["book","w","rule"]
 oC:bW K mg "turns" tf aZ.uK dZ.Hw ["hill","book"]
 jK:bW K mg "stretches" jd aZ.jP dZ.wH ["hill","book"]
 fC:bW K mg "spans_within" fi aZ.fE dZ.p7 ["parts","w","dark"]
 uv:bW K mg "spans" tj aZ.uL dZ.Hy ["hill","book","w"]
 mO:bW K mg "outlook" l8 aZ.mS dZ.B4 ["hill","book","w","t"]
 fV:bW K mg "_law_start" eD aZ.j6 dZ.uj ["_law_script"]
 bI:bW K mg "_law_pick" kC aZ.qj dZ.yC ["_law_state","_law_many"]
 kW:bW K mg "_law_word" ku aZ.yR dZ.Le ["_law_state","_law_taken"]
 fU:bW K mg "_law_words" jg aZ.uC dZ.Hq ["_law_state","_law_many"]
 k5:bW K mg "_law_hill" kF aZ.yW dZ.Lj ["_law_state","_law_most","_law_scale"]
 iE:bW K mg "_law_moment" gX aZ.ql dZ.EG ["_law_state","_law_hill_here","_law_scale"]
 kZ:bW K mg "_law_rule" kA aZ.yU dZ.Lh ["_law_state","_law_hill_here","_law_posts","_law_scale"]
 iD:bW K mg "_law_number" gW aZ.qk dZ.EE ["_law_state","_law_taken"]
 jM:bW K mg "_law_pages" ji aZ.uE dZ.Hs ["_law_state","_law_hill_here","_law_scale","_law_many"]
 yN:bW K mg "_law_book" cn aZ.k7 dZ.yE ["_law_pages_here"]
 qc:bW K mg "_law_page" bQ aZ.k6 dZ.yD ["_law_pages_here","_law_kind","_law_name","_law_t"]
 fX:bW K mg "_law_holds" jj aZ.uF dZ.Hu ["_law_pages_here","_law_name","_law_rule_here","_law_t","_law_opened"]
 fW:bW K mg "_law_rules" jh aZ.uD dZ.Hr ["_law_pages_here","_law_name","_law_t"]
 k4:bW K mg "_law_open" kE aZ.yV dZ.Li ["_law_hill_here","_law_pages_here","_law_t"]
 kX:bW K mg "_law_whys" kx aZ.yS dZ.Lf ["_law_hill_here","_law_pages_here","_law_opened","_law_t"]
 mP:bW K mg "_law_due" l9 aZ.E6 dZ.Nd ["_law_table","_law_whys_here","_law_w","_law_t"]
 kY:bW K mg "_law_runs" kz aZ.yT dZ.Lg ["_law_table","_law_w"]
 Nm:bW K mg "law" fQ aZ.sC dZ.IY ["_law_script"]
 IM:mg "len"=none
 M1:mg "abs"=none
 M0:mg "all"=none
 oo:mg "range"=none
 MZ:mg "int"=none
 t4:mg "tuple"=none
 IL:mg "max"=none
 IK:mg "min"=none
 vV:mg "sorted"=none
 fR:mg "enumerate"=none
 yq:mg "reversed"=none
 kK:mg "repr"=none
 qr:Cd K "_law_book" "_law_book" cn aZ.k7 dZ.yE aZ.cf aZ.ak
 qq:Cd K "_law_page" "_law_page" bQ aZ.k6 dZ.yD aZ.cb aZ.ah
 jo:aZ.ak≠aZ.ah
 jn:aZ.ah≠aZ.ak
abbrev cO (ak ah:Addr) (K:Frag):dn:=yy K [(ak,(("_law_book":Str)++".<locals>."++"<lambda>")),(ah,(("_law_page":Str)++".<locals>."++"<lambda>"))]
def J0 (h0:0<=i) (h1:i < 2 ^ 80):(0:Int)<=3/\(Builtin.Int.intBits i:Int) * 3<=2 ^ 27:=by
 have h2:i.natAbs < 2 ^ 80:=by
  have e:(2:Int) ^ 80=((2 ^ 80:Nat):Int):=by decide
  rw[e] at h1
  lia
 have:=intBits_le h2
 refine⟨by decide,?_⟩
 have e:(2:Int) ^ 27=134217728:=by decide
 rw[e]
 lia
def Gr (h0:0<=i) (h1:i < 2 ^ 80):(0:Int)<=5/\(Builtin.Int.intBits i:Int) * 5<=2 ^ 27:=by
 have h2:i.natAbs < 2 ^ 80:=by
  have e:(2:Int) ^ 80=((2 ^ 80:Nat):Int):=by decide
  rw[e] at h1
  lia
 have:=intBits_le h2
 refine⟨by decide,?_⟩
 have e:(2:Int) ^ 27=134217728:=by decide
 rw[e]
 lia
def mB (h0:0<=j) (h1:j < 2 ^ 63):mW i j:=by
 have e:(2:Int) ^ 63=9223372036854775808:=by decide
 have e2:(2:Int) ^ 64=18446744073709551616:=by decide
 rw[e] at h1
 exact .inr ⟨by rw[e2];lia,by rw[e2];lia⟩
def ic (h0:0<=i) (h1:i < 2 ^ 63):mW i j:=by
 have e:(2:Int) ^ 63=9223372036854775808:=by decide
 have e2:(2:Int) ^ 64=18446744073709551616:=by decide
 rw[e] at h1
 exact .inl ⟨by rw[e2];lia,by rw[e2];lia⟩
def M3 {i:Int} (h:i < 1208925819614629174706176):i < 2 ^ 80:=by
 have e:(2:Int) ^ 80=1208925819614629174706176:=by decide
 rw[e];exact h
def GK {P:Program} {w:World} {K:Frag} {mg:Str->Option Value} {base:Heap} {aZ:N7} {dZ:N5} (T:Txt K mg aZ dZ):di P w K mg base i5 1 aZ.qj dZ.yC ["_law_state","_law_many"] CQ:=by
 refine T.bI.F.ok fP (λvs H Q E h=>?_) (λeF A outer s H vs Q E hr h=>?_)
 ·obtain⟨a,n,m,rfl,_⟩:=h
  rfl
 obtain⟨a,n,m,rfl,pik,hn,hm0,hm1,q⟩:=h
 obtain⟨d,sd,k,e1,d0,s0,s1,k0,k1⟩:=pik.ex
 have fin: ∀ d' k':Int,0<=d'->0<=k'->k'<=n+1->Ny (upd H a (.lst [.int d',.int sd,.int k'])) a (n+1):=λd' k' h1 h2 h3=>⟨d',sd,k',av,h1,s0,s1,h2,by lia⟩
 refine⟨_,(cq (Df (n6 DE (gy eX (pv 0) aP (λ_ _=>rfl)) aP (fq _)) (cq (jl (i:=2) fP.nd rfl (Or.inl rfl) (bG hV (gy eX (pv 0) aP (λ_ _=>rfl)) (pv 1)))
  (cq (ya (bG tR (gy eX (pv 0) aP (λ_ _=>rfl)) (pv 1)) (tI (pv 0) aP set_list))
  (g9 (tG (pv 2))))) tF)
  (cq (ya (bG hZ (gy eX (pv 0) aP (λ_ _=>rfl)) aP) (tI (pv 0) aP set_list))
  (cq (jl (i:=3) fP.nd rfl (Or.inl rfl) (bG hV (bG lD (bG hZ (gy eX (pv 0) aP (λ_ _=>rfl)) (bG my aP (gy eX (pv 0) aP (λ_ _=>rfl)))) aP) aP))
  (cq (jl (i:=3) fP.nd rfl (Or.inl rfl) (bG hV (bG my (bG hZ (pv 3) (bG my aP (gy eX (pv 0) aP (λ_ _=>rfl)))) (bG hZ (bG hV (pv 3) aP) aP)) aP))
  (g9 (tG (bG hV (bG hZ (bG tR (pv 3) aP) (bG tR (pv 3) aP)) (pv 1)))))))),?_⟩
 refine⟨_,rfl,a,_,_,_,rfl,rfl,bU.of e1,rfl,_,_,rfl,rfl,_,rfl,?_⟩
 refine KR (λc1=>?_) (λc1=>?_)
 ·refine⟨_,rfl,a,_,_,_,rfl,rfl,bU.of e1,rfl,_,rfl,_,_,rfl,rfl,hm0,?_⟩
  refine⟨_,rfl,a,_,_,_,rfl,rfl,bU.of e1,rfl,_,rfl,_,_,rfl,rfl,⟨hm0,hm1⟩,?_⟩
  refine⟨_,rfl,a,_,_,_,rfl,rfl,e1,rfl,?_⟩
  refine⟨_,rfl,?_⟩
  exact q _ _ (Int.emod_nonneg _ (by lia)) (Int.emod_lt_of_pos _ hm0) (fin _ _ (Int.ediv_nonneg d0 (by lia)) k0 (by lia))
 ·refine⟨_,rfl,a,_,_,_,rfl,rfl,bU.of e1,rfl,_,_,rfl,rfl,_,rfl,a,_,_,_,rfl,rfl,e1,rfl,?_⟩
  refine⟨_,rfl,a,_,_,_,rfl,rfl,bU.of av,rfl,_,rfl,a,_,_,_,rfl,rfl,bU.of av,rfl,_,_,rfl,rfl,ic (by decide) (by decide),_,_,rfl,rfl,_,_,rfl,rfl,J0 (by lia) (M3 (by lia)),_,_,rfl,rfl,(by show (0:Int) < _;decide),?_⟩
  refine⟨_,rfl,_,rfl,a,_,_,_,rfl,rfl,bU.of av,rfl,_,_,rfl,rfl,ic (by decide) (by decide),_,_,rfl,rfl,_,rfl,_,_,rfl,rfl,(by show (0:Int) < _;decide),_,_,rfl,rfl,_,_,rfl,rfl,mB ?_ ?_,_,_,rfl,rfl,(by show (0:Int) < _;decide),?_⟩
  ·have:=Int.emod_nonneg (((sd+982451653 * (k+1)) ^ (3:Int).toNat) % 2305843009213693921) (show (179424673:Int)≠0 by decide)
   lia
  ·have:=Int.emod_lt_of_pos (((sd+982451653 * (k+1)) ^ (3:Int).toNat) % 2305843009213693921) (show (0:Int) < 179424673 by decide)
   have e:(2:Int) ^ 63=9223372036854775808:=by decide
   rw[e]
   lia
  ·refine⟨_,rfl,_,_,rfl,rfl,⟨by decide,by decide⟩,_,rfl,_,_,rfl,rfl,⟨by decide,by decide⟩,_,_,rfl,rfl,_,rfl,_,_,rfl,rfl,hm0,?_⟩
   exact q _ _ (Int.emod_nonneg _ (by lia)) (Int.emod_lt_of_pos _ hm0) (fin d (k+1) d0 (by lia) (by lia))
def EM (ns:List Int):lQ (ns.map V.int) none (some 63)=(ns.take 63).map V.int:=by
 unfold lQ
 rw[HT.oX]
 have e:HT.cL (ns.map V.int).length (ns.map V.int).length (some 63)=min 63 (ns.map V.int).length:=HT.tm _ _ 63
 rw[e,List.drop_zero,Nat.sub_zero,PD,<-List.map_take]
 congr 1
 rw[List.take_eq_take_iff]
 lia
def O2 (ns:List Int):lQ (ns.map V.int) none (some 1)=(ns.take 1).map V.int:=by
 unfold lQ
 rw[HT.oX]
 have e:HT.cL (ns.map V.int).length (ns.map V.int).length (some 1)=min 1 (ns.map V.int).length:=HT.tm _ _ 1
 rw[e,List.drop_zero,Nat.sub_zero,PD,<-List.map_take]
 congr 1
 rw[List.take_eq_take_iff]
 lia
def HI (h0:0<=d) (h1:d < (10 ^ (60:Int).toNat:Int) ^ i) (hi:i<=63):Builtin.Int.intBits d<=2 ^ 20:=by
 have e1:d.natAbs < (2 ^ 200) ^ i:=by
  have e2:(10 ^ (60:Int).toNat:Int)=((10 ^ 60:Nat):Int):=by decide +kernel
  rw[e2,<-Int.natCast_pow] at h1
  have h2:d.natAbs < (10 ^ 60) ^ i:=by
   have:=Int.natAbs_of_nonneg h0
   rw[<-this] at h1
   exact Int.ofNat_lt.mp h1
  exact P9 h2 (Nat.pow_le_pow_left (by decide +kernel) i)
 rw[<-Nat.pow_mul] at e1
 have:=intBits_le e1
 have e3:(2:Nat) ^ 20=1048576:=by decide
 lia
def DH {P:Program} {w:World} {K:Frag} {mg:Str->Option Value} {base:Heap} {aZ:N7} {dZ:N5} (T:Txt K mg aZ dZ):di P w K mg base i5 1 aZ.j6 dZ.uj ["_law_script"] (sJ K):=by
 refine T.fV.F.ok bN (λvs H Q E h=>?_) (λeF A outer s H vs Q E hr h=>?_)
 ·obtain⟨a,ns,rfl,_⟩:=h
  rfl
 obtain⟨a,ns,rfl,hS,h63,q⟩:=h
 have cZ:=Nat.lt_of_succ_lt (Ea hr)
 have hl63:((ns.take 63).map V.int).length<=63:=by rw[PD,List.length_take];lia
 have isInt: ∀ (x:V),x∈(ns.take 63).map V.int->∃ y:Int,x= .int y:=λx e=>by
  obtain⟨y,_,z⟩:=PX.mp e
  exact⟨y,z.symm⟩
 have b60:((0:Int)<=60)/\(Builtin.Int.intBits 10:Int) * 60<=2 ^ 27:=by decide
 have p60:(0:Int) < 10 ^ (60:Int).toNat:=by decide +kernel
 have hb60:Builtin.Int.intBits (10 ^ (60:Int).toNat)<=2 ^ 20:=by decide +kernel
 have rest: ∃ t,xx (gE i5 P w K mg base ["_law_script","_law_digits","_law_cell","_law_seed","_law_k"] "_law_start" (ao eD) aZ.j6 eF A outer s H E).rH ((bo eD).drop 2) t/\∀ (dg:Int) (v2:Option V) (H1:Hp),0<=dg->eJ H H1->t {nx:=λ_ H'=>Q .aD H',rt:=Q} [some (.ref a),some (.int dg),v2,none,none] H1:=by
  refine⟨_,(cq (jl (i:=3) bN.nd rfl (Or.inl rfl) aP)
  (cq (tH PassesOwn.never rfl (Dl rfl T.fR PyProof.Rows.boot_enumerate (cD (lB nZ (pv 0) n9 (n8 aP)) eL)) (Dn rfl (o7 (oe (i:=4) bN.nd rfl (Or.inl rfl)) (o7 (oe (i:=2) bN.nd rfl (Or.inl rfl)) zX))) (g9 (jl (i:=3) bN.nd rfl (Or.inl rfl) (bG hV (bG lD (bG hZ (bG hZ (bG my (pv 3) aP) (bG hV (pv 2) aP)) (bG my aP (pv 4))) aP) aP))))
  (g9 (tG (yd (cD (pv 1) (cD (pv 3) (cD aP eL)))))))),λdg v2 H1 dg0 sm1=>?_⟩
  refine⟨_,rfl,63,rfl,a,_,rfl,sm1.seq hS,λu hu=>?_⟩
  rw[EM ns]
  have g2:eJ H1 (upd H1 u (.lst ((ns.take 63).map V.int))):=gx hu _
  have hu2:upd H1 u (.lst ((ns.take 63).map V.int)) u=some (.lst ((ns.take 63).map V.int)):=av
  generalize upd H1 u (.lst ((ns.take 63).map V.int))=H2 at g2 hu2
  refine⟨u,_,rfl,bU.of hu2,?_⟩
  refine El (xs:=(ns.take 63).map V.int) (λi σ H'=> ∃ (sd:Int) (v2 v4:Option V),σ=[some (.ref a),some (.int dg),v2,some (.int sd),v4]/\eJ H2 H'/\0<=sd/\sd < 2305843009213693951) ⟨271828182,_,none,rfl,λ_ _ h=>h,by decide,by decide⟩ ?_ ?_ ?_
  ·rintro i σ H' _ ⟨sd,v2,v4,_,sm,_⟩
   exact bU.of (sm _ _ hu2)
  ·rintro i x σ H' T hx hT ⟨sd,v2,v4,rfl,sm,s0,s1⟩
   obtain⟨y,rfl⟩:=isInt x (List.mem_of_getElem? hx)
   have hi:i < 63:=P9 (PL.mp hx).1 hl63
   have r0:=Int.emod_nonneg y (show (2305843009213693951:Int)≠0 by decide)
   have r1:=Int.emod_lt_of_pos y (show (0:Int) < 2305843009213693951 by decide)
   refine⟨T,_,rfl,dh.of av,rfl,_,_,rfl,_,_,rfl,rfl,?_⟩
   refine⟨_,rfl,_,_,rfl,rfl,mB (by decide) (by decide),_,rfl,_,_,rfl,rfl,(by show (0:Int) < _;decide),_,_,rfl,rfl,_,rfl,_,_,rfl,rfl,ic (by decide) (by decide),_,_,rfl,rfl,_,_,rfl,rfl,Gr (by lia) (M3 (by lia)),_,_,rfl,rfl,(by show (0:Int) < _;decide),?_⟩
   exact⟨_,_,_,rfl,sm.trans (gx hT _),Int.emod_nonneg _ (by decide),Int.emod_lt_of_pos _ (by decide)⟩
  ·rintro σ H' ⟨sd,v2,v4,rfl,sm,s0,s1⟩
   refine⟨_,rfl,_,rfl,(by show 3<=sizeLine;decide),λb hb=>?_⟩
   exact q b _ (sm1.trans (g2.trans (sm.trans (gx hb _)))) ⟨dg,sd,0,av,dg0,s0,s1,Int.le_refl 0,by lia⟩
 obtain⟨tt,dt,ht⟩:=rest
 refine⟨_,(cq (jl (i:=1) bN.nd rfl (Or.inl rfl) aP)
  (cq (Df (PW.pt (C8 (n6 (Br cZ) (lB nZ (pv 0) n9 (n8 aP)) (yd eL) (fq _)) (zU (n6 DF (gy eX (pv 0) aP (λ_ _=>rfl)) (bG lD aP aP) (fq _))))) (g9 (tH PassesOwn.never rfl (J1 rfl T.yq PyProof.Rows.boot_reversed (cD (lB nZ (pv 0) n9 (n8 aP)) eL)) (oe (i:=2) bN.nd rfl (Or.inl rfl)) (g9 (jl (i:=1) bN.nd rfl (Or.inl rfl) (bG hZ (bG GH (pv 1) (bG lD aP aP)) (bG hV (vx ET rfl T.M1 PyProof.Rows.boot_abs (cD (pv 2) eL)) (bG lD aP aP))))))) tF)
  dt)),?_⟩
 have b18:((0:Int)<=18)/\(Builtin.Int.intBits 10:Int) * 18<=2 ^ 27:=by decide
 refine⟨_,rfl,1,rfl,a,_,rfl,hS,λu hu=>?_⟩
 rw[O2 ns]
 have g1:eJ H (upd H u (.lst ((ns.take 1).map V.int))):=gx hu _
 have gu:upd H u (.lst ((ns.take 1).map V.int)) u=some (.lst ((ns.take 1).map V.int)):=av
 generalize upd H u (.lst ((ns.take 1).map V.int))=H1 at g1 gu
 refine⟨(by show 0<=sizeLine;exact Qe _),λu2 hu2=>?_⟩
 have g2:eJ H1 (upd H1 u2 (.lst [])):=gx hu2 _
 refine⟨u,u2,_,rfl,rfl,bU.of (g2 _ _ gu),bU.of av,_,rfl,?_⟩
 generalize upd H1 u2 (.lst [])=H2 at g2
 have sm2:eJ H H2:=g1.trans g2
 refine KR (λc1=>?_) (λc1=>?_)
 ·cases ns with
  |nil=>cases c1
  |cons y ns=>
  refine⟨_,rfl,a,_,_,_,rfl,rfl,sm2.seq hS,iZ y ns,_,_,rfl,rfl,b18,_,_,rfl,rfl,_,rfl,?_⟩
  refine KR (λc2=>?_) (λc2=>?_)
  ·refine⟨_,rfl,63,rfl,a,_,rfl,sm2.seq hS,λu3 hu3=>?_⟩
   rw[EM (y::ns)]
   have g3:eJ H2 (upd H2 u3 (.lst (((y::ns).take 63).map V.int))):=gx hu3 _
   have gu3:upd H2 u3 (.lst (((y::ns).take 63).map V.int)) u3=some (.lst (((y::ns).take 63).map V.int)):=av
   generalize upd H2 u3 (.lst (((y::ns).take 63).map V.int))=H3 at g3 gu3
   refine⟨u3,_,rfl,bU.of gu3,?_⟩
   obtain⟨Bs,hBs,pB,bB,kB⟩: ∃ Bs:Int,10 ^ (60:Int).toNat=Bs/\0 < Bs/\Builtin.Int.intBits Bs<=2 ^ 20/\∀ (d:Int) (i:Nat),0<=d->d < Bs ^ i->i<=63->Builtin.Int.intBits d<=2 ^ 20:=⟨_,rfl,p60,hb60,λd i=>HI⟩
   refine Hh (xs:=((y::ns).take 63).map V.int) (λi σ H'=> ∃ (dg:Int) (v2:Option V),σ=[some (.ref a),some (.int dg),v2,none,none]/\H'=H3/\0<=dg/\dg < Bs ^ i) ⟨0,none,rfl,rfl,Int.le_refl 0,by rw[Int.pow_zero];decide⟩ ?_ ?_ ?_
   ·rintro i σ H' _ ⟨dg,v2,_,rfl,_⟩
    exact bU.of gu3
   ·rintro i x σ H' hx hi ⟨dg,v2,rfl,rfl,dg0,dg1⟩
    obtain⟨z,rfl⟩:=isInt x hx
    have hi63:i<=63:=by lia
    refine⟨_,rfl,_,_,rfl,rfl,b60,?_⟩
    simp only[hBs]
    refine⟨_,_,rfl,rfl,IntMulOk.of_bits (kB dg i dg0 dg1 hi63) bB,_,rfl,z,rfl,_,_,rfl,rfl,b60,?_⟩
    simp only[hBs]
    refine⟨_,_,rfl,rfl,pB,_,_,rfl,rfl,?_⟩
    have r0:=Int.emod_nonneg (if z < 0 then -z else z) (Int.ne_of_gt pB)
    have r1:=Int.emod_lt_of_pos (if z < 0 then -z else z) pB
    refine⟨_,_,rfl,rfl,?_,?_⟩
    ·exact Int.add_nonneg (Int.mul_nonneg dg0 (Int.le_of_lt pB)) r0
    ·have h1:dg+1<=Bs ^ i:=dg1
     have h2:(dg+1) * Bs<=Bs ^ i * Bs:=Int.mul_le_mul_of_nonneg_right h1 (Int.le_of_lt pB)
     rw[<-Int.pow_succ,Int.add_mul,Int.one_mul] at h2
     exact Int.lt_of_lt_of_le (Int.add_lt_add_left r1 _) h2
   ·rintro σ H' ⟨dg,v2,rfl,rfl,dg0,_⟩
    exact ht dg v2 _ dg0 (sm2.trans g3)
  ·exact ht 0 none _ (Int.le_refl 0) sm2
 ·exact ht 0 none _ (Int.le_refl 0) sm2
def af:List PV->M PV:=ng
noncomputable def jr:ae->M Fl:=(au (aK (λρ=>((ab aw (gv 0) (cI 0)) ρ).bind aH) (aA 2)
  (cN (aF (ab (bT false) (ab aw (gv 2) (cI 0)) (gv 1)))
  (aT (gv 2))
  (λρ=>M.ret (.nx ρ))))
  (aT (λ_=>M.ret .aD)))
def fY:List PV->M PV:=gp 2 3 jr
noncomputable def jA:ae->M Fl:=(au (az 4 (λ_=>M.ret .aD))
  (au (aK (λρ=>((gv 0) ρ).bind aH) (aA 5)
  (cN (cC (aF (ab (bT false) (ab aw (gv 5) (cI 0)) (gv 1))) (cC (aF (ab (bT false) (ab aw (gv 5) (cI 3)) (gv 2))) (aF (ab iV (ab aw (gv 5) (cI 2)) (gv 3)))))
  (az 4 (gv 5))
  (λρ=>M.ret (.nx ρ))))
  (aT (gv 4))))
def cR:List PV->M PV:=gp 4 6 jA
noncomputable def mC:ae->M Fl:=(au (az 3 (λρ=>((aa (gv 0) (aa (cS "read") (aa (gv 1) (aa (gv 2) aN)))) ρ).bind cR))
  (aT (pM (aF (ab (gn false) (gv 3) (λ_=>M.ret .aD))) (λ_=>M.ret .aD) (ab aw (gv 3) (cI 4)))))
def fe:List PV->M PV:=gp 3 4 mC
noncomputable def kJ:ae->M Fl:=(au (az 3 (λρ=>((aa (gv 0) (aa (cS "rule") (aa (gv 1) (aa (gv 2) aN)))) ρ).bind cR))
  (aT (pM (aF (ab (gn false) (gv 3) (λ_=>M.ret .aD))) (λρ=>(aN ρ).bind aR) (ab aw (gv 3) (cI 4)))))
def bV:List PV->M PV:=gp 3 4 kJ
noncomputable def jv:ae->M Fl:=(au (az 3 (λρ=>((aa (gv 0) (aa (cS "look") (aa (gv 1) (aa (gv 2) aN)))) ρ).bind cR))
  (aT (pM (aF (ab (gn false) (gv 3) (λ_=>M.ret .aD))) (λ_=>M.ret .aD) (ab aw (gv 3) (cI 2)))))
def cQ:List PV->M PV:=gp 3 4 jv
noncomputable def eV:ae->M Fl:=(au (Cy [3,4,5] (gv 1))
  (au (az 6 (λρ=>((aa (gv 0) (aa (gv 4) (aa (gv 2) aN))) ρ).bind fe))
  (au (cN (aF (ab (gn false) (gv 6) (λ_=>M.ret .aD)))
  (aT (λ_=>M.ret (.bl false)))
  (λρ=>M.ret (.nx ρ)))
  (aT (pM (aF (ab (bT false) (gv 3) (cS "least"))) (ab OP (gv 6) (gv 5)) (ab iV (gv 6) (gv 5)))))))
def cp:List PV->M PV:=gp 3 7 eV
noncomputable def dF:ae->M Fl:=(au (az 4 (λρ=>((aa (gv 0) (aa (ab aw (gv 1) (cI 0)) (aa (gv 3) aN))) ρ).bind cQ))
  (aT (gG (ab (bT false) (ab aw (gv 1) (cI 1)) (cS "slope")) (gG (ab (gn true) (gv 4) (λ_=>M.ret .aD)) (ab t6 (gv 3) (ab bM (gv 4) (gv 2)))))))
def bF:List PV->M PV:=gp 4 5 dF
noncomputable def bR:ae->M Fl:=(au (az 4 (ab aw (gv 2) (cI 0)))
  (au (cN (aF (ab (bT false) (gv 4) (cS "hours")))
  (aT (chain iV t6 (ab aw (gv 2) (cI 1)) (gv 3) (ab aw (gv 2) (cI 2))))
  (λρ=>M.ret (.nx ρ)))
  (au (cN (Kd (aF (ab (bT false) (gv 4) (cS "least"))) (aF (ab (bT false) (gv 4) (cS "most"))))
  (aT (λρ=>((aa (gv 0) (aa (gv 2) (aa (gv 3) aN))) ρ).bind cp))
  (λρ=>M.ret (.nx ρ)))
  (au (cN (aF (ab (bT false) (gv 4) (cS "looked")))
  (aT (λρ=>((aa (gv 0) (aa (gv 1) (aa (ab aw (gv 2) (cI 1)) (aa (gv 3) aN)))) ρ).bind bF))
  (λρ=>M.ret (.nx ρ)))
  (aT (λ_=>M.ret (.bl false)))))))
def aJ:List PV->M PV:=gp 4 5 bR
noncomputable def fv:ae->M Fl:=(au (az 3 (λρ=>((aa (gv 0) (aa (ab aw (gv 1) (cI 0)) (aa (gv 2) aN))) ρ).bind bV))
  (au (cN (pd (aF (λρ=>((aa (aE (a8 [none,some 0,some 1,some 2] (λρ=>((gv 3) ρ).bind aH) (aA 0) (aF (ab (bT true) (ab aw (gv 0) (cI 0)) (cS "with"))) (λρ=>((aa (gv 1) (aa (gv 2) (aa (gv 0) (aa (gv 3) aN)))) ρ).bind aJ))) aN) ρ).bind lV)))
  (aT (λ_=>M.ret .aD))
  (λρ=>M.ret (.nx ρ)))
  (aT (aE (a8 [none] (λρ=>((gv 3) ρ).bind aH) (aA 0) (aF (ab (bT false) (ab aw (gv 0) (cI 0)) (cS "with"))) (ab aw (gv 0) (cI 1)))))))
def bh:List PV->M PV:=gp 3 4 fv
noncomputable def ip:ae->M Fl:=(au (Aa 1)
  (au (az 2 (λρ=>((cI 1) ρ).bind h9))
  (au (A0 (aF (ab t6 (gv 2) (λρ=>((aa (gb 1) aN) ρ).bind cY))) (au (az 2 (λρ=>((aa (gb 1) aN) ρ).bind cY))
  (aK (λρ=>((gv 0) ρ).bind v7) (aA 3)
  (cN (aF (λρ=>((aa (aE (a8 [none,some 1] (λρ=>((ab dU (gv 0) (gv 3)) ρ).bind aH) (aA 0) cx (ab (p6 false) (gv 0) (gb 1)))) aN) ρ).bind lV))
  (jH 1 (gv 3) (λ_=>M.ret (.bl true)))
  (λρ=>M.ret (.nx ρ))))) 1000)
  (aT (gv 1)))))
def dR:List PV->M PV:=gp 1 4 ip
noncomputable def ju:ae->M Fl:=(au (Aa 3)
  (au (aK (λρ=>((ab aw (gv 0) (cI 0)) ρ).bind aH) (aA 4)
  (au (az 5 (λρ=>((aa (gv 1) (aa (gv 4) (aa (gv 2) aN))) ρ).bind bh))
  (cN (aF (ab (gn true) (gv 5) (λ_=>M.ret .aD)))
  (jH 3 (ab aw (gv 4) (cI 0)) (gv 5))
  (λρ=>M.ret (.nx ρ)))))
  (au (Ej (az 6 (λρ=>((aa (gv 3) aN) ρ).bind dR)))
  (aT (λρ=>((aa (aE (a8 [none,some 6] (λρ=>((ab aw (gv 0) (cI 0)) ρ).bind aH) (aA 0) (aF (ab (p6 false) (ab aw (gv 0) (cI 0)) (gv 1))) (ab aw (gv 0) (cI 0)))) aN) ρ).bind j8)))))
def bA:List PV->M PV:=gp 3 7 ju
noncomputable def kI:ae->M Fl:=(au (az 4 (λρ=>((aa (gv 0) (aa (gv 2) aN)) ρ).bind fY))
  (au (az 5 (λρ=>((aa (gv 0) (aa (gv 1) (aa (gv 3) aN))) ρ).bind bA))
  (au (aK (λρ=>((aa (λρ=>((aa (gv 1) (aa (gv 2) (aa (gv 3) aN))) ρ).bind bV) aN) ρ).bind qP) (bJ [6,7])
  (au (az 8 (pM (aF (ab (bT false) (ab aw (gv 7) (cI 0)) (cS "with"))) (ab (iW false) (ab aw (gv 7) (cI 1)) (gv 5)) (λρ=>((aa (gv 1) (aa (gv 4) (aa (gv 7) (aa (gv 3) aN)))) ρ).bind aJ)))
  (cN (pd (aF (gv 8)))
  (aT (gv 6))
  (λρ=>M.ret (.nx ρ)))))
  (aT (λ_=>M.ret .aD)))))
def bg:List PV->M PV:=gp 4 9 kI
noncomputable def dE:ae->M Fl:=(au (cN (aF (ab (bT false) (ab aw (gv 2) (cI 0)) (cS "hours")))
  (aT (aE (λρ=>((aa (ab aw (gv 2) (cI 1)) (aa (ab aw (gv 2) (cI 2)) aN)) ρ).bind aM)))
  (λρ=>M.ret (.nx ρ)))
  (au (cN (aF (ab (bT false) (ab aw (gv 2) (cI 0)) (cS "looked")))
  (aT (aE (a8 [none,some 2,some 1] (λρ=>((gv 0) ρ).bind aH) (aA 0) (cC (aF (ab (bT false) (ab aw (gv 0) (cI 0)) (cS "look"))) (aF (ab (bT false) (ab aw (gv 0) (cI 3)) (gv 2)))) (ab bM (ab aw (gv 0) (cI 2)) (ab aw (gv 1) (cI 1))))))
  (λρ=>M.ret (.nx ρ)))
  (aT (aE (λρ=>(aN ρ).bind aM)))))
def bE:List PV->M PV:=gp 3 3 dE
noncomputable def tZ:ae->M Fl:=(au (gz 2 (λρ=>((aa (cI 0) aN) ρ).bind aM))
  (au (aK (λρ=>((gv 1) ρ).bind aH) (aA 3)
  (au (cP 2 (ab aw (gv 3) (cI 2)))
  (cN (aF (ab (bT false) (ab aw (gv 3) (cI 0)) (cS "rule")))
  (aK (λρ=>((ab aw (gv 3) (cI 4)) ρ).bind aH) (aA 4)
  (BZ 2 (λρ=>((aa (gv 1) (aa (ab aw (gv 3) (cI 3)) (aa (gv 4) aN))) ρ).bind bE)))
  (λρ=>M.ret (.nx ρ)))))
  (aT (aE (λρ=>((DN [none,some 0] (λρ=>((gv 2) ρ).bind aH) (aA 0) (aF (chain iV iV (cI 0) (gv 0) (ab aw (gv 1) (cI 2)))) (gv 0)) ρ).bind sortI)))))
def j7:List PV->M PV:=gp 2 5 tZ
noncomputable def jt:ae->M Fl:=(aT (aE (a8 [none,some 0,some 1] (λρ=>((λρ=>((aa (gv 0) (aa (gv 1) aN)) ρ).bind j7) ρ).bind aH) (aA 0) cx (λρ=>((aa (gv 0) (aa (λρ=>((aa (gv 1) (aa (gv 2) (aa (gv 0) aN))) ρ).bind bA) aN)) ρ).bind aR))))
def fZ:List PV->M PV:=gp 2 2 jt
noncomputable def fu:ae->M Fl:=(au (gz 3 (λρ=>(aN ρ).bind aM))
  (au (az 4 (λ_=>M.ret .aD))
  (au (aK (λρ=>((gv 0) ρ).bind aH) (bJ [5,6])
  (au (cN (cC (aF (ab (iW false) (gv 1) (gv 6))) (aF (ab (gn false) (gv 4) (λ_=>M.ret .aD))))
  (az 4 (gv 5))
  (λρ=>M.ret (.nx ρ)))
  (cN (cC (aF (ab (iW true) (gv 1) (gv 6))) (aF (ab (gn true) (gv 4) (λ_=>M.ret .aD))))
  (au (cP 3 (λρ=>((aa (gv 4) (aa (gv 5) aN)) ρ).bind aR))
  (az 4 (λ_=>M.ret .aD)))
  (λρ=>M.ret (.nx ρ)))))
  (au (cN (aF (ab (gn true) (gv 4) (λ_=>M.ret .aD)))
  (cP 3 (λρ=>((aa (gv 4) (aa (ab bM (gv 2) (cI 1)) aN)) ρ).bind aR))
  (λρ=>M.ret (.nx ρ)))
  (aT (λρ=>((aa (gv 3) aN) ρ).bind j8))))))
def dO:List PV->M PV:=gp 3 7 fu
noncomputable def t5:ae->M Fl:=(aT (λρ=>((aa (λρ=>((aa (gv 0) (aa (gv 1) aN)) ρ).bind fZ) (aa (gv 2) (aa (ab aw (gv 0) (cI 2)) aN))) ρ).bind dO))
def lW:List PV->M PV:=gp 3 3 t5
noncomputable def mD:ae->M Fl:=(au (az 4 (λρ=>((aa (gv 0) (aa (gv 1) (aa (gv 2) (aa (gv 3) aN)))) ρ).bind bg))
  (au (aK (λρ=>((λρ=>((aa (gv 0) (aa (gv 1) aN)) ρ).bind j7) ρ).bind aH) (aA 5)
  (cN (aF (ab Cm (gv 5) (gv 3)))
  (au (az 6 (λρ=>((aa (gv 0) (aa (gv 1) (aa (gv 2) (aa (gv 5) aN)))) ρ).bind bg))
  (au (cN (cC (aF (ab (gn false) (gv 4) (λ_=>M.ret .aD))) (aF (ab (gn true) (gv 6) (λ_=>M.ret .aD))))
  (aT (λρ=>((aa (cS "open") (aa (gv 5) (aa (gv 6) aN))) ρ).bind aR))
  (λρ=>M.ret (.nx ρ)))
  (cN (cC (aF (ab (gn true) (gv 4) (λ_=>M.ret .aD))) (aF (ab (gn false) (gv 6) (λ_=>M.ret .aD))))
  (aT (λρ=>((aa (cS "shut") (aa (gv 4) (aa (gv 5) aN))) ρ).bind aR))
  (λρ=>M.ret (.nx ρ)))))
  (λρ=>M.ret (.nx ρ))))
  (aT (pM (aF (ab (gn false) (gv 4) (λ_=>M.ret .aD))) (λρ=>((aa (cS "open") (aa (λ_=>M.ret .aD) (aa (λ_=>M.ret .aD) aN))) ρ).bind aR) (λρ=>((aa (cS "shut") (aa (gv 4) (aa (λ_=>M.ret .aD) aN))) ρ).bind aR)))))
def ff:List PV->M PV:=gp 4 7 mD
noncomputable def kL:ae->M Fl:=(au (az 2 (cS "etaoinshrdlcumwfgypbvkjxqz"))
  (au (az 3 (ab bM (cI 1) (λρ=>((aa (gv 0) (aa (cI 8) aN)) ρ).bind af)))
  (au (az 4 (NZ "str" rR (cS "") (aa (aE (a8 [none,some 2,some 0] (λρ=>((aa (gv 3) aN) ρ).bind bX) (aA 0) cx (ab aw (gv 1) (λρ=>((aa (gv 2) (aa (cI 26) aN)) ρ).bind af)))) aN)))
  (aT (ab aw (aE (a8 [none,some 1] (λρ=>((aE (qR (aE (λρ=>((aa (gv 4) aN) ρ).bind aM)) (aE (a8 [none,some 4] (λρ=>((gv 2) ρ).bind aH) (aA 0) cx (ab bM (Ft CU (gv 1) (λ_=>M.ret none) (λρ=>((cI 7) ρ).bind λy=>(pL y).bind λi=>M.ret (some i))) (gv 0)))))) ρ).bind aH) (aA 0) (aF (ab (iW true) (gv 0) (gv 1))) (gv 0))) (cI 0))))))
def iM:List PV->M PV:=gp 2 5 kL
noncomputable def jw:ae->M Fl:=(au (gz 2 (λρ=>(aN ρ).bind aM))
  (au (aK (λρ=>((aa (gv 1) aN) ρ).bind bX) (aA 3)
  (cP 2 (λρ=>((aa (gv 0) (aa (gb 2) aN)) ρ).bind λl=>(iM l).bind m9)))
  (aT (gv 2))))
def dw:List PV->M PV:=gp 2 4 jw
noncomputable def kQ:ae->M Fl:=(au (az 3 (λρ=>((aa (gv 0) (aa (ab bM (cI 2) (λρ=>((aa (gv 0) (aa (cI 4) aN)) ρ).bind af)) aN)) ρ).bind dw))
  (au (az 4 (λρ=>((aa (gv 0) (aa (ab bM (cI 1) (λρ=>((aa (gv 0) (aa (gv 1) aN)) ρ).bind af)) aN)) ρ).bind dw))
  (au (gz 5 (λρ=>(aN ρ).bind aM))
  (au (aK (λρ=>((gv 4) ρ).bind aH) (aA 6)
  (au (az 7 (ab aw (aE (λρ=>((aa (cS "slope") (aa (cS "slope") (aa (cS "lift") (aa (cS "path") aN)))) ρ).bind aM)) (λρ=>((aa (gv 0) (aa (cI 4) aN)) ρ).bind af)))
  (au (az 8 (aE (a8 [none,some 3,some 0] (λρ=>((aa (cI 2) aN) ρ).bind bX) (aA 0) cx (ab aw (gv 1) (λρ=>((aa (gv 2) (aa (λρ=>((aa (gv 1) aN) ρ).bind cY) aN)) ρ).bind af)))))
  (cP 5 (λρ=>((aa (gv 6) (aa (gv 7) (aa (ab aw (gv 8) (cI 0)) (aa (ab aw (gv 8) (cI 1)) (aa (ab ka (gv 2) (λρ=>((aa (gv 0) (aa (cI 8) aN)) ρ).bind af)) (aa (ab ka (gv 2) (λρ=>((aa (gv 0) (aa (cI 5) aN)) ρ).bind af)) aN)))))) ρ).bind aR)))))
  (aT (λρ=>((aa (λρ=>((aa (gv 5) aN) ρ).bind j8) (aa (ab aw (gv 3) (λρ=>((aa (gv 0) (aa (λρ=>((aa (gv 3) aN) ρ).bind cY) aN)) ρ).bind af)) (aa (ab ka (gv 2) (ab bM (cI 1) (λρ=>((aa (gv 0) (aa (cI 30) aN)) ρ).bind af))) aN))) ρ).bind aR))))))
def iN:List PV->M PV:=gp 3 9 kQ
noncomputable def ij:ae->M Fl:=(aT (λρ=>((aa (ab aw (gv 1) (cI 2)) (aa (λρ=>((aa (cI 0) (aa (ab bM (ab ka (gv 2) (λρ=>((aa (gv 0) (aa (cI 31) aN)) ρ).bind af)) (ab aw (aE (λρ=>((aa (cI 0) (aa (cI 0) (aa (cI 1) (aa (λρ=>((cI 1) ρ).bind h9) aN)))) ρ).bind aM)) (λρ=>((aa (gv 0) (aa (cI 4) aN)) ρ).bind af))) aN)) ρ).bind rK) aN)) ρ).bind ph))
def dQ:List PV->M PV:=gp 3 3 ij
noncomputable def kO:ae->M Fl:=(au (az 4 (λρ=>((aa (gv 0) (aa (cI 12) aN)) ρ).bind af))
  (au (az 5 (ab aw (gv 2) (λρ=>((aa (gv 0) (aa (λρ=>((aa (gv 2) aN) ρ).bind cY) aN)) ρ).bind af)))
  (au (az 6 (ab A7 (λρ=>((aa (gv 0) (aa (cI 7) aN)) ρ).bind af) (cI 3)))
  (au (Gy 7 8 (aa (ab ka (gv 3) (λρ=>((aa (gv 0) (aa (cI 31) aN)) ρ).bind af)) (aa (ab A7 (ab bM (ab ka (gv 3) (ab bM (cI 1) (λρ=>((aa (gv 0) (aa (cI 12) aN)) ρ).bind af))) (λρ=>((aa (gv 0) (aa (cI 3) aN)) ρ).bind af)) (cI 1)) aN)))
  (au (az 9 (ab aw (ab aw (ab aw (gv 1) (cI 0)) (λρ=>((aa (gv 0) (aa (λρ=>((aa (ab aw (gv 1) (cI 0)) aN) ρ).bind cY) aN)) ρ).bind af)) (cI 0)))
  (au (cN (aF (ab t6 (gv 4) (cI 3)))
  (aT (λρ=>((aa (cS "hours") (aa (gv 7) (aa (λρ=>((aa (cI 1000001) (aa (ab bM (gv 7) (λρ=>((aa (cI 1) (aa (gv 8) aN)) ρ).bind rK)) aN)) ρ).bind ph) aN))) ρ).bind aR))
  (λρ=>M.ret (.nx ρ)))
  (au (cN (aF (ab t6 (gv 4) (cI 8)))
  (aT (ab aw (aE (λρ=>((aa (λρ=>((aa (cS "least") (aa (gv 5) (aa (gv 6) aN))) ρ).bind aR) (aa (λρ=>((aa (cS "most") (aa (gv 5) (aa (gv 6) aN))) ρ).bind aR) aN)) ρ).bind aM)) (ab vQ (gv 4) (cI 2))))
  (λρ=>M.ret (.nx ρ)))
  (au (cN (aF (ab t6 (gv 4) (cI 10)))
  (aT (λρ=>((aa (cS "looked") (aa (λρ=>((aa (cI 1) (aa (gv 8) aN)) ρ).bind rK) aN)) ρ).bind aR))
  (λρ=>M.ret (.nx ρ)))
  (aT (ab aw (aE (λρ=>((aa (λρ=>((aa (cS "with") (aa (gv 9) aN)) ρ).bind aR) (aa (λρ=>((aa (cS "never") aN) ρ).bind aR) aN)) ρ).bind aM)) (λρ=>((aa (gG (ab (bT false) (gv 4) (cI 11)) (ab Cm (gv 6) (cI 0))) aN) ρ).bind yt)))))))))))
def fK:List PV->M PV:=gp 4 10 kO
noncomputable def ig:ae->M Fl:=(au (az 2 (λρ=>((aa (gv 0) (aa (ab aw (aE (λρ=>((aa (cI 20) (aa (cI 1000000) aN)) ρ).bind aM)) (λρ=>((aa (gv 0) (aa (cI 2) aN)) ρ).bind af)) aN)) ρ).bind af))
  (au (az 3 (aE (a8 [none,some 2] (λρ=>((aa (cI 70) aN) ρ).bind bX) (aA 0) cx (ab vQ (ab bM (gv 1) (gv 0)) (cI 1000000)))))
  (aT (ab aw (aE (a8 [none,some 1] (λρ=>((gv 3) ρ).bind aH) (aA 0) (aF (ab (iW true) (gv 0) (gv 1))) (gv 0))) (cI 0)))))
def dP:List PV->M PV:=gp 2 4 ig
noncomputable def jy:ae->M Fl:=(au (az 4 (aE (qR (λρ=>((aa (gv 0) (aa (ab bM (cI 1) (λρ=>((aa (gv 0) (aa (cI 3) aN)) ρ).bind af)) aN)) ρ).bind dw) (ab ka (aE (λρ=>((aa (ab aw (ab aw (ab aw (gv 1) (cI 0)) (cI 0)) (cI 0)) aN) ρ).bind aM)) (λρ=>((aa (gv 0) (aa (cI 2) aN)) ρ).bind af)))))
  (au (az 5 (aE (a8 [none] (λρ=>((ab aw (gv 1) (cI 0)) ρ).bind aH) (aA 0) (aF (ab (bT false) (ab aw (gv 0) (cI 1)) (cS "slope"))) (ab aw (gv 0) (cI 0)))))
  (au (gz 6 (λρ=>(aN ρ).bind aM))
  (au (gz 7 (λρ=>(aN ρ).bind aM))
  (au (aK (λρ=>((aa (gv 3) aN) ρ).bind bX) (aA 8)
  (au (az 9 (λρ=>((aa (gv 0) (aa (cI 8) aN)) ρ).bind af))
  (au (az 10 (ab ka (λρ=>((aa (gv 0) (aa (gv 1) (aa (gv 2) aN))) ρ).bind dQ) (λρ=>((aa (ab Cm (λρ=>((aa (gv 0) (aa (cI 3) aN)) ρ).bind af) (cI 0)) aN) ρ).bind yt)))
  (au (cP 7 (λρ=>((aa (gv 0) (aa (gb 7) aN)) ρ).bind λl=>(dP l).bind m9))
  (cN (aF (ab t6 (gv 9) (cI 3)))
  (au (az 11 (ab aw (ab aw (ab aw (gv 1) (cI 0)) (λρ=>((aa (gv 0) (aa (λρ=>((aa (ab aw (gv 1) (cI 0)) aN) ρ).bind cY) aN)) ρ).bind af)) (cI 0)))
  (au (az 12 (ab aw (aE (λρ=>((aa (cI 0) (aa (cI 1) (aa (cI 1) (aa (cI 1) (aa (cI 2) (aa (cI 2) (aa (cI 3) (aa (cI 6) aN)))))))) ρ).bind aM)) (λρ=>((aa (gv 0) (aa (cI 8) aN)) ρ).bind af)))
  (au (az 13 (aE (a8 [none,some 0,some 1,some 4,some 2] (λρ=>((aa (gv 12) aN) ρ).bind bX) (aA 0) cx (λρ=>((aa (gv 1) (aa (gv 2) (aa (gv 3) (aa (gv 4) aN)))) ρ).bind fK))))
  (cP 6 (λρ=>((aa (cS "rule") (aa (ab aw (gb 7) (λρ=>((cI 1) ρ).bind h9)) (aa (gv 10) (aa (gv 11) (aa (λρ=>((aa (gv 13) aN) ρ).bind j8) aN))))) ρ).bind aR)))))
  (cN (Kd (aF (ab t6 (gv 9) (cI 6))) (aF (ab (bT false) (gv 5) (aE (λρ=>(aN ρ).bind aM)))))
  (au (az 14 (ab ka (ab A7 (λρ=>((aa (gv 0) (aa (cI 7) aN)) ρ).bind af) (cI 3)) (ab aw (aE (λρ=>((aa (cI 1) (aa (cI 1) (aa (cI 1) (aa (ab Dg (cI 10) (cI 50)) aN)))) ρ).bind aM)) (λρ=>((aa (gv 0) (aa (cI 4) aN)) ρ).bind af))))
  (cP 6 (λρ=>((aa (cS "read") (aa (ab aw (gb 7) (λρ=>((cI 1) ρ).bind h9)) (aa (gv 10) (aa (ab aw (gv 4) (λρ=>((aa (gv 0) (aa (λρ=>((aa (gv 4) aN) ρ).bind cY) aN)) ρ).bind af)) (aa (gv 14) aN))))) ρ).bind aR)))
  (cP 6 (λρ=>((aa (cS "look") (aa (ab aw (gb 7) (λρ=>((cI 1) ρ).bind h9)) (aa (gv 10) (aa (ab aw (gv 5) (λρ=>((aa (gv 0) (aa (λρ=>((aa (gv 5) aN) ρ).bind cY) aN)) ρ).bind af)) aN)))) ρ).bind aR))))))))
  (aT (gv 6)))))))
def f6:List PV->M PV:=gp 4 15 jy
def il:ae->M Fl:=(aT (λρ=>((aa (aE (λρ=>((gv 0) ρ).bind rq)) aN) ρ).bind j8))
def iO:List PV->M PV:=gp 1 1 il
noncomputable def ie:ae->M Fl:=(au (az 4 (aE (a8 [none,some 1,some 2,some 3] (λρ=>((gv 0) ρ).bind aH) (aA 0) (cC (aF (ab (bT false) (ab aw (gv 0) (cI 0)) (gv 1))) (cC (aF (ab (bT false) (ab aw (gv 0) (cI 3)) (gv 2))) (aF (ab iV (ab aw (gv 0) (cI 2)) (gv 3))))) (gv 0))))
  (aT (λρ=>((gv 4) ρ).bind BF)))
def dq:List PV->M PV:=gp 4 5 ie
noncomputable def jz:ae->M Fl:=(au (cN (aF (ab (bT false) (ab aw (gv 2) (cI 0)) (cS "hours")))
  (aT (chain iV t6 (ab aw (gv 2) (cI 1)) (gv 3) (ab aw (gv 2) (cI 2))))
  (λρ=>M.ret (.nx ρ)))
  (au (cN (aF (ab (bT false) (ab aw (gv 2) (cI 0)) (cS "looked")))
  (au (az 5 (λρ=>((aa (gv 0) (aa (cS "look") (aa (gv 1) (aa (gv 3) aN)))) ρ).bind dq))
  (aT (gG (ab (gn true) (gv 5) (λ_=>M.ret .aD)) (ab t6 (gv 3) (ab bM (ab aw (gv 5) (cI 2)) (ab aw (gv 2) (cI 1)))))))
  (λρ=>M.ret (.nx ρ)))
  (au (cN (aF (ab (iW false) (ab aw (gv 2) (cI 0)) (λρ=>((aa (cS "least") (aa (cS "most") aN)) ρ).bind aR)))
  (au (az 6 (λρ=>((aa (gv 0) (aa (cS "read") (aa (ab aw (gv 2) (cI 1)) (aa (gv 3) aN)))) ρ).bind dq))
  (au (cN (aF (ab (gn false) (gv 6) (λ_=>M.ret .aD)))
  (aT (λ_=>M.ret (.bl false)))
  (λρ=>M.ret (.nx ρ)))
  (aT (pM (aF (ab (bT false) (ab aw (gv 2) (cI 0)) (cS "least"))) (ab OP (ab aw (gv 6) (cI 4)) (ab aw (gv 2) (cI 2))) (ab iV (ab aw (gv 6) (cI 4)) (ab aw (gv 2) (cI 2)))))))
  (λρ=>M.ret (.nx ρ)))
  (aT (gG (ab (bT false) (ab aw (gv 2) (cI 0)) (cS "with")) (ab (iW false) (ab aw (gv 2) (cI 1)) (gv 4)))))))
def cj:List PV->M PV:=gp 5 7 jz
noncomputable def jx:ae->M Fl:=(au (az 3 (λρ=>((aa (gv 0) (aa (cS "rule") (aa (gv 1) (aa (gv 2) aN)))) ρ).bind dq))
  (aT (pM (aF (ab (gn false) (gv 3) (λ_=>M.ret .aD))) (λρ=>(aN ρ).bind aR) (ab aw (gv 3) (cI 4)))))
def bP:List PV->M PV:=gp 3 4 jx
noncomputable def kP:ae->M Fl:=(au (az 3 (aE (a8 [none,some 1,some 2] (λρ=>((ab aw (gv 0) (cI 0)) ρ).bind aH) (aA 0) cx (λρ=>((aa (ab aw (gv 0) (cI 0)) (aa (λρ=>((aa (gv 1) (aa (ab aw (gv 0) (cI 0)) (aa (gv 2) aN))) ρ).bind bP) aN)) ρ).bind aR))))
  (au (az 4 (λ_=>M.ret .aD))
  (au (gz 5 (λρ=>(aN ρ).bind aM))
  (au (A0 (aF (ab (bT true) (gv 4) (gb 5))) (au (Ej (az 4 (gv 5)))
  (au (gz 5 (λρ=>(aN ρ).bind aM))
  (aK (λρ=>((gv 3) ρ).bind aH) (bJ [6,7])
  (cN (aF (λρ=>((aa (aE (a8 [none,some 1,some 6,some 2,some 4] (λρ=>((gv 7) ρ).bind aH) (aA 0) cx (λρ=>((aa (gv 1) (aa (gv 2) (aa (gv 0) (aa (gv 3) (aa (gv 4) aN))))) ρ).bind cj))) aN) ρ).bind lV))
  (cP 5 (gv 6))
  (λρ=>M.ret (.nx ρ)))))) 1000)
  (aT (gv 5))))))
def d6:List PV->M PV:=gp 3 8 kP
noncomputable def kM:ae->M Fl:=(au (Aa 4)
  (au (aK (λρ=>((ab aw (gv 0) (cI 0)) ρ).bind aH) (aA 5)
  (au (az 6 (λρ=>((aa (gv 1) (aa (ab aw (gv 5) (cI 0)) (aa (gv 3) aN))) ρ).bind bP))
  (au (az 7 (aE (a8 [none,none,some 1,some 5,some 3,some 2] (λρ=>((aa (gv 6) aN) ρ).bind qP) (bJ [0,1]) (pd (aF (λρ=>((aa (gv 2) (aa (ab aw (gv 3) (cI 0)) (aa (gv 1) (aa (gv 4) (aa (gv 5) aN))))) ρ).bind cj))) (gv 0))))
  (jH 4 (ab aw (gv 5) (cI 0)) (pM (aF (ab (bT true) (gv 7) (aE (λρ=>(aN ρ).bind aM)))) (ab aw (gv 7) (cI 0)) (λ_=>M.ret .aD))))))
  (aT (gv 4))))
def fI:List PV->M PV:=gp 4 8 kM
noncomputable def mE:ae->M Fl:=(au (az 4 (ab (iW false) (gv 2) (ab aw (gv 0) (gv 3))))
  (au (az 5 (aE (a8 [none,some 2,some 0,some 4] (λρ=>((aa (ab bM (gv 3) (cI 1)) (aa (λρ=>((aa (gv 0) aN) ρ).bind cY) aN)) ρ).bind vp) (aA 0) (aF (ab (bT true) (ab (iW false) (gv 1) (ab aw (gv 2) (gv 0))) (gv 3))) (gv 0))))
  (au (az 6 (pM (aF (ab (bT true) (gv 5) (aE (λρ=>(aN ρ).bind aM)))) (ab aw (gv 5) (cI 0)) (λ_=>M.ret .aD)))
  (au (cN (aF (gv 4))
  (aT (λρ=>((aa (cS "open") (aa (gv 6) (aa (pM (aF (ab (gn false) (gv 6) (λ_=>M.ret .aD))) (λ_=>M.ret .aD) (ab dU (ab aw (gv 1) (gv 6)) (gv 2))) aN))) ρ).bind aR))
  (λρ=>M.ret (.nx ρ)))
  (aT (λρ=>((aa (cS "shut") (aa (ab dU (ab aw (gv 1) (gv 3)) (gv 2)) (aa (gv 6) aN))) ρ).bind aR))))))
def fg:List PV->M PV:=gp 4 7 mE
noncomputable def kN:ae->M Fl:=(au (gz 2 (λρ=>(aN ρ).bind aM))
  (au (aK (λρ=>((aa (gv 0) aN) ρ).bind yB) (bJ [3,4])
  (cN (cC (aF (ab (iW false) (gv 1) (gv 4))) (cC (aF (ab (bT true) (gb 2) (aE (λρ=>(aN ρ).bind aM)))) (aF (ab (bT false) (ab aw (ab aw (gb 2) (λρ=>((cI 1) ρ).bind h9)) (cI 1)) (gv 3)))))
  (vc 2 (λρ=>((cI 1) ρ).bind h9) (λρ=>((aa (ab aw (ab aw (gb 2) (λρ=>((cI 1) ρ).bind h9)) (cI 0)) (aa (ab bM (gv 3) (cI 1)) aN)) ρ).bind aR))
  (cN (aF (ab (iW false) (gv 1) (gv 4)))
  (cP 2 (λρ=>((aa (gv 3) (aa (ab bM (gv 3) (cI 1)) aN)) ρ).bind aR))
  (λρ=>M.ret (.nx ρ)))))
  (aT (λρ=>((aa (gv 2) aN) ρ).bind j8))))
def fJ:List PV->M PV:=gp 2 5 kN
noncomputable def pj:ae->M Fl:=(au (Cy [2,3,4] (λρ=>((aa (gv 1) (aa (ab aw (aE (λρ=>((aa (cI 4) (aa (cI 6) (aa (cI 12) aN))) ρ).bind aM)) (λρ=>((aa (gv 1) (aa (cI 3) aN)) ρ).bind af)) (aa (cI 1) aN))) ρ).bind iN))
  (au (az 5 (λρ=>((aa (gv 2) (aa (gv 3) (aa (λρ=>((aa (gv 4) (aa (ab bM (cI 3) (λρ=>((aa (gv 1) (aa (cI 10) aN)) ρ).bind af)) aN)) ρ).bind ph) aN))) ρ).bind aR))
  (au (az 6 (λρ=>((aa (gv 1) (aa (gv 5) (aa (cI 1) (aa (λρ=>((aa (gv 1) (aa (cI 25) aN)) ρ).bind af) aN)))) ρ).bind f6))
  (au (az 7 (λρ=>((aa (gv 6) aN) ρ).bind iO))
  (au (az 8 (aE (a8 [none,some 5,some 6] (λρ=>((aa (ab bM (ab aw (gv 5) (cI 2)) (cI 1)) aN) ρ).bind bX) (aA 0) cx (λρ=>((aa (gv 1) (aa (gv 2) (aa (gv 0) aN))) ρ).bind d6))))
  (au (az 9 (aE (a8 [none,none,some 5,some 6] (λρ=>((aa (gv 8) aN) ρ).bind yB) (bJ [0,1]) cx (λρ=>((aa (gv 2) (aa (gv 3) (aa (gv 1) (aa (gv 0) aN)))) ρ).bind fI))))
  (au (aK (λρ=>((gv 2) ρ).bind aH) (aA 10)
  (cN (aF (ab (bT true) (λρ=>((aa (λρ=>((aa (gv 5) (aa (gv 7) (aa (ab aw (gv 10) (cI 0)) aN))) ρ).bind lW) aN) ρ).bind dD) (λρ=>((aa (λρ=>((aa (gv 8) (aa (ab aw (gv 10) (cI 0)) aN)) ρ).bind fJ) aN) ρ).bind dD)))
  (aT (λ_=>M.ret (.bl false)))
  (λρ=>M.ret (.nx ρ))))
  (au (aK (λρ=>((aa (ab bM (ab aw (gv 5) (cI 2)) (cI 1)) aN) ρ).bind bX) (aA 11)
  (au (cN (aF (ab (bT true) (λρ=>((aa (gv 5) (aa (gv 7) (aa (gv 11) aN))) ρ).bind bA) (λρ=>((aa (ab aw (gv 8) (gv 11)) aN) ρ).bind j8)))
  (aT (λ_=>M.ret (.bl false)))
  (λρ=>M.ret (.nx ρ)))
  (au (aK (λρ=>((aE (qR (Ft CU (aE (a8 [none,some 8,some 11] (λρ=>((gv 2) ρ).bind aH) (aA 0) (aF (ab (iW true) (ab aw (gv 0) (cI 0)) (ab aw (gv 1) (gv 2)))) (ab aw (gv 0) (cI 0)))) (λ_=>M.ret none) (λρ=>((cI 4) ρ).bind λy=>(pL y).bind λi=>M.ret (some i))) (Ft CU (ab aw (gv 8) (gv 11)) (λ_=>M.ret none) (λρ=>((cI 1) ρ).bind λy=>(pL y).bind λi=>M.ret (some i))))) ρ).bind aH) (aA 12)
  (cN (aF (ab (bT true) (λρ=>((aa (λρ=>((aa (gv 5) (aa (gv 7) (aa (gv 12) (aa (gv 11) aN)))) ρ).bind bg) aN) ρ).bind dD) (λρ=>((aa (ab dU (ab aw (gv 9) (gv 11)) (gv 12)) aN) ρ).bind dD)))
  (aT (λ_=>M.ret (.bl false)))
  (λρ=>M.ret (.nx ρ))))
  (au (az 12 (ab aw (ab aw (gv 2) (λρ=>((aa (gv 1) (aa (λρ=>((aa (gv 2) aN) ρ).bind cY) aN)) ρ).bind af)) (cI 0)))
  (cN (aF (ab (bT true) (λρ=>((aa (λρ=>((aa (gv 5) (aa (gv 7) (aa (gv 12) (aa (gv 11) aN)))) ρ).bind ff) aN) ρ).bind dD) (λρ=>((aa (λρ=>((aa (gv 8) (aa (gv 9) (aa (gv 12) (aa (gv 11) aN)))) ρ).bind fg) aN) ρ).bind dD)))
  (aT (λ_=>M.ret (.bl false)))
  (λρ=>M.ret (.nx ρ)))))))
  (aT (λ_=>M.ret (.bl true)))))))))))
section
set_option hygiene false in
local macro_rules
|`(tactic|walk_at"v1")=>`(tactic|focus first
|with_reducible exact gg
|with_reducible exact K5
|with_reducible exact sa
|with_reducible exact K7)
|`(tactic|walk_at"v2")=>`(tactic|focus first
|((with_reducible refine xi ?_ ?_ ?_);walk_at"b";walk_at"b";all_goals walk_at"z")
|((with_reducible refine pT (qh JM ?_ ?_ ?_) JI);walk_at"B_";walk_at"O_";walk_at"O_")
|((with_reducible refine AO ?_ ?_ ?_ ?_);walk_at"z";walk_at"b";walk_at"b";all_goals walk_at"z"))
|`(tactic|walk_at"v3")=>`(tactic|focus first
|((with_reducible refine Nl (by with_reducible assumption) (by with_reducible assumption) ?_ ?_ ?_ ?_ ?_ ?_ ?_);exact hr.mono (by decide);walk_at"z";walk_at"z";walk_at"z";walk_at"z";walk_at"z";walk_at"a")
|((with_reducible refine bz (bO qa ?_ ?_ PySem.boot_len ?_ ?_ ?_ ?_ ?_) EK);walk_at"z";exact T.IM;walk_at"D_";all_goals walk_at"z")
|((with_reducible refine bz (bO (ER ?_) ?_ ?_ PyProof.Rows.boot_all ?_ ?_ ?_ ?_ ?_) Lq);walk_at"z";walk_at"z";exact T.M0;walk_at"D_";all_goals walk_at"z")
|((with_reducible refine bz (bO (B7 ?_) ?_ ?_ PyProof.Rows.boot_max ?_ ?_ ?_ ?_ ?_) Hz);walk_at"z";walk_at"z";exact T.IL;walk_at"D_";all_goals walk_at"z")
|((with_reducible refine bz (bO (sk ?_) ?_ ?_ PyProof.Rows.boot_min ?_ ?_ ?_ ?_ ?_) AH);walk_at"z";walk_at"z";exact T.IK;walk_at"D_";all_goals walk_at"z")
|((with_reducible refine bz (j5 B8 ?_ ?_ PyProof.Rows.boot_int ?_ ?_ ?_ ?_ ?_) Lp);walk_at"z";exact T.MZ;walk_at"D_";all_goals walk_at"z")
|((with_reducible refine bz (j5 gk ?_ ?_ PyProof.Rows.boot_tuple ?_ ?_ ?_ ?_ ?_) yH);walk_at"z";exact T.t4;walk_at"D_";all_goals walk_at"z")
|((with_reducible refine bz (bO (df ?_ ?_) ?_ ?_ PyProof.Rows.boot_repr ?_ ?_ ?_ ?_ ?_) fB);walk_at"z";walk_at"z";walk_at"z";exact T.kK;walk_at"D_";all_goals walk_at"z")
|((with_reducible refine Lu (by with_reducible assumption) (by with_reducible assumption) ?_ ?_ ?_ ?_ ?_ ?_ ?_);exact hr.mono (by decide);walk_at"z";walk_at"z";walk_at"z";walk_at"z";walk_at"z";walk_at"A"))
|`(tactic|walk_at"v4")=>`(tactic|focus first
|((with_reducible refine jF og tN ?_ ?_);walk_at"b";walk_at"b")
|((with_reducible refine jF Ke J9 ?_ ?_);walk_at"b";walk_at"b")
|((with_reducible refine jF GF GA ?_ ?_);walk_at"b";walk_at"b")
|((with_reducible refine jF hV Kc ?_ ?_);walk_at"b";walk_at"b")
|((with_reducible refine jF Kg Ka ?_ ?_);walk_at"b";walk_at"b"))
|`(tactic|walk_at"v6")=>`(tactic|focus first
|((with_reducible refine gh (tS ?_) (kj false) ?_ ?_ ?_);walk_at"z";walk_at"b";walk_at"b";all_goals walk_at"z")
|((with_reducible refine gh (mx ?_) (kj true) ?_ ?_ ?_);walk_at"z";walk_at"b";walk_at"b";all_goals walk_at"z")
|((with_reducible refine gh Ag Ad ?_ ?_ ?_);walk_at"b";walk_at"b";all_goals walk_at"z")
|((with_reducible refine gh hW hM ?_ ?_ ?_);walk_at"b";walk_at"b";all_goals walk_at"z")
|((with_reducible refine gh DE IH ?_ ?_ ?_);walk_at"b";walk_at"b";all_goals walk_at"z")
|((with_reducible refine gh DF II ?_ ?_ ?_);walk_at"b";walk_at"b";all_goals walk_at"z")
|((with_reducible refine gh DC Dy ?_ ?_ ?_);walk_at"b";walk_at"b";all_goals walk_at"z")
|((with_reducible refine gh Af Ac ?_ ?_ ?_);walk_at"b";walk_at"b";all_goals walk_at"z")
|((with_reducible refine gh DD (vz false) ?_ ?_ ?_);walk_at"b";walk_at"b";all_goals walk_at"z")
|((with_reducible refine gh mw (vz true) ?_ ?_ ?_);walk_at"b";walk_at"b";all_goals walk_at"z")
|((with_reducible refine wk hW hM hW hM ?_ ?_ ?_ ?_);walk_at"b";walk_at"b";walk_at"b";all_goals walk_at"z")
|((with_reducible refine wk hW hM Ag Ad ?_ ?_ ?_ ?_);walk_at"b";walk_at"b";walk_at"b";all_goals walk_at"z")
|((with_reducible refine LB ?_ ?_ ?_ ?_);walk_at"z";walk_at"b";walk_at"b";all_goals walk_at"z"))
|`(tactic|walk_at"v8")=>`(tactic|focus first
|((with_reducible refine K9 ?_ ?_);walk_at"v";walk_at"v")
|((with_reducible refine K6 ?_);walk_at"v"))
|`(tactic|walk_at"v")=>`(tactic|focus first
|((with_reducible refine O1 ?_);walk_at"f")
|((with_reducible refine vn _ ?_ ?_ ?_ ?_);all_goals walk_at"z")
|((with_reducible show EV _ _ (.Constant _ _ _) _);walk_at"v1")
|((with_reducible show EV _ _ (.Subscript _ _ _) _);walk_at"v2")
|((with_reducible show EV _ _ (.Call (.Name _ _) _ _ _) _);walk_at"v3")
|((with_reducible show EV _ _ (.BinOp _ _ _ _) _);walk_at"v4")
|((with_reducible refine Ep ?_);walk_at"a")
|((with_reducible show EV _ _ (.Compare _ _ _ _) _);walk_at"v6")
|((with_reducible refine K8 (Nq Jt ?_));walk_at"B_")
|((with_reducible show EV _ _ (.BoolOp _ _ _) _);walk_at"v8")
|((with_reducible refine Nc (E4 PySem.F.plainAttrs_str PySem.F.slot_str_join PySem.F.type_str_join GR ?_ ?_ ?_ ?_ ?_ ?_ ?_) GQ ?_);walk_at"B_";walk_at"D_";all_goals walk_at"z")
|((with_reducible refine Nb ?_ ?_ ?_);walk_at"c";walk_at"v";walk_at"v"))
|`(tactic|walk_at"c0")=>`(tactic|focus first
|((with_reducible refine cy (tS ?_) (kj false) ?_ ?_ ?_);walk_at"z";walk_at"b";walk_at"b";all_goals walk_at"z")
|((with_reducible refine cy (mx ?_) (kj true) ?_ ?_ ?_);walk_at"z";walk_at"b";walk_at"b";all_goals walk_at"z")
|((with_reducible refine cy Ag Ad ?_ ?_ ?_);walk_at"b";walk_at"b";all_goals walk_at"z")
|((with_reducible refine cy hW hM ?_ ?_ ?_);walk_at"b";walk_at"b";all_goals walk_at"z")
|((with_reducible refine cy DE IH ?_ ?_ ?_);walk_at"b";walk_at"b";all_goals walk_at"z")
|((with_reducible refine cy DF II ?_ ?_ ?_);walk_at"b";walk_at"b";all_goals walk_at"z")
|((with_reducible refine cy DC Dy ?_ ?_ ?_);walk_at"b";walk_at"b";all_goals walk_at"z")
|((with_reducible refine cy Af Ac ?_ ?_ ?_);walk_at"b";walk_at"b";all_goals walk_at"z")
|((with_reducible refine cy DD (vz false) ?_ ?_ ?_);walk_at"b";walk_at"b";all_goals walk_at"z")
|((with_reducible refine cy mw (vz true) ?_ ?_ ?_);walk_at"b";walk_at"b";all_goals walk_at"z")
|((with_reducible refine uR hW hM hW hM ?_ ?_ ?_ ?_);walk_at"b";walk_at"b";walk_at"b";all_goals walk_at"z")
|((with_reducible refine uR hW hM Ag Ad ?_ ?_ ?_ ?_);walk_at"b";walk_at"b";walk_at"b";all_goals walk_at"z")
|((with_reducible refine Jx ?_ ?_ ?_ ?_);walk_at"z";walk_at"b";walk_at"b";all_goals walk_at"z"))
|`(tactic|walk_at"c")=>`(tactic|focus first
|((with_reducible show TV _ _ (.Compare _ _ _ _) _);walk_at"c0")
|((with_reducible refine Jw ?_);walk_at"c")
|((with_reducible refine Ob ?_);walk_at"w")
|(refine Jv ?_;walk_at"v"))
|`(tactic|walk_at"b")=>`(tactic|focus first
|((with_reducible refine Ho _ (bv _ ?_ ?_ ?_ ?_));all_goals walk_at"z")
|((with_reducible refine EV.b ?_);walk_at"v"))
|`(tactic|walk_at"o")=>`(tactic|focus first
|with_reducible exact tM
|((with_reducible refine tK ?_);walk_at"b"))
|`(tactic|walk_at"f")=>`(tactic|focus first
|((with_reducible refine EA ?_);walk_at"a")
|((with_reducible refine EC (E2 ?_ ?_ ?_ ?_ ?_ ?_ ?_));walk_at"I_";walk_at"K_";walk_at"J_";walk_at"L_";all_goals walk_at"z")
|((with_reducible refine ED (I0 yf ?_ ?_));walk_at"B_";walk_at"B_")
|((with_reducible refine Ld (E2 ?_ ?_ ?_ ?_ ?_ ?_ ?_));walk_at"n";walk_at"K_";walk_at"J_";walk_at"L_";all_goals walk_at"z")
|((with_reducible refine B0 (bO (yL ?_) ?_ ?_ PyProof.Rows.boot_sorted (oE (LA ?_ ?_ ?_ ?_ ?_ ?_ ?_) uB ?_) ?_ ?_ ?_ ?_));walk_at"z";walk_at"z";exact T.vV;walk_at"I_";walk_at"K_";walk_at"J_";walk_at"L_";all_goals walk_at"z"))
|`(tactic|walk_at"w")=>`(tactic|focus first
|((with_reducible refine xA ?_ ?_);walk_at"c";walk_at"w")
|((with_reducible refine zm ?_);walk_at"c")
|((with_reducible refine Mf ?_ ?_);walk_at"c";walk_at"w")
|((with_reducible refine Jp ?_);walk_at"c"))
|`(tactic|walk_at"a")=>`(tactic|focus first
|with_reducible exact dJ
|((with_reducible refine aQ ?_ ?_ ?_);walk_at"v";walk_at"a";all_goals walk_at"z"))
|`(tactic|walk_at"A")=>`(tactic|focus first
|with_reducible exact d5
|((with_reducible refine cK ?_ ?_ ?_);walk_at"b";walk_at"A";all_goals walk_at"z"))
|`(tactic|walk_at"i")=>`(tactic|focus first
|((with_reducible refine t9 (mQ ?_ ?_ ?_ ?_));walk_at"z";exact T.oo;walk_at"D_";all_goals walk_at"z")
|((with_reducible refine Hb (B9 ?_ ?_ ?_ ?_ ?_));walk_at"z";exact T.oo;walk_at"D_";all_goals walk_at"z")
|((with_reducible refine KO ?_);walk_at"b")
|((with_reducible refine KN ?_);walk_at"v"))
|`(tactic|walk_at"n")=>`(tactic|focus first
|((with_reducible refine OM (Ly ?_ ?_ ?_ ?_ ?_));walk_at"z";exact T.fR;walk_at"P_";all_goals walk_at"z")
|((with_reducible refine M7 (E1 ?_ ?_ ?_ ?_ ?_));walk_at"z";exact T.fR;walk_at"P_";all_goals walk_at"z"))
|`(tactic|walk_at"q")=>`(tactic|focus first
|with_reducible exact xH
|((with_reducible refine xG ?_);walk_at"c"))
|`(tactic|walk_at"g")=>`(tactic|focus first
|((with_reducible refine ou (cJ ?_ ?_ ?_ ?_));all_goals walk_at"z")
|((with_reducible refine Ec (EJ ?_ ?_ ?_ ?_));walk_at"G";all_goals walk_at"z")
|((with_reducible refine oz (cJ ?_ ?_ ?_ ?_));all_goals walk_at"z")
|((with_reducible refine KW (EJ ?_ ?_ ?_ ?_));walk_at"G";all_goals walk_at"z"))
|`(tactic|walk_at"G")=>`(tactic|focus first
|with_reducible exact Nj
|((with_reducible refine Ni (cJ ?_ ?_ ?_ ?_) ?_ ?_);walk_at"z";walk_at"z";walk_at"z";walk_at"z";walk_at"G";all_goals walk_at"z"))
|`(tactic|walk_at"s")=>`(tactic|focus first
|with_reducible exact oO
|((with_reducible refine cT ?_ ?_);walk_at"t";walk_at"s")
|((with_reducible refine fh ?_);walk_at"t"))
|`(tactic|walk_at"t0")=>`(tactic|focus first
|((with_reducible refine f7 (AS (yZ (uw ?_ ?_ ?_ ?_ ?_ ?_ ?_ ?_ ?_ ?_ ?_ ?_))));walk_at"I_";walk_at"K_";walk_at"J_";walk_at"L_";walk_at"z";walk_at"z";walk_at"z";rfl;all_goals walk_at"z")
|((with_reducible refine xN (yZ (uw ?_ ?_ ?_ ?_ ?_ ?_ ?_ ?_ ?_ ?_ ?_ ?_)));walk_at"I_";walk_at"K_";walk_at"J_";walk_at"L_";walk_at"z";walk_at"z";walk_at"z";rfl;all_goals walk_at"z")
|((with_reducible refine f7 (AS (uH (uw ?_ ?_ ?_ ?_ ?_ ?_ ?_ ?_ ?_ ?_ ?_ ?_))));walk_at"n";walk_at"K_";walk_at"J_";walk_at"L_";walk_at"z";walk_at"z";walk_at"z";rfl;all_goals walk_at"z")
|((with_reducible refine xN (uH (uw ?_ ?_ ?_ ?_ ?_ ?_ ?_ ?_ ?_ ?_ ?_ ?_)));walk_at"n";walk_at"K_";walk_at"J_";walk_at"L_";walk_at"z";walk_at"z";walk_at"z";rfl;all_goals walk_at"z")
|((with_reducible refine f7 (iG ?_ ?_ ?_ ?_ ?_ ?_));walk_at"z";walk_at"z";walk_at"z";walk_at"V_";all_goals walk_at"z")
|((with_reducible refine xN (iG ?_ ?_ ?_ ?_ ?_ ?_));walk_at"z";walk_at"z";walk_at"z";walk_at"F_";all_goals walk_at"z")
|((with_reducible refine FP (iG ?_ ?_ ?_ ⟨Ds⟩ ?_ ?_));all_goals walk_at"z"))
|`(tactic|walk_at"t1")=>`(tactic|focus first
|((with_reducible refine JH (AL (E4 PySem.F.plainAttrs_list PySem.F.slot_list_append PySem.F.type_list_append ?_ (bv _ ?_ ?_ ?_ ?_) (oE ?_ uB ?_) ?_ ?_ ?_ ?_ ?_) ?_));exact rJ;walk_at"z";walk_at"z";walk_at"z";walk_at"z";walk_at"V_";all_goals walk_at"z")
|((with_reducible refine JG (AL (E4 PySem.F.plainAttrs_list PySem.F.slot_list_extend Cz ?_ (bv _ ?_ ?_ ?_ ?_) (oE ?_ uB ?_) ?_ ?_ ?_ ?_ ?_) ?_));exact BB;walk_at"z";walk_at"z";walk_at"z";walk_at"z";walk_at"V_";all_goals walk_at"z"))
|`(tactic|walk_at"t2")=>`(tactic|focus first
|((with_reducible refine sH (qd ?_ ?_ ?_ ?_ ?_ ?_));walk_at"z";walk_at"z";walk_at"I_";walk_at"H_";walk_at"S_";all_goals walk_at"z")
|((with_reducible refine FN (HF ?_ ?_ ?_ ?_ ?_ ?_));walk_at"z";walk_at"z";walk_at"V_";walk_at"H_";walk_at"S_";all_goals walk_at"z")
|((with_reducible refine FL (qd ?_ ?_ ?_ ?_ ?_ ?_));walk_at"z";walk_at"z";walk_at"n";walk_at"H_";walk_at"S_";all_goals walk_at"z"))
|`(tactic|walk_at"t3")=>`(tactic|focus first
|((with_reducible refine CK (yO ?_ (EJ ?_ ?_ ?_ ?_) ?_ ?_ ?_));walk_at"V_";walk_at"G";all_goals walk_at"z")
|((with_reducible refine JE (Lw ?_ ?_ ?_ ?_ ?_ ?_ ?_ ?_ ?_ ?_));walk_at"z";walk_at"z";walk_at"z";walk_at"z";walk_at"z";walk_at"z";walk_at"z";walk_at"P_";all_goals walk_at"z"))
|`(tactic|walk_at"t4")=>`(tactic|focus first
|((with_reducible refine FO (HG ?_ (bv _ ?_ ?_ ?_ ?_) ?_ ?_ ?_));walk_at"z";walk_at"z";walk_at"z";walk_at"z";walk_at"z";walk_at"B_";walk_at"V_";all_goals walk_at"z")
|((with_reducible refine FK (yO ?_ (Lz (bv _ ?_ ?_ ?_ ?_) ?_ set_list ?_) ?_ ?_ ?_));walk_at"V_";walk_at"z";walk_at"z";walk_at"z";walk_at"z";walk_at"B_";(intro a b;exact tI a b set_list);all_goals walk_at"z"))
|`(tactic|walk_at"t")=>`(tactic|focus first
|((with_reducible refine i8 (jN ?_));walk_at"V_")
|((with_reducible refine uY (wU ?_ ?_ ?_));walk_at"C_";walk_at"S_";walk_at"S_")
|((with_reducible refine JF ?_);walk_at"t")
|((with_reducible show SV _ _ (.Assign [.Name _ _] _ _) _);walk_at"t0")
|((with_reducible show SV _ _ (.Expr _ _) _);walk_at"t1")
|((with_reducible show SV _ _ (.For _ _ _ _ _) _);walk_at"t2")
|((with_reducible show SV _ _ (.Assign [.Tuple _ _ _] _ _) _);walk_at"t3")
|((with_reducible show SV _ _ (.Assign [.Subscript _ _ _] _ _) _);walk_at"t4")
|((with_reducible refine CJ _ (EU ?_ ?_ ?_));walk_at"z";walk_at"C_";walk_at"S_"))
|`(tactic|walk_at"z")=>`(tactic|focus first
|rfl
|exact hr.units
|exact nd
|exact Or.inl rfl
|exact Or.inr rfl
|decide
|exact fq _
|exact (λ_=>rfl)
|exact λ_ _=>rfl
|exact Ea hr
|exact DJ (by kernel_rfl)
|exact PassesOwn.never
|exact hr.gd
|exact hr.units0
|exact Or.inr (Or.inl rfl)
|exact Or.inr (Or.inr rfl)
|kernel_rfl)
|`(tactic|walk_at"V_")=>`(tactic|focus (show EV _ _ _ _;walk_at"v"))
|`(tactic|walk_at"B_")=>`(tactic|focus (show EB _ _ _ _;walk_at"b"))
|`(tactic|walk_at"F_")=>`(tactic|focus (show EF _ _ _ _;walk_at"f"))
|`(tactic|walk_at"C_")=>`(tactic|focus (show TV _ _ _ _;walk_at"c"))
|`(tactic|walk_at"S_")=>`(tactic|focus (show Fd _ _ _ _;walk_at"s"))
|`(tactic|walk_at"P_")=>`(tactic|focus (show AV _ _ _ _;walk_at"a"))
|`(tactic|walk_at"D_")=>`(tactic|focus (show AB _ _ _ _;walk_at"A"))
|`(tactic|walk_at"I_")=>`(tactic|focus (show IV _ _ _ _ _ _;walk_at"i"))
|`(tactic|walk_at"O_")=>`(tactic|focus (show OV _ _ _ _;walk_at"o"))
|`(tactic|walk_at"H_")=>`(tactic|focus (show GS _ _ _ _;walk_at"g"))
|`(tactic|walk_at"K_")=>`(tactic|focus (intro _ _ _ _;show GV _ _ _ _;walk_at"g"))
|`(tactic|walk_at"J_")=>`(tactic|focus (intro _ _ _ _;show O7 _ _ _ _;walk_at"q"))
|`(tactic|walk_at"L_")=>`(tactic|focus (intro _ _ _ _;show EV _ _ _ _;walk_at"v"))
|`(tactic|walk_at"k")=>`(tactic|focus (refine K3 C nd rfl (by decide) (by conv=>lhs;whnf) (by conv=>lhs;whnf) λeF A outer s H E hr=>?_;replace nd := nd.nd))
variable {P:Program} {w:World} {K:Frag} {mg:Str->Option Value} {base:Heap} {aZ:N7} {dZ:N5} (T:Txt K mg aZ dZ)
variable (ar:di P w K mg base i5 1 aZ.qj dZ.yC ["_law_state","_law_many"] (xP (cO aZ.ak aZ.ah K) af)) (kb:K.In base) (hB:FA base mg)
include T ar kb hB
theorem tT:km P w base (cO aZ.ak aZ.ah K) 1 T.jJ fY:=by
 have C:=T.jJ
 have nd:=sQ
 walk_at "k"
 unfold jr
 walk_at "s"
theorem h8:km P w base (cO aZ.ak aZ.ah K) 1 T.eI cR:=by
 have C:=T.eI
 have nd:=sZ
 walk_at "k"
 unfold jA
 walk_at "s"
theorem yh:km P w base (cO aZ.ak aZ.ah K) 2 T.mN fe:=by
 have nv:=h8 T ar kb hB
 have nC:=T.eI
 have C:=T.mN
 have nd:=xR
 walk_at "k"
 unfold mC
 walk_at "s"
theorem m6:km P w base (cO aZ.ak aZ.ah K) 2 T.iz bV:=by
 have nv:=h8 T ar kb hB
 have nC:=T.eI
 have C:=T.iz
 have nd:=vf
 walk_at "k"
 unfold kJ
 walk_at "s"
theorem tV:km P w base (cO aZ.ak aZ.ah K) 2 T.jL cQ:=by
 have nv:=h8 T ar kb hB
 have nC:=T.eI
 have C:=T.jL
 have nd:=sT
 walk_at "k"
 unfold jv
 walk_at "s"
theorem qH:km P w base (cO aZ.ak aZ.ah K) 3 T.iB cp:=by
 have Mb:=yh T ar kb hB
 have Md:=T.mN
 have C:=T.iB
 have nd:=qA
 walk_at "k"
 unfold eV
 walk_at "s"
theorem qI:km P w base (cO aZ.ak aZ.ah K) 3 T.iC bF:=by
 have Jg:=tV T ar kb hB
 have Jk:=T.jL
 have C:=T.iC
 have nd:=qB
 walk_at "k"
 unfold dF
 walk_at "s"
theorem jm:km P w base (cO aZ.ak aZ.ah K) 4 T.d8 aJ:=by
 have HS:=qH T ar kb hB
 have HU:=qI T ar kb hB
 have Ib:=T.iC
 have Ia:=T.iB
 have C:=T.d8
 have nd:=oV
 walk_at "k"
 unfold bR
 walk_at "s"
theorem nL:km P w base (cO aZ.ak aZ.ah K) 5 T.fD bh:=by
 have za:=m6 T ar kb hB
 have qV:=jm T ar kb hB
 have qW:=T.d8
 have zi:=T.iz
 have C:=T.fD
 have nd:=nH
 walk_at "k"
 unfold fv
 walk_at "s"
theorem qL:km P w base (cO aZ.ak aZ.ah K) 1 T.iF dR:=by
 have C:=T.iF
 have nd:=qE
 walk_at "k"
 unfold ip
 walk_at "s"
theorem h7:km P w base (cO aZ.ak aZ.ah K) 6 T.eG bA:=by
 have HX:=qL T ar kb hB
 have Fh:=nL T ar kb hB
 have Ig:=T.iF
 have Fn:=T.fD
 have C:=T.eG
 have nd:=sS
 walk_at "k"
 unfold ju
 walk_at "s"
theorem mZ:km P w base (cO aZ.ak aZ.ah K) 7 T.iy bg:=by
 have Je:=tT T ar kb hB
 have jV:=h7 T ar kb hB
 have za:=m6 T ar kb hB
 have qV:=jm T ar kb hB
 have qW:=T.d8
 have xo:=T.eG
 have zi:=T.iz
 have Ji:=T.jJ
 have C:=T.iy
 have nd:=ve
 walk_at "k"
 unfold kI
 walk_at "s"
theorem qG:km P w base (cO aZ.ak aZ.ah K) 1 T.iA bE:=by
 have C:=T.iA
 have nd:=qz
 walk_at "k"
 unfold dE
 walk_at "s"
theorem vB:km P w base (cO aZ.ak aZ.ah K) 2 T.oC j7:=by
 have HR:=qG T ar kb hB
 have HZ:=T.iA
 have C:=T.oC
 have nd:=CZ
 walk_at "k"
 unfold tZ
 walk_at "s"
theorem tU:km P w base (cO aZ.ak aZ.ah K) 7 T.jK fZ:=by
 have jV:=h7 T ar kb hB
 have HP:=vB T ar kb hB
 have xo:=T.eG
 have HY:=T.oC
 have C:=T.jK
 have nd:=sR
 walk_at "k"
 unfold jt
 walk_at "s"
theorem nK:km P w base (cO aZ.ak aZ.ah K) 1 T.fC dO:=by
 have C:=T.fC
 have nd:=nG
 walk_at "k"
 unfold fu
 walk_at "s"
theorem DI:km P w base (cO aZ.ak aZ.ah K) 8 T.uv lW:=by
 have Fg:=nK T ar kb hB
 have Jf:=tU T ar kb hB
 have Fj:=T.fC
 have Jj:=T.jK
 have C:=T.uv
 have nd:=C0
 walk_at "k"
 unfold t5
 walk_at "s"
theorem yi:km P w base (cO aZ.ak aZ.ah K) 8 T.mO ff:=by
 have qt:=mZ T ar kb hB
 have HP:=vB T ar kb hB
 have HY:=T.oC
 have LP:=T.iy
 have C:=T.mO
 have nd:=xS
 walk_at "k"
 unfold mD
 walk_at "s"
theorem vC:km P w base (cO aZ.ak aZ.ah K) 2 T.kW iM:=by
 have fM:=T.bI
 have C:=T.kW
 have nd:=vg
 walk_at "k"
 unfold kL
 walk_at "s"
theorem lE:km P w base (cO aZ.ak aZ.ah K) 3 T.fU dw:=by
 have LN:=vC T ar kb hB
 have LQ:=T.kW
 have C:=T.fU
 have nd:=sU
 walk_at "k"
 unfold jw
 walk_at "s"
theorem vH:km P w base (cO aZ.ak aZ.ah K) 4 T.k5 iN:=by
 have xj:=lE T ar kb hB
 have fM:=T.bI
 have xp:=T.fU
 have C:=T.k5
 have nd:=vm
 walk_at "k"
 unfold kQ
 walk_at "s"
theorem qK:km P w base (cO aZ.ak aZ.ah K) 2 T.iE dQ:=by
 have fM:=T.bI
 have C:=T.iE
 have nd:=qD
 walk_at "k"
 unfold ij
 walk_at "s"
theorem vF:km P w base (cO aZ.ak aZ.ah K) 2 T.kZ fK:=by
 have fM:=T.bI
 have C:=T.kZ
 have nd:=vj
 walk_at "k"
 unfold kO
 walk_at "s"
theorem qJ:km P w base (cO aZ.ak aZ.ah K) 2 T.iD dP:=by
 have fM:=T.bI
 have C:=T.iD
 have nd:=qC
 walk_at "k"
 unfold ig
 walk_at "s"
theorem tW:km P w base (cO aZ.ak aZ.ah K) 4 T.jM f6:=by
 have xj:=lE T ar kb hB
 have HW:=qK T ar kb hB
 have HV:=qJ T ar kb hB
 have LO:=vF T ar kb hB
 have Ie:=T.iE
 have Ic:=T.iD
 have fM:=T.bI
 have LR:=T.kZ
 have xp:=T.fU
 have C:=T.jM
 have nd:=sX
 walk_at "k"
 unfold jy
 walk_at "s"
theorem vI:di P w K mg base i5 4 aZ.k7 dZ.yE ["_law_pages_here"] (xP (cO aZ.ak aZ.ah K) iO):=by
 have eb:=Eq.refl (bo cn)
 conv at eb=>rhs;whnf
 have es:=Eq.refl (ao cn)
 conv at es=>rhs;whnf
 refine Em (N:=["_law_pages_here"]) (ps:=["_law_pages_here"]) (k:=3) (m:=il) rfl T.qr vo (by decide) eb es λA outer s H E hr=>?_
 unfold il
 exact(fh (i8 (jN (bz (j5 gk rfl T.t4 PyProof.Rows.boot_tuple (cK (EV.b (EF.v (Ez (tb:=(aZ.ak,_)) PB (by intro q hq e;simp only[PR,PU,or_false] at hq;rcases hq with rfl|rfl<;>first|rfl|exact absurd e T.jn) ⟨Dq (k:=0) (N:=["_law_page_here"]) (y:="_law_page_here") (hr.mono (by decide)) hB rfl (PySem.W.codeHd_of_K kb T.qr.hd) rfl rfl ⟨rfl,rfl,rfl,by decide,rfl,by decide +kernel,by decide +kernel⟩ (λ_ _ _ _ _=>.of_eq rfl) (λ_ _ _ _ _=>yc (cD (gy pH (pv 0) aP (λ_ _=>rfl)) (cD (gy pH (pv 0) aP (λ_ _=>rfl)) eL))) rfl T.vV (vb 0).out⟩))) d5)) yH))))
theorem m7:di P w K mg base i5 4 aZ.k6 dZ.yD ["_law_pages_here","_law_kind","_law_name","_law_t"] (xP (cO aZ.ak aZ.ah K) dq):=by
 have eb:=Eq.refl (bo bQ)
 conv at eb=>rhs;whnf
 have es:=Eq.refl (ao bQ)
 conv at es=>rhs;whnf
 refine Em (N:=["_law_pages_here","_law_kind","_law_name","_law_t","_law_found"]) (ps:=["_law_pages_here","_law_kind","_law_name","_law_t"]) (k:=3) (m:=ie) rfl T.qq mX (by decide) eb es λA outer s H E hr=>?_
 unfold ie
 exact(cT (f7 (AS (yZ (EW (k:=4) mX.nd rfl (Or.inl rfl) (a7.Kv (N:=["_law_page_here","_law_kind","_law_name","_law_t"]) (js:=[none,some 1,some 2,some 3]) (ao bQ) ["_law_pages_here","_law_kind","_law_name","_law_t","_law_found"] rfl rfl (by decide +kernel)) rfl (KO (vb 0)) (λ_ _ _ _=>(ou (cJ (i:=0) (by decide:(["_law_page_here","_law_kind","_law_name","_law_t"]:List Str).Nodup) rfl (Or.inl rfl)))) (λ_ _ _ _=>(xG (WV.t (xA (cy (tS hr.units) (kj false) (EV.b (xi (vb 0) ib)) (vb 1) (fq _)) (xA (cy (tS hr.units) (kj false) (EV.b (xi (vb 0) ib)) (vb 2) (fq _)) (zm (cy hW hM (EV.b (xi (vb 0) ib)) (vb 3) (fq _)))))))) (λ_ _ _ _=>(vn 0))))))
  (fh (i8 (jN (Hl (tb:=(aZ.ah,_)) (PH _ PB) (by intro q hq e;simp only[PR,PU,or_false] at hq;rcases hq with rfl|rfl<;>first|rfl|exact absurd e T.jo) ⟨Gu (k:=0) (N:=["_law_page_here"]) (y:="_law_page_here") (hr.mono (by decide)) hB rfl (PySem.W.codeHd_of_K kb T.qq.hd) rfl rfl ⟨rfl,rfl,rfl,by decide,rfl,by decide +kernel,by decide +kernel⟩ (λ_ _ _ _ _=>.of_eq rfl) (λ_ _ _ _ _=>yc (cD (gy pH (pv 0) aP (λ_ _=>rfl)) (cD (gy pH (pv 0) aP (λ_ _=>rfl)) eL))) rfl T.IL (vb 4).out⟩)))))
theorem lG:km P w base (cO aZ.ak aZ.ah K) 5 T.fX cj:=by
 have zd:=m7 T ar kb hB
 have zj:=T.qc
 have C:=T.fX
 have nd:=sY
 walk_at "k"
 unfold jz
 walk_at "s"
theorem lF:km P w base (cO aZ.ak aZ.ah K) 5 T.fW bP:=by
 have zd:=m7 T ar kb hB
 have zj:=T.qc
 have C:=T.fW
 have nd:=sV
 walk_at "k"
 unfold jx
 walk_at "s"
theorem vG:km P w base (cO aZ.ak aZ.ah K) 6 T.k4 d6:=by
 have xk:=lF T ar kb hB
 have xn:=lG T ar kb hB
 have xr:=T.fX
 have xq:=T.fW
 have C:=T.k4
 have nd:=vk
 walk_at "k"
 unfold kP
 walk_at "s"
theorem vD:km P w base (cO aZ.ak aZ.ah K) 6 T.kX fI:=by
 have xk:=lF T ar kb hB
 have xn:=lG T ar kb hB
 have xr:=T.fX
 have xq:=T.fW
 have C:=T.kX
 have nd:=vh
 walk_at "k"
 unfold kM
 walk_at "s"
theorem yj:km P w base (cO aZ.ak aZ.ah K) 1 T.mP fg:=by
 have C:=T.mP
 have nd:=xT
 walk_at "k"
 unfold mE
 walk_at "s"
theorem vE:km P w base (cO aZ.ak aZ.ah K) 1 T.kY fJ:=by
 have C:=T.kY
 have nd:=vi
 walk_at "k"
 unfold kN
 walk_at "s"
theorem Kj (jW:di P w K mg base i5 1 aZ.j6 dZ.uj ["_law_script"] (sJ K)) (hm:(pj ((List.replicate 13 un).set 1 (.val .bD))).wp 1000000 λf _=>f= .rt (.bl true)):di P w K mg base i5 9 aZ.sC dZ.IY ["_law_script"] (l6 K [aZ.ak,aZ.ah]):=by
 have zf:=vH T ar kb hB
 have xm:=tW T ar kb hB
 have zg:=vI T ar kb hB
 have ze:=vG T ar kb hB
 have zb:=vD T ar kb hB
 have jV:=h7 T ar kb hB
 have HQ:=DI T ar kb hB
 have zc:=vE T ar kb hB
 have Cb:=yi T ar kb hB
 have Cc:=yj T ar kb hB
 have qt:=mZ T ar kb hB
 have eb:=Eq.refl (bo fQ)
 conv at eb=>rhs;whnf
 have es:=Eq.refl (ao fQ)
 conv at es=>rhs;whnf
 refine L2.G4 (tabs:=[(aZ.ak,(("_law_book":Str)++".<locals>."++"<lambda>")),(aZ.ah,(("_law_page":Str)++".<locals>."++"<lambda>"))]) (N:=["_law_script","_law_state","_law_ways","_law_home","_law_dark","_law_hill_here","_law_pages_here","_law_book_here","_law_table","_law_whys_here","_law_way","_law_t","_law_w"]) (k:=8) (b:=1) (m:=pj) T.Nm.F dC eb es (λeF A outer s H E hr=>?_) (λeF A outer s H E hr=>?_) hm (by decide) (by decide) (by decide)
 ·exact(iG (i:=1) dC.nd rfl (Or.inl rfl) (oD jW (hr.mono (by decide)) rfl T.fV.m T.fV.F.kp T.fV.b .nil zY (oE (bv 0) uB)))
 ·unfold pj
  exact(cT (CK (ks:=[2,3,4]) (yO (ec zf T.k5 hr (a3 (vn 1) (xi (EV.b (EF.v (EA (a3 gg gg gg)))) (EV.b (ec ar T.bI hr (aQ (vn 1) (aQ gg dJ))))) gg)) (yP rfl (gF (cJ (i:=2) dC.nd rfl (Or.inl rfl)) (gF (cJ (i:=3) dC.nd rfl (Or.inl rfl)) (gF (cJ (i:=4) dC.nd rfl (Or.inl rfl)) uy))))))
  (cT (f7 (iG (i:=5) dC.nd rfl (Or.inr rfl) (Ep (a3 (vn 2) (vn 3) (bz (bO (sk rfl) rfl T.IK PyProof.Rows.boot_min (cK (vb 4) (cK (EV.b (jF og tN ib (EV.b (ec ar T.bI hr (aQ (vn 1) (aQ gg dJ)))))) d5))) AH)))))
  (cT (f7 (iG (i:=6) dC.nd rfl (Or.inr rfl) (ec xm T.jM hr (a4 (vn 1) (vn 5) gg (ec ar T.bI hr (aQ (vn 1) (aQ gg dJ)))))))
  (cT (f7 (iG (i:=7) dC.nd rfl (Or.inl rfl) (ec zg T.yN hr (aQ (vn 6) dJ))))
  (cT (f7 (iG (i:=8) dC.nd rfl (Or.inr rfl) (EF.v (EC (E3 (a7.Kv (N:=["_law_t","_law_hill_here","_law_pages_here"]) (js:=[none,some 5,some 6]) (ao fQ) ["_law_script","_law_state","_law_ways","_law_home","_law_dark","_law_hill_here","_law_pages_here","_law_book_here","_law_table","_law_whys_here","_law_way","_law_t","_law_w"] rfl rfl (by decide +kernel)) rfl (t9 (mQ rfl T.oo (cK (EV.b (jF og tN (EV.b (xi (vb 5) ib)) ib)) d5))) (λ_ _ _ _=>(ou (cJ (i:=0) (by decide:(["_law_t","_law_hill_here","_law_pages_here"]:List Str).Nodup) rfl (Or.inl rfl)))) (λ_ _ _ _=>xH) (λ_ _ _ _=>(ec ze T.k4 hr (a3 (vn 1) (vn 2) (vn 0)))))))))
  (cT (f7 (AS (uH (EW (k:=9) dC.nd rfl (Or.inl rfl) (a7.Kv (N:=["_law_t","_law_opened","_law_hill_here","_law_pages_here"]) (js:=[none,none,some 5,some 6]) (ao fQ) ["_law_script","_law_state","_law_ways","_law_home","_law_dark","_law_hill_here","_law_pages_here","_law_book_here","_law_table","_law_whys_here","_law_way","_law_t","_law_w"] rfl rfl (by decide +kernel)) rfl (M7 (E1 rfl T.fR (aQ (vn 8) dJ))) (λ_ _ _ _=>(Ec (ks:=[0,1]) (yP rfl (gF (cJ (i:=0) (by decide:(["_law_t","_law_opened","_law_hill_here","_law_pages_here"]:List Str).Nodup) rfl (Or.inl rfl)) (gF (cJ (i:=1) (by decide:(["_law_t","_law_opened","_law_hill_here","_law_pages_here"]:List Str).Nodup) rfl (Or.inl rfl)) uy))))) (λ_ _ _ _=>xH) (λ_ _ _ _=>(ec zb T.kX hr (a4 (vn 2) (vn 3) (vn 1) (vn 0))))))))
  (cT (sH (qd PassesOwn.never rfl (KN (vn 2)) (oz (cJ (i:=10) dC.nd rfl (Or.inl rfl))) (fh (uY (wU (cy (mx hr.units) (kj true) (EV.b (bz (bO (df hr.gd hr.units) rfl T.kK PyProof.Rows.boot_repr (cK (EV.b (ec HQ T.uv hr (a3 (vn 5) (vn 7) (xi (vb 10) ib)))) d5)) fB)) (EV.b (bz (bO (df hr.gd hr.units) rfl T.kK PyProof.Rows.boot_repr (cK (EV.b (ec zc T.kY hr (aQ (vn 8) (aQ (xi (vb 10) ib) dJ)))) d5)) fB)) (fq _)) (fh (i8 (jN sa))) oO)))))
  (cT (sH (qd PassesOwn.never rfl (t9 (mQ rfl T.oo (cK (EV.b (jF og tN (EV.b (xi (vb 5) ib)) ib)) d5))) (oz (cJ (i:=11) dC.nd rfl (Or.inr rfl))) (cT (uY (wU (cy (mx hr.units) (kj true) (EV.b (ec jV T.eG hr (a3 (vn 5) (vn 7) (vn 11)))) (EV.b (bz (j5 gk rfl T.t4 PyProof.Rows.boot_tuple (cK (EV.b (xi (vb 8) (vb 11))) d5)) yH)) (fq _)) (fh (i8 (jN sa))) oO))
  (cT (sH (qd PassesOwn.never rfl (KN (EF.v (ED (I0 yf (EV.b (pT (qh JM (EV.b (EF.v (EC (E3 (a7.Kv (N:=["_law_way","_law_table","_law_t"]) (js:=[none,some 8,some 11]) (ao fQ) ["_law_script","_law_state","_law_ways","_law_home","_law_dark","_law_hill_here","_law_pages_here","_law_book_here","_law_table","_law_whys_here","_law_way","_law_t","_law_w"] rfl rfl (by decide +kernel)) rfl (KO (vb 2)) (λ_ _ _ _=>(ou (cJ (i:=0) (by decide:(["_law_way","_law_table","_law_t"]:List Str).Nodup) rfl (Or.inl rfl)))) (λ_ _ _ _=>(xG (cy mw (vz true) (EV.b (xi (vb 0) ib)) (EV.b (xi (vb 1) (vb 2))) rfl))) (λ_ _ _ _=>(xi (vb 0) ib)))))) tM (tK ib)) JI)) (EV.b (pT (qh JM (EV.b (xi (vb 8) (vb 11))) tM (tK ib)) JI)))))) (oz (cJ (i:=12) dC.nd rfl (Or.inl rfl))) (fh (uY (wU (cy (mx hr.units) (kj true) (EV.b (bz (bO (df hr.gd hr.units) rfl T.kK PyProof.Rows.boot_repr (cK (EV.b (ec qt T.iy hr (a4 (vn 5) (vn 7) (vn 12) (vn 11)))) d5)) fB)) (EV.b (bz (bO (df hr.gd hr.units) rfl T.kK PyProof.Rows.boot_repr (cK (EV.b (AO (Ea hr) (EV.b (xi (vb 9) (vb 11))) (vb 12) (λ_ _=>rfl))) d5)) fB)) (fq _)) (fh (i8 (jN sa))) oO)))))
  (cT (f7 (iG (i:=12) dC.nd rfl (Or.inl rfl) (xi (EV.b (xi (vb 2) (EV.b (ec ar T.bI hr (aQ (vn 1) (aQ (bz (bO qa rfl T.IM PySem.boot_len (cK (vb 2) d5)) EK) dJ)))))) ib)))
  (fh (uY (wU (cy (mx hr.units) (kj true) (EV.b (bz (bO (df hr.gd hr.units) rfl T.kK PyProof.Rows.boot_repr (cK (EV.b (ec Cb T.mO hr (a4 (vn 5) (vn 7) (vn 12) (vn 11)))) d5)) fB)) (EV.b (bz (bO (df hr.gd hr.units) rfl T.kK PyProof.Rows.boot_repr (cK (EV.b (ec Cc T.mP hr (a4 (vn 8) (vn 9) (vn 12) (vn 11)))) d5)) fB)) (fq _)) (fh (i8 (jN sa))) oO))))))))
  (fh (i8 (jN sa)))))))))))
end
def Pe (i j:Int):bT false (.int i) (.int j)= .ret (.bl (i==j)):=by
 show M.ret (PV.bl (xor false (i==j)))=_
 simp
def yA (i j:Str):bT false (.str i) (.str j)= .ret (.bl (i==j)):=by
 show M.ret (PV.bl (xor false (i==j)))=_
 simp
def ay (h:m ρ= .ret (.nx ρ')) (h':(k ρ').bind bC=Y):(au m k ρ).bind bC=Y:=by
 unfold au;rw[h];exact h'
def cB (h:c ρ= .ret false):cN c a b ρ=b ρ:=by unfold cN;rw[h];rfl
def c9 (h:c ρ= .ret true):cN c a b ρ=a ρ:=by unfold cN;rw[h];rfl
def aU (h:m (ρ.map Ent.freeze)= .ret y):aT m ρ= .ret (.rt y):=by unfold aT;rw[h];rfl
def br {m:ae->M Fl} (h:m ρ= .ret (.rt y)):(m ρ).bind bC= .ret y:=by rw[h];rfl
def aL (y:PV) (ρ:ae):aq (.val y::ρ) 0= .ret y:=rfl
def aS (e:Ent) (ρ:ae) (i:Nat):aq (e::ρ) (i+1)=aq ρ i:=rfl
def we (l:List PV) (ρ:ae):eZ (.own l::ρ) 0= .ret (.lst l):=rfl
def IS (e:Ent) (ρ:ae) (i:Nat):eZ (e::ρ) (i+1)=eZ ρ i:=rfl
def eO (h0:0<=d) (h1:d < l.length): ∃ y∈l,k8 l d=some y:=by
 have hd:d.toNat < l.length:=by lia
 have e:d=((d.toNat:Nat):Int):=by lia
 refine⟨l[d.toNat],Qq hd,?_⟩
 have q:=AR (Py hd)
 rw[<-e] at q
 exact q
theorem o8: ∀ (ys:List Str),(∀ z∈ys,z.length=1)->(ys.map (·.length)).sum=ys.length
 |[],_=>rfl
 |y::r,h=>by
  have:=o8 r λz hz=>h z (PH _ hz)
  rw[PQ,List.sum_cons,this,h y PB,PY]
  lia
def join_ones (ys:List Str) (h: ∀ z∈ys,z.length=1):(Txt.join (Str.ofString "") ys).length=ys.length:=by
 show (Builtin.Str.glued (Str.ofString "") ys).length=_
 rw[PySem.size_glued]
 have e:(Str.ofString "").length=0:=by decide
 rw[e]
 have:=o8 ys h
 lia
def Lets (x:Str):Prop:= ∀ c∈x.cps.toList,97<=c/\c<=122
def One (y:PV):Prop:= ∃ c:Nat,y= .str ⟨#[c]⟩/\97<=c/\c<=122
theorem u4: ∀ (l:List PV),(∀ y∈l,One y)->∃ ys,strsOf l=some ys/\ys.length=l.length/\∀ z∈ys,z.length=1/\Lets z
 |[],_=>⟨[],rfl,rfl,λz hz=>by simp at hz⟩
 |y::l,h=>by
  obtain⟨ys,e1,e2,e3⟩:=u4 l λy hy=>h y (PH _ hy)
  obtain⟨c,rfl,hc⟩:=h y PB
  exact⟨⟨#[c]⟩::ys,by simp[strsOf,e1],by simp[e2],λu hu=>by
   rcases PR.mp hu with rfl|hu
   ·exact⟨rfl,λd hd=>by simp at hd;subst hd;exact hc⟩
   ·exact e3 u hu⟩
theorem r6 (sep:Str) (hs:Lets sep): ∀ (ys:List Str) (acc:Array Nat),(∀ z∈ys,Lets z)->(∀ c∈acc.toList,97<=c/\c<=122)->∀ c∈(ys.foldl (λacc p=>acc++sep.cps++p.cps) acc).toList,97<=c/\c<=122
 |[],acc,_,ha=>ha
 |y::ys,acc,h,ha=>by
  rw[List.foldl_cons]
  refine r6 sep hs ys _ (λz hz=>h z (PH _ hz)) λc hc=>?_
  rw[Array.toList_append,Array.toList_append,Qu,Qu] at hc
  rcases hc with(hc|hc)|hc
  ·exact ha c hc
  ·exact hs c hc
  ·exact h y PB c hc
def BM (ys:List Str) (h: ∀ z∈ys,Lets z):Lets (Txt.join (Str.ofString "") ys):=by
 have he:Lets (Str.ofString ""):=λc hc=>by
  have:(Str.ofString "").cps.toList=[]:=by decide
  rw[this] at hc;simp at hc
 show Lets (Builtin.Str.glued (Str.ofString "") ys)
 unfold Builtin.Str.glued
 cases ys with
 |nil=>exact λc hc=>by simp[Str.empty] at hc
 |cons y ys=>exact r6 _ he ys _ (λz hz=>h z (PH _ hz)) (h y PB)
def Lr (x:Str) (j:Int) (c:Nat) (hc:(c:Int)=if j < 0 then max 0 (j+x.length) else min j x.length):Txt.slice x none (some j)=⟨(x.cps.toList.take c).toArray⟩:=by
 have hle:c<=x.length:=by split at hc<;>lia
 have e:Builtin.Str.strSliceIndices none (some j) 1 x.length=Builtin.Str.strSliceIndices (some ((0:Nat):Int)) (some (c:Int)) 1 x.length:=by
  unfold Builtin.Str.strSliceIndices
  simp
  congr 1<;>lia
 have e2:=StrLaws.sliceText_nat x (Qe c) hle
 have e3:Txt.slice x none (some j)=StrLaws.sliceText x (some ((0:Nat):Int)) (some (c:Int)):=by
  unfold Txt.slice StrLaws.sliceText
  rw[e]
 rw[e3,e2,List.drop_zero,Nat.sub_zero]
def EL (h:Lets x) (c:Nat):Lets ⟨(x.cps.toList.take c).toArray⟩:=λd hd=>h d (List.mem_of_mem_take (by simpa using hd))
def uu (x:Str) (c:Nat):(⟨(x.cps.toList.take c).toArray⟩:Str).length=min c x.length:=by
 show (x.cps.toList.take c).toArray.size=_
 rw[PK,List.length_take]
 simp[Str.length]
def E9 (hx:Lets x) (hy:Lets y):Lets (x++y):=λc hc=>by
 have:c∈x.cps.toList++y.cps.toList:=by
  rw[<-Array.toList_append];exact hc
 rcases Qu.mp this with h|h
 ·exact hx c h
 ·exact hy c h
def AU (x y:Str):(x++y).length=x.length+y.length:=Array.size_append
def cG {m k:ae->M Fl} {I:ae->Prop} (h:Gen (m ρ) c λf=> ∃ ρ',f= .nx ρ'/\I ρ') (h': ∀ ρ',I ρ'->Gen ((k ρ').bind bC) d Pr):Gen ((au m k ρ).bind bC) (c+d) Pr:=by
 unfold au
 rw[M.bZ]
 refine Gen.bind h λf hf=>?_
 obtain⟨ρ',rfl,hi⟩:=hf
 exact h' ρ' hi
def gC {m k:ae->M Fl} {I:ae->Prop} (h:Gen (m ρ) c λf=> ∃ ρ',f= .nx ρ'/\I ρ') (h': ∀ ρ',I ρ'->Gen (k ρ') d Pr):Gen (au m k ρ) (c+d) Pr:=by
 unfold au
 refine Gen.bind h λf hf=>?_
 obtain⟨ρ',rfl,hi⟩:=hf
 exact h' ρ' hi
def wc {m:ae->M Fl} {I:ae->Prop} (h:m ρ= .ret (.nx ρ')) (hi:I ρ'):Gen (m ρ) 0 λf=> ∃ ρ',f= .nx ρ'/\I ρ':=Gen.eq h ⟨ρ',rfl,hi⟩
theorem K0 {mb:ae->M Fl} {Iv:Nat->ae->Prop}: ∀ (l:List PV) (i:Nat) (ρ:ae),Iv i ρ->(∀ y∈l,∀ j < i+l.length,∀ ρ,Iv j ρ->Gen (mb (ρ.set k (.val y))) c λf=> ∃ ρ',f= .nx ρ'/\Iv (j+1) ρ')->Gen (bp (aA k) mb l ρ) (l.length * c) λf=> ∃ ρ',f= .nx ρ'/\Iv (i+l.length) ρ'
 |[],i,ρ,h,_=>Gen.le (Gen.ret ⟨ρ,rfl,h⟩) (by simp)
 |y::l,i,ρ,h,hb=>by
  unfold bp
  simp only[aA,rZ]
  refine Gen.le (Gen.bind (hb y PB i (by simp) ρ h) λf hf=>?_) (d:=(y::l).length * c) (Nat.le_of_eq (?_:c+l.length * c=_))
  ·obtain⟨ρ',rfl,h'⟩:=hf
   have q:=K0 l (i+1) ρ' h' λy' hy j hj=>hb y' (PH _ hy) j (by simp only[PY];lia)
   rw[show i+(y::l).length=i+1+l.length by simp only[PY];lia]
   exact q
  ·simp only[PY,Nat.succ_mul];lia
def cF (zs:List Str) (x:Str):Bool:=zs.any λz=>z==x
def iu:cF zs x=true↔x∈zs:=by
 unfold cF
 rw[List.any_eq_true]
 constructor
 ·rintro⟨z,hz,e⟩;rw[<-eq_of_beq e];exact hz
 ·intro h;exact⟨x,h,beq_self_eq_true x⟩
def r8 (zs:List Str):(zs.map PV.str).all aV=true:=by
 rw[List.all_eq_true]
 intro y hy
 obtain⟨z,_,rfl⟩:=PX.mp hy
 rfl
def gA (x:Str) (zs:List Str) (b:Bool):iW b (.str x) (.lst (zs.map PV.str))= .ret (.bl (xor b (cF zs x))):=by
 have e:nN (.str x) (zs.map PV.str)=cF zs x:=by
  unfold nN cF
  rw[List.any_map]
  rfl
 unfold iW
 dsimp only
 rw[r8,e]
 simp[aV,toV,cH]
def vP (h0: -1000000000000 < a) (h1:a < 1000000000000):ka (.int a) (.int b)= .ret (.int (a * b)):=by
 have e:(2:Int) ^ 64=18446744073709551616:=by decide
 unfold ka Bz
 dsimp only
 rw[Qv (show mW a b from Or.inl ⟨by lia,by lia⟩)]
def OD (a b c:PV):aM [a,b,c]= .ret [a,b,c]:=by simp[aM]
def Kt (a b c d:PV):aM [a,b,c,d]= .ret [a,b,c,d]:=by simp[aM]
def OC (a:PV):aR [a]= .ret (.tup [a]):=by simp[aR]
def vS (a b:PV):aR [a,b]= .ret (.tup [a,b]):=by simp[aR]
def vR (a b c:PV):aR [a,b,c]= .ret (.tup [a,b,c]):=by simp[aR]
def KY (hn:(l.length:Int)=n) (h0:0 < l.length) (h1:l.length < 1000):Gen ((ng [.bD,.int n]).bind λi=>aw (.lst l) i) 1 (λy=>y∈l):=by
 refine Gen.le (Gen.bind (Gen.draw (by lia) (by lia)) (d:=0) ?_) (PM _)
 rintro _ ⟨d,rfl,d0,d1⟩
 obtain⟨y,hy,e⟩:=eO (l:=l) d0 (by lia)
 exact Gen.eq (y:=y) (by simp[aw,e,M.bK]) hy
def iZ (a:PV) (r:List PV):k8 (a::r) 0=some a:=by unfold k8 uN;simp
def D6 (h:c ρ= .ret true):pM c a b ρ=a ρ:=by unfold pM;rw[h];rfl
def Au (h:c ρ= .ret false):pM c a b ρ=b ρ:=by unfold pM;rw[h];rfl
def Sh (x:Str):Prop:=x.length<=8/\∀ c∈x.cps.toList,c < 16 ^ 8
instance (x:Str):Decidable (Sh x):=by unfold Sh;infer_instance
def ss (h:Sh x):nX 82 0 (.str x):=FW h.1 h.2
def si (h:i.natAbs < 10 ^ 61):nX 82 0 (.int i):=(FX h).mono (by lia) (PM _)
def Hc (x:Int) (ns:List Int):iW false (.int x) (.lst (ns.map PV.int))= .ret (.bl (decide (x∈ns))):=by
 have hf:(ns.map PV.int).all aV=true:=by
  rw[List.all_eq_true]
  intro y hy
  obtain⟨z,_,rfl⟩:=PX.mp hy
  rfl
 have hm:nN (.int x) (ns.map PV.int)=decide (x∈ns):=by
  unfold nN
  rw[List.any_map]
  induction ns with
  |nil=>simp
  |cons a l ih=>
   rw[List.any_cons,ih (by
    rw[List.all_eq_true]
    intro y hy
    obtain⟨z,_,rfl⟩:=PX.mp hy
    rfl)]
   by_cases c:a=x
   ·subst c;simp[toV,se]
   ·have c': ¬ x=a:=λz=>c z.symm
    simp[toV,se,c,c']
 unfold iW
 dsimp only
 rw[hf,hm]
 simp[aV,toV,cH]
theorem sub_len: ∀ (l m:List Int),l.Nodup->(∀ x∈l,x∈m)->l.length<=m.length
 |[],m,_,_=>Qe _
 |x::l,m,nd,hs=>by
  rw[List.nodup_cons] at nd
  have hx:=hs x PB
  have:=sub_len l (m.erase x) nd.2 λy hy=>(List.mem_erase_of_ne (λz:y=x=>nd.1 (z▸hy))).mpr (hs y (PH _ hy))
  rw[List.length_erase_of_mem hx] at this
  have hp:0 < m.length:=List.length_pos_of_mem hx
  rw[PY]
  lia
def big (h:nX 82 0 y):nX 2500 2 y:=h.mono (by lia) (by lia)
def OB (a b c d:PV):aR [a,b,c,d]= .ret (.tup [a,b,c,d]):=by simp[aR]
def MX (a b c d e:PV):aR [a,b,c,d,e]= .ret (.tup [a,b,c,d,e]):=by simp[aR]
def GW:aM []= .ret []:=by simp[aM]
def Oz (l:List PV):bT true (.lst l) (.lst [])= .ret (.bl (!l.isEmpty)):=by cases l<;>rfl
def OA (a b c d e f:PV):aR [a,b,c,d,e,f]= .ret (.tup [a,b,c,d,e,f]):=by simp[aR]
def MY (a:PV):aM [a]= .ret [a]:=by simp[aM]
def Ku (a b:PV):aM [a,b]= .ret [a,b]:=by simp[aM]
def eS (n:Int) (y:PV):Prop:= ∃ (w z:Str) (m:Int) (r:List PV),y= .tup (.str w::.int n::.int m::.str z::r)/\((w="look"/\r=[])\/((w="read"\/w="rule")/\∃ v,r=[v]/\nX 2500 2 v/\Kq v=true))/\0<=m/\m<=1000000
def bf (l:List PV) (ns:List Int):Prop:=ns.length=l.length/\ns.Nodup/\(∀ n∈ns,0<=n/\n < 1000000)/\∀ (i:Nat) (n:Int) (z:PV),ns[i]?=some n->l[i]?=some z->eS n z
def bf.snoc (h:bf l ns) (hn:n∉ns) (h0:0<=n) (h1:n < 1000000) (hz:eS n z):bf (l++[z]) (ns++[n]):=by
 obtain⟨g1,g2,g3,g4⟩:=h
 refine⟨by simp[g1],?_,λx hx=>?_,λi x y hx hy=>?_⟩
 ·rw[List.nodup_append]
  exact⟨g2,by simp,λa ha b hb=>by rw[Qf.mp hb];exact λe=>hn (e▸ha)⟩
 ·rcases Qu.mp hx with hx|hx
  ·exact g3 x hx
  ·rw[Qf.mp hx];exact⟨h0,h1⟩
 ·by_cases c:i < l.length
  ·rw[Qn (by lia)] at hx
   rw[Qn c] at hy
   exact g4 i x y hx hy
  ·rw[List.getElem?_append_right (by lia)] at hx hy
   by_cases e:i - l.length=0
   ·rw[e] at hy
    rw[show i - ns.length=0 by lia] at hx
    simp at hx hy
    subst hx hy
    exact hz
   ·rw[List.getElem?_eq_none (by simp;lia)] at hy
    cases hy
def eS.key (h:eS n y): ∃ m:Int,jB y=some (m,n)/\0<=m/\m<=1000000:=by
 obtain⟨w,z,m,r,rfl,_,m0,m1⟩:=h
 exact⟨m,rfl,m0,m1⟩
def bf.at (h:bf l ns) (hz:z∈l): ∃ n,eS n z/\0<=n/\n < 1000000:=by
 obtain⟨i,hi,e⟩:=List.getElem_of_mem hz
 have hi':i < ns.length:=by rw[h.1];exact hi
 have hn:=h.2.2.1 _ (Qq hi')
 exact⟨_,h.2.2.2 i _ z (Py hi') (PL.mpr ⟨hi,e⟩),hn⟩
def bf.Pb (h:bf l ns) (hz:z∈l):Fu z=true:=by
 obtain⟨n,hp,n0,n1⟩:=h.at hz
 obtain⟨m,e,_⟩:=hp.key
 unfold Fu
 rw[e]
 simp[n0,n1]
def bf.nd (h:bf l ns):(l.map kH).Nodup:=by
 unfold List.Nodup
 rw[List.pairwise_map,List.pairwise_iff_getElem]
 intro i j hi hj hij e
 have hi':i < ns.length:=by rw[h.1];exact hi
 have hj':j < ns.length:=by rw[h.1];exact hj
 obtain⟨m,e1,_⟩:=(h.2.2.2 i _ _ (Py hi') (Py hi)).key
 obtain⟨m',e2,_⟩:=(h.2.2.2 j _ _ (Py hj') (Py hj)).key
 have b1:=h.2.2.1 _ (Qq hi')
 have b2:=h.2.2.1 _ (Qq hj')
 have r1:kH l[i]=m * 1000000+ns[i]:=by unfold kH xu;rw[e1];rfl
 have r2:kH l[j]=m' * 1000000+ns[j]:=by unfold kH xu;rw[e2];rfl
 rw[r1,r2] at e
 exact List.pairwise_iff_getElem.mp h.2.1 i j hi' hj' hij (by lia)
def hit (w z:Str) (t:Int) (y:PV):Bool:=match y with
 | .tup (.str w'::_::.int m::.str z'::_)=>w'==w&&(z'==z&&decide (m<=t))
 |_=>false
def nW (a b:PV) (r:List PV):k8 (a::b::r) 1=some b:=iH (k:=1) rfl
def wY (a b c:PV) (r:List PV):k8 (a::b::c::r) 2=some c:=iH (k:=2) rfl
def LC (a b c d:PV) (r:List PV):k8 (a::b::c::d::r) 3=some d:=iH (k:=3) rfl
def O5 (a b c d e:PV) (r:List PV):k8 (a::b::c::d::e::r) 4=some e:=iH (k:=4) rfl
noncomputable def DZ:ae->M Bool:=(cC (aF (ab (bT false) (ab aw (λρ=>aq ρ 5) (λ_=>M.ret (.int 0))) (λρ=>aq ρ 1))) (cC (aF (ab (bT false) (ab aw (λρ=>aq ρ 5) (λ_=>M.ret (.int 3))) (λρ=>aq ρ 2))) (aF (ab iV (ab aw (λρ=>aq ρ 5) (λ_=>M.ret (.int 2))) (λρ=>aq ρ 3)))))
def vZ:ae->M Fl:=(cN DZ (az 4 (λρ=>aq ρ 5)) (λρ=>M.ret (.nx ρ)))
def uJ (ha:a ρ= .ret x) (hb:b ρ= .ret y):cC a b ρ= .ret (x&&y):=by
 unfold cC;rw[ha];cases x<;>simp[hb]
def DY (hy:eS n y):DZ [Y,val (.str w),val (.str z),val (.int t),val f,val y]= .ret (hit w z t y):=by
 obtain⟨w',z',m,r,rfl,_⟩:=hy
 unfold DZ
 refine uJ ?_ (uJ ?_ ?_)
 ·simp only[aF,ab,aL,aS,rZ,aw,iZ,M.bK,yA]
 ·simp only[aF,ab,aL,aS,rZ,aw,LC,M.bK,yA]
 ·simp only[aF,ab,aL,aS,rZ,aw,wY,M.bK,iV]
theorem mF: ∀ (rest:List PV) (f:PV) (e5:Ent),(∀ y∈rest,∃ n,eS n y)->
  ∃ e5',bp (aA 5) vZ rest [Y,val (.str w),val (.str z),val (.int t),val f,e5]= .ret (.nx [Y,val (.str w),val (.str z),val (.int t),val (((rest.filter (hit w z t)).getLast?).getD f),e5'])
 |[],f,e5,_=>⟨e5,rfl⟩
 |y::rest,f,e5,h=>by
  obtain⟨n,hy⟩:=h y PB
  have ht:=DY (Y:=Y) (w:=w) (z:=z) (t:=t) (f:=f) hy
  unfold bp
  simp only[aA,rZ,Qo,PN]
  cases c:hit w z t y with
  |true=>
   rw[c] at ht
   have st:vZ [Y,val (.str w),val (.str z),val (.int t),val f,val y]= .ret (.nx [Y,val (.str w),val (.str z),val (.int t),val y,val y]):=by
    unfold vZ
    rw[c9 ht]
    simp only[az,aL,aS,rZ,Qo,PN]
   obtain⟨e5',ih⟩:=mF (Y:=Y) (w:=w) (z:=z) (t:=t) rest y (val y) λy' hy'=>h y' (PH _ hy')
   refine⟨e5',?_⟩
   rw[st,rZ]
   show bp _ _ _ _=_
   rw[ih,List.filter_cons_of_pos c]
   congr 7
   cases hf:(rest.filter (hit w z t)).getLast? with
   |none=>
    rw[List.getLast?_eq_none_iff] at hf
    rw[hf]
    rfl
   |some v=>
    rw[List.getLast?_cons,hf]
    rfl
  |false=>
   rw[c] at ht
   have st:vZ [Y,val (.str w),val (.str z),val (.int t),val f,val y]= .ret (.nx [Y,val (.str w),val (.str z),val (.int t),val f,val y]):=by
    unfold vZ
    rw[cB ht]
   obtain⟨e5',ih⟩:=mF (Y:=Y) (w:=w) (z:=z) (t:=t) rest f (val y) λy' hy'=>h y' (PH _ hy')
   refine⟨e5',?_⟩
   rw[st,rZ]
   show bp _ _ _ _=_
   rw[ih,List.filter_cons_of_neg (by rw[c];decide)]
def G5 (h: ∀ y∈B,∃ n,eS n y):cR [.tup B,.str w,.str z,.int t]= .ret (((B.filter (hit w z t)).getLast?).getD .aD):=by
 unfold cR jA
 show (au _ _ [val (.tup B),val (.str w),val (.str z),val (.int t),un,un]).bind bC=_
 refine ay (ρ':=[val (.tup B),val (.str w),val (.str z),val (.int t),val .aD,un]) rfl ?_
 obtain⟨e5',ih⟩:=mF (Y:=val (.tup B)) (w:=w) (z:=z) (t:=t) B .aD un h
 refine ay (ρ':=[val (.tup B),val (.str w),val (.str z),val (.int t),val (((B.filter (hit w z t)).getLast?).getD .aD),e5']) ?_ ?_
 ·simp only[aK,aL,aS,rZ,aH]
  exact ih
 ·exact br (aU rfl)
def Gz (h: ∀ y∈l,∃ n,eS n y) (a9: ∀ y∈l,Fu y=true) (hl:l.length<=1000):dq [.lst l,.str w,.str z,.int t]= .ret ((iR (l.filter (hit w z t))).getD .aD):=by
 unfold dq ie
 show (au _ _ [val (.lst l),val (.str w),val (.str z),val (.int t),un]).bind bC=_
 have q:=bS (k:=0) (tt:=(cC (aF (ab (bT false) (ab aw (λρ=>aq ρ 0) (λ_=>M.ret (.int 0))) (λρ=>aq ρ 1))) (cC (aF (ab (bT false) (ab aw (λρ=>aq ρ 0) (λ_=>M.ret (.int 3))) (λρ=>aq ρ 2))) (aF (ab iV (ab aw (λρ=>aq ρ 0) (λ_=>M.ret (.int 2))) (λρ=>aq ρ 3)))))) (te:=λρ=>aq ρ 0) (p:=hit w z t) (f:=id) (ρ:=[un,val (.str w),val (.str z),val (.int t)]) l [un,val (.str w),val (.str z),val (.int t)] (λ_=>rfl) (λy hy=>by
   obtain⟨n,w',z',m,r,rfl,_⟩:=h y hy
   rw[PN]
   refine uJ ?_ (uJ ?_ ?_)
   ·simp only[aF,ab,aL,aS,rZ,aw,iZ,M.bK,yA]
   ·simp only[aF,ab,aL,aS,rZ,aw,LC,M.bK,yA]
   ·simp only[aF,ab,aL,aS,rZ,aw,wY,M.bK,iV]) (λy hy _=>by simp only[aL,PN];rfl)
 have hle:(l.filter (hit w z t)).length<=l.length:=List.length_filter_le _ _
 refine ay (ρ':=[val (.lst l),val (.str w),val (.str z),val (.int t),val (.lst (l.filter (hit w z t)))]) ?_ ?_
 ·have ec:de [none,some 1,some 2,some 3] [val (.lst l),val (.str w),val (.str z),val (.int t),un]=[un,val (.str w),val (.str z),val (.int t)]:=rfl
  simp only[az,aE,a8,aL,aS,rZ,aH,Qv (by lia:l.length<=100000),ec]
  rw[q]
  simp only[rZ,List.map_id,Qo,PN]
 ·refine br (aU ?_)
  have hm:BF (.lst (l.filter (hit w z t)))= .ret ((iR (l.filter (hit w z t))).getD .aD):=by
   unfold BF
   dsimp only
   rw[Qv]
   simp only[Qk,decide_eq_true_eq,List.all_eq_true]
   exact⟨by lia,λy hy=>a9 y (Qt.mp hy).1⟩
  simp only[List.map,Ent.freeze,aL,aS,rZ,hm]
theorem EZ: ∀ {j b:Nat},bi kf j=some b->∀ i,i < j->rk kf i<=rk kf b
 |0,b,h,i,hi=>by lia
 |j+1,b,h,i,hi=>by
  unfold bi at h
  cases e:bi kf j with
  |none=>
   rw[e] at h
   cases h
   have:j=0:=by
    by_cases z:j=0
    ·exact z
    ·obtain⟨c,hc⟩:=AN (kf:=kf) (j:=j) (by lia)
     rw[e] at hc;cases hc
   subst this
   have:i=0:=by lia
   subst this
   exact Int.le_refl _
  |some c=>
   rw[e] at h
   dsimp only at h
   have ih:=EZ e
   by_cases z:rk kf c < rk kf j
   ·rw[Qv z] at h
    cases h
    by_cases y:i=j
    ·subst y;exact Int.le_refl _
    ·exact Int.le_of_lt (Int.lt_of_le_of_lt (ih i (by lia)) z)
   ·rw[Qw z] at h
    cases h
    by_cases y:i=j
    ·subst y;lia
    ·exact ih i (by lia)
def Ca (nd:(f.map kH).Nodup):iR f=(aI f).getLast?:=by
 have pm:=du f
 have up:=oq f nd
 by_cases h0:f=[]
 ·subst h0;rfl
 have hp:0 < f.length:=List.length_pos_iff.mpr h0
 obtain⟨b,hb⟩:=AN (kf:=λi=>xu (f.getD i .aD)) (j:=f.length) hp
 have hbl:=wV hb
 have hmx:=EZ hb
 have e1:iR f=some f[b]:=by
  unfold iR
  rw[hb]
  show some (f.getD b .aD)=_
  rw[P4,Py hbl]
  rfl
 rw[e1]
 have bY:aI f≠[]:=λz=>by rw[z] at pm;exact h0 (List.nil_perm.mp pm)
 have hlp:(aI f).length - 1 < (aI f).length:=by have:=List.length_pos_iff.mpr bY;lia
 rw[List.getLast?_eq_getElem?,Py hlp]
 congr 1
 have m1:f[b]∈aI f:=pm.mem_iff.mpr (Qq hbl)
 obtain⟨i,hi,ei⟩:=List.getElem_of_mem m1
 by_cases c:i=(aI f).length - 1
 ·subst c;exact ei.symm
 ·have lt:kH (aI f)[i] < kH ((aI f)[(aI f).length - 1]'hlp):=List.pairwise_iff_getElem.mp up i _ hi hlp (by lia)
  rw[ei] at lt
  have m2:((aI f)[(aI f).length - 1]'hlp)∈f:=pm.mem_iff.mp (Qq _)
  obtain⟨j,hj,ej⟩:=List.getElem_of_mem m2
  have:=hmx j hj
  unfold rk at this
  dsimp only at this
  rw[P4,Py hj,P4,Py hbl] at this
  rw[<-ej] at lt
  unfold kH at lt
  exact absurd lt (Int.not_lt.mpr this)
def BK (nd:(l.map kH).Nodup):iR (l.filter p)=((aI l).filter p).getLast?:=by
 have nd2:((l.filter p).map kH).Nodup:=List.Pairwise.sublist ((List.filter_sublist).map kH) nd
 rw[Ca nd2,An nd2 ((du l).filter p) ((oq l nd).filter p)]
abbrev sA:Str:="etaoinshrdlcumwfgypbvkjxqz"
def AW: ∀ c∈sA.cps.toList,97<=c/\c<=122:=by decide +kernel
def LF:sA.cps.toList.Nodup:=by decide +kernel
def xh:sA.cps.toList.length=26:=by decide +kernel
def LG (d:Int) (h0:0<=d) (h1:d < 26): ∃ y,aw (.str sA) (.int d)= .ret y/\One y:=by
 have hz:sA.length<=100000:=by decide +kernel
 obtain⟨c,hc,e⟩:=eO (l:=sA.cps.toList) h0 (by rw[xh];exact h1)
 exact⟨.str ⟨#[c]⟩,by simp[aw,e,M.bK,hz],c,rfl,AW c hc⟩
def Wd (x:Str):Prop:=1<=x.length/\x.length<=8/\Lets x
def Wd.sh (h:Wd x):Sh x:=⟨h.2.1,λc hc=>Nat.lt_of_le_of_lt (h.2.2 c hc).2 (by decide)⟩
theorem lx: ∀ (l m:List Str),l.Nodup->(∀ x∈l,x∈m)->l.length<=m.length
 |[],m,_,_=>Qe _
 |x::l,m,nd,hs=>by
  rw[List.nodup_cons] at nd
  have hx:=hs x PB
  have:=lx l (m.erase x) nd.2 λy hy=>(List.mem_erase_of_ne (λz:y=x=>nd.1 (z▸hy))).mpr (hs y (PH _ hy))
  rw[List.length_erase_of_mem hx] at this
  have hp:0 < m.length:=List.length_pos_of_mem hx
  rw[PY]
  lia
def iY (w:Str):List Str:=sA.cps.toList.map λc=>(⟨(w.cps.toList.take (min 7 w.length)).toArray⟩:Str)++⟨#[c]⟩
def HD (w:Str):(iY w).Nodup:=by
 unfold iY List.Nodup
 rw[List.pairwise_map]
 refine List.Pairwise.imp ?_ LF
 intro a b ne e
 have e2:((⟨(w.cps.toList.take (min 7 w.length)).toArray⟩:Str)++(⟨#[a]⟩:Str)).cps.toList=((⟨(w.cps.toList.take (min 7 w.length)).toArray⟩:Str)++(⟨#[b]⟩:Str)).cps.toList:=by rw[e]
 have e3: ∀ x y:Str,(x++y).cps.toList=x.cps.toList++y.cps.toList:=λx y=>by rw[<-Array.toList_append];rfl
 rw[e3,e3] at e2
 have:=List.append_cancel_left e2
 simp at this
 exact ne this
def HC (hw:Wd w): ∀ x∈iY w,Wd x:=λx hx=>by
 obtain⟨c,hc,rfl⟩:=PX.mp hx
 refine⟨?_,?_,E9 (EL hw.2.2 _) λd hd=>?_⟩
 ·rw[AU,uu];show 1<=_+1;lia
 ·rw[AU,uu];show _+1<=8;lia
 ·simp at hd;subst hd;exact AW _ hc
noncomputable def Cp:ae->M PV:=ab bM (Ft CU (λρ=>aq ρ 1) (λ_=>M.ret none) (λρ=>((λ_=>M.ret (.int 7)) ρ).bind λy=>(pL y).bind λi=>M.ret (some i))) (λρ=>aq ρ 0)
def Co:ae->M Bool:=aF (ab (iW true) (λρ=>aq ρ 0) (λρ=>aq ρ 1))
def Ee {zs:List Str} (hz:zs.length<=20):Gen (iM [.bD,.lst (zs.map PV.str)]) 9 (λy=> ∃ x,y= .str x/\Wd x/\x∉zs):=by
 unfold iM kL
 show Gen ((au _ _ [val .bD,val (.lst (zs.map PV.str)),un,un,un]).bind bC) 9 _
 refine Gen.le (cG (c:=0) (d:=9) (I:=λρ=>ρ=[val .bD,val (.lst (zs.map PV.str)),val (.str sA),un,un]) (wc rfl rfl) ?_) (by decide)
 rintro _ rfl
 refine Gen.le (cG (c:=1) (d:=8) (I:=λρ=> ∃ k:Int,1<=k/\k<=8/\ρ=[val .bD,val (.lst (zs.map PV.str)),val (.str sA),val (.int k),un]) ?_ ?_) (by decide)
 ·simp only[az,ab,aa,aL,aS,rZ,af,M.bZ]
  refine Gen.le (Gen.bind (Gen.draw (by lia) (by lia)) (d:=0) ?_) (by decide)
  rintro _ ⟨d,rfl,d0,d1⟩
  exact Gen.eq (y:=.nx _) rfl ⟨_,rfl,1+d,by lia,by lia,rfl⟩
 rintro _ ⟨k,k0,k1,rfl⟩
 refine Gen.le (cG (c:=8) (d:=0) (I:=λρ=> ∃ w:Str,Wd w/\ρ=[val .bD,val (.lst (zs.map PV.str)),val (.str sA),val (.int k),val (.str w)]) ?_ ?_) (by decide)
 ·have hlen:(bx 0 k.toNat).length=k.toNat:=by simp[bx]
  have er:bX [.int k]= .ret (bx 0 k.toNat):=by simp only[bX,Qv (by lia: -1000000<=k/\k<=100000)]
  have ec:de [none,some 2,some 0] [val .bD,val (.lst (zs.map PV.str)),val (.str sA),val (.int k),un]=[un,val (.str sA),val .bD]:=rfl
  have et:tyP (.str "")="str":=rfl
  unfold az NZ
  simp only[rZ,et,if_true]
  unfold aa aE a8
  simp only[aa,aL,aS,rZ,er,Qv (by lia:(bx 0 k.toNat).length<=100000),ec,M.bZ]
  refine Gen.le (Gen.bind (Gen.lc (ρ:=[un,val (.str sA),val .bD]) (c:=1) (Pr:=One) _ _ (λ_=>rfl) (λy hy=>?_)) (d:=0) ?_) (by rw[hlen];lia)
  ·simp only[PN,ab,aL,aS,rZ,af]
   refine Gen.le (Gen.bind (Gen.draw (by lia) (by lia)) (d:=0) ?_) (by decide)
   rintro _ ⟨d,rfl,d0,d1⟩
   obtain⟨y,e,o⟩:=LG d d0 d1
   exact Gen.eq e o
  ·rintro us ⟨z1,z2⟩
   obtain⟨ys,e1,e2,e3⟩:=u4 us z2
   have e4:=o8 ys λz hz=>(e3 z hz).1
   have e5:(Str.ofString "").length=0:=by decide
   have e6:=join_ones ys λz hz=>(e3 z hz).1
   have hs:(ys.map (·.length)).sum+ys.length * (Str.ofString "").length<=16777216:=by rw[e4,e5,e2,z1,hlen];lia
   refine Gen.eq (y:=.nx [val .bD,val (.lst (zs.map PV.str)),val (.str sA),val (.int k),val (.str (Txt.join (Str.ofString "") ys))]) ?_ ⟨_,rfl,_,⟨by rw[e6,e2,z1,hlen];lia,by rw[e6,e2,z1,hlen];lia,BM ys λz hz=>(e3 z hz).2⟩,rfl⟩
   simp only[rZ,rR,e1,M.bK,Qv hs]
   rfl
 rintro _ ⟨w,hw,rfl⟩
 have hsl:CU (.str w) none (some 7)= .ret (.str ⟨(w.cps.toList.take (min 7 w.length)).toArray⟩):=by
  have:w.length<=100000:=by have:=hw.2.1;lia
  unfold CU
  dsimp only
  rw[Qv this,Lr w 7 (min 7 w.length) (by rw[Qw (by decide)];lia)]
 have q1:=j4 (k:=0) (te:=Cp) (f:=λy=>match y with| .str c=>.str ((⟨(w.cps.toList.take (min 7 w.length)).toArray⟩:Str)++c)|_=>.aD) (ρ:=[un,val (.str w)]) (f9 sA) [un,val (.str w)] (λ_=>rfl) (λy hy=>by
   obtain⟨c,hc,rfl⟩:=PX.mp hy
   have hz:(⟨(w.cps.toList.take (min 7 w.length)).toArray⟩:Str).length+(⟨#[c]⟩:Str).length<=100000:=by rw[uu];show _+1<=_;lia
   unfold Cp
   simp only[PN,ab,Ft,aL,aS,rZ,pL,hsl,bM,Qv hz])
 have em:((f9 sA).map λy=>match y with|PV.str c=>PV.str ((⟨(w.cps.toList.take (min 7 w.length)).toArray⟩:Str)++c)|_=>.aD)=(iY w).map PV.str:=by
  unfold f9 iY
  rw[List.map_map,List.map_map]
  rfl
 rw[em] at q1
 have q2:=bS (k:=0) (tt:=Co) (te:=λρ=>aq ρ 0) (p:=λy=>match y with| .str x=>!(cF zs x)|_=>false) (f:=id) (ρ:=[un,val (.lst (zs.map PV.str))]) ((w::iY w).map PV.str) [un,val (.lst (zs.map PV.str))] (λ_=>rfl) (λy hy=>by
   obtain⟨x,hx,rfl⟩:=PX.mp hy
   unfold Co
   simp only[aF,ab,PN,aL,aS,rZ,gA]
   simp) (λy hy _=>by simp only[aL,PN];rfl)
 have hlen1:(f9 sA).length<=100000:=by unfold f9;rw[PD,xh];lia
 have hlen2:((w::iY w).map PV.str).length<=100000:=by unfold iY;simp only[PD,PY,xh];lia
 have hcat:[PV.str w].length+((iY w).map PV.str).length<=100000:=by unfold iY;simp only[PD,PY,List.length_nil,xh];lia
 obtain⟨x,hx,hnx⟩: ∃ x∈iY w,x∉zs:=by
  apply Classical.byContradiction
  intro hno
  have:=lx (iY w) zs (HD w) λx hx=>Classical.byContradiction λhc=>hno ⟨x,hx,hc⟩
  unfold iY at this
  rw[PD,xh] at this
  lia
 generalize hF:((w::iY w).map PV.str).filter (λy=>match y with| .str x=>!(cF zs x)|_=>false)=F at q2
 have hFx:PV.str x∈F:=by
  rw[<-hF]
  refine Qt.mpr ⟨Qh (PH _ hx),?_⟩
  show (!(cF zs x))=true
  cases c:cF zs x with
  |false=>rfl
  |true=>exact absurd (iu.mp c) hnx
 match F,hF,hFx,q2 with
 |y::F,hF,_,q2=>
 have hy:y∈(w::iY w).map PV.str:=(Qt.mp (by rw[hF];exact PB)).1
 obtain⟨v,hv,rfl⟩:=PX.mp hy
 refine Gen.eq (y:=.str v) ?_ ⟨v,rfl,?_,?_⟩
 ·refine br (aU ?_)
  have ec1:de [none,some 4] [val .bD,val (.lst (zs.map PV.str)),val (.str sA),val (.int k),val (.str w)]=[un,val (.str w)]:=rfl
  have ec2:de [none,some 1] [val .bD,val (.lst (zs.map PV.str)),val (.str sA),val (.int k),val (.str w)]=[un,val (.lst (zs.map PV.str))]:=rfl
  show (ab aw (aE (a8 [none,some 1] (λρ=>((aE (qR (aE (λρ=>((aa (λρ=>aq ρ 4) (λ_=>M.ret [])) ρ).bind aM)) (aE (a8 [none,some 4] (λρ=>((λρ=>aq ρ 2) ρ).bind aH) (aA 0) cx Cp)))) ρ).bind aH) (aA 0) Co (λρ=>aq ρ 0))) (λ_=>M.ret (.int 0))) [val .bD,val (.lst (zs.map PV.str)),val (.str sA),val (.int k),val (.str w)]=_
  simp only[ab,aE,a8,qR]
  simp only[aa,aL,aS,rZ,MY,aH,Qv hlen1,ec1,ec2]
  rw[q1]
  simp only[rZ,Qv hcat,List.cons_append,List.nil_append]
  have e9:PV.str w::(iY w).map PV.str=(w::iY w).map PV.str:=rfl
  rw[e9]
  simp only[aH,rZ]
  rw[Qv hlen2,q2]
  simp only[rZ,List.map_id,aw,iZ,M.bK]
 ·rcases PR.mp hv with rfl|hv
  ·exact hw
  ·exact HC hw v hv
 ·have h2:=(Qt.mp (by rw[hF];exact PB:PV.str v∈((w::iY w).map PV.str).filter (λy=>match y with| .str x=>!(cF zs x)|_=>false))).2
  have h3:(!(cF zs v))=true:=h2
  intro hm
  rw[iu.mpr hm] at h3
  cases h3
def mJ {k:Int} (k0:1<=k) (k1:k<=12):Gen (dw [.bD,.int k]) (k.toNat * 9) (λy=> ∃ zs:List Str,y= .lst (zs.map PV.str)/\zs.length=k.toNat/\(∀ z∈zs,Wd z)/\zs.Nodup):=by
 unfold dw jw
 show Gen ((au _ _ [val .bD,val (.int k),un,un]).bind bC) _ _
 refine Gen.le (cG (c:=0) (d:=k.toNat * 9) (I:=λρ=>ρ=[val .bD,val (.int k),Ent.own [],un]) (wc (by simp[gz,aM]) rfl) ?_) (by lia)
 rintro _ rfl
 have hint:(bx 0 k.toNat).length=k.toNat:=by simp[bx]
 have er:bX [.int k]= .ret (bx 0 k.toNat):=by simp only[bX,Qv (by lia: -1000000<=k/\k<=100000)]
 refine Gen.le (cG (c:=k.toNat * 9) (d:=0) (I:=λρ=> ∃ (zs:List Str) (e3:Ent),zs.length=k.toNat/\((∀ z∈zs,Wd z)/\zs.Nodup)/\ρ=[val .bD,val (.int k),Ent.own (zs.map PV.str),e3]) ?_ ?_) (by lia)
 ·simp only[aK,aa,aL,aS,rZ,er]
  refine Gen.mono (K0 (k:=3) (c:=9) (Iv:=λi ρ=> ∃ (zs:List Str) (e3:Ent),zs.length=i/\((∀ z∈zs,Wd z)/\zs.Nodup)/\ρ=[val .bD,val (.int k),Ent.own (zs.map PV.str),e3]) (bx 0 k.toNat) 0 _ ⟨[],_,rfl,⟨λz hz=>absurd hz PU,List.nodup_nil⟩,rfl⟩ ?_) (by rw[hint];exact PM _) ?_
  rotate_left
  ·rintro f ⟨ρ',rfl,zs,e3,hn,hw,rfl⟩
   rw[hint,Nat.zero_add] at hn
   exact⟨_,rfl,zs,e3,hn,hw,rfl⟩
  ·rintro y hy j hj _ ⟨zs,e3,hn,hw,rfl⟩
   rw[hint] at hj
   show Gen (cP _ _ [val .bD,val (.int k),Ent.own (zs.map PV.str),val y]) 9 _
   simp only[cP,P0,P1,aa,aL,aS,we,IS,rZ,M.bZ]
   refine Gen.le (Gen.bind (Ee (zs:=zs) (by lia)) (d:=0) ?_) (by decide)
   rintro _ ⟨x,rfl,hx,hxn⟩
   have hl:(zs.map PV.str).length < 100000:=by rw[PD];lia
   refine Gen.eq (y:=.nx [val .bD,val (.int k),Ent.own ((zs++[x]).map PV.str),val y]) ?_ ⟨_,rfl,zs++[x],_,by simp[hn],⟨λz hz=>?_,?_⟩,rfl⟩
   ·have hf:m9 (.str x)= .ret (.str x):=rfl
    simp only[hf,rZ,Qv hl,List.map_append,PQ,List.map_nil]
    rfl
   ·rcases Qu.mp hz with hz|hz
    ·exact hw.1 z hz
    ·rw[Qf.mp hz];exact hx
   ·refine List.nodup_append.mpr ⟨hw.2,by simp,λa ha b hb=>?_⟩
    rw[Qf.mp hb]
    exact λz=>hxn (z▸ha)
 ·rintro _ ⟨zs,e3,hn,hw,rfl⟩
  exact Gen.eq (br (aU rfl)) ⟨zs,rfl,hn,hw⟩
abbrev kn (x:Str):Key:=Sum.inr x
def Ik (mt:ae->M Bool) (mb:ae->M Fl) (k:Nat) (ρ:ae):A0 mt mb (k+1) ρ=(mt ρ).bind λb=>if b=true then(mb ρ).bind λf=>(match f with
  | .nx ρ2=>A0 mt mb k ρ2
  | .ct ρ2=>A0 mt mb k ρ2
  | .bk ρ2=>.ret (.nx ρ2)
  | .rt v=>.ret (.rt v)) else .ret (.nx ρ):=rfl
noncomputable def OS:ae->M Bool:=(aF (λρ=>((aa (aE (a8 [none,some 1] (λρ=>((ab dU (λρ=>aq ρ 0) (λρ=>aq ρ 3)) ρ).bind aH) (aA 0) cx (ab (p6 false) (λρ=>aq ρ 0) (λρ=>eZ ρ 1)))) (λ_=>M.ret [])) ρ).bind lV))
def iw (f:List (Key×PV)) (x:Str):Bool:=(iS f (kn x)).isSome
def K1 {os:List Str} {e2:Ent} (h:iS d (kn x)=some (.lst (os.map PV.str))) (hl:os.length<=1000):
  OS [val (.cU d),Ent.bt f,e2,val (.str x)]= .ret (os.all (iw f)):=by
 have q:=j4 (k:=0) (te:=ab (p6 false) (λρ=>aq ρ 0) (λρ=>eZ ρ 1)) (f:=λy=>match y with| .str o=>.bl (iw f o)|_=>.aD) (ρ:=[un,Ent.bt f]) (os.map PV.str) [un,Ent.bt f] (λ_=>rfl) (λy hy=>by
  obtain⟨o,_,rfl⟩:=PX.mp hy
  simp only[ab,PN,aL,rZ,eZ,P0,P1,p6,nQ,M.bK,Bool.bne_false,iw])
 have ec:de [none,some 1] [val (.cU d),Ent.bt f,e2,val (.str x)]=[un,Ent.bt f]:=rfl
 have hlen:(os.map PV.str).length<=100000:=by rw[PD];lia
 have eall: ∀ os:List Str,lV [.lst ((os.map PV.str).map λy=>match y with| .str o=>PV.bl (iw f o)|_=>.aD)]= .ret (.bl (os.all (iw f))):=λos=>by
  have:iQ ((os.map PV.str).map λy=>match y with| .str o=>PV.bl (iw f o)|_=>.aD)=some (os.map (iw f)):=by
   induction os with
   |nil=>rfl
   |cons o os ih=>simp only[PQ,iQ,ih];rfl
  simp only[lV,this,M.bK,rZ,List.all_map]
  rfl
 unfold OS aF
 simp only[aa,aE,a8,ab,aL,aS,rZ,dU,nQ,M.bK,h,aH,Qv hlen,ec,q,eall]
def iX (A:List (Str×List Str)):List (Key×PV):=A.map λp=>(kn p.1,PV.lst (p.2.map PV.str))
def vA (A:List (Str×List Str)) (x:Str):List Str:=((A.find? λp=>decide (p.1=x)).map (·.2)).getD []
def Ak (a b:Str):decide (kn a=kn b)=decide (a=b):=D1 a b
def FF:(∃ p∈A,p.1=x)->iS (iX A) (kn x)=some (.lst ((vA A x).map PV.str)):=by
 induction A with
 |nil=>rintro⟨_,h,_⟩;cases h
 |cons p A ih=>
  rintro⟨q,hq,hx⟩
  unfold iS iX vA
  simp only[PQ,List.find?_cons,Ak]
  by_cases c:p.1=x
  ·simp[c]
  ·rcases PR.mp hq with rfl|hq
   ·exact absurd hx c
   ·have:=ih ⟨q,hq,hx⟩
    unfold iS iX vA at this
    simp only[Qb c]
    exact this
def i9 (A:List (Str×List Str)) (f:List (Key×PV)) (x:Str):List (Key×PV):=if(vA A x).all (iw f)=true then nJ f (kn x) (.bl true) else f
def Dc (f:List (Key×PV)) (k:Key) (y:PV):(nJ f k y).length<=f.length+1:=by
 unfold nJ;split<;>simp
def rj (A:List (Str×List Str)) (f:List (Key×PV)) (x:Str):(i9 A f x).length<=f.length+1:=by
 unfold i9;split
 ·exact Dc ..
 ·lia
def NY:ae->M Fl:=(cN OS (jH 1 (λρ=>aq ρ 3) (λ_=>M.ret (.bl true))) (λρ=>M.ret (.nx ρ)))
def K2 (h: ∃ p∈A,p.1=x) (ho: ∀ p∈A,p.2.length<=1000) (hf:f.length < 100000):
  NY [val (.cU (iX A)),Ent.bt f,e2,val (.str x)]= .ret (.nx [val (.cU (iX A)),Ent.bt (i9 A f x),e2,val (.str x)]):=by
 have hl:(vA A x).length<=1000:=by
  unfold vA
  cases c:A.find? λp=>decide (p.1=x) with
  |none=>simp
  |some p=>exact ho p (List.mem_of_find?_eq_some c)
 have t:=K1 (f:=f) (e2:=e2) (FF h) hl
 unfold NY i9
 cases c:(vA A x).all (iw f) with
 |true=>
  rw[c] at t
  rw[c9 t]
  simp only[jH,rZ,P0,P1,aL,aS,nQ,M.bK,Qv hf]
  rfl
 |false=>
  rw[c] at t
  rw[cB t]
  rfl
theorem Ax (ho: ∀ p∈A,p.2.length<=1000): ∀ (xs:List Str) (f:List (Key×PV)) (e3:Ent),(∀ x∈xs,∃ p∈A,p.1=x)->f.length+xs.length < 100000->
  ∃ e3',bp (aA 3) NY (xs.map PV.str) [val (.cU (iX A)),Ent.bt f,e2,e3]= .ret (.nx [val (.cU (iX A)),Ent.bt (xs.foldl (i9 A) f),e2,e3'])
 |[],f,e3,_,_=>⟨e3,rfl⟩
 |x::xs,f,e3,h,hl=>by
  have h1:=K2 (e2:=e2) (h x PB) ho (f:=f) (by simp at hl;lia)
  obtain⟨e3',ih⟩:=Ax (e2:=e2) ho xs (i9 A f x) (val (.str x)) (λy hy=>h y (PH _ hy)) (by have:=rj A f x;simp at hl;lia)
  refine⟨e3',?_⟩
  rw[PQ]
  unfold bp
  simp only[aA,rZ,Qo,PN]
  rw[h1,rZ]
  exact ih
def rF (A:List (Str×List Str)) (f:List (Key×PV)):List (Key×PV):=(A.map (·.1)).foldl (i9 A) f
def FE (A:List (Str×List Str)):Nat->Int->List (Key×PV)->Option (List (Key×PV))
 |0,_,_=>none
 |k+1,b,f=>if b < f.length then FE A k f.length (rF A f) else some f
def OR:ae->M Bool:=(aF (ab t6 (λρ=>aq ρ 2) (λρ=>((aa (λρ=>eZ ρ 1) (λ_=>M.ret [])) ρ).bind cY)))
def OT:ae->M Fl:=(au (az 2 (λρ=>((aa (λρ=>eZ ρ 1) (λ_=>M.ret [])) ρ).bind cY)) (aK (λρ=>((λρ=>aq ρ 0) ρ).bind v7) (aA 3) NY))
def Bp (A:List (Str×List Str)) (f:List (Key×PV)):(rF A f).length<=f.length+A.length:=by
 unfold rF
 have: ∀ (xs:List Str) (f:List (Key×PV)),(xs.foldl (i9 A) f).length<=f.length+xs.length:=by
  intro xs
  induction xs with
  |nil=>intro f;simp
  |cons x xs ih=>intro f;have:=ih (i9 A f x);have h2:=rj A f x;simp only[List.foldl_cons,PY];lia
 simpa using this (A.map (·.1)) f
def D0 (A:List (Str×List Str)):v7 (.cU (iX A))= .ret ((A.map (·.1)).map PV.str):=by
 unfold v7 iX
 simp only[List.map_map]
 rfl
theorem Ij (ho: ∀ p∈A,p.2.length<=1000): ∀ (k:Nat) (b:Int) (f f':List (Key×PV)) (e3:Ent),f.length+(k+1) * A.length < 100000->FE A k b f=some f'->
  ∃ b' e3',A0 OR OT k [val (.cU (iX A)),Ent.bt f,val (.int b),e3]= .ret (.nx [val (.cU (iX A)),Ent.bt f',val (.int b'),e3'])
 |0,b,f,f',e3,_,h=>by cases h
 |k+1,b,f,f',e3,hl,h=>by
  have hA:(k+1+1) * A.length=(k+1) * A.length+A.length:=by rw[Nat.add_mul,Nat.one_mul]
  have t:OR [val (.cU (iX A)),Ent.bt f,val (.int b),e3]= .ret (decide (b < f.length)):=by
   simp only[OR,aF,ab,aa,aL,aS,rZ,eZ,P0,P1,cY]
   rfl
  unfold FE at h
  rw[Ik,t,rZ]
  by_cases c:b < f.length
  ·rw[Qv c] at h
   rw[Qv (decide_eq_true c)]
   have hp:=Bp A f
   obtain⟨e3',lp⟩:=Ax (e2:=val (.int f.length)) ho (A.map (·.1)) f e3 (λx hx=>by
    obtain⟨p,hp,rfl⟩:=PX.mp hx
    exact⟨p,hp,rfl⟩) (by rw[PD];have:0<=(k+1) * A.length:=Qe _;lia)
   have st:OT [val (.cU (iX A)),Ent.bt f,val (.int b),e3]= .ret (.nx [val (.cU (iX A)),Ent.bt (rF A f),val (.int f.length),e3']):=by
    unfold OT au
    simp only[az,aa,aL,aS,rZ,eZ,P0,P1,cY,Qo,PN]
    simp only[aK,aL,rZ,D0]
    exact lp
   rw[st,rZ]
   exact Ij ho k _ _ f' e3' (by lia) h
  ·rw[Qw c] at h
   cases h
   rw[Qw (by simp[c])]
   exact⟨b,e3,rfl⟩
def wg (ho: ∀ p∈A,p.2.length<=1000) (hA:A.length<=90) (h:FE A 1000 (-1) []=some f'):dR [.cU (iX A)]= .ret (.cU f'):=by
 unfold dR ip
 show (au _ _ [val (.cU (iX A)),un,un,un]).bind bC=_
 refine ay (ρ':=[val (.cU (iX A)),Ent.bt [],un,un]) rfl ?_
 refine ay (ρ':=[val (.cU (iX A)),Ent.bt [],val (.int (-1)),un]) rfl ?_
 obtain⟨b',e3',w⟩:=Ij ho 1000 (-1) [] f' un (by simp;lia) h
 refine ay (ρ':=[val (.cU (iX A)),Ent.bt f',val (.int b'),e3']) w ?_
 exact br (aU rfl)
def qO (xs:List Str):List (Key×PV):=xs.map λx=>(kn x,PV.bl true)
def y9 (xs:List Str) (x:Str):List Str:=if x∈xs then xs else xs++[x]
def wb (xs:List Str) (o:Str):iw (qO xs) o=decide (o∈xs):=by
 unfold iw iS qO
 induction xs with
 |nil=>rfl
 |cons x xs ih=>
  simp only[PQ,List.find?_cons,Ak]
  by_cases c:x=o
  ·subst c;simp
  ·simp only[Qb c]
   rw[ih]
   have c': ¬ o=x:=λz=>c z.symm
   simp[c']
def Gi (xs:List Str) (x:Str):nJ (qO xs) (kn x) (.bl true)=qO (y9 xs x):=by
 have e:((qO xs).any λkv=>decide (kv.1=kn x))=decide (x∈xs):=by
  unfold qO
  rw[List.any_map]
  induction xs with
  |nil=>rfl
  |cons y xs ih=>
   simp only[List.any_cons,Function.comp,Ak,PR]
   rw[ih]
   by_cases c:y=x
   ·subst c;simp
   ·have c': ¬ x=y:=λz=>c z.symm
    simp[c,c']
 unfold nJ y9
 rw[e]
 by_cases c:x∈xs
 ·rw[Qv (decide_eq_true c),Qv c]
  unfold qO
  rw[List.map_map]
  apply List.map_congr_left
  intro y _
  show (if kn y=kn x then(kn y,PV.bl true) else(kn y,PV.bl true))=_
  split<;>rfl
 ·rw[Qw (by simp[c]),Qw c]
  unfold qO
  rw[List.map_append]
  rfl
def eo (A:List (Str×List Str)) (xs:List Str) (x:Str):List Str:=if(vA A x).all (λo=>decide (o∈xs))=true then y9 xs x else xs
def CL (A:List (Str×List Str)) (xs:List Str) (x:Str):i9 A (qO xs) x=qO (eo A xs x):=by
 unfold i9 eo
 have:(vA A x).all (iw (qO xs))=(vA A x).all (λo=>decide (o∈xs)):=by
  congr 1;funext o;exact wb xs o
 rw[this]
 split
 ·exact Gi xs x
 ·rfl
def rE (A:List (Str×List Str)) (xs:List Str):List Str:=(A.map (·.1)).foldl (eo A) xs
def Dv (A:List (Str×List Str)) (xs:List Str):rF A (qO xs)=qO (rE A xs):=by
 unfold rF rE
 generalize A.map (·.1)=ys
 induction ys generalizing xs with
 |nil=>rfl
 |cons y ys ih=>rw[List.foldl_cons,List.foldl_cons,CL,ih]
def Jr (A:List (Str×List Str)):Nat->Int->List Str->Option (List Str)
 |0,_,_=>none
 |k+1,b,xs=>if b < xs.length then Jr A k xs.length (rE A xs) else some xs
theorem Cr (A:List (Str×List Str)): ∀ (k:Nat) (b:Int) (xs:List Str),FE A k b (qO xs)=(Jr A k b xs).map qO
 |0,b,xs=>rfl
 |k+1,b,xs=>by
  have hl:(qO xs).length=xs.length:=by unfold qO;simp
  unfold FE Jr
  rw[hl]
  split
  ·rw[Dv];exact Cr A k _ _
  ·rfl
def Mc (A:List (Str×List Str)) (S:Str->Prop):Prop:= ∀ x,(∃ p∈A,p.1=x)->(∀ o∈vA A x,S o)->S x
def qo:y∈y9 xs x↔y∈xs\/y=x:=by
 unfold y9
 by_cases c:x∈xs
 ·rw[Qv c]
  refine⟨.inl,λh=>?_⟩
  rcases h with h|rfl
  ·exact h
  ·exact c
 ·rw[Qw c];simp
def HM (h:xs.Nodup):(y9 xs x).Nodup:=by
 unfold y9
 by_cases c:x∈xs
 ·rw[Qv c];exact h
 ·rw[Qw c]
  exact List.nodup_append.mpr ⟨h,by simp,λa ha b hb=>by rw[Qf.mp hb];exact λz=>c (z▸ha)⟩
def l5 (h:y∈xs):y∈eo A xs x:=by
 unfold eo;split
 ·exact qo.mpr (.inl h)
 ·exact h
def CM (h:xs.Nodup):(eo A xs x).Nodup:=by
 unfold eo;split
 ·exact HM h
 ·exact h
def u5 (h:y∈eo A xs x):y∈xs\/(y=x/\∀ o∈vA A x,o∈xs):=by
 unfold eo at h
 by_cases c:(vA A x).all (λo=>decide (o∈xs))=true
 ·rw[Qv c] at h
  rcases qo.mp h with h|h
  ·exact .inl h
  ·exact .inr ⟨h,λo ho=>by simpa using List.all_eq_true.mp c o ho⟩
 ·rw[Qw c] at h;exact .inl h
theorem lN: ∀ (ys xs:List Str),y∈xs->y∈ys.foldl (eo A) xs
 |[],xs,h=>h
 |z::ys,xs,h=>lN ys _ (l5 h)
theorem oA: ∀ (ys xs:List Str),xs.Nodup->(ys.foldl (eo A) xs).Nodup
 |[],xs,h=>h
 |z::ys,xs,h=>oA ys _ (CM h)
theorem Aw (hS:Mc A S): ∀ (ys xs:List Str),(∀ y∈ys,∃ p∈A,p.1=y)->(∀ x∈xs,S x)->∀ x∈ys.foldl (eo A) xs,S x
 |[],xs,_,h=>h
 |z::ys,xs,hy,h=>Aw hS ys _ (λy h'=>hy y (PH _ h')) λx hx=>by
  rcases u5 hx with hx|⟨rfl,ho⟩
  ·exact h x hx
  ·exact hS x (hy x PB) λo h'=>h o (ho o h')
theorem pR: ∀ (ys xs:List Str),∀ x∈ys.foldl (eo A) xs,x∈xs\/x∈ys
 |[],xs,x,h=>.inl h
 |z::ys,xs,x,h=>by
  rcases pR ys _ x h with h|h
  ·rcases u5 h with h|⟨rfl,_⟩
   ·exact .inl h
   ·exact .inr PB
  ·exact .inr (PH _ h)
theorem wj: ∀ (ys xs:List Str),(∀ z∈ys.foldl (eo A) xs,z∈xs)->∀ x∈ys,(∀ o∈vA A x,o∈xs)->x∈xs
 |[],xs,_,x,hx,_=>absurd hx PU
 |z::ys,xs,h,x,hx,ho=>by
  have hz: ∀ y∈eo A xs z,y∈xs:=λy hy=>h y (lN ys _ hy)
  rcases PR.mp hx with rfl|hx
  ·refine hz x ?_
   unfold eo
   rw[Qv (List.all_eq_true.mpr λo h'=>by simpa using ho o h')]
   exact qo.mpr (.inr rfl)
  ·have:=wj ys (eo A xs z) (λy hy=>l5 (h y hy)) x hx (λo h'=>l5 (ho o h'))
   exact hz x this
def Ks {xs ys:List Str} (h:xs.Nodup) (hs: ∀ x∈xs,x∈ys):xs.length<=ys.length:=lx xs ys h hs
def MW {xs zs:List Str} (hx:xs.Nodup) (hz:zs.Nodup) (hs: ∀ x∈xs,x∈zs) (hl:zs.length<=xs.length): ∀ z∈zs,z∈xs:=by
 intro z hz'
 by_cases c:z∈xs
 ·exact c
 ·have h1:(z::xs).Nodup:=List.nodup_cons.mpr ⟨c,hx⟩
  have:=lx (z::xs) zs h1 (λy hy=>by
   rcases PR.mp hy with rfl|hy
   ·exact hz'
   ·exact hs y hy)
  simp at this
  lia
theorem xB (hS:Mc A S): ∀ (k:Nat) (b:Int) (xs xs':List Str),xs.Nodup->(∀ x∈xs,S x)->((b < xs.length)\/Mc A (·∈xs))->Jr A k b xs=some xs'->(∀ x∈xs',S x)/\Mc A (·∈xs')/\xs'.Nodup
 |0,b,xs,xs',_,_,_,h=>by cases h
 |k+1,b,xs,xs',nd,hx,hb,h=>by
  unfold Jr at h
  by_cases c:b < xs.length
  ·rw[Qv c] at h
   have nm: ∀ y∈A.map (·.1),∃ p∈A,p.1=y:=λy hy=>by
    obtain⟨p,hp,rfl⟩:=PX.mp hy
    exact⟨p,hp,rfl⟩
   refine xB hS k _ (rE A xs) xs' (oA _ _ nd) (Aw hS _ _ nm hx) ?_ h
   by_cases c2:(xs.length:Int) < (rE A xs).length
   ·exact .inl c2
   ·refine .inr ?_
    have back:=MW nd (oA (A:=A) (A.map (·.1)) xs nd) (λx hx=>lN _ _ hx) (by unfold rE at c2;lia)
    intro x hxA ho
    obtain⟨p,hp,rfl⟩:=hxA
    exact lN _ _ (wj _ _ back p.1 (Qh hp) λo h'=>back o (ho o h'))
  ·rw[Qw c] at h
   cases h
   rcases hb with hb|hb
   ·exact absurd hb c
   ·exact⟨hx,hb,nd⟩
theorem zr {A:List (Str×List Str)}: ∀ (k:Nat) (b:Int) (xs:List Str),xs.Nodup->(∀ x∈xs,x∈A.map (·.1))->b<=A.length->(A.length:Int) < b+k->∃ xs',Jr A k b xs=some xs'
 |0,b,xs,_,_,h1,h2=>by lia
 |k+1,b,xs,nd,hs,h1,h2=>by
  unfold Jr
  by_cases c:b < xs.length
  ·rw[Qv c]
   have hl:=Ks nd hs
   rw[PD] at hl
   exact zr k _ _ (oA _ _ nd) (λx hx=>by
    rcases pR _ _ x hx with h|h
    ·exact hs x h
    ·exact h) (by lia) (by lia)
  ·rw[Qw c];exact⟨_,rfl⟩
def BY (ho: ∀ p∈A,p.2.length<=1000) (hA:A.length<=90): ∃ xs:List Str,dR [.cU (iX A)]= .ret (.cU (qO xs))/\FE A 1000 (-1) []=some (qO xs)/\Mc A (·∈xs)/\∀ S,Mc A S->∀ x∈xs,S x:=by
 obtain⟨xs,h⟩:=zr (A:=A) 1000 (-1) [] List.nodup_nil (λ_ h=>absurd h PU) (by lia) (by lia)
 have e:FE A 1000 (-1) []=some (qO xs):=by
  have:=Cr A 1000 (-1) []
  rw[h] at this
  exact this
 refine⟨xs,wg ho hA e,e,?_,λS hS x hx=>?_⟩
 ·exact(xB (S:=λ_=>True) (λ_ _ _=>trivial) 1000 (-1) [] xs List.nodup_nil (λ_ h=>absurd h PU) (.inl (by simp)) h).2.1
 ·exact(xB hS 1000 (-1) [] xs List.nodup_nil (λ_ h=>absurd h PU) (.inl (by simp)) h).1 x hx
def dB (h:m ρ= .ret (.rt y)):(au m k ρ).bind bC= .ret y:=by
 unfold au;rw[h];rfl
section
variable {B y:PV} {w z p:Str} {t:Int}
def xg:aJ [B,y,.tup [.str "hours",.int a,.int b],.int t]= .ret (.bl (decide (a<=t)&&decide (t < b))):=by
 unfold aJ bR
 show (au _ _ [val B,val y,val (.tup [.str "hours",.int a,.int b]),val (.int t),un]).bind bC=_
 refine ay (ρ':=[val B,val y,val (.tup [.str "hours",.int a,.int b]),val (.int t),val (.str "hours")]) rfl ?_
 refine dB (y:=.bl (decide (a<=t)&&decide (t < b))) ?_
 rw[c9 rfl]
 refine aU ?_
 show chain _ _ _ _ _ [val B,val y,val (.tup [.str "hours",.int a,.int b]),val (.int t),val (.str "hours")]=_
 simp only[chain,ab,aL,aS,rZ,aw,nW,wY,M.bK,iV]
 by_cases c:a<=t
 ·simp[c];rfl
 ·simp[c]
def xc:aJ [B,y,.tup [.str "never"],.int t]= .ret (.bl false):=by
 unfold aJ bR
 show (au _ _ [val B,val y,val (.tup [.str "never"]),val (.int t),un]).bind bC=_
 refine ay (ρ':=[val B,val y,val (.tup [.str "never"]),val (.int t),val (.str "never")]) rfl ?_
 refine ay (ρ':=[val B,val y,val (.tup [.str "never"]),val (.int t),val (.str "never")]) rfl ?_
 refine ay (ρ':=[val B,val y,val (.tup [.str "never"]),val (.int t),val (.str "never")]) rfl ?_
 refine ay (ρ':=[val B,val y,val (.tup [.str "never"]),val (.int t),val (.str "never")]) rfl ?_
 exact br (aU rfl)
def Di (hw:w="least"\/w="most") (h:fe [B,.str p,.int t]= .ret .aD):cp [B,.tup [.str w,.str p,x],.int t]= .ret (.bl false):=by
 unfold cp eV
 show (au _ _ [val B,val (.tup [.str w,.str p,x]),val (.int t),un,un,un,un]).bind bC=_
 refine ay (ρ':=[val B,val (.tup [.str w,.str p,x]),val (.int t),val (.str w),val (.str p),val x,un]) rfl ?_
 refine ay (ρ':=[val B,val (.tup [.str w,.str p,x]),val (.int t),val (.str w),val (.str p),val x,val .aD]) ?_ ?_
 ·simp only[az,aa,aL,aS,rZ]
  rw[h]
  rfl
 ·exact dB (by rw[c9 rfl];exact aU rfl)
def Dh (hw:w="least"\/w="most") (h:fe [B,.str p,.int t]= .ret (.int v)):cp [B,.tup [.str w,.str p,.int n],.int t]= .ret (.bl (if w="least" then decide (n<=v) else decide (v<=n))):=by
 unfold cp eV
 show (au _ _ [val B,val (.tup [.str w,.str p,.int n]),val (.int t),un,un,un,un]).bind bC=_
 refine ay (ρ':=[val B,val (.tup [.str w,.str p,.int n]),val (.int t),val (.str w),val (.str p),val (.int n),un]) rfl ?_
 refine ay (ρ':=[val B,val (.tup [.str w,.str p,.int n]),val (.int t),val (.str w),val (.str p),val (.int n),val (.int v)]) ?_ ?_
 ·simp only[az,aa,aL,aS,rZ]
  rw[h]
  rfl
 ·refine ay (ρ':=[val B,val (.tup [.str w,.str p,.int n]),val (.int t),val (.str w),val (.str p),val (.int n),val (.int v)]) (by rw[cB rfl]) ?_
  refine br (aU ?_)
  rcases hw with rfl|rfl
  ·rfl
  ·rfl
def G0 (h:cQ [B,.str z,.int t]= .ret .aD):bF [B,.tup (.str z::.str "slope"::r),.int n,.int t]= .ret (.bl false):=by
 unfold bF dF
 show (au _ _ [val B,val (.tup (.str z::.str "slope"::r)),val (.int n),val (.int t),un]).bind bC=_
 refine ay (ρ':=[val B,val (.tup (.str z::.str "slope"::r)),val (.int n),val (.int t),val .aD]) ?_ ?_
 ·simp only[az,aa,ab,aL,aS,rZ,aw,iZ,M.bK]
  rw[h]
  rfl
 ·refine br (aU ?_)
  have c1:aF (ab (bT false) (ab aw (λρ=>aq ρ 1) (λ_=>M.ret (.int 1))) (λ_=>M.ret (.str "slope"))) [val B,val (.tup (.str z::.str "slope"::r)),val (.int n),val (.int t),val .aD]= .ret true:=by
   simp only[aF,ab,aL,aS,rZ,aw,nW,M.bK,yA,beq_self_eq_true]
  show gG _ _ [val B,val (.tup (.str z::.str "slope"::r)),val (.int n),val (.int t),val .aD]=_
  unfold gG
  rw[c1]
  rfl
def GZ (h:cQ [B,.str z,.int t]= .ret (.int m)):bF [B,.tup (.str z::.str "slope"::r),.int n,.int t]= .ret (.bl (decide (t < m+n))):=by
 unfold bF dF
 show (au _ _ [val B,val (.tup (.str z::.str "slope"::r)),val (.int n),val (.int t),un]).bind bC=_
 refine ay (ρ':=[val B,val (.tup (.str z::.str "slope"::r)),val (.int n),val (.int t),val (.int m)]) ?_ ?_
 ·simp only[az,aa,ab,aL,aS,rZ,aw,iZ,M.bK]
  rw[h]
  rfl
 ·refine br (aU ?_)
  have c1:aF (ab (bT false) (ab aw (λρ=>aq ρ 1) (λ_=>M.ret (.int 1))) (λ_=>M.ret (.str "slope"))) [val B,val (.tup (.str z::.str "slope"::r)),val (.int n),val (.int t),val (.int m)]= .ret true:=by
   simp only[aF,ab,aL,aS,rZ,aw,nW,M.bK,yA,beq_self_eq_true]
  show gG _ _ [val B,val (.tup (.str z::.str "slope"::r)),val (.int n),val (.int t),val (.int m)]=_
  unfold gG
  rw[c1]
  rfl
def qm (hw:w="least"\/w="most") (h:cp [B,.tup [.str w,.str p,x],.int t]= .ret (.bl b)):aJ [B,y,.tup [.str w,.str p,x],.int t]= .ret (.bl b):=by
 unfold aJ bR
 show (au _ _ [val B,val y,val (.tup [.str w,.str p,x]),val (.int t),un]).bind bC=_
 refine ay (ρ':=[val B,val y,val (.tup [.str w,.str p,x]),val (.int t),val (.str w)]) rfl ?_
 refine ay (ρ':=[val B,val y,val (.tup [.str w,.str p,x]),val (.int t),val (.str w)]) (by rcases hw with rfl|rfl<;>rfl) ?_
 refine dB ?_
 rw[c9 (by rcases hw with rfl|rfl<;>rfl)]
 refine aU ?_
 simp only[aa]
 exact h
def lU (h:bF [B,y,.int n,.int t]= .ret (.bl b)):aJ [B,y,.tup [.str "looked",.int n],.int t]= .ret (.bl b):=by
 unfold aJ bR
 show (au _ _ [val B,val y,val (.tup [.str "looked",.int n]),val (.int t),un]).bind bC=_
 refine ay (ρ':=[val B,val y,val (.tup [.str "looked",.int n]),val (.int t),val (.str "looked")]) rfl ?_
 refine ay (ρ':=[val B,val y,val (.tup [.str "looked",.int n]),val (.int t),val (.str "looked")]) rfl ?_
 refine ay (ρ':=[val B,val y,val (.tup [.str "looked",.int n]),val (.int t),val (.str "looked")]) rfl ?_
 refine dB ?_
 rw[c9 rfl]
 refine aU ?_
 simp only[aa]
 exact h
end
abbrev aW (p:Str×List PV):PV:=.tup (.str p.1::p.2)
def xb:Option (List Str)->PV
 |none=>.aD
 |some os=>.lst (os.map PV.str)
def Gj {A:List (Str×List Str)} {x:Str} {os:List Str} (h: ∀ p∈A,p.1≠x):nJ (iX A) (kn x) (.lst (os.map PV.str))=iX (A++[(x,os)]):=by
 have e:((iX A).any λkv=>decide (kv.1=kn x))=false:=by
  unfold iX
  rw[List.any_map,List.any_eq_false]
  intro p hp
  show ¬ decide (kn p.1=kn x)=true
  rw[Ak]
  simp[h p hp]
 unfold nJ
 rw[Qw (by rw[e];decide)]
 unfold iX
 rw[List.map_append]
 rfl
noncomputable def Oq:ae->M Fl:=(au (az 5 (λρ=>((aa (λρ=>aq ρ 1) (aa (λρ=>aq ρ 4) (aa (λρ=>aq ρ 2) (λ_=>M.ret [])))) ρ).bind bh))
  (cN (aF (ab (gn true) (λρ=>aq ρ 5) (λ_=>M.ret .aD)))
  (jH 3 (ab aw (λρ=>aq ρ 4) (λ_=>M.ret (.int 0))) (λρ=>aq ρ 5))
  (λρ=>M.ret (.nx ρ))))
def dM (ot:Str×List PV->Option (List Str)) (ws:List (Str×List PV)):List (Str×List Str):=ws.filterMap λp=>(ot p).map λos=>(p.1,os)
theorem Ab: ∀ (ws:List (Str×List PV)) (A:List (Str×List Str)) (e4 e5:Ent),(∀ p∈ws,bh [B,aW p,tv]= .ret (xb (ot p)))->(ws.map (·.1)).Nodup->(∀ p∈ws,∀ q∈A,q.1≠p.1)->A.length+ws.length < 1000->
  ∃ e4' e5',bp (aA 4) Oq (ws.map aW) [val hl,val B,val tv,Ent.bt (iX A),e4,e5,e6]= .ret (.nx [val hl,val B,val tv,Ent.bt (iX (A++dM ot ws)),e4',e5',e6])
 |[],A,e4,e5,_,_,_,_=>⟨e4,e5,by simp[bp,dM]⟩
 |p::ws,A,e4,e5,h,nd,hA,hl'=>by
  have h1:=h p PB
  rw[PQ,List.nodup_cons] at nd
  have step: ∃ A',A'=A++dM ot [p]/\Oq [val hl,val B,val tv,Ent.bt (iX A),val (aW p),e5,e6]= .ret (.nx [val hl,val B,val tv,Ent.bt (iX A'),val (aW p),val (xb (ot p)),e6]):=by
   refine⟨_,rfl,?_⟩
   unfold Oq au
   simp only[az,aa,aL,aS,rZ,h1,Qo,PN]
   cases c:ot p with
   |none=>
    rw[cB (by rfl)]
    simp[dM,c]
   |some os=>
    rw[c9 (by rfl)]
    have hlen:(iX A).length < 100000:=by unfold iX;rw[PD];simp at hl';lia
    simp only[jH,aL,aS,rZ,P0,P1,ab,aw,iZ,M.bK,nQ,Qv hlen,xb,Qo,PN]
    rw[Gj (λq hq=>hA p PB q hq)]
    simp[dM,c]
  obtain⟨A',eA,st⟩:=step
  obtain⟨e4',e5',ih⟩:=Ab (hl:=hl) (B:=B) (tv:=tv) (ot:=ot) (e6:=e6) ws A' (val (aW p)) (val (xb (ot p))) (λq hq=>h q (PH _ hq)) nd.2 (λq hq a ha=>by
   rw[eA] at ha
   rcases Qu.mp ha with ha|ha
   ·exact hA q (PH _ hq) a ha
   ·have:a.1=p.1:=by
     unfold dM at ha
     obtain⟨b,hb,e⟩:=List.mem_filterMap.mp ha
     rw[Qf.mp hb] at e
     obtain⟨os,_,rfl⟩:=Qa.mp e
     rfl
    rw[this]
    exact λz=>nd.1 (z▸Qh hq)) (by
   have:(dM ot [p]).length<=1:=by unfold dM;exact List.length_filterMap_le _ _
   rw[eA,Qc];simp at hl';lia)
  refine⟨e4',e5',?_⟩
  rw[PQ]
  unfold bp
  simp only[aA,rZ,Qo,PN]
  rw[st,rZ]
  show bp _ _ _ _=_
  rw[ih,eA,List.append_assoc]
  have:dM ot [p]++dM ot ws=dM ot (p::ws):=by unfold dM;rw[<-List.filterMap_append];rfl
  rw[this]
def GB {hm dk B tv:PV} {ws:List (Str×List PV)} {ot:Str×List PV->Option (List Str)} (h: ∀ p∈ws,bh [B,aW p,tv]= .ret (xb (ot p))) (nd:(ws.map (·.1)).Nodup) (hw:ws.length<=90)
  (ho: ∀ p∈dM ot ws,p.2.length<=1000) (hf:FE (dM ot ws) 1000 (-1) []=some f'):
  bA [.tup [.tup (ws.map aW),hm,dk],B,tv]= .ret (.tup (((ws.map (·.1)).filter (iw f')).map PV.str)):=by
 unfold bA ju
 obtain⟨hl,ehl⟩: ∃ hl,hl=PV.tup [.tup (ws.map aW),hm,dk]:=⟨_,rfl⟩
 rw[<-ehl]
 have i0:aw hl (.int 0)= .ret (.tup (ws.map aW)):=by rw[ehl];simp only[aw,iZ,M.bK]
 show (au _ _ [val hl,val B,val tv,un,un,un,un]).bind bC=_
 refine ay (ρ':=[val hl,val B,val tv,Ent.bt (iX []),un,un,un]) rfl ?_
 obtain⟨e4',e5',lp⟩:=Ab (hl:=hl) (B:=B) (tv:=tv) (ot:=ot) (e6:=un) ws [] un un h nd (λ_ _ q hq=>absurd hq PU) (by simp;lia)
 refine ay (ρ':=[val hl,val B,val tv,Ent.bt (iX (dM ot ws)),e4',e5',un]) ?_ ?_
 ·simp only[aK,ab,aL,rZ,i0,aH]
  exact lp
 have hA:(dM ot ws).length<=90:=P7 (List.length_filterMap_le _ _) hw
 refine ay (ρ':=[val hl,val B,val tv,val (.cU (iX (dM ot ws))),e4'.freeze,e5'.freeze,val (.cU f')]) ?_ ?_
 ·show az 6 _ [val hl,val B,val tv,val (.cU (iX (dM ot ws))),e4'.freeze,e5'.freeze,un]=_
  simp only[az,aa,aL,aS,rZ,wg ho hA hf]
  rfl
 refine br (aU ?_)
 have q:=bS (k:=0) (tt:=aF (ab (p6 false) (ab aw (λρ=>aq ρ 0) (λ_=>M.ret (.int 0))) (λρ=>aq ρ 1))) (te:=ab aw (λρ=>aq ρ 0) (λ_=>M.ret (.int 0))) (p:=λy=>match y with| .tup (.str x::_)=>iw f' x|_=>false) (f:=λy=>match y with| .tup (.str x::_)=>.str x|_=>.aD) (ρ:=[un,val (.cU f')]) (ws.map aW) [un,val (.cU f')] (λ_=>rfl) (λy hy=>by
  obtain⟨p,_,rfl⟩:=PX.mp hy
  simp only[aF,ab,PN,aL,aS,rZ,aw,iZ,p6,nQ,M.bK,Bool.bne_false,iw]) (λy hy _=>by
  obtain⟨p,_,rfl⟩:=PX.mp hy
  simp only[ab,PN,aL,rZ,aw,iZ,M.bK])
 have hlen:(ws.map aW).length<=100000:=by rw[PD];lia
 have ec:de [none,some 6] [val hl,val B,val tv,val (.cU (iX (dM ot ws))),e4'.freeze.freeze,e5'.freeze.freeze,val (.cU f')]=[un,val (.cU f')]:=rfl
 have ej:((ws.map aW).filter (λy=>match y with| .tup (.str x::_)=>iw f' x|_=>false)).map (λy=>match y with| .tup (.str x::_)=>PV.str x|_=>.aD)=((ws.map (·.1)).filter (iw f')).map PV.str:=by
  clear q lp hf ho h nd hw hA hlen ec i0 ehl
  induction ws with
  |nil=>rfl
  |cons p ws ih=>
   simp only[PQ,List.filter_cons]
   by_cases c:iw f' p.1=true
   ·rw[Qv c,Qv c,PQ,PQ,ih]
   ·rw[Qw c,Qw c,ih]
 show (λρ=>((aa (aE _) _) ρ).bind j8) [val hl,val B,val tv,val (.cU (iX (dM ot ws))),e4'.freeze.freeze,e5'.freeze.freeze,val (.cU f')]=_
 simp only[aa,aE,a8,ab,aL,rZ,i0,aH,Qv hlen,ec]
 rw[q]
 simp only[rZ,j8,ej]
def six (l:List PV) (w z:Str) (t:Int):PV:=(iR (l.filter (hit w z t))).getD .aD
def pN (hp:eS n y) (hh:hit w z t y=true): ∃ z' m r,y= .tup (.str w::.int n::.int m::.str z'::r)/\((w="look"/\r=[])\/((w="read"\/w="rule")/\∃ v,r=[v]/\nX 2500 2 v/\Kq v=true))/\0<=m/\m<=1000000:=by
 obtain⟨w',z',m,r,rfl,hc,m0,m1⟩:=hp
 have e:(w'==w&&(z'==z&&decide (m<=t)))=true:=hh
 rw[Qk] at e
 have ew:w'=w:=by simpa using e.1
 subst ew
 exact⟨z',m,r,rfl,hc,m0,m1⟩
def seen (h:bf l ns) (w z:Str) (t:Int):cR [.tup (aI l),.str w,.str z,.int t]= .ret (six l w z t):=by
 rw[G5 λy hy=>(h.at ((du l).mem_iff.mp hy)).imp λn hn=>hn.1]
 unfold six
 rw[BK h.nd]
def Dw (h:bf l ns) (hl:l.length<=1000) (w z:Str) (t:Int):dq [.lst l,.str w,.str z,.int t]= .ret (six l w z t):=
 Gz (λy hy=>(h.at hy).imp λn hn=>hn.1) (λy hy=>h.Pb hy) hl
set_option genInjectivity true in
inductive Ru where
 |iP (a b:Int)|post (least:Bool) (p:Str) (n:Int)|looked (n:Int)|zo (o:Str)|never
noncomputable def Ru.pv:Ru->PV
 | .iP a b=>.tup [.str "hours",.int a,.int b]
 | .post true p n=>.tup [.str "least",.str p,.int n]
 | .post false p n=>.tup [.str "most",.str p,.int n]
 | .looked n=>.tup [.str "looked",.int n]
 | .zo o=>.tup [.str "with",.str o]
 | .never=>.tup [.str "never"]
noncomputable def Ru.hold (rd:Str->Option Int) (lk:Option Int) (t:Int) (i:Str->Bool):Ru->Bool
 | .iP a b=>decide (a<=t)&&decide (t < b)
 | .post L p n=>match rd p with|none=>false|some v=>if L=true then decide (n<=v) else decide (v<=n)
 | .looked n=>match lk with|none=>false|some m=>decide (t < m+n)
 | .zo o=>i o
 | .never=>false
def i3 (l:List PV) (t:Int) (p:Str):Option Int:=match six l "read" p t with| .tup [_,_,_,_,.int v]=>some v|_=>none
def fw (l:List PV) (t:Int) (z:Str):Option Int:=match six l "look" z t with| .tup (_::_::.int m::_)=>some m|_=>none
def Reads (l:List PV):Prop:= ∀ n m z v,PV.tup [.str "read",.int n,.int m,.str z,v]∈l->∃ i:Int,v= .int i
def gQ (h:bf l ns) (w z:Str) (t:Int):six l w z t= .aD\/(six l w z t∈l/\∃ n,eS n (six l w z t)/\hit w z t (six l w z t)=true):=by
 unfold six
 cases e:iR (l.filter (hit w z t)) with
 |none=>exact .inl rfl
 |some y=>
  right
  have hm:y∈l.filter (hit w z t):=by
   unfold iR at e
   obtain⟨b,hb,rfl⟩:=Qa.mp e
   have:=wV hb
   rw[P4,Py this]
   exact Qq this
  obtain⟨n,hp,_⟩:=h.at (Qt.mp hm).1
  exact⟨(Qt.mp hm).1,n,hp,(Qt.mp hm).2⟩
def u7 (h:bf l ns) (hr:Reads l) (z:Str) (t:Int):(six l "read" z t= .aD/\i3 l t z=none)\/∃ a b c d v,six l "read" z t= .tup [a,b,c,d,.int v]/\i3 l t z=some v:=by
 rcases gQ h "read" z t with e|⟨hm,n,hp,hh⟩
 ·exact .inl ⟨e,by unfold i3;rw[e]⟩
 ·right
  obtain⟨z',m,r,e,hk,_⟩:=pN hp hh
  rcases hk with⟨hw,_⟩|⟨_,v,rfl,_⟩
  ·exact absurd hw (by decide +kernel)
  ·rw[e] at hm
   obtain⟨i,rfl⟩:=hr _ _ _ _ hm
   exact⟨_,_,_,_,i,e,by unfold i3;rw[e]⟩
def u9 (h:bf l ns) (z:Str) (t:Int):(six l "look" z t= .aD/\fw l t z=none)\/∃ a b m r,six l "look" z t= .tup (a::b::.int m::r)/\fw l t z=some m:=by
 rcases gQ h "look" z t with e|⟨hm,n,hp,hh⟩
 ·exact .inl ⟨e,by unfold fw;rw[e]⟩
 ·right
  obtain⟨z',m,r,e,_⟩:=pN hp hh
  exact⟨_,_,m,_,e,by unfold fw;rw[e]⟩
def rL {os:List Str} (h:bf l ns) (hl:l.length<=1000) (hr:Reads l) (r:Ru):
  cj [.lst l,.str nm,r.pv,.int t,.lst (os.map PV.str)]= .ret (.bl (r.hold (i3 l t) (fw l t nm) t (cF os))):=by
 unfold cj jz
 cases r with
 |iP a b=>
  show (au _ _ [val (.lst l),val (.str nm),val (.tup [.str "hours",.int a,.int b]),val (.int t),val (.lst (os.map PV.str)),un,un]).bind bC=_
  refine dB ?_
  rw[c9 rfl]
  refine aU ?_
  show chain _ _ _ _ _ [val (.lst l),val (.str nm),val (.tup [.str "hours",.int a,.int b]),val (.int t),val (.lst (os.map PV.str)),un,un]=_
  simp only[chain,ab,aL,aS,rZ,aw,nW,wY,M.bK,iV,Ru.hold]
  by_cases c:a<=t
  ·simp[c];rfl
  ·simp[c]
 |looked n=>
  show (au _ _ [val (.lst l),val (.str nm),val (.tup [.str "looked",.int n]),val (.int t),val (.lst (os.map PV.str)),un,un]).bind bC=_
  refine ay (ρ':=[val (.lst l),val (.str nm),val (.tup [.str "looked",.int n]),val (.int t),val (.lst (os.map PV.str)),un,un]) rfl ?_
  refine dB ?_
  rw[c9 rfl]
  have pg:=Dw h hl "look" nm t
  rcases u9 h nm t with⟨e,e2⟩|⟨a,b,m,r,e,e2⟩
  ·rw[e] at pg
   unfold au
   simp only[az,aa,aL,aS,rZ,pg,Ru.hold,e2]
   rfl
  ·rw[e] at pg
   unfold au
   simp only[az,aa,aL,aS,rZ,pg,Ru.hold,e2,Qo,PN]
   refine aU ?_
   show gG _ _ [val (.lst l),val (.str nm),val (.tup [.str "looked",.int n]),val (.int t),val (.lst (os.map PV.str)),val (.tup (a::b::.int m::r)),un]=_
   have c1:aF (ab (gn true) (λρ=>aq ρ 5) (λ_=>M.ret .aD)) [val (.lst l),val (.str nm),val (.tup [.str "looked",.int n]),val (.int t),val (.lst (os.map PV.str)),val (.tup (a::b::.int m::r)),un]= .ret true:=rfl
   unfold gG
   rw[c1,rZ,Qv rfl]
   simp only[ab,aL,aS,rZ,aw,nW,wY,M.bK]
   rfl
 |never=>rfl
 |zo o=>
  show (au _ _ [val (.lst l),val (.str nm),val (.tup [.str "with",.str o]),val (.int t),val (.lst (os.map PV.str)),un,un]).bind bC=_
  refine ay (ρ':=[val (.lst l),val (.str nm),val (.tup [.str "with",.str o]),val (.int t),val (.lst (os.map PV.str)),un,un]) rfl ?_
  refine ay (ρ':=[val (.lst l),val (.str nm),val (.tup [.str "with",.str o]),val (.int t),val (.lst (os.map PV.str)),un,un]) rfl ?_
  refine ay (ρ':=[val (.lst l),val (.str nm),val (.tup [.str "with",.str o]),val (.int t),val (.lst (os.map PV.str)),un,un]) rfl ?_
  refine br (aU ?_)
  show gG _ _ [val (.lst l),val (.str nm),val (.tup [.str "with",.str o]),val (.int t),val (.lst (os.map PV.str)),un,un]=_
  have c1:aF (ab (bT false) (ab aw (λρ=>aq ρ 2) (λ_=>M.ret (.int 0))) (λ_=>M.ret (.str "with"))) [val (.lst l),val (.str nm),val (.tup [.str "with",.str o]),val (.int t),val (.lst (os.map PV.str)),un,un]= .ret true:=rfl
  unfold gG
  rw[c1,rZ,Qv rfl]
  simp only[ab,aL,aS,rZ,aw,nW,M.bK,gA,Ru.hold]
  simp
 |post L p n=>
  obtain⟨w,hw,ew⟩: ∃ w:Str,(w="least"/\L=true\/w="most"/\L=false)/\(Ru.post L p n).pv= .tup [.str w,.str p,.int n]:=by
   cases L
   ·exact⟨"most",.inr ⟨rfl,rfl⟩,rfl⟩
   ·exact⟨"least",.inl ⟨rfl,rfl⟩,rfl⟩
  rw[ew]
  show (au _ _ [val (.lst l),val (.str nm),val (.tup [.str w,.str p,.int n]),val (.int t),val (.lst (os.map PV.str)),un,un]).bind bC=_
  refine ay (ρ':=[val (.lst l),val (.str nm),val (.tup [.str w,.str p,.int n]),val (.int t),val (.lst (os.map PV.str)),un,un]) (by rcases hw with⟨rfl,_⟩|⟨rfl,_⟩<;>rfl) ?_
  refine ay (ρ':=[val (.lst l),val (.str nm),val (.tup [.str w,.str p,.int n]),val (.int t),val (.lst (os.map PV.str)),un,un]) (by rcases hw with⟨rfl,_⟩|⟨rfl,_⟩<;>rfl) ?_
  have pg:=Dw h hl "read" p t
  refine dB ?_
  rw[c9 (by rcases hw with⟨rfl,_⟩|⟨rfl,_⟩<;>rfl)]
  rcases u7 h hr p t with⟨e,e2⟩|⟨a,b,c,d,v,e,e2⟩
  ·rw[e] at pg
   unfold au
   simp only[az,aa,ab,aL,aS,rZ,aw,nW,M.bK,pg,Ru.hold,e2]
   rfl
  ·rw[e] at pg
   unfold au
   simp only[az,aa,ab,aL,aS,rZ,aw,nW,M.bK,pg,Ru.hold,e2]
   rcases hw with⟨rfl,rfl⟩|⟨rfl,rfl⟩<;>rfl
section
variable {l:List PV} {ns:List Int} {t:Int}
def xX (h:bf l ns) (hr:Reads l):fe [.tup (aI l),.str p,.int t]= .ret (match i3 l t p with|none=>.aD|some v=>.int v):=by
 have s:=seen h "read" p t
 unfold fe mC
 show (au _ _ [val (.tup (aI l)),val (.str p),val (.int t),un]).bind bC=_
 rcases u7 h hr p t with⟨e,e2⟩|⟨a,b,c,d,v,e,e2⟩
 ·rw[e] at s
  refine ay (ρ':=[val (.tup (aI l)),val (.str p),val (.int t),val .aD]) ?_ ?_
  ·simp only[az,aa,aL,aS,rZ,s]
   rfl
  ·rw[e2];exact br (aU rfl)
 ·rw[e] at s
  refine ay (ρ':=[val (.tup (aI l)),val (.str p),val (.int t),val (.tup [a,b,c,d,.int v])]) ?_ ?_
  ·simp only[az,aa,aL,aS,rZ,s]
   rfl
  ·rw[e2];exact br (aU rfl)
def BJ (h:bf l ns):cQ [.tup (aI l),.str z,.int t]= .ret (match fw l t z with|none=>.aD|some v=>.int v):=by
 have s:=seen h "look" z t
 unfold cQ jv
 show (au _ _ [val (.tup (aI l)),val (.str z),val (.int t),un]).bind bC=_
 rcases u9 h z t with⟨e,e2⟩|⟨a,b,m,r,e,e2⟩
 ·rw[e] at s
  refine ay (ρ':=[val (.tup (aI l)),val (.str z),val (.int t),val .aD]) ?_ ?_
  ·simp only[az,aa,aL,aS,rZ,s]
   rfl
  ·rw[e2];exact br (aU rfl)
 ·rw[e] at s
  refine ay (ρ':=[val (.tup (aI l)),val (.str z),val (.int t),val (.tup (a::b::.int m::r))]) ?_ ?_
  ·simp only[az,aa,aL,aS,rZ,s]
   rfl
  ·rw[e2]
   refine br (aU ?_)
   show pM _ _ _ [val (.tup (aI l)),val (.str z),val (.int t),val (.tup (a::b::.int m::r))]=_
   rw[Au rfl]
   simp only[ab,aL,aS,rZ,aw,wY,M.bK]
def y6:aJ [B,y,.tup [.str "with",.str o],.int t]= .ret (.bl false):=by
 unfold aJ bR
 show (au _ _ [val B,val y,val (.tup [.str "with",.str o]),val (.int t),un]).bind bC=_
 refine ay (ρ':=[val B,val y,val (.tup [.str "with",.str o]),val (.int t),val (.str "with")]) rfl ?_
 refine ay (ρ':=[val B,val y,val (.tup [.str "with",.str o]),val (.int t),val (.str "with")]) rfl ?_
 refine ay (ρ':=[val B,val y,val (.tup [.str "with",.str o]),val (.int t),val (.str "with")]) rfl ?_
 refine ay (ρ':=[val B,val y,val (.tup [.str "with",.str o]),val (.int t),val (.str "with")]) rfl ?_
 exact br (aU rfl)
def GY (hk:(kd==("slope":Str))=false) (h:cQ [B,.str z,.int t]= .ret y):bF [B,.tup (.str z::.str kd::q),.int n,.int t]= .ret (.bl false):=by
 unfold bF dF
 show (au _ _ [val B,val (.tup (.str z::.str kd::q)),val (.int n),val (.int t),un]).bind bC=_
 refine ay (ρ':=[val B,val (.tup (.str z::.str kd::q)),val (.int n),val (.int t),val y]) ?_ ?_
 ·simp only[az,aa,ab,aL,aS,rZ,aw,iZ,M.bK]
  rw[h]
  rfl
 ·refine br (aU ?_)
  have c1:aF (ab (bT false) (ab aw (λρ=>aq ρ 1) (λ_=>M.ret (.int 1))) (λ_=>M.ret (.str "slope"))) [val B,val (.tup (.str z::.str kd::q)),val (.int n),val (.int t),val y]= .ret false:=by
   simp only[aF,ab,aL,aS,rZ,aw,nW,M.bK,yA,hk]
  show gG _ _ [val B,val (.tup (.str z::.str kd::q)),val (.int n),val (.int t),val y]=_
  unfold gG
  rw[c1]
  rfl
def xf (h:bf l ns) (hr:Reads l) (hs:(kd==("slope":Str))=false->fw l t z=none) (r:Ru):
  aJ [.tup (aI l),.tup (.str z::.str kd::q),r.pv,.int t]= .ret (.bl (r.hold (i3 l t) (fw l t z) t (λ_=>false))):=by
 cases r with
 |iP a b=>exact xg
 |never=>exact xc
 |zo o=>exact y6
 |looked n=>
  have lo:=BJ (z:=z) (t:=t) h
  cases ck:(kd==("slope":Str)) with
  |true=>
   obtain rfl:kd="slope":=by simpa using ck
   refine lU ?_
   cases e:fw l t z with
   |none=>rw[e] at lo;simp only[Ru.hold];exact G0 lo
   |some m=>rw[e] at lo;simp only[Ru.hold];exact GZ lo
  |false=>
   refine lU ?_
   simp only[Ru.hold,hs ck]
   exact GY ck lo
 |post L p n=>
  have re:=xX (p:=p) (t:=t) h hr
  cases L
  ·refine qm (w:="most") (.inr rfl) ?_
   cases e:i3 l t p with
   |none=>rw[e] at re;simp only[Ru.hold,e];exact Di (.inr rfl) re
   |some v=>rw[e] at re;simp only[Ru.hold,e];exact Dh (.inr rfl) re
  ·refine qm (w:="least") (.inl rfl) ?_
   cases e:i3 l t p with
   |none=>rw[e] at re;simp only[Ru.hold,e];exact Di (.inl rfl) re
   |some v=>rw[e] at re;simp only[Ru.hold,e];exact Dh (.inl rfl) re
end
theorem lH {m:α->PV} {tt:ae->M Bool} {te:ae->M PV} {p:α->Bool} {g:α->PV} {ρ:ae}: ∀ (rs:List α) (ρ':ae),(∀ e,ρ'.set k e=ρ.set k e)->(∀ r∈rs,tt (ρ.set k (.val (m r)))= .ret (p r))->(∀ r∈rs,p r=true->te (ρ.set k (.val (m r)))= .ret (g r))->
  pC (aA k) tt te (rs.map m) ρ'= .ret ((rs.filter p).map g)
 |[],ρ',_,_,_=>rfl
 |r::rs,ρ',hρ,h1,h2=>by
  have ih:=lH (m:=m) (k:=k) (tt:=tt) (te:=te) (p:=p) (g:=g) (ρ:=ρ) rs (ρ.set k (.val (m r))) (λe=>by rw[List.set_set]) (λr hr=>h1 r (PH _ hr)) (λr hr=>h2 r (PH _ hr))
  rw[PQ]
  unfold pC
  simp only[aA,rZ,hρ,h1 r PB]
  cases c:p r with
  |true=>
   rw[Qv rfl,h2 r PB c,rZ,ih,rZ,List.filter_cons_of_pos c]
   rfl
  |false=>
   rw[Qw (by decide),ih,List.filter_cons_of_neg (by rw[c];decide)]
def Ru.Ao:Ru->Bool
 | .zo _=>true
 |_=>false
def Ru.iU:Ru->Str
 | .zo o=>o
 |_=>""
def Ru.head (r:Ru): ∃ w q,r.pv= .tup (.str w::q)/\(w==("with":Str))=r.Ao:=by
 cases r with
 |iP a b=>exact⟨"hours",_,rfl,by show (("hours":Str)==("with":Str))=false;decide +kernel⟩
 |post L p n=>
  cases L
  ·exact⟨"most",_,rfl,by show (("most":Str)==("with":Str))=false;decide +kernel⟩
  ·exact⟨"least",_,rfl,by show (("least":Str)==("with":Str))=false;decide +kernel⟩
 |looked n=>exact⟨"looked",_,rfl,by show (("looked":Str)==("with":Str))=false;decide +kernel⟩
 |zo o=>exact⟨"with",_,rfl,by show (("with":Str)==("with":Str))=true;decide +kernel⟩
 |never=>exact⟨"never",_,rfl,by show (("never":Str)==("with":Str))=false;decide +kernel⟩
def Ou:ae->M Bool:=(aF (ab (bT true) (ab aw (λρ=>aq ρ 0) (λ_=>M.ret (.int 0))) (λ_=>M.ret (.str "with"))))
def Ov:ae->M PV:=(λρ=>((aa (λρ=>aq ρ 1) (aa (λρ=>aq ρ 2) (aa (λρ=>aq ρ 0) (aa (λρ=>aq ρ 3) (λ_=>M.ret []))))) ρ).bind aJ)
def yY (hd:Ru->Bool) (rs:List Ru):Option (List Str):=if(rs.filter λr=>!r.Ao).all hd=true then some ((rs.filter Ru.Ao).map Ru.iU) else none
def Ot:ae->M Bool:=(aF (ab (bT false) (ab aw (λρ=>aq ρ 0) (λ_=>M.ret (.int 0))) (λ_=>M.ret (.str "with"))))
def Pc:ae->M PV:=(ab aw (λρ=>aq ρ 0) (λ_=>M.ret (.int 1)))
def yX {B:PV} {r:List PV} {rs:List Ru} {hd:Ru->Bool} (hl:rs.length<=1000) (h:bV [B,.str z,.int t]= .ret (.tup (rs.map Ru.pv))) (ha: ∀ u∈rs,u.Ao=false->aJ [B,.tup (.str z::r),u.pv,.int t]= .ret (.bl (hd u))):
  bh [B,.tup (.str z::r),.int t]= .ret (xb (yY hd rs)):=by
 have hlen:(rs.map Ru.pv).length<=100000:=by rw[PD];lia
 unfold bh fv
 show (au _ _ [val B,val (.tup (.str z::r)),val (.int t),un]).bind bC=_
 refine ay (ρ':=[val B,val (.tup (.str z::r)),val (.int t),val (.tup (rs.map Ru.pv))]) ?_ ?_
 ·simp only[az,aa,ab,aL,aS,rZ,aw,iZ,M.bK]
  rw[h]
  rfl
 have ec:de [none,some 0,some 1,some 2] [val B,val (.tup (.str z::r)),val (.int t),val (.tup (rs.map Ru.pv))]=[un,val B,val (.tup (.str z::r)),val (.int t)]:=rfl
 have q1:=lH (m:=Ru.pv) (k:=0) (tt:=Ou) (te:=Ov) (p:=λu=>!u.Ao) (g:=λu=>.bl (hd u)) (ρ:=[un,val B,val (.tup (.str z::r)),val (.int t)]) rs [un,val B,val (.tup (.str z::r)),val (.int t)] (λ_=>rfl) (λu hu=>by
  obtain⟨w,q,e,hw⟩:=u.head
  have e1:bT true (.str w) (.str "with")= .ret (.bl (!u.Ao)):=by
   show M.ret (PV.bl (xor true (w=="with")))=_
   rw[hw];simp
  rw[e]
  simp only[Ou,aF,ab,PN,aL,rZ,aw,iZ,M.bK,e1]) (λu hu hp=>by
  simp only[Ov,aa,PN,aL,aS,rZ]
  exact ha u hu (by simpa using hp))
 have eall: ∀ us:List Ru,lV [.lst (us.map λu=>PV.bl (hd u))]= .ret (.bl (us.all hd)):=λus=>by
  have:iQ (us.map λu=>PV.bl (hd u))=some (us.map hd):=by
   induction us with
   |nil=>rfl
   |cons u us ih=>simp only[PQ,iQ,ih];rfl
  simp only[lV,this,M.bK,rZ,List.all_map]
  rfl
 have tst:(pd (aF (λρ=>((aa (aE (a8 [none,some 0,some 1,some 2] (λρ=>((λρ=>aq ρ 3) ρ).bind aH) (aA 0) Ou Ov)) (λ_=>M.ret [])) ρ).bind lV))) [val B,val (.tup (.str z::r)),val (.int t),val (.tup (rs.map Ru.pv))]= .ret (!((rs.filter λu=>!u.Ao).all hd)):=by
  unfold pd
  unfold aF
  simp only[aa,aE,a8,aL,aS,rZ,aH,ec,Qv hlen]
  rw[q1]
  simp only[rZ,eall]
 cases c:(rs.filter λu=>!u.Ao).all hd with
 |true=>
  rw[c] at tst
  refine ay (ρ':=[val B,val (.tup (.str z::r)),val (.int t),val (.tup (rs.map Ru.pv))]) (cB tst) ?_
  refine br (aU ?_)
  have ec2:de [none] [val B,val (.tup (.str z::r)),val (.int t),val (.tup (rs.map Ru.pv))]=[un]:=rfl
  have q2:=lH (m:=Ru.pv) (k:=0) (tt:=Ot) (te:=Pc) (p:=Ru.Ao) (g:=λu=>.str u.iU) (ρ:=[un]) rs [un] (λ_=>rfl) (λu hu=>by
   obtain⟨w,q,e,hw⟩:=u.head
   rw[e]
   simp only[Ot,aF,ab,PN,aL,rZ,aw,iZ,M.bK,yA,hw]) (λu hu hp=>by
   cases u<;>first|rfl|cases hp)
  show aE (a8 [none] (λρ=>((λρ=>aq ρ 3) ρ).bind aH) (aA 0) Ot Pc) [val B,val (.tup (.str z::r)),val (.int t),val (.tup (rs.map Ru.pv))]=_
  simp only[aE,a8,aL,aS,rZ,aH,ec2,Qv hlen]
  rw[q2]
  unfold yY
  rw[Qv c]
  simp only[rZ,xb,List.map_map]
  rfl
 |false=>
  rw[c] at tst
  refine dB (Eq.trans (c9 tst) ?_)
  unfold yY
  rw[Qw (by rw[c];decide)]
  exact aU rfl
theorem wm (k:Nat): ∀ a b:List Str,eqs (qv (k+1)) (a.map PV.str) (b.map PV.str)=some (decide (a=b))
 |[],[]=>rfl
 |[],_::_=>rfl
 |_::_,[]=>rfl
 |x::a,y::b=>by
  have e:qv (k+1) (.str x) (.str y)=some (x==y):=rfl
  simp only[PQ,eqs,e,wm k a b,Option.bind_some]
  by_cases c:x=y
  ·subst c
   by_cases c2:a=b
   ·subst c2;simp
   ·simp[c2]
  ·simp[c]
def GP (a b:List Str):bT true (.lst (a.map PV.str)) (.lst (b.map PV.str))= .ret (.bl (!decide (a=b))):=by
 have e:qv 20 (.lst (a.map PV.str)) (.lst (b.map PV.str))=some (decide (a=b)):=wm 18 a b
 unfold bT
 rw[e]
 simp[M.bK]
noncomputable def OH:ae->M PV:=(λρ=>((aa (λρ=>aq ρ 1) (aa (λρ=>aq ρ 2) (aa (λρ=>aq ρ 0) (aa (λρ=>aq ρ 3) (aa (λρ=>aq ρ 4) (λ_=>M.ret [])))))) ρ).bind cj)
noncomputable def OF:ae->M Bool:=(aF (λρ=>((aa (aE (a8 [none,some 1,some 6,some 2,some 4] (λρ=>((λρ=>aq ρ 7) ρ).bind aH) (aA 0) cx OH)) (λ_=>M.ret [])) ρ).bind lV))
def L3:ae->M Fl:=(cN OF (cP 5 (λρ=>aq ρ 6)) (λρ=>M.ret (.nx ρ)))
noncomputable def OG:ae->M Fl:=(au (Ej (az 4 (λρ=>aq ρ 5))) (au (gz 5 (λρ=>((λ_=>M.ret []) ρ).bind aM)) (aK (λρ=>((λρ=>aq ρ 3) ρ).bind aH) (bJ [6,7]) L3)))
def OE:ae->M Bool:=(aF (ab (bT true) (λρ=>aq ρ 4) (λρ=>eZ ρ 5)))
def qN (l:List PV) (t:Int) (ru:Str->List Ru) (S:List Str) (z:Str):Bool:=(ru z).all λr=>r.hold (i3 l t) (fw l t z) t (cF S)
def iT (ru:Str->List Ru) (z:Str):PV:=.tup [.str z,.tup ((ru z).map Ru.pv)]
section
variable {l:List PV} {ns:List Int} {t:Int} {ru:Str->List Ru} {hl R:PV}
def KA (h:bf l ns) (hn:l.length<=1000) (hr:Reads l) (hu: ∀ z,(ru z).length<=1000):
  OF [val hl,val (.lst l),val (.int t),val R,val (.lst (S.map PV.str)),Ent.own acc,val (.str z),val (.tup ((ru z).map Ru.pv))]= .ret (qN l t ru S z):=by
 have hlen:((ru z).map Ru.pv).length<=100000:=by rw[PD];have:=hu z;lia
 have ec:de [none,some 1,some 6,some 2,some 4] [val hl,val (.lst l),val (.int t),val R,val (.lst (S.map PV.str)),Ent.own acc,val (.str z),val (.tup ((ru z).map Ru.pv))]=[un,val (.lst l),val (.str z),val (.int t),val (.lst (S.map PV.str))]:=rfl
 have q:=lH (m:=Ru.pv) (k:=0) (tt:=cx) (te:=OH) (p:=λ_=>true) (g:=λr=>.bl (r.hold (i3 l t) (fw l t z) t (cF S))) (ρ:=[un,val (.lst l),val (.str z),val (.int t),val (.lst (S.map PV.str))]) (ru z) [un,val (.lst l),val (.str z),val (.int t),val (.lst (S.map PV.str))] (λ_=>rfl) (λ_ _=>rfl) (λr _ _=>by
  simp only[OH,aa,PN,aL,aS,rZ]
  exact rL h hn hr r)
 have eall: ∀ us:List Ru,lV [.lst (us.map λr=>PV.bl (r.hold (i3 l t) (fw l t z) t (cF S)))]= .ret (.bl (us.all λr=>r.hold (i3 l t) (fw l t z) t (cF S))):=λus=>by
  have:iQ (us.map λr=>PV.bl (r.hold (i3 l t) (fw l t z) t (cF S)))=some (us.map λr=>r.hold (i3 l t) (fw l t z) t (cF S)):=by
   induction us with
   |nil=>rfl
   |cons u us ih=>simp only[PQ,iQ,ih];rfl
  simp only[lV,this,M.bK,rZ,List.all_map]
  rfl
 have hf:(ru z).filter (λ_=>true)=ru z:=by simp
 unfold OF aF
 simp only[aa,aE,a8,aL,aS,rZ,aH,ec,Qv hlen]
 rw[q,hf]
 simp only[rZ,eall,qN]
theorem t7 (h:bf l ns) (hn:l.length<=1000) (hr:Reads l) (hu: ∀ z,(ru z).length<=1000): ∀ (zs acc:List Str) (e6 e7:Ent),acc.length+zs.length < 1000->
  ∃ e6' e7',bp (bJ [6,7]) L3 (zs.map (iT ru)) [val hl,val (.lst l),val (.int t),val R,val (.lst (S.map PV.str)),Ent.own (acc.map PV.str),e6,e7]= .ret (.nx [val hl,val (.lst l),val (.int t),val R,val (.lst (S.map PV.str)),Ent.own ((acc++zs.filter (qN l t ru S)).map PV.str),e6',e7'])
 |[],acc,e6,e7,_=>⟨e6,e7,by simp[bp]⟩
 |z::zs,acc,e6,e7,hz=>by
  have tst:=KA (hl:=hl) (R:=R) (S:=S) (z:=z) (acc:=acc.map PV.str) h hn hr hu (t:=t)
  rw[PQ]
  unfold bp
  have eb:bJ [6,7] (iT ru z) [val hl,val (.lst l),val (.int t),val R,val (.lst (S.map PV.str)),Ent.own (acc.map PV.str),e6,e7]= .ret [val hl,val (.lst l),val (.int t),val R,val (.lst (S.map PV.str)),Ent.own (acc.map PV.str),val (.str z),val (.tup ((ru z).map Ru.pv))]:=rfl
  rw[eb,rZ]
  cases c:qN l t ru S z with
  |true=>
   rw[c] at tst
   obtain⟨e6',e7',ih⟩:=t7 h hn hr hu zs (acc++[z]) (val (.str z)) (val (.tup ((ru z).map Ru.pv))) (by simp at hz ⊢;lia)
   refine⟨e6',e7',?_⟩
   have dz:(acc.map PV.str).length < 100000:=by rw[PD];simp at hz;lia
   have st:L3 [val hl,val (.lst l),val (.int t),val R,val (.lst (S.map PV.str)),Ent.own (acc.map PV.str),val (.str z),val (.tup ((ru z).map Ru.pv))]= .ret (.nx [val hl,val (.lst l),val (.int t),val R,val (.lst (S.map PV.str)),Ent.own ((acc++[z]).map PV.str),val (.str z),val (.tup ((ru z).map Ru.pv))]):=by
    unfold L3
    rw[c9 tst]
    simp only[cP,P0,P1,aL,aS,rZ,Qv dz,Qo,PN,List.map_append,PQ,List.map_nil]
   rw[st,rZ,List.filter_cons_of_pos c]
   refine Eq.trans ih ?_
   rw[List.append_assoc]
   rfl
  |false=>
   rw[c] at tst
   obtain⟨e6',e7',ih⟩:=t7 h hn hr hu zs acc (val (.str z)) (val (.tup ((ru z).map Ru.pv))) (by simp at hz ⊢;lia)
   refine⟨e6',e7',?_⟩
   have st:L3 [val hl,val (.lst l),val (.int t),val R,val (.lst (S.map PV.str)),Ent.own (acc.map PV.str),val (.str z),val (.tup ((ru z).map Ru.pv))]= .ret (.nx [val hl,val (.lst l),val (.int t),val R,val (.lst (S.map PV.str)),Ent.own (acc.map PV.str),val (.str z),val (.tup ((ru z).map Ru.pv))]):=by
    unfold L3
    rw[cB tst]
   rw[st,rZ,List.filter_cons_of_neg (by rw[c];decide)]
   exact ih
end
def uz:Option (List Str)->PV
 |none=>.aD
 |some b=>.lst (b.map PV.str)
def Bn (f:List Str->Str->Bool) (names S:List Str):List Str:=names.filter (f S)
noncomputable def LV (f:List Str->Str->Bool) (names:List Str):Nat->Option (List Str)->List Str->Option (List Str)
 |0,_,_=>none
 |k+1,b,cur=>if b=some cur then some cur else LV f names k (some cur) (Bn f names cur)
section
variable {l:List PV} {ns:List Int} {t:Int} {ru:Str->List Ru} {hl:PV} {names:List Str}
def Kz:OE [val hl,val (.lst l),val (.int t),val R,val (uz b),Ent.own (cur.map PV.str),e6,e7]= .ret (!decide (b=some cur)):=by
 unfold OE aF
 cases b with
 |none=>
  simp only[ab,aL,aS,rZ,eZ,P0,P1,uz]
  rfl
 |some b=>
  simp only[ab,aL,aS,rZ,eZ,P0,P1,uz,GP,Option.some.injEq]
theorem vW (h:bf l ns) (hn:l.length<=1000) (hr:Reads l) (hu: ∀ z,(ru z).length<=1000) (hm:names.length < 900): ∀ (k:Nat) (b:Option (List Str)) (cur cur':List Str) (e6 e7:Ent),LV (qN l t ru) names k b cur=some cur'->
  ∃ b' e6' e7',A0 OE OG k [val hl,val (.lst l),val (.int t),val (.lst (names.map (iT ru))),val (uz b),Ent.own (cur.map PV.str),e6,e7]= .ret (.nx [val hl,val (.lst l),val (.int t),val (.lst (names.map (iT ru))),val b',Ent.own (cur'.map PV.str),e6',e7'])
 |0,b,cur,cur',e6,e7,h0=>by cases h0
 |k+1,b,cur,cur',e6,e7,h0=>by
  unfold LV at h0
  rw[Ik,Kz,rZ]
  by_cases c:b=some cur
  ·rw[Qv c] at h0
   cases h0
   rw[Qw (by simp[c])]
   exact⟨_,e6,e7,rfl⟩
  ·rw[Qw c] at h0
   rw[Qv (by simp[c])]
   obtain⟨x6,x7,lp⟩:=t7 (hl:=hl) (R:=.lst (names.map (iT ru))) (S:=cur) (t:=t) h hn hr hu names [] e6.freeze e7.freeze (by simp;lia)
   have st:OG [val hl,val (.lst l),val (.int t),val (.lst (names.map (iT ru))),val (uz b),Ent.own (cur.map PV.str),e6,e7]= .ret (.nx [val hl,val (.lst l),val (.int t),val (.lst (names.map (iT ru))),val (uz (some cur)),Ent.own ((Bn (qN l t ru) names cur).map PV.str),x6,x7]):=by
    unfold OG au
    have e1:Ej (az 4 (λρ=>aq ρ 5)) [val hl,val (.lst l),val (.int t),val (.lst (names.map (iT ru))),val (uz b),Ent.own (cur.map PV.str),e6,e7]= .ret (.nx [val hl,val (.lst l),val (.int t),val (.lst (names.map (iT ru))),val (.lst (cur.map PV.str)),val (.lst (cur.map PV.str)),e6.freeze,e7.freeze]):=rfl
    rw[e1,rZ]
    have e2:gz 5 (λρ=>((λ_=>M.ret []) ρ).bind aM) [val hl,val (.lst l),val (.int t),val (.lst (names.map (iT ru))),val (.lst (cur.map PV.str)),val (.lst (cur.map PV.str)),e6.freeze,e7.freeze]= .ret (.nx [val hl,val (.lst l),val (.int t),val (.lst (names.map (iT ru))),val (.lst (cur.map PV.str)),Ent.own ([].map PV.str),e6.freeze,e7.freeze]):=by
     simp only[gz,rZ,GW]
     rfl
    show (gz 5 (λρ=>((λ_=>M.ret []) ρ).bind aM) [val hl,val (.lst l),val (.int t),val (.lst (names.map (iT ru))),val (.lst (cur.map PV.str)),val (.lst (cur.map PV.str)),e6.freeze,e7.freeze]).bind _=_
    rw[e2,rZ]
    show aK _ _ _ _=_
    simp only[aK,aL,aS,rZ,aH]
    refine Eq.trans lp ?_
    rfl
   rw[st,rZ]
   exact vW h hn hr hu hm k (some cur) _ cur' x6 x7 h0
end
section
variable {f:List Str->Str->Bool} {names:List Str}
def En (h: ∀ z∈names,p z=true->q z=true):(names.filter p).Sublist (names.filter q):=by
 have:names.filter p=(names.filter q).filter p:=by
  rw[List.filter_filter]
  apply List.filter_congr
  intro z hz
  cases c:p z with
  |false=>simp
  |true=>simp[h z hz c]
 rw[this]
 exact List.filter_sublist
theorem uP (mono: ∀ S S':List Str,(∀ x∈S,x∈S')->∀ z∈names,f S z=true->f S' z=true): ∀ (k:Nat) (b:Option (List Str)) (cur:List Str),(∃ p:Str->Bool,cur=names.filter p/\∀ z∈names,p z=true->f cur z=true)->(∀ B,b=some B->cur=Bn f names B)->names.length+2<=cur.length+k->
  ∃ S,LV f names k b cur=some S/\S=Bn f names S/\∀ T:Str->Prop,(∀ z∈names,∀ S':List Str,(∀ x∈S',T x)->f S' z=true->T z)->(∀ x∈cur,T x)->∀ x∈S,T x
 |0,b,cur,⟨p,hp,_⟩,_,hk=>by
  have:cur.length<=names.length:=by rw[hp];exact List.length_filter_le ..
  lia
 |k+1,b,cur,⟨p,hp,hf⟩,hb,hk=>by
  unfold LV
  by_cases c:b=some cur
  ·rw[Qv c]
   exact⟨cur,rfl,hb cur c,λT _ hc=>hc⟩
  ·rw[Qw c]
   have sub:cur.Sublist (Bn f names cur):=by
    unfold Bn
    conv=>lhs;rw[hp]
    exact En hf
   have up: ∀ z∈names,f cur z=true->f (Bn f names cur) z=true:=mono _ _ λx hx=>sub.subset hx
   have step: ∀ T:Str->Prop,(∀ z∈names,∀ S':List Str,(∀ x∈S',T x)->f S' z=true->T z)->(∀ x∈cur,T x)->∀ x∈Bn f names cur,T x:=λT hT hc x hx=>by
    obtain⟨h1,h2⟩:=Qt.mp hx
    exact hT x h1 cur hc h2
   by_cases ce:cur.length=(Bn f names cur).length
   ·have e:cur=Bn f names cur:=sub.eq_of_length ce
    cases k with
    |zero=>
     have:cur.length<=names.length:=by rw[hp];exact List.length_filter_le ..
     lia
    |succ k=>
     refine⟨Bn f names cur,?_,?_,step⟩
     ·unfold LV
      rw[Qv (by rw[<-e])]
     ·rw[<-e];exact e
   ·have dz:cur.length < (Bn f names cur).length:=by have:=sub.length_le;lia
    obtain⟨S,h1,h2,h3⟩:=uP mono k (some cur) (Bn f names cur) ⟨f cur,rfl,up⟩ (λB hB=>by cases hB;rfl) (by lia)
    exact⟨S,h1,h2,λT hT hc=>h3 T hT (step T hT hc)⟩
end
def D3 (h: ∀ x∈S,x∈S') (ho:cF S o=true):cF S' o=true:=iu.mpr (h o (iu.mp ho))
def Ru.mono (h: ∀ o,i o=true->i' o=true) (r:Ru) (hr:r.hold rd lk t i=true):r.hold rd lk t i'=true:=by
 cases r with
 |zo o=>exact h o hr
 |_=>exact hr
def vK (h: ∀ x∈S,x∈S') (z:Str) (hz:qN l t ru S z=true):qN l t ru S' z=true:=by
 unfold qN at hz ⊢
 exact List.all_eq_true.mpr λr hr=>r.mono (λo ho=>D3 h ho) (List.all_eq_true.mp hz r hr)
def DR {ru:Str->List Ru} {hm dk:PV} {ws:List (Str×List PV)} (h:bf l ns) (hn:l.length<=1000) (hr:Reads l) (hu: ∀ z,(ru z).length<=1000) (hw:ws.length < 900)
  (hru: ∀ z,bP [.lst l,.str z,.int t]= .ret (.tup ((ru z).map Ru.pv))):
  ∃ S:List Str,d6 [.tup [.tup (ws.map aW),hm,dk],.lst l,.int t]= .ret (.lst (S.map PV.str))/\S=(ws.map (·.1)).filter (qN l t ru S)/\
   ∀ T:Str->Prop,(∀ z∈ws.map (·.1),∀ S':List Str,(∀ x∈S',T x)->qN l t ru S' z=true->T z)->∀ x∈S,T x:=by
 obtain⟨S,h1,h2,h3⟩:=uP (f:=qN l t ru) (names:=ws.map (·.1)) (λS S' hs z _ hz=>vK hs z hz) 1000 none [] ⟨λ_=>false,by simp,λz _ hz=>by cases hz⟩ (λB hB=>by cases hB) (by simp;lia)
 refine⟨S,?_,h2,λT hT=>h3 T hT λx hx=>absurd hx PU⟩
 obtain⟨hl,ehl⟩: ∃ hl,hl=PV.tup [.tup (ws.map aW),hm,dk]:=⟨_,rfl⟩
 have i0:aw hl (.int 0)= .ret (.tup (ws.map aW)):=by rw[ehl];simp only[aw,iZ,M.bK]
 rw[<-ehl]
 unfold d6 kP
 show (au _ _ [val hl,val (.lst l),val (.int t),un,un,un,un,un]).bind bC=_
 have hlen:(ws.map aW).length<=100000:=by rw[PD];lia
 refine ay (ρ':=[val hl,val (.lst l),val (.int t),val (.lst ((ws.map (λp:Str×List PV=>p.1)).map (iT ru))),un,un,un,un]) ?_ ?_
 ·have ec:de [none,some 1,some 2] [val hl,val (.lst l),val (.int t),un,un,un,un,un]=[un,val (.lst l),val (.int t)]:=rfl
  have q:=lH (m:=aW) (k:=0) (tt:=cx) (te:=λρ=>((aa (ab aw (λρ=>aq ρ 0) (λ_=>M.ret (.int 0))) (aa (λρ=>((aa (λρ=>aq ρ 1) (aa (ab aw (λρ=>aq ρ 0) (λ_=>M.ret (.int 0))) (aa (λρ=>aq ρ 2) (λ_=>M.ret [])))) ρ).bind bP) (λ_=>M.ret []))) ρ).bind aR) (p:=λ_=>true) (g:=λp=>iT ru p.1) (ρ:=[un,val (.lst l),val (.int t)]) ws [un,val (.lst l),val (.int t)] (λ_=>rfl) (λ_ _=>rfl) (λp _ _=>by
   simp only[aa,ab,PN,aL,aS,rZ,aw,iZ,M.bK,hru,vS,iT])
  have hf:ws.filter (λ_=>true)=ws:=by simp
  unfold az aE a8
  dsimp only
  rw[show (ab aw (λρ=>aq ρ 0) (λ_=>M.ret (.int 0))) [val hl,val (.lst l),val (.int t),un,un,un,un,un]= .ret (.tup (ws.map aW)) by simp only[ab,aL,rZ,i0]]
  simp only[rZ,aH,Qv hlen,ec]
  rw[q,hf,List.map_map]
  rfl
 refine ay (ρ':=[val hl,val (.lst l),val (.int t),val (.lst ((ws.map (λp:Str×List PV=>p.1)).map (iT ru))),val (uz none),un,un,un]) rfl ?_
 refine ay (ρ':=[val hl,val (.lst l),val (.int t),val (.lst ((ws.map (λp:Str×List PV=>p.1)).map (iT ru))),val (uz none),Ent.own (([]:List Str).map PV.str),un,un]) (by simp only[gz,rZ,GW];rfl) ?_
 obtain⟨b',e6',e7',w⟩:=vW (hl:=hl) (t:=t) h hn hr hu (by rw[PD];exact hw) 1000 none [] S un un h1
 refine ay (ρ':=[val hl,val (.lst l),val (.int t),val (.lst ((ws.map (λp:Str×List PV=>p.1)).map (iT ru))),val b',Ent.own (S.map PV.str),e6',e7']) w ?_
 exact br (aU rfl)
theorem tO: ∀ {ws:List (Str×List PV)} {p:Str×List PV} {os:List Str},(ws.map (·.1)).Nodup->p∈ws->ot p=some os->vA (dM ot ws) p.1=os
 |w::ws,p,os,nd,hp,ho=>by
  rw[PQ,List.nodup_cons] at nd
  rcases PR.mp hp with rfl|hp
  ·unfold vA dM
   simp[ho]
  ·have bY:w.1≠p.1:=λz=>nd.1 (z▸Qh hp)
   have ih:=tO (ot:=ot) nd.2 hp ho
   unfold vA dM at ih ⊢
   cases c:ot w with
   |none=>simp only[List.filterMap_cons,c,Option.map_none];exact ih
   |some os'=>
    simp only[List.filterMap_cons,c,Option.map_some,List.find?_cons,Qb bY]
    exact ih
def HJ:(∃ a∈dM ot ws,a.1=z)->∃ p∈ws,p.1=z/\∃ os,ot p=some os:=by
 rintro⟨a,ha,rfl⟩
 unfold dM at ha
 obtain⟨p,hp,e⟩:=List.mem_filterMap.mp ha
 obtain⟨os,ho,rfl⟩:=Qa.mp e
 exact⟨p,hp,rfl,os,ho⟩
def GX {ot:Str×List PV->Option (List Str)} {ws:List (Str×List PV)} {p:Str×List PV} {os:List Str} (hp:p∈ws) (ho:ot p=some os): ∃ a∈dM ot ws,a.1=p.1:=
 ⟨(p.1,os),List.mem_filterMap.mpr ⟨p,hp,by rw[ho];rfl⟩,rfl⟩
def Kk:(rs.all λr=>r.hold rd lk t i)=true↔∃ os,yY (λr=>r.hold rd lk t λ_=>false) rs=some os/\∀ o∈os,i o=true:=by
 have key: ∀ r:Ru,r.Ao=false->r.hold rd lk t i=r.hold rd lk t λ_=>false:=λr hr=>by
  cases r<;>first|rfl|cases hr
 unfold yY
 constructor
 ·intro h
  have h1:((rs.filter λr=>!r.Ao).all λr=>r.hold rd lk t λ_=>false)=true:=List.all_eq_true.mpr λr hr=>by
   obtain⟨h2,h3⟩:=Qt.mp hr
   rw[<-key r (by simpa using h3)]
   exact List.all_eq_true.mp h r h2
  refine⟨_,by rw[Qv h1],λo ho=>?_⟩
  obtain⟨r,hr,rfl⟩:=PX.mp ho
  obtain⟨h2,h3⟩:=Qt.mp hr
  have:=List.all_eq_true.mp h r h2
  cases r<;>first|exact this|cases h3
 ·rintro⟨os,h,ho⟩
  by_cases c:((rs.filter λr=>!r.Ao).all λr=>r.hold rd lk t λ_=>false)=true
  ·rw[Qv c] at h
   cases h
   refine List.all_eq_true.mpr λr hr=>?_
   cases cw:r.Ao with
   |true=>
    have:=ho r.iU (Qh (Qt.mpr ⟨hr,cw⟩))
    cases r<;>first|exact this|cases cw
   |false=>
    show r.hold rd lk t i=true
    rw[key r cw]
    exact List.all_eq_true.mp c r (Qt.mpr ⟨hr,by simp[cw]⟩)
  ·rw[Qw c] at h;cases h
section
variable {l:List PV} {ns:List Int} {t:Int} {ru:Str->List Ru} {hm dk:PV} {ws:List (Str×List PV)}
def Bq (h:bf l ns) (hr:Reads l) (hu: ∀ z,(ru z).length<=1000) (hw:ws.length<=90) (nd:(ws.map (·.1)).Nodup)
  (hk: ∀ p∈ws,∃ kd q,p.2= .str kd::q/\((kd==("slope":Str))=false->fw l t p.1=none))
  (hru: ∀ z,bV [.tup (aI l),.str z,.int t]= .ret (.tup ((ru z).map Ru.pv))){S:List Str} (hS:S=(ws.map (·.1)).filter (qN l t ru S)) (hT: ∀ T:Str->Prop,(∀ z∈ws.map (·.1),∀ S':List Str,(∀ x∈S',T x)->qN l t ru S' z=true->T z)->∀ x∈S,T x):
  bA [.tup [.tup (ws.map aW),hm,dk],.tup (aI l),.int t]= .ret (.tup (S.map PV.str)):=by
 obtain⟨ot,hot⟩: ∃ ot:Str×List PV->Option (List Str),ot=λp=>yY (λr=>r.hold (i3 l t) (fw l t p.1) t λ_=>false) (ru p.1):=⟨_,rfl⟩
 have asked: ∀ p∈ws,bh [.tup (aI l),aW p,.int t]= .ret (xb (ot p)):=λp hp=>by
  obtain⟨kd,q,e,hs⟩:=hk p hp
  rw[hot]
  show bh [.tup (aI l),.tup (.str p.1::p.2),.int t]=_
  rw[e]
  exact yX (hu p.1) (hru p.1) λu _ _=>xf h hr hs u
 have hlen: ∀ a∈dM ot ws,a.2.length<=1000:=λa ha=>by
  unfold dM at ha
  obtain⟨p,hp,e⟩:=List.mem_filterMap.mp ha
  obtain⟨os,ho,rfl⟩:=Qa.mp e
  rw[hot] at ho
  unfold yY at ho
  dsimp only at ho ⊢
  split at ho
  ·cases ho
   rw[PD]
   exact P7 (List.length_filter_le ..) (hu p.1)
  ·cases ho
 have hA:(dM ot ws).length<=90:=P7 (List.length_filterMap_le _ _) hw
 obtain⟨xs,_,hwh,hclo,hleast⟩:=BY hlen hA
 rw[GB asked nd hw hlen hwh]
 have okI: ∀ (p:Str×List PV) (S':List Str),qN l t ru S' p.1=true↔∃ os,ot p=some os/\∀ o∈os,o∈S':=λp S'=>by
  unfold qN
  rw[Kk,hot]
  simp only[iu]
 have s1: ∀ x∈xs,x∈S:=hleast (·∈S) λx hx ho=>by
  obtain⟨p,hp,rfl,os,e⟩:=HJ hx
  rw[tO nd hp e] at ho
  rw[hS]
  exact Qt.mpr ⟨Qh hp,(okI p S).mpr ⟨os,e,ho⟩⟩
 have s2: ∀ x∈S,x∈xs:=hT (·∈xs) λz hz S' hS' a9=>by
  obtain⟨p,hp,rfl⟩:=PX.mp hz
  obtain⟨os,e,ho⟩:=(okI p S').mp a9
  exact hclo p.1 (GX hp e) (by rw[tO nd hp e];exact λo h'=>hS' o (ho o h'))
 have e:(ws.map (·.1)).filter (iw (qO xs))=S:=by
  conv=>rhs;rw[hS]
  apply List.filter_congr
  intro z hz
  rw[wb]
  have:z∈S↔qN l t ru S z=true:=by
   conv=>lhs;rw[hS]
   rw[Qt]
   exact⟨λh=>h.2,λh=>⟨hz,h⟩⟩
  cases c:qN l t ru S z with
  |true=>simp[s2 z (this.mpr c)]
  |false=>
   have:z∉xs:=λh=>by have:=this.mp (s1 z h);rw[c] at this;cases this
   simp[this]
 rw[e]
end
def Fv (j:Nat):List Ru->List PV
 |[]=>[]
 |r::rs=>.tup [.int j,r.pv]::Fv (j+1) rs
theorem Ex: ∀ (rs:List Ru) (j:Nat),(rs.map Ru.pv).mapIdx (λi x=>PV.tup [.int ((i+j:Nat):Int),x])=Fv j rs
 |[],j=>rfl
 |r::rs,j=>by
  rw[PQ,List.mapIdx_cons]
  unfold Fv
  have e:(0+j:Nat)=j:=by lia
  rw[e,<-Ex rs (j+1)]
  congr 1
  congr 1
  funext i x
  have:(i+1+j:Nat)=i+(j+1):=by lia
  rw[this]
def pX (rs:List Ru):jG (rs.map Ru.pv)=Fv 0 rs:=by
 rw[<-Ex rs 0]
 rfl
def bad (g:Ru->Bool) (j:Nat):List Ru->PV
 |[]=>.aD
 |r::rs=>if g r=true then bad g (j+1) rs else .int j
noncomputable def Me:ae->M PV:=(pM (aF (ab (bT false) (ab aw (λρ=>aq ρ 7) (λ_=>M.ret (.int 0))) (λ_=>M.ret (.str "with")))) (ab (iW false) (ab aw (λρ=>aq ρ 7) (λ_=>M.ret (.int 1))) (λρ=>aq ρ 5)) (λρ=>((aa (λρ=>aq ρ 1) (aa (λρ=>aq ρ 4) (aa (λρ=>aq ρ 7) (aa (λρ=>aq ρ 3) (λ_=>M.ret []))))) ρ).bind aJ))
def Jo:ae->M Fl:=(au (az 8 Me) (cN (pd (aF (λρ=>aq ρ 8))) (aT (λρ=>aq ρ 6)) (λρ=>M.ret (.nx ρ))))
section
variable {B hl z wy tv:PV} {S:List Str} {g:Ru->Bool}
theorem zl {h0:Ent}: ∀ (rs:List Ru) (j:Nat) (e6 e7 e8:Ent),(∀ r∈rs,∀ (i:Int) (e8:Ent),Me [val hl,val B,val z,val tv,val wy,val (.tup (S.map PV.str)),val (.int i),val r.pv,e8]= .ret (.bl (g r)))->
  ∃ e6' e7' e8',bp (bJ [6,7]) Jo (Fv j rs) [val hl,val B,val z,val tv,val wy,val (.tup (S.map PV.str)),e6,e7,e8]=(match bad g j rs with| .aD=>.ret (.nx [val hl,val B,val z,val tv,val wy,val (.tup (S.map PV.str)),e6',e7',e8'])|y=>.ret (.rt y))
 |[],j,e6,e7,e8,_=>⟨e6,e7,e8,rfl⟩
 |r::rs,j,e6,e7,e8,h=>by
  obtain⟨e6',e7',e8',ih⟩:=zl (h0:=h0) rs (j+1) (val (.int j)) (val r.pv) (val (.bl true)) λr' hr'=>h r' (PH _ hr')
  refine⟨e6',e7',e8',?_⟩
  have eb:bJ [6,7] (.tup [.int j,r.pv]) [val hl,val B,val z,val tv,val wy,val (.tup (S.map PV.str)),e6,e7,e8]= .ret [val hl,val B,val z,val tv,val wy,val (.tup (S.map PV.str)),val (.int j),val r.pv,e8]:=rfl
  have t:=h r PB j e8
  unfold Fv bp
  rw[eb,rZ]
  unfold bad
  cases c:g r with
  |true=>
   rw[c] at t
   have st:Jo [val hl,val B,val z,val tv,val wy,val (.tup (S.map PV.str)),val (.int j),val r.pv,e8]= .ret (.nx [val hl,val B,val z,val tv,val wy,val (.tup (S.map PV.str)),val (.int j),val r.pv,val (.bl true)]):=by
    unfold Jo au az
    rw[t]
    rfl
   rw[st,rZ,Qv rfl]
   exact ih
  |false=>
   rw[c] at t
   have st:Jo [val hl,val B,val z,val tv,val wy,val (.tup (S.map PV.str)),val (.int j),val r.pv,e8]= .ret (.rt (.int j)):=by
    unfold Jo au az
    rw[t]
    rfl
   rw[st,rZ,Qw (by decide)]
end
theorem uA: ∀ (rs:List Ru) (j:Nat),(bad g j rs= .aD/\rs.all g=true)\/∃ i:Nat,bad g j rs= .int i/\rs.all g=false
 |[],j=>.inl ⟨rfl,rfl⟩
 |r::rs,j=>by
  unfold bad
  cases c:g r with
  |true=>
   rw[Qv rfl]
   rcases uA rs (j+1) with⟨h1,h2⟩|⟨i,h1,h2⟩
   ·exact .inl ⟨h1,by simp[c,h2]⟩
   ·exact .inr ⟨i,h1,by simp[c,h2]⟩
  |false=>
   rw[Qw (by decide)]
   exact .inr ⟨j,rfl,by simp[c]⟩
def BQ (x:Str) (zs:List Str) (b:Bool):iW b (.str x) (.tup (zs.map PV.str))= .ret (.bl (xor b (cF zs x))):=by
 have e:nN (.str x) (zs.map PV.str)=cF zs x:=by
  unfold nN cF
  rw[List.any_map]
  rfl
 unfold iW
 dsimp only
 rw[r8,e]
 simp[aV,toV,cH]
theorem pf: ∀ (ws:List (Str×List PV)) (p:Str×List PV) (e2:Ent),(ws.map (·.1)).Nodup->p∈ws->
  bp (aA 2) (cN (aF (ab (bT false) (ab aw (λρ=>aq ρ 2) (λ_=>M.ret (.int 0))) (λρ=>aq ρ 1))) (aT (λρ=>aq ρ 2)) (λρ=>M.ret (.nx ρ))) (ws.map aW) [val hl,val (.str p.1),e2]= .ret (.rt (aW p))
 |w::ws,p,e2,nd,hp=>by
  rw[PQ,List.nodup_cons] at nd
  rw[PQ]
  unfold bp
  simp only[aA,rZ,Qo,PN]
  rcases PR.mp hp with rfl|hp
  ·rw[c9 (by simp only[aF,ab,aL,aS,rZ,aw,iZ,M.bK,yA,beq_self_eq_true]),aU (y:=aW p) rfl]
   rfl
  ·have bY:(w.1==p.1)=false:=by
    simp only[beq_eq_false_iff_ne]
    exact λz=>nd.1 (z▸Qh hp)
   rw[cB (by simp only[aF,ab,aL,aS,rZ,aw,iZ,M.bK,yA,bY]),rZ]
   exact pf ws p _ nd.2 hp
def DM {hm dk:PV} {ws:List (Str×List PV)} {p:Str×List PV} (nd:(ws.map (·.1)).Nodup) (hp:p∈ws):fY [.tup [.tup (ws.map aW),hm,dk],.str p.1]= .ret (aW p):=by
 obtain⟨hl,ehl⟩: ∃ hl,hl=PV.tup [.tup (ws.map aW),hm,dk]:=⟨_,rfl⟩
 have i0:aw hl (.int 0)= .ret (.tup (ws.map aW)):=by rw[ehl];simp only[aw,iZ,M.bK]
 rw[<-ehl]
 unfold fY jr
 show (au _ _ [val hl,val (.str p.1),un]).bind bC=_
 refine dB ?_
 simp only[aK,ab,aL,rZ,i0,aH]
 exact pf ws p un nd hp
section
variable {l:List PV} {ns:List Int} {t:Int} {ru:Str->List Ru} {hm dk:PV} {ws:List (Str×List PV)}
def Jn (h:bf l ns) (hr:Reads l) (hs:(kd==("slope":Str))=false->fw l t z=none) (r:Ru):
  Me [val hl,val (.tup (aI l)),val (.str z),val (.int t),val (.tup (.str z::.str kd::q)),val (.tup (S.map PV.str)),val (.int i),val r.pv,e8]= .ret (.bl (r.hold (i3 l t) (fw l t z) t (cF S))):=by
 cases c:r.Ao with
 |true=>
  cases r with
  |zo o=>
   unfold Me
   rw[D6 rfl]
   show iW false (.str o) (.tup (S.map PV.str))=_
   rw[BQ]
   simp[Ru.hold]
  |_=>cases c
 |false=>
  have al:=xf (q:=q) h hr hs r
  have key:r.hold (i3 l t) (fw l t z) t (λ_=>false)=r.hold (i3 l t) (fw l t z) t (cF S):=by cases r<;>first|rfl|cases c
  rw[key] at al
  obtain⟨w,q',e,hw⟩:=r.head
  unfold Me
  rw[Au (by rw[e];simp only[aF,ab,aL,aS,rZ,aw,iZ,M.bK,yA,hw,c])]
  simp only[aa,aL,aS,rZ]
  exact al
def Jq {p:Str×List PV} {S:List Str} {q:List PV} (h:bf l ns) (hr:Reads l) (nd:(ws.map (·.1)).Nodup) (hp:p∈ws) (e2:p.2= .str kd::q) (hs:(kd==("slope":Str))=false->fw l t p.1=none)
  (ho:bA [.tup [.tup (ws.map aW),hm,dk],.tup (aI l),.int t]= .ret (.tup (S.map PV.str))) (hru:bV [.tup (aI l),.str p.1,.int t]= .ret (.tup ((ru p.1).map Ru.pv))):
  bg [.tup [.tup (ws.map aW),hm,dk],.tup (aI l),.str p.1,.int t]= .ret (bad (λr=>r.hold (i3 l t) (fw l t p.1) t (cF S)) 0 (ru p.1)):=by
 have nm:=DM (hm:=hm) (dk:=dk) nd hp
 obtain⟨hl,ehl⟩: ∃ hl,hl=PV.tup [.tup (ws.map aW),hm,dk]:=⟨_,rfl⟩
 rw[<-ehl] at nm ho ⊢
 unfold bg kI
 show (au _ _ [val hl,val (.tup (aI l)),val (.str p.1),val (.int t),un,un,un,un,un]).bind bC=_
 refine ay (ρ':=[val hl,val (.tup (aI l)),val (.str p.1),val (.int t),val (aW p),un,un,un,un]) ?_ ?_
 ·simp only[az,aa,aL,aS,rZ,nm]
  rfl
 refine ay (ρ':=[val hl,val (.tup (aI l)),val (.str p.1),val (.int t),val (aW p),val (.tup (S.map PV.str)),un,un,un]) ?_ ?_
 ·simp only[az,aa,aL,aS,rZ,ho]
  rfl
 have ew:aW p= .tup (.str p.1::.str kd::q):=by show PV.tup (.str p.1::p.2)=_;rw[e2]
 rw[ew]
 obtain⟨e6,e7,e8,lp⟩:=zl (h0:=un) (hl:=hl) (B:=.tup (aI l)) (z:=.str p.1) (wy:=.tup (.str p.1::.str kd::q)) (tv:=.int t) (S:=S) (g:=λr=>r.hold (i3 l t) (fw l t p.1) t (cF S)) (ru p.1) 0 un un un (λr _ i e8=>Jn h hr hs r)
 have lp': ∀ Y:M Fl,bp (bJ [6,7]) Jo (Fv 0 (ru p.1)) [val hl,val (.tup (aI l)),val (.str p.1),val (.int t),val (.tup (.str p.1::.str kd::q)),val (.tup (S.map PV.str)),un,un,un]=Y->aK (λρ=>((aa (λρ=>((aa (λρ=>aq ρ 1) (aa (λρ=>aq ρ 2) (aa (λρ=>aq ρ 3) (λ_=>M.ret [])))) ρ).bind bV) (λ_=>M.ret [])) ρ).bind qP) (bJ [6,7]) Jo [val hl,val (.tup (aI l)),val (.str p.1),val (.int t),val (.tup (.str p.1::.str kd::q)),val (.tup (S.map PV.str)),un,un,un]=Y:=λY hY=>by
  simp only[aK,aa,aL,aS,rZ,hru,qP,pX]
  exact hY
 rcases uA (g:=λr=>r.hold (i3 l t) (fw l t p.1) t (cF S)) (ru p.1) 0 with⟨hb,_⟩|⟨i,hb,_⟩
 ·rw[hb] at lp ⊢
  exact ay (lp' _ lp) (br (aU rfl))
 ·rw[hb] at lp ⊢
  exact dB (lp' _ lp)
end
theorem IU {mb:ae->M Fl} {Iv:Nat->ae->Prop}: ∀ (l:List PV) (i:Nat) (ρ:ae),Iv i ρ->(∀ j y,l[j]?=some y->∀ ρ,Iv (i+j) ρ->Gen (mb (ρ.set k (.val y))) c λf=> ∃ ρ',f= .nx ρ'/\Iv (i+j+1) ρ')->Gen (bp (aA k) mb l ρ) (l.length * c) λf=> ∃ ρ',f= .nx ρ'/\Iv (i+l.length) ρ'
 |[],i,ρ,h,_=>Gen.le (Gen.eq rfl ⟨ρ,rfl,h⟩) (Qe _)
 |y::l,i,ρ,h,hs=>by
  unfold bp
  simp only[aA,rZ]
  refine Gen.le (Gen.bind (hs 0 y rfl ρ h) (d:=l.length * c) ?_) (by rw[PY,Nat.add_mul];lia)
  rintro _ ⟨ρ',rfl,h'⟩
  have:=IU (k:=k) (mb:=mb) (c:=c) (Iv:=Iv) l (i+1) ρ' h' λj z hj ρ hi=>by
   have e:i+1+j=i+(j+1):=by lia
   rw[e] at hi ⊢
   exact hs (j+1) z hj ρ hi
  have e:i+1+l.length=i+(y::l).length:=by simp only[PY];lia
  rw[e] at this
  exact this
def dv (h:PV) (ws:List (Str×List PV)) (ax:Int):Prop:= ∃ hm,h= .tup [.tup (ws.map λp=>.tup (.str p.1::p.2)),hm,.int ax]/\0 < ws.length/\ws.length<=12/\(∀ p∈ws,Wd p.1/\∃ (k:Str) (r:List PV),p.2= .str k::r)/\1<=ax/\ax<=1000000/\(ws.map (·.1)).Nodup
def ue (hn:(l.length:Int)=n) (h0:0 < l.length) (h1:l.length < 1000):Gen ((ng [.bD,.int n]).bind λi=>aw (.lst l) i) 1 (λy=>y∈l):=KY hn h0 h1
def Eg {most sc:Int} (m0:1<=most) (m1:most<=12) (s0:1<=sc) (s1:sc<=33333):Gen (iN [.bD,.int most,.int sc]) 300 (λh=> ∃ ws ax,dv h ws ax):=by
 unfold iN kQ
 show Gen ((au _ _ [val .bD,val (.int most),val (.int sc),un,un,un,un,un,un]).bind bC) 300 _
 refine Gen.le (cG (c:=1+5 * 9) (d:=200) (I:=λρ=> ∃ sp:List Str,2<=sp.length/\sp.length<=5/\ρ=[val .bD,val (.int most),val (.int sc),val (.lst (sp.map PV.str)),un,un,un,un,un]) ?_ ?_) (by decide)
 ·simp only[az,ab,aa,aL,aS,rZ,af,M.bZ]
  refine Gen.le (Gen.bind (Gen.draw (by lia) (by lia)) (d:=5 * 9) ?_) (by decide)
  rintro _ ⟨d,rfl,d0,d1⟩
  have ea:bM (.int 2) (.int d)= .ret (.int (2+d)):=rfl
  simp only[ea,rZ]
  refine Gen.le (Gen.bind (mJ (k:=2+d) (by lia) (by lia)) (d:=0) ?_) (by lia)
  rintro _ ⟨sp,rfl,hl,_⟩
  exact Gen.eq (y:=.nx _) rfl ⟨_,rfl,sp,by lia,by lia,rfl⟩
 rintro _ ⟨sp,p0,p1,rfl⟩
 refine Gen.le (cG (c:=1+12 * 9) (d:=90) (I:=λρ=> ∃ nm:List Str,1<=nm.length/\nm.length<=12/\((∀ z∈nm,Wd z)/\nm.Nodup)/\ρ=[val .bD,val (.int most),val (.int sc),val (.lst (sp.map PV.str)),val (.lst (nm.map PV.str)),un,un,un,un]) ?_ ?_) (by decide)
 ·simp only[az,ab,aa,aL,aS,rZ,af,M.bZ]
  refine Gen.le (Gen.bind (Gen.draw (by lia) (by lia)) (d:=12 * 9) ?_) (by decide)
  rintro _ ⟨d,rfl,d0,d1⟩
  have ea:bM (.int 1) (.int d)= .ret (.int (1+d)):=rfl
  simp only[ea,rZ]
  refine Gen.le (Gen.bind (mJ (k:=1+d) (by lia) (by lia)) (d:=0) ?_) (by lia)
  rintro _ ⟨nm,rfl,hl,hw⟩
  exact Gen.eq (y:=.nx _) rfl ⟨_,rfl,nm,by lia,by lia,hw,rfl⟩
 rintro _ ⟨nm,n0,n1,nw,rfl⟩
 refine Gen.le (cG (c:=0) (d:=90) (I:=λρ=>ρ=[val .bD,val (.int most),val (.int sc),val (.lst (sp.map PV.str)),val (.lst (nm.map PV.str)),Ent.own [],un,un,un]) (wc (by simp[gz,aM]) rfl) ?_) (by decide)
 rintro _ rfl
 refine Gen.le (cG (c:=12 * 5) (d:=2) (I:=λρ=> ∃ (ws:List (Str×List PV)) (e6 e7 e8:Ent),ws.length=nm.length/\ws.map (·.1)=nm/\(∀ p∈ws,Wd p.1/\∃ (k:Str) (r:List PV),p.2= .str k::r)/\ρ=[val .bD,val (.int most),val (.int sc),val (.lst (sp.map PV.str)),val (.lst (nm.map PV.str)),Ent.own (ws.map λp=>.tup (.str p.1::p.2)),e6,e7,e8]) ?_ ?_) (by decide)
 ·simp only[aK,aL,aS,rZ,aH]
  refine Gen.mono (IU (k:=6) (c:=5) (Iv:=λi ρ=> ∃ (ws:List (Str×List PV)) (e6 e7 e8:Ent),ws.length=i/\ws.map (·.1)=nm.take i/\(∀ p∈ws,Wd p.1/\∃ (k:Str) (r:List PV),p.2= .str k::r)/\ρ=[val .bD,val (.int most),val (.int sc),val (.lst (sp.map PV.str)),val (.lst (nm.map PV.str)),Ent.own (ws.map λp=>.tup (.str p.1::p.2)),e6,e7,e8]) (nm.map PV.str) 0 _ ⟨[],_,_,_,rfl,rfl,λp hp=>absurd hp PU,rfl⟩ ?_) (by rw[PD];lia) ?_
  rotate_left
  ·rintro f ⟨ρ',rfl,ws,e6,e7,e8,hn,ht,hw,rfl⟩
   rw[PD,Nat.zero_add] at hn ht
   rw[List.take_length] at ht
   exact⟨_,rfl,ws,e6,e7,e8,hn,ht,hw,rfl⟩
  ·rintro j y hy _ ⟨ws,e6,e7,e8,hn,ht,hw,rfl⟩
   rw[Nat.zero_add] at hn ht
   rw[P6] at hy
   obtain⟨z,hzj,rfl⟩:=Qa.mp hy
   have hz:z∈nm:=List.mem_of_getElem? hzj
   have hj:j < nm.length:=(PL.mp hzj).1
   show Gen (au _ _ [val .bD,val (.int most),val (.int sc),val (.lst (sp.map PV.str)),val (.lst (nm.map PV.str)),Ent.own (ws.map λp=>.tup (.str p.1::p.2)),val (.str z),e7,e8]) 5 _
   refine Gen.le (gC (c:=1) (d:=4) (I:=λρ=> ∃ kd:Str,ρ=[val .bD,val (.int most),val (.int sc),val (.lst (sp.map PV.str)),val (.lst (nm.map PV.str)),Ent.own (ws.map λp=>.tup (.str p.1::p.2)),val (.str z),val (.str kd),e8]) ?_ ?_) (by decide)
   ·simp only[az,ab,aE,aa,aL,aS,rZ,Kt,af,M.bZ]
    refine Gen.le (Gen.bind (Gen.draw (by lia) (by lia)) (d:=0) ?_) (by decide)
    rintro _ ⟨d,rfl,d0,d1⟩
    obtain⟨v,hv,e⟩:=eO (l:=[PV.str "slope",PV.str "slope",PV.str "lift",PV.str "path"]) d0 d1
    obtain⟨kd,rfl⟩: ∃ kd:Str,v= .str kd:=by
     simp only[PR,PU,or_false] at hv
     rcases hv with rfl|rfl|rfl|rfl<;>exact⟨_,rfl⟩
    exact Gen.eq (y:=.nx _) (by simp only[aw,e,M.bK,rZ];rfl) ⟨_,rfl,kd,rfl⟩
   rintro _ ⟨kd,rfl⟩
   refine Gen.le (gC (c:=2) (d:=2) (I:=λρ=> ∃ a b:PV,ρ=[val .bD,val (.int most),val (.int sc),val (.lst (sp.map PV.str)),val (.lst (nm.map PV.str)),Ent.own (ws.map λp=>.tup (.str p.1::p.2)),val (.str z),val (.str kd),val (.lst [a,b])]) ?_ ?_) (by decide)
   ·have er:bX [.int 2]= .ret [.int 0,.int 1]:=rfl
    have ec:de [none,some 3,some 0] [val .bD,val (.int most),val (.int sc),val (.lst (sp.map PV.str)),val (.lst (nm.map PV.str)),Ent.own (ws.map λp=>.tup (.str p.1::p.2)),val (.str z),val (.str kd),e8]=[un,val (.lst (sp.map PV.str)),val .bD]:=rfl
    unfold az aE a8
    simp only[aa,aL,aS,rZ,er,ec,M.bZ]
    rw[Qv (by decide)]
    refine Gen.le (Gen.bind (Gen.lc (ρ:=[un,val (.lst (sp.map PV.str)),val .bD]) (c:=1) (Pr:=λ_=>True) _ _ (λ_=>rfl) (λy hy=>?_)) (d:=0) ?_) (by decide)
    ·simp only[PN,ab,aL,aS,rZ,cY,af,PD]
     refine Gen.mono (ue (l:=sp.map PV.str) (by rw[PD]) (by rw[PD];lia) (by rw[PD];lia)) (PM _) λ_ _=>trivial
    ·rintro us ⟨z1,_⟩
     match us,z1 with
     |[a,b],_=>exact Gen.eq (y:=.nx _) rfl ⟨_,rfl,a,b,rfl⟩
   rintro _ ⟨a,b,rfl⟩
   have i0:aw (.lst [a,b]) (.int 0)= .ret a:=rfl
   have i1:aw (.lst [a,b]) (.int 1)= .ret b:=rfl
   have hl:(ws.map λp=>PV.tup (.str p.1::p.2)).length < 100000:=by rw[PD];lia
   simp only[cP,P0,P1,aa,ab,aL,aS,rZ,i0,i1,af,M.bZ]
   refine Gen.le (Gen.bind (Gen.draw (by lia) (by lia)) (d:=1) ?_) (by decide)
   rintro _ ⟨u,rfl,u0,u1⟩
   rw[vP (by lia) (by lia)]
   simp only[rZ]
   refine Gen.le (Gen.bind (Gen.draw (by lia) (by lia)) (d:=0) ?_) (by decide)
   rintro _ ⟨v,rfl,v0,v1⟩
   rw[vP (by lia) (by lia)]
   refine Gen.eq (y:=.nx _) (by simp only[rZ,OA,Qv hl];rfl) ⟨_,rfl,ws++[(z,[.str kd,a,b,.int (sc * u),.int (sc * v)])],_,_,_,by simp[hn],by rw[List.map_append,ht,Nat.zero_add,List.take_succ,hzj];rfl,λp hp=>?_,by rw[List.map_append];rfl⟩
   rcases Qu.mp hp with hp|hp
   ·exact hw p hp
   ·rw[Qf.mp hp]
    exact⟨nw.1 z hz,kd,_,rfl⟩
 rintro _ ⟨ws,e6,e7,e8,hn,ht,hw,rfl⟩
 simp only[aT,PQ,List.map_nil,Ent.freeze,aa,ab,aL,aS,rZ,j8,cY,af,PD,M.bZ]
 refine Gen.le (Gen.bind (Gen.draw (by lia) (by lia)) (d:=1) ?_) (by decide)
 rintro _ ⟨d,rfl,d0,d1⟩
 obtain⟨hm,_,e⟩:=eO (l:=sp.map PV.str) d0 (by rw[PD];exact d1)
 simp only[aw,e,M.bK,rZ]
 refine Gen.le (Gen.bind (Gen.draw (by lia) (by lia)) (d:=0) ?_) (by decide)
 rintro _ ⟨g,rfl,g0,g1⟩
 have ea:bM (.int 1) (.int g)= .ret (.int (1+g)):=rfl
 have hp:0 < sc * (1+g):=Int.mul_pos (by lia) (by lia)
 have hq:sc * (1+g)<=33333 * 30:=Int.mul_le_mul s1 (by lia) (by lia) (by lia)
 rw[ea]
 simp only[rZ]
 rw[vP (by lia) (by lia)]
 exact Gen.eq (y:=.tup [.tup (ws.map λp=>.tup (.str p.1::p.2)),hm,.int (sc * (1+g))]) (by simp only[rZ,vR];rfl) ⟨ws,_,hm,rfl,by lia,by lia,hw,by lia,by lia,by rw[ht];exact nw.2⟩
def fS (H:dv h ws ax):aw h (.int 0)= .ret (.tup (ws.map λp=>.tup (.str p.1::p.2)))/\aw h (.int 2)= .ret (.int ax):=by
 obtain⟨hm,rfl,_⟩:=H
 exact⟨rfl,rfl⟩
def yw (H:dv h ws ax) (s0:1<=sc) (s1:sc<=33333):Gen (dQ [.bD,h,.int sc]) 2 (λy=> ∃ i:Int,y= .int i/\0<=i/\i<=1000000):=by
 obtain⟨_,h2⟩:=fS H
 obtain⟨_,_,_,_,_,k0,k1⟩:=H
 unfold dQ ij
 show Gen ((aT _ [val .bD,val h,val (.int sc)]).bind bC) 2 _
 have en:h9 (.int 1)= .ret (.int (-1)):=rfl
 simp only[aT,PQ,List.map_nil,Ent.freeze,ab,aE,aa,aL,aS,rZ,h2,en,Kt,af,M.bZ]
 refine Gen.le (Gen.bind (Gen.draw (by lia) (by lia)) (d:=1) ?_) (by decide)
 rintro _ ⟨d,rfl,d0,d1⟩
 rw[vP (by lia) (by lia)]
 simp only[rZ]
 refine Gen.le (Gen.bind (Gen.draw (by lia) (by lia)) (d:=0) ?_) (by decide)
 rintro _ ⟨g,rfl,g0,g1⟩
 obtain⟨y,hy,e⟩:=eO (l:=[PV.int 0,PV.int 0,PV.int 1,PV.int (-1)]) g0 g1
 obtain⟨i,rfl⟩: ∃ i:Int,y= .int i:=by
  simp only[PR,PU,or_false] at hy
  rcases hy with rfl|rfl|rfl|rfl<;>exact⟨_,rfl⟩
 have ea:bM (.int (sc * d)) (.int i)= .ret (.int (sc * d+i)):=rfl
 generalize sc * d+i=v at ea
 refine Gen.eq (y:=.int (if(if v > 0 then v else 0) < ax then(if v > 0 then v else 0) else ax)) (by simp only[aw,e,M.bK,rZ,ea,rK,ph];rfl) ⟨_,rfl,?_,?_⟩
 ·split<;>split<;>lia
 ·split<;>split<;>lia
def Cs (H:dv h ws ax):Gen ((ng [.bD,.int ws.length]).bind λi=>(aw (.tup (ws.map λp=>.tup (.str p.1::p.2))) i).bind λy=>aw y (.int 0)) 1 (λy=> ∃ x,y= .str x/\Wd x):=by
 obtain⟨_,_,w0,w1,hw,_⟩:=H
 refine Gen.le (Gen.bind (Gen.draw (by lia) (by lia)) (d:=0) ?_) (by decide)
 rintro _ ⟨d,rfl,d0,d1⟩
 obtain⟨y,hy,e⟩:=eO (l:=ws.map λp=>PV.tup (.str p.1::p.2)) d0 (by rw[PD];exact d1)
 obtain⟨p,hp,rfl⟩:=PX.mp hy
 exact Gen.eq (y:=.str p.1) (by simp only[aw,e,M.bK,rZ,iZ]) ⟨p.1,rfl,(hw p hp).1⟩
def Jc (y:PV):Prop:=nX 400 1 y
def rt (hw:Sh w) (hr:r.length<=3) (h: ∀ x∈r,nX 82 0 x):Jc (.tup (.str w::r)):=by
 refine(j0 (c:=82) (dp:=0) (n:=4) (λz hz=>?_) (by simp;lia)).mono (by lia) (PM _)
 rcases PR.mp hz with rfl|hz
 ·exact ss hw
 ·exact h z hz
def L9 (y:PV):Prop:=Jc y/\∃ r:Ru,y=r.pv
def Ef {sc:Int} {ps:List Str} (H:dv h ws ax) (s0:1<=sc) (s1:sc<=33333) (p0:0 < ps.length) (p1:ps.length<=20) (pw: ∀ z∈ps,Wd z):Gen (fK [.bD,h,.lst (ps.map PV.str),.int sc]) 7 L9:=by
 obtain⟨h0,_⟩:=fS H
 have wa:=Cs H
 unfold fK kO
 show Gen ((au _ _ [val .bD,val h,val (.lst (ps.map PV.str)),val (.int sc),un,un,un,un,un,un]).bind bC) 7 _
 refine Gen.le (cG (c:=1) (d:=6) (I:=λρ=> ∃ w:Int,0<=w/\w < 12/\ρ=[val .bD,val h,val (.lst (ps.map PV.str)),val (.int sc),val (.int w),un,un,un,un,un]) ?_ ?_) (by decide)
 ·simp only[az,aa,aL,aS,rZ,af]
  refine Gen.le (Gen.bind (Gen.draw (by lia) (by lia)) (d:=0) ?_) (by decide)
  rintro _ ⟨w,rfl,w0,w1⟩
  exact Gen.eq (y:=.nx _) rfl ⟨_,rfl,w,w0,w1,rfl⟩
 rintro _ ⟨w,w0,w1,rfl⟩
 refine Gen.le (cG (c:=1) (d:=5) (I:=λρ=> ∃ x:Str,Wd x/\ρ=[val .bD,val h,val (.lst (ps.map PV.str)),val (.int sc),val (.int w),val (.str x),un,un,un,un]) ?_ ?_) (by decide)
 ·simp only[az,ab,aa,aL,aS,rZ,cY,af,PD,M.bZ]
  rw[<-M.bZ]
  refine Gen.le (Gen.bind (ue (l:=ps.map PV.str) (by rw[PD]) (by rw[PD];lia) (by rw[PD];lia)) (d:=0) ?_) (by decide)
  intro y hy
  obtain⟨x,hx,rfl⟩:=PX.mp hy
  exact Gen.eq (y:=.nx _) rfl ⟨_,rfl,x,pw x hx,rfl⟩
 rintro _ ⟨x,hx,rfl⟩
 refine Gen.le (cG (c:=1) (d:=4) (I:=λρ=> ∃ n:Int,-3<=n/\n<=3/\ρ=[val .bD,val h,val (.lst (ps.map PV.str)),val (.int sc),val (.int w),val (.str x),val (.int n),un,un,un]) ?_ ?_) (by decide)
 ·simp only[az,ab,aa,aL,aS,rZ,af,M.bZ]
  refine Gen.le (Gen.bind (Gen.draw (by lia) (by lia)) (d:=0) ?_) (by decide)
  rintro _ ⟨n,rfl,n0,n1⟩
  exact Gen.eq (y:=.nx _) rfl ⟨_,rfl,n - 3,by lia,by lia,rfl⟩
 rintro _ ⟨n,n0,n1,rfl⟩
 refine Gen.le (cG (c:=3) (d:=1) (I:=λρ=> ∃ a b:Int,0<=a/\a<=1000000/\-1<=b/\b<=1000000/\ρ=[val .bD,val h,val (.lst (ps.map PV.str)),val (.int sc),val (.int w),val (.str x),val (.int n),val (.int a),val (.int b),un]) ?_ ?_) (by decide)
 ·simp only[Gy,ab,aa,aL,aS,rZ,af,M.bZ]
  refine Gen.le (Gen.bind (Gen.draw (by lia) (by lia)) (d:=2) ?_) (by decide)
  rintro _ ⟨a,rfl,a0,a1⟩
  rw[vP (by lia) (by lia)]
  simp only[rZ]
  refine Gen.le (Gen.bind (Gen.draw (by lia) (by lia)) (d:=1) ?_) (by decide)
  rintro _ ⟨b,rfl,b0,b1⟩
  have ea:bM (.int 1) (.int b)= .ret (.int (1+b)):=rfl
  rw[ea]
  simp only[rZ]
  rw[vP (by lia) (by lia)]
  simp only[rZ]
  refine Gen.le (Gen.bind (Gen.draw (by lia) (by lia)) (d:=0) ?_) (by decide)
  rintro _ ⟨c,rfl,c0,c1⟩
  have q0:0<=sc * a:=Int.mul_nonneg (by lia) a0
  have q1:sc * a<=33333 * 30:=Int.mul_le_mul s1 (by lia) a0 (by lia)
  have q2:0<=sc * (1+b):=Int.mul_nonneg (by lia) (by lia)
  have q3:sc * (1+b)<=33333 * 12:=Int.mul_le_mul s1 (by lia) (by lia) (by lia)
  exact Gen.eq (y:=.nx _) rfl ⟨_,rfl,sc * a,sc * (1+b)+c - 1,q0,by lia,by lia,by lia,rfl⟩
 rintro _ ⟨a,b,a0,a1,b0,b1,rfl⟩
 refine Gen.le (cG (c:=1) (d:=0) (I:=λρ=> ∃ z:Str,Wd z/\ρ=[val .bD,val h,val (.lst (ps.map PV.str)),val (.int sc),val (.int w),val (.str x),val (.int n),val (.int a),val (.int b),val (.str z)]) ?_ ?_) (by decide)
 ·simp only[az,ab,aa,aL,aS,rZ,h0,cY,af,PD,M.bZ]
  have wa':Gen (((ng [.bD,.int ws.length]).bind λi=>(aw (.tup (ws.map λp=>.tup (.str p.1::p.2))) i).bind λy=>aw y (.int 0)).bind λy=>M.ret (Fl.nx ([val .bD,val h,val (.lst (ps.map PV.str)),val (.int sc),val (.int w),val (.str x),val (.int n),val (.int a),val (.int b),un].set 9 (val y)))) 1 (λf=> ∃ ρ',f= .nx ρ'/\∃ z:Str,Wd z/\ρ'=[val .bD,val h,val (.lst (ps.map PV.str)),val (.int sc),val (.int w),val (.str x),val (.int n),val (.int a),val (.int b),val (.str z)]):=by
   refine Gen.le (Gen.bind wa (d:=0) ?_) (by decide)
   rintro _ ⟨z,rfl,hz⟩
   exact Gen.eq (y:=.nx _) rfl ⟨_,rfl,z,hz,rfl⟩
  simp only[M.bZ] at wa'
  exact wa'
 rintro _ ⟨z,hz,rfl⟩
 have lt: ∀ k:Int,aF (ab t6 (λρ=>aq ρ 4) (λ_=>M.ret (.int k))) [val .bD,val h,val (.lst (ps.map PV.str)),val (.int sc),val (.int w),val (.str x),val (.int n),val (.int a),val (.int b),val (.str z)]= .ret (decide (w < k)):=by intro k;simp[aF,ab,aq,t6,ym]
 have em:rK [.int 1,.int b]= .ret (.int (if b > 1 then b else 1)):=rfl
 have mb0:1<=(if b > 1 then b else 1)/\(if b > 1 then b else 1)<=1000000:=by split<;>lia
 generalize (if b > 1 then b else 1)=mb at em mb0
 by_cases c3:w < 3
 ·unfold au
  rw[c9 (by rw[lt,decide_eq_true c3])]
  have ea:bM (.int a) (.int mb)= .ret (.int (a+mb)):=rfl
  have e2:ph [.int 1000001,.int (a+mb)]= .ret (.int (if a+mb < 1000001 then a+mb else 1000001)):=rfl
  refine Gen.eq (y:=.tup [.str "hours",.int a,.int (if a+mb < 1000001 then a+mb else 1000001)]) (by simp only[aT,PQ,List.map_nil,Ent.freeze,aa,ab,aL,aS,rZ,em,ea,e2,vR];rfl) ⟨rt (by decide) (by simp) λv hv=>?_,.iP a _,rfl⟩
  simp only[PR,PU,or_false] at hv
  rcases hv with rfl|rfl
  ·exact si (by lia)
  ·exact si (by split<;>lia)
 refine Gen.le (cG (c:=0) (d:=0) (I:=λρ=>ρ=[val .bD,val h,val (.lst (ps.map PV.str)),val (.int sc),val (.int w),val (.str x),val (.int n),val (.int a),val (.int b),val (.str z)]) (wc (cB (by rw[lt,Qb c3])) rfl) ?_) (by decide)
 rintro _ rfl
 by_cases c8:w < 8
 ·unfold au
  rw[c9 (by rw[lt,decide_eq_true c8])]
  have e2:vQ (.int w) (.int 2)= .ret (.int (w % 2)):=by unfold vQ yk;simp
  obtain⟨v,hv,e⟩:=eO (l:=[PV.tup [.str "least",.str x,.int n],PV.tup [.str "most",.str x,.int n]]) (d:=w % 2) (by lia) (by simp;lia)
  have hv':L9 v:=by
   simp only[PR,PU,or_false] at hv
   rcases hv with rfl|rfl
   ·refine⟨rt (by decide) (by simp) λu hu=>?_,.post true x n,rfl⟩
    simp only[PR,PU,or_false] at hu
    rcases hu with rfl|rfl
    ·exact ss hx.sh
    ·exact si (by lia)
   ·refine⟨rt (by decide) (by simp) λu hu=>?_,.post false x n,rfl⟩
    simp only[PR,PU,or_false] at hu
    rcases hu with rfl|rfl
    ·exact ss hx.sh
    ·exact si (by lia)
  exact Gen.eq (y:=v) (by simp only[aT,PQ,List.map_nil,Ent.freeze,aE,aa,ab,aL,aS,rZ,vR,Ku,e2,aw,e,M.bK];rfl) hv'
 refine Gen.le (cG (c:=0) (d:=0) (I:=λρ=>ρ=[val .bD,val h,val (.lst (ps.map PV.str)),val (.int sc),val (.int w),val (.str x),val (.int n),val (.int a),val (.int b),val (.str z)]) (wc (cB (by rw[lt,Qb c8])) rfl) ?_) (by decide)
 rintro _ rfl
 by_cases c10:w < 10
 ·unfold au
  rw[c9 (by rw[lt,decide_eq_true c10])]
  refine Gen.eq (y:=.tup [.str "looked",.int mb]) (by simp only[aT,PQ,List.map_nil,Ent.freeze,aa,aL,aS,rZ,em,vS];rfl) ⟨rt (by decide) (by simp) λv hv=>?_,.looked mb,rfl⟩
  simp only[PR,PU,or_false] at hv
  subst hv
  exact si (by lia)
 refine Gen.le (cG (c:=0) (d:=0) (I:=λρ=>ρ=[val .bD,val h,val (.lst (ps.map PV.str)),val (.int sc),val (.int w),val (.str x),val (.int n),val (.int a),val (.int b),val (.str z)]) (wc (cB (by rw[lt,Qb c10])) rfl) ?_) (by decide)
 rintro _ rfl
 have eb: ∃ q:Bool,gG (ab (bT false) (λρ=>aq ρ 4) (λ_=>M.ret (.int 11))) (ab Cm (λρ=>aq ρ 6) (λ_=>M.ret (.int 0))) [val .bD,val h,val (.lst (ps.map PV.str)),val (.int sc),val (.int w),val (.str x),val (.int n),val (.int a),val (.int b),val (.str z)]= .ret (.bl q):=by
  have g1:ab Cm (λρ=>aq ρ 6) (λ_=>M.ret (.int 0)) [val .bD,val h,val (.lst (ps.map PV.str)),val (.int sc),val (.int w),val (.str x),val (.int n),val (.int a),val (.int b),val (.str z)]= .ret (.bl (decide (0 < n))):=by simp[ab,aq,Cm,ym]
  have g2:ab (bT false) (λρ=>aq ρ 4) (λ_=>M.ret (.int 11)) [val .bD,val h,val (.lst (ps.map PV.str)),val (.int sc),val (.int w),val (.str x),val (.int n),val (.int a),val (.int b),val (.str z)]= .ret (.bl (w==11)):=by simp[ab,aq,Pe]
  cases c:(w==11) with
  |true=>
   refine⟨decide (0 < n),?_⟩
   unfold gG aF
   rw[g2,c]
   simp only[rZ,if_true]
   exact g1
  |false=>
   refine⟨false,?_⟩
   unfold gG aF
   rw[g2,c]
   simp only[rZ,Qp,if_false]
 obtain⟨q,eb⟩:=eb
 have ei:yt [.bl q]= .ret (.int (if q then 1 else 0)):=rfl
 obtain⟨v,hv,e⟩:=eO (l:=[PV.tup [.str "with",.str z],PV.tup [.str "never"]]) (d:=if q then 1 else 0) (by split<;>lia) (by simp;split<;>lia)
 have hv':L9 v:=by
  simp only[PR,PU,or_false] at hv
  rcases hv with rfl|rfl
  ·refine⟨rt (by decide) (by simp) λu hu=>?_,.zo z,rfl⟩
   simp only[PR,PU,or_false] at hu
   subst hu
   exact ss hz.sh
  ·exact⟨rt (by decide) (by simp) λu hu=>absurd hu PU,.never,rfl⟩
 refine Gen.eq (y:=v) (br (aU ?_)) hv'
 simp only[PQ,List.map_nil,Ent.freeze]
 show ab aw (aE (λρ=>((aa (λρ=>((aa (λ_=>M.ret (.str "with")) (aa (λρ=>aq ρ 9) (λ_=>M.ret []))) ρ).bind aR) (aa (λρ=>((aa (λ_=>M.ret (.str "never")) (λ_=>M.ret [])) ρ).bind aR) (λ_=>M.ret []))) ρ).bind aM)) (λρ=>(aa (gG (ab (bT false) (λρ=>aq ρ 4) (λ_=>M.ret (.int 11))) (ab Cm (λρ=>aq ρ 6) (λ_=>M.ret (.int 0)))) (λ_=>M.ret []) ρ).bind yt) _=_
 unfold ab
 rw[show aE (λρ=>((aa (λρ=>((aa (λ_=>M.ret (PV.str "with")) (aa (λρ=>aq ρ 9) (λ_=>M.ret []))) ρ).bind aR) (aa (λρ=>((aa (λ_=>M.ret (PV.str "never")) (λ_=>M.ret [])) ρ).bind aR) (λ_=>M.ret []))) ρ).bind aM) [val .bD,val h,val (.lst (ps.map PV.str)),val (.int sc),val (.int w),val (.str x),val (.int n),val (.int a),val (.int b),val (.str z)]= .ret (.lst [.tup [.str "with",.str z],.tup [.str "never"]]) by simp only[aE,aa,aL,aS,rZ,vS,OC,Ku]]
 rw[rZ]
 unfold aa
 unfold ab at eb
 dsimp only at eb ⊢
 rw[eb]
 simp only[rZ,ei,aw,e,M.bK]
def GN {ns:List Int} {n:Int} {k:Nat} (hk:k<=1000) (hl:ns.length < k) (h: ∀ t:Nat,t < k->(n+t) % 1000000∈ns):False:=by
 have:=sub_len ((List.range k).map λt:Nat=>(n+t) % 1000000) ns (by
  unfold List.Nodup
  rw[List.pairwise_map]
  refine List.Pairwise.imp_of_mem ?_ List.nodup_range
  intro a b ha hb ne e
  rw[List.mem_range] at ha hb
  lia) (λx hx=>by
  obtain⟨t,ht,rfl⟩:=PX.mp hx
  exact h t (List.mem_range.mp ht))
 rw[PD,List.length_range] at this
 lia
def Kn:ae->M PV:=ab vQ (ab bM (λρ=>aq ρ 1) (λρ=>aq ρ 0)) (λ_=>M.ret (.int 1000000))
def Km:ae->M Bool:=aF (ab (iW true) (λρ=>aq ρ 0) (λρ=>aq ρ 1))
def DA (x:Int) (ns:List Int):iW true (.int x) (.lst (ns.map PV.int))= .ret (.bl (!decide (x∈ns))):=by
 have h:=Hc x ns
 unfold iW at h ⊢
 dsimp only at h ⊢
 split at h
 ·rename_i c
  rw[Qv c]
  simp at h ⊢
  exact h
 ·cases h
def yv {ns:List Int} (hn:ns.length < 70):Gen (dP [.bD,.lst (ns.map PV.int)]) 2 (λy=> ∃ n:Int,y= .int n/\n∉ns/\0<=n/\n < 1000000):=by
 unfold dP ig
 show Gen ((au _ _ [val .bD,val (.lst (ns.map PV.int)),un,un]).bind bC) 2 _
 refine Gen.le (cG (c:=2) (d:=0) (I:=λρ=> ∃ n:Int,ρ=[val .bD,val (.lst (ns.map PV.int)),val (.int n),un]) ?_ ?_) (by decide)
 ·simp only[az,ab,aE,aa,aL,aS,rZ,Ku,af,M.bZ]
  refine Gen.le (Gen.bind (Gen.draw (by lia) (by lia)) (d:=1) ?_) (by decide)
  rintro _ ⟨d,rfl,d0,d1⟩
  obtain⟨y,hy,e⟩:=eO (l:=[PV.int 20,PV.int 1000000]) d0 d1
  obtain⟨m,rfl,m0,m1⟩: ∃ m:Int,y= .int m/\0 < m/\m<=1000000:=by
   simp only[PR,PU,or_false] at hy
   rcases hy with rfl|rfl<;>exact⟨_,rfl,by decide,by decide⟩
  simp only[aw,e,M.bK,rZ]
  refine Gen.le (Gen.bind (Gen.draw m0 (by lia)) (d:=0) ?_) (by decide)
  rintro _ ⟨n,rfl,n0,n1⟩
  exact Gen.eq (y:=.nx _) rfl ⟨_,rfl,n,rfl⟩
 rintro _ ⟨n,rfl⟩
 have q1:=j4 (k:=0) (te:=Kn) (f:=λy=>match y with| .int t=>.int ((n+t) % 1000000)|_=>.aD) (ρ:=[un,val (.int n)]) (bx 0 70) [un,val (.int n)] (λ_=>rfl) (λy hy=>by
   obtain⟨t,ht,rfl⟩:=PX.mp hy
   have ea:bM (.int n) (.int (0+(t:Nat)))= .ret (.int (n+(0+(t:Nat)))):=rfl
   have em:vQ (.int (n+(0+(t:Nat)))) (.int 1000000)= .ret (.int ((n+(0+(t:Nat))) % 1000000)):=by unfold vQ yk;simp
   unfold Kn
   simp only[PN,ab,aL,aS,rZ,ea,em])
 have em:((bx 0 70).map λy=>match y with|PV.int t=>PV.int ((n+t) % 1000000)|_=>.aD)=((List.range 70).map λt:Nat=>(n+t) % 1000000).map PV.int:=by
  unfold bx
  rw[List.map_map,List.map_map]
  apply List.map_congr_left
  intro t _
  show PV.int ((n+(0+(t:Nat))) % 1000000)=PV.int ((n+(t:Nat)) % 1000000)
  rw[Int.zero_add]
 rw[em] at q1
 generalize hC:((List.range 70).map λt:Nat=>(n+t) % 1000000)=C at q1
 have q2:=bS (k:=0) (tt:=Km) (te:=λρ=>aq ρ 0) (p:=λy=>match y with| .int x=>!decide (x∈ns)|_=>false) (f:=id) (ρ:=[un,val (.lst (ns.map PV.int))]) (C.map PV.int) [un,val (.lst (ns.map PV.int))] (λ_=>rfl) (λy hy=>by
   obtain⟨x,hx,rfl⟩:=PX.mp hy
   unfold Km
   simp only[aF,ab,PN,aL,aS,rZ,DA]) (λy hy _=>by simp only[aL,PN];rfl)
 have hCl:C.length=70:=by rw[<-hC];simp
 obtain⟨x,hx,hnx⟩: ∃ x∈C,x∉ns:=by
  apply Classical.byContradiction
  intro hno
  refine GN (k:=70) (n:=n) (by decide) hn λt ht=>Classical.byContradiction λhc=>hno ⟨(n+t) % 1000000,?_,hc⟩
  rw[<-hC]
  exact PX.mpr ⟨t,List.mem_range.mpr ht,rfl⟩
 generalize hF:(C.map PV.int).filter (λy=>match y with| .int x=>!decide (x∈ns)|_=>false)=F at q2
 have hFx:PV.int x∈F:=by
  rw[<-hF]
  refine Qt.mpr ⟨Qh hx,?_⟩
  show (!decide (x∈ns))=true
  rw[Qb hnx]
  rfl
 match F,hF,hFx,q2 with
 |y::F,hF,_,q2=>
 have hy:=Qt.mp (show y∈(C.map PV.int).filter (λy=>match y with| .int x=>!decide (x∈ns)|_=>false) by rw[hF];exact PB)
 obtain⟨v,hv,rfl⟩:=PX.mp hy.1
 have hvn:v∉ns:=by
  have:(!decide (v∈ns))=true:=hy.2
  simpa using this
 have hvb:0<=v/\v < 1000000:=by
  rw[<-hC] at hv
  obtain⟨t,_,rfl⟩:=PX.mp hv
  exact⟨Int.emod_nonneg _ (by decide),Int.emod_lt_of_pos _ (by decide)⟩
 refine Gen.le (cG (c:=0) (d:=0) (I:=λρ=>ρ=[val .bD,val (.lst (ns.map PV.int)),val (.int n),val (.lst (C.map PV.int))]) ?_ ?_) (by decide)
 ·refine wc (I:=λρ=>ρ=_) ?_ rfl
  show az 3 (aE (a8 [none,some 2] (λρ=>((aa (λ_=>M.ret (.int 70)) (λ_=>M.ret [])) ρ).bind bX) (aA 0) cx Kn)) [val .bD,val (.lst (ns.map PV.int)),val (.int n),un]=_
  have er:bX [.int 70]= .ret (bx 0 70):=by simp only[bX];rfl
  have ec:de [none,some 2] [val .bD,val (.lst (ns.map PV.int)),val (.int n),un]=[un,val (.int n)]:=rfl
  simp only[az,aE,a8,aa,rZ,er,ec]
  rw[Qv (by simp[bx]),q1]
  rfl
 rintro _ rfl
 refine Gen.eq (y:=.int v) (br (aU ?_)) ⟨v,rfl,hvn,hvb.1,hvb.2⟩
 show ab aw (aE (a8 [none,some 1] (λρ=>((λρ=>aq ρ 3) ρ).bind aH) (aA 0) Km (λρ=>aq ρ 0))) (λ_=>M.ret (.int 0)) [val .bD,val (.lst (ns.map PV.int)),val (.int n),val (.lst (C.map PV.int))]=_
 have ec:de [none,some 1] [val .bD,val (.lst (ns.map PV.int)),val (.int n),val (.lst (C.map PV.int))]=[un,val (.lst (ns.map PV.int))]:=rfl
 simp only[ab,aE,a8,aL,aS,rZ,aH,ec]
 rw[Qv (by rw[PD,hCl];decide),q2]
 simp only[rZ,List.map_id,aw,iZ,M.bK]
def nu (ws:List (Str×List PV)) (y:PV):Prop:=(∃ (n m:Int) (z:Str) (rs:List Ru),y= .tup [.str "rule",.int n,.int m,.str z,.tup (rs.map Ru.pv)]/\rs.length<=6)\/(∃ (n m:Int) (z:Str) (i:Int),y= .tup [.str "read",.int n,.int m,.str z,.int i])\/(∃ (n m:Int) (z:Str) (q:List PV),y= .tup [.str "look",.int n,.int m,.str z]/\(z,.str "slope"::q)∈ws)
def qp (ws:List (Str×List PV)) (l:List PV) (ns:List Int):Prop:=bf l ns/\∀ y∈l,nu ws y
def Ed (h: ∀ y∈l,nu ws y) (g:nu ws y): ∀ z∈l++[y],nu ws z:=λz hz=>by
 rcases Qu.mp hz with hz|hz
 ·exact h z hz
 ·rw[Qf.mp hz];exact g
def Po (h: ∀ z∈rs,L9 z): ∃ us:List Ru,rs=us.map Ru.pv:=by
 induction rs with
 |nil=>exact⟨[],rfl⟩
 |cons r rs ih=>
  obtain⟨us,rfl⟩:=ih λz hz=>h z (PH _ hz)
  obtain⟨_,u,rfl⟩:=h r PB
  exact⟨u::us,rfl⟩
def E8 (l:List α) (x:α):k8 (l++[x]) (-1)=some x:=by
 unfold k8 uN
 rw[Qw (by decide)]
 have h1:(l++[x]).length=l.length+1:=by simp
 by_cases c: -((l++[x]).length:Int)<=-1
 ·rw[Qv c]
  show (l++[x])[((-1:Int)+((l++[x]).length:Int)).toNat]?=some x
  rw[h1]
  have:((-1:Int)+((l.length+1:Nat):Int)).toNat=l.length:=by lia
  rw[this]
  simp
 ·rw[h1] at c
  lia
def Bc (H:dv h ws ax): ∃ sl:List Str,(∀ z∈sl,∃ q,(z,PV.str "slope"::q)∈ws)/\sl.length<=12/\pC (aA 0) (aF (ab (bT false) (ab aw (λρ=>aq ρ 0) (λ_=>M.ret (.int 1))) (λ_=>M.ret (.str "slope")))) (ab aw (λρ=>aq ρ 0) (λ_=>M.ret (.int 0))) (ws.map λp=>.tup (.str p.1::p.2)) [un]= .ret (sl.map PV.str):=by
 obtain⟨_,_,_,w1,hw,_⟩:=H
 have q:=bS (k:=0) (tt:=aF (ab (bT false) (ab aw (λρ=>aq ρ 0) (λ_=>M.ret (.int 1))) (λ_=>M.ret (.str "slope")))) (te:=ab aw (λρ=>aq ρ 0) (λ_=>M.ret (.int 0))) (p:=λy=>match y with| .tup (_::.str k::_)=>k=="slope"|_=>false) (f:=λy=>match y with| .tup (a::_)=>a|_=>.aD) (ρ:=[un]) (ws.map λp=>PV.tup (.str p.1::p.2)) [un] (λ_=>rfl) (λy hy=>by
  obtain⟨p,hp,rfl⟩:=PX.mp hy
  obtain⟨_,k,r,e⟩:=hw p hp
  rw[e]
  simp only[aF,ab,PN,aL,rZ,aw,nW,M.bK,yA]) (λy hy _=>by
  obtain⟨p,hp,rfl⟩:=PX.mp hy
  simp only[ab,aL,PN,rZ,aw,iZ,M.bK])
 refine⟨(ws.filter λp=>match p.2 with| .str k::_=>k=="slope"|_=>false).map (·.1),λz hz=>?_,?_,?_⟩
 ·obtain⟨p,hp,rfl⟩:=PX.mp hz
  obtain⟨hp1,hp2⟩:=Qt.mp hp
  obtain⟨_,k,r,e⟩:=hw p hp1
  rw[e] at hp2
  dsimp only at hp2
  rw[eq_of_beq hp2] at e
  exact⟨r,by rw[<-e];exact hp1⟩
 ·rw[PD]
  exact P7 (List.length_filter_le _ _) w1
 ·rw[q,List.filter_map,List.map_map,List.map_map]
  congr 1
  have:((λy=>match y with|PV.tup (_::.str k::_)=>k==("slope":Str)|_=>false)∘λp:Str×List PV=>PV.tup (.str p.1::p.2))=(λp:Str×List PV=>match p.2 with| .str k::_=>k==("slope":Str)|_=>false):=by
   funext p
   obtain⟨a,b⟩:=p
   cases b with
   |nil=>rfl
   |cons c d=>cases c<;>rfl
  rw[this]
  rfl
abbrev qu (h:PV) (sc k:Int) (ps sl:List Str) (l:List PV) (ns:List Int) (r:List Ent):ae:=val .bD::val h::val (.int sc)::val (.int k)::val (.lst (ps.map PV.str))::val (.lst (sl.map PV.str))::Ent.own l::Ent.own (ns.map PV.int)::r
noncomputable def NS:ae->M Fl:=(au (az 9 (λρ=>((aa (λρ=>aq ρ 0) (aa (λ_=>M.ret (.int 8)) (λ_=>M.ret []))) ρ).bind af))
  (au (az 10 (ab ka (λρ=>((aa (λρ=>aq ρ 0) (aa (λρ=>aq ρ 1) (aa (λρ=>aq ρ 2) (λ_=>M.ret [])))) ρ).bind dQ) (λρ=>((aa (ab Cm (λρ=>((aa (λρ=>aq ρ 0) (aa (λ_=>M.ret (.int 3)) (λ_=>M.ret []))) ρ).bind af) (λ_=>M.ret (.int 0))) (λ_=>M.ret [])) ρ).bind yt)))
  (au (cP 7 (λρ=>((aa (λρ=>aq ρ 0) (aa (λρ=>eZ ρ 7) (λ_=>M.ret []))) ρ).bind λl=>(dP l).bind m9))
  (cN (aF (ab t6 (λρ=>aq ρ 9) (λ_=>M.ret (.int 3))))
  (au (az 11 (ab aw (ab aw (ab aw (λρ=>aq ρ 1) (λ_=>M.ret (.int 0))) (λρ=>((aa (λρ=>aq ρ 0) (aa (λρ=>((aa (ab aw (λρ=>aq ρ 1) (λ_=>M.ret (.int 0))) (λ_=>M.ret [])) ρ).bind cY) (λ_=>M.ret []))) ρ).bind af)) (λ_=>M.ret (.int 0))))
  (au (az 12 (ab aw (aE (λρ=>((aa (λ_=>M.ret (.int 0)) (aa (λ_=>M.ret (.int 1)) (aa (λ_=>M.ret (.int 1)) (aa (λ_=>M.ret (.int 1)) (aa (λ_=>M.ret (.int 2)) (aa (λ_=>M.ret (.int 2)) (aa (λ_=>M.ret (.int 3)) (aa (λ_=>M.ret (.int 6)) (λ_=>M.ret []))))))))) ρ).bind aM)) (λρ=>((aa (λρ=>aq ρ 0) (aa (λ_=>M.ret (.int 8)) (λ_=>M.ret []))) ρ).bind af)))
  (au (az 13 (aE (a8 [none,some 0,some 1,some 4,some 2] (λρ=>((aa (λρ=>aq ρ 12) (λ_=>M.ret [])) ρ).bind bX) (aA 0) cx (λρ=>((aa (λρ=>aq ρ 1) (aa (λρ=>aq ρ 2) (aa (λρ=>aq ρ 3) (aa (λρ=>aq ρ 4) (λ_=>M.ret []))))) ρ).bind fK))))
  (cP 6 (λρ=>((aa (λ_=>M.ret (.str "rule")) (aa (ab aw (λρ=>eZ ρ 7) (λρ=>((λ_=>M.ret (.int 1)) ρ).bind h9)) (aa (λρ=>aq ρ 10) (aa (λρ=>aq ρ 11) (aa (λρ=>((aa (λρ=>aq ρ 13) (λ_=>M.ret [])) ρ).bind j8) (λ_=>M.ret [])))))) ρ).bind aR)))))
  (cN (Kd (aF (ab t6 (λρ=>aq ρ 9) (λ_=>M.ret (.int 6)))) (aF (ab (bT false) (λρ=>aq ρ 5) (aE (λρ=>((λ_=>M.ret []) ρ).bind aM)))))
  (au (az 14 (ab ka (ab A7 (λρ=>((aa (λρ=>aq ρ 0) (aa (λ_=>M.ret (.int 7)) (λ_=>M.ret []))) ρ).bind af) (λ_=>M.ret (.int 3))) (ab aw (aE (λρ=>((aa (λ_=>M.ret (.int 1)) (aa (λ_=>M.ret (.int 1)) (aa (λ_=>M.ret (.int 1)) (aa (ab Dg (λ_=>M.ret (.int 10)) (λ_=>M.ret (.int 50))) (λ_=>M.ret []))))) ρ).bind aM)) (λρ=>((aa (λρ=>aq ρ 0) (aa (λ_=>M.ret (.int 4)) (λ_=>M.ret []))) ρ).bind af))))
  (cP 6 (λρ=>((aa (λ_=>M.ret (.str "read")) (aa (ab aw (λρ=>eZ ρ 7) (λρ=>((λ_=>M.ret (.int 1)) ρ).bind h9)) (aa (λρ=>aq ρ 10) (aa (ab aw (λρ=>aq ρ 4) (λρ=>((aa (λρ=>aq ρ 0) (aa (λρ=>((aa (λρ=>aq ρ 4) (λ_=>M.ret [])) ρ).bind cY) (λ_=>M.ret []))) ρ).bind af)) (aa (λρ=>aq ρ 14) (λ_=>M.ret [])))))) ρ).bind aR)))
  (cP 6 (λρ=>((aa (λ_=>M.ret (.str "look")) (aa (ab aw (λρ=>eZ ρ 7) (λρ=>((λ_=>M.ret (.int 1)) ρ).bind h9)) (aa (λρ=>aq ρ 10) (aa (ab aw (λρ=>aq ρ 5) (λρ=>((aa (λρ=>aq ρ 0) (aa (λρ=>((aa (λρ=>aq ρ 5) (λ_=>M.ret [])) ρ).bind cY) (λ_=>M.ret []))) ρ).bind af)) (λ_=>M.ret []))))) ρ).bind aR)))))))
def Hd (H:dv h ws ax) (s0:1<=sc) (s1:sc<=33333) (p0:0 < ps.length) (p1:ps.length<=20) (pw: ∀ z∈ps,Wd z) (sw: ∀ z∈sl,∃ q,(z,PV.str "slope"::q)∈ws) (sz:sl.length<=12) (hg:qp ws l ns) (hl:l.length < 65):
  Gen (NS (qu h sc k ps sl l ns [e8,e9,e10,e11,e12,e13,e14])) 60 (λf=> ∃ (l':List PV) (ns':List Int) (e9 e10 e11 e12 e13 e14:Ent),f= .nx (qu h sc k ps sl l' ns' [e8,e9,e10,e11,e12,e13,e14])/\l'.length=l.length+1/\qp ws l' ns'):=by
 obtain⟨h0,_⟩:=fS H
 have hp:=hg.1
 have hgs:=hg.2
 have hnl:ns.length=l.length:=hp.1
 unfold NS
 refine Gen.le (gC (c:=1) (d:=59) (I:=λρ=> ∃ w:Int,0<=w/\w < 8/\ρ=qu h sc k ps sl l ns [e8,val (.int w),e10,e11,e12,e13,e14]) ?_ ?_) (by decide)
 ·simp only[az,aa,aL,aS,rZ,af]
  refine Gen.le (Gen.bind (Gen.draw (by lia) (by lia)) (d:=0) ?_) (by decide)
  rintro _ ⟨w,rfl,w0,w1⟩
  exact Gen.eq (y:=.nx _) rfl ⟨_,rfl,w,w0,w1,rfl⟩
 rintro _ ⟨w,w0,w1,rfl⟩
 refine Gen.le (gC (c:=3) (d:=56) (I:=λρ=> ∃ m:Int,0<=m/\m<=1000000/\ρ=qu h sc k ps sl l ns [e8,val (.int w),val (.int m),e11,e12,e13,e14]) ?_ ?_) (by decide)
 ·simp only[az,ab,aa,aL,aS,rZ,af,M.bZ]
  refine Gen.le (Gen.bind (yw H s0 s1) (d:=1) ?_) (by decide)
  rintro _ ⟨m,rfl,m0,m1⟩
  refine Gen.le (Gen.bind (Gen.draw (by lia) (by lia)) (d:=0) ?_) (by decide)
  rintro _ ⟨d,rfl,d0,d1⟩
  have eg:Cm (.int d) (.int 0)= .ret (.bl (decide (0 < d))):=rfl
  have ei:yt [.bl (decide (0 < d))]= .ret (.int (if decide (0 < d) then 1 else 0)):=rfl
  simp only[eg,rZ,ei]
  rw[vP (by lia) (by lia)]
  refine Gen.eq (y:=.nx _) rfl ⟨_,rfl,m * (if decide (0 < d) then 1 else 0),?_,?_,rfl⟩
  ·by_cases c:decide (0 < d)=true
   ·rw[Qv c];lia
   ·rw[Qw c];lia
  ·by_cases c:decide (0 < d)=true
   ·rw[Qv c];lia
   ·rw[Qw c];lia
 rintro _ ⟨m,m0,m1,rfl⟩
 refine Gen.le (gC (c:=2) (d:=54) (I:=λρ=> ∃ n:Int,n∉ns/\0<=n/\n < 1000000/\ρ=qu h sc k ps sl l (ns++[n]) [e8,val (.int w),val (.int m),e11,e12,e13,e14]) ?_ ?_) (by decide)
 ·simp only[cP,P0,P1,aa,aL,aS,we,IS,rZ,M.bZ]
  refine Gen.le (Gen.bind (yv (ns:=ns) (by lia)) (d:=0) ?_) (by decide)
  rintro _ ⟨n,rfl,nn,n0,n1⟩
  have hf:m9 (.int n)= .ret (.int n):=rfl
  have hz:(ns.map PV.int).length < 100000:=by rw[PD];lia
  exact Gen.eq (y:=.nx _) (by simp only[hf,rZ,Qv hz];rfl) ⟨_,rfl,n,nn,n0,n1,by simp[qu]⟩
 rintro _ ⟨n,nn,n0,n1,rfl⟩
 have ee:aw (.lst ((ns++[n]).map PV.int)) (.int (-1))= .ret (.int n):=by
  rw[List.map_append]
  simp only[aw,PQ,List.map_nil,E8,M.bK]
 have en:h9 (.int 1)= .ret (.int (-1)):=rfl
 have lt: ∀ q:Int,aF (ab t6 (λρ=>aq ρ 9) (λ_=>M.ret (.int q))) (qu h sc k ps sl l (ns++[n]) [e8,val (.int w),val (.int m),e11,e12,e13,e14])= .ret (decide (w < q)):=by intro q;simp[aF,ab,aq,t6,ym]
 have hlz:l.length < 100000:=by lia
 by_cases c3:w < 3
 ·rw[c9 (by rw[lt,decide_eq_true c3])]
  refine Gen.le (gC (c:=1) (d:=53) (I:=λρ=> ∃ x:Str,Wd x/\ρ=qu h sc k ps sl l (ns++[n]) [e8,val (.int w),val (.int m),val (.str x),e12,e13,e14]) ?_ ?_) (by decide)
  ·have wa:=Cs H
   simp only[az,ab,aa,aL,aS,rZ,h0,cY,af,PD,M.bZ]
   have wa':Gen (((ng [.bD,.int ws.length]).bind λi=>(aw (.tup (ws.map λp=>.tup (.str p.1::p.2))) i).bind λy=>aw y (.int 0)).bind λy=>M.ret (Fl.nx ((qu h sc k ps sl l (ns++[n]) [e8,val (.int w),val (.int m),e11,e12,e13,e14]).set 11 (val y)))) 1 (λf=> ∃ ρ',f= .nx ρ'/\∃ z:Str,Wd z/\ρ'=qu h sc k ps sl l (ns++[n]) [e8,val (.int w),val (.int m),val (.str z),e12,e13,e14]):=by
    refine Gen.le (Gen.bind wa (d:=0) ?_) (by decide)
    rintro _ ⟨z,rfl,hz⟩
    exact Gen.eq (y:=.nx _) rfl ⟨_,rfl,z,hz,rfl⟩
   simp only[M.bZ] at wa'
   exact wa'
  rintro _ ⟨x,hx,rfl⟩
  have e8': ∀ a b c d e f g i:PV,aM [a,b,c,d,e,f,g,i]= .ret [a,b,c,d,e,f,g,i]:=by intros;simp[aM]
  refine Gen.le (gC (c:=1) (d:=52) (I:=λρ=> ∃ q:Int,0<=q/\q<=6/\ρ=qu h sc k ps sl l (ns++[n]) [e8,val (.int w),val (.int m),val (.str x),val (.int q),e13,e14]) ?_ ?_) (by decide)
  ·simp only[az,ab,aE,aa,aL,aS,rZ,e8',af,M.bZ]
   refine Gen.le (Gen.bind (Gen.draw (by lia) (by lia)) (d:=0) ?_) (by decide)
   rintro _ ⟨d,rfl,d0,d1⟩
   obtain⟨y,hy,e⟩:=eO (l:=[PV.int 0,PV.int 1,PV.int 1,PV.int 1,PV.int 2,PV.int 2,PV.int 3,PV.int 6]) d0 d1
   obtain⟨q,rfl,q0,q1⟩: ∃ q:Int,y= .int q/\0<=q/\q<=6:=by
    simp only[PR,PU,or_false] at hy
    rcases hy with rfl|rfl|rfl|rfl|rfl|rfl|rfl|rfl<;>exact⟨_,rfl,by decide,by decide⟩
   exact Gen.eq (y:=.nx _) (by simp only[aw,e,M.bK,rZ];rfl) ⟨_,rfl,q,q0,q1,rfl⟩
  rintro _ ⟨q,q0,q1,rfl⟩
  refine Gen.le (gC (c:=42) (d:=0) (I:=λρ=> ∃ rs:List PV,rs.length<=6/\(∀ z∈rs,L9 z)/\ρ=qu h sc k ps sl l (ns++[n]) [e8,val (.int w),val (.int m),val (.str x),val (.int q),val (.lst rs),e14]) ?_ ?_) (by decide)
  ·have hlen:(bx 0 q.toNat).length=q.toNat:=by simp[bx]
   have er:bX [.int q]= .ret (bx 0 q.toNat):=by simp only[bX,Qv (by lia: -1000000<=q/\q<=100000)]
   have ec:de [none,some 0,some 1,some 4,some 2] (qu h sc k ps sl l (ns++[n]) [e8,val (.int w),val (.int m),val (.str x),val (.int q),e13,e14])=[un,val .bD,val h,val (.lst (ps.map PV.str)),val (.int sc)]:=rfl
   unfold az aE a8
   simp only[aa,aL,aS,rZ,er,ec,Qv (by lia:(bx 0 q.toNat).length<=100000),M.bZ]
   refine Gen.le (Gen.bind (Gen.lc (ρ:=[un,val .bD,val h,val (.lst (ps.map PV.str)),val (.int sc)]) (c:=7) (Pr:=L9) _ _ (λ_=>rfl) (λy hy=>?_)) (d:=0) ?_) (by rw[hlen];lia)
   ·simp only[PN,aL,aS,rZ]
    exact Ef H s0 s1 p0 p1 pw
   ·rintro rs ⟨z1,z2⟩
    exact Gen.eq (y:=.nx _) rfl ⟨_,rfl,rs,by rw[z1,hlen];lia,z2,rfl⟩
  rintro _ ⟨rs,r0,r1,rfl⟩
  obtain⟨us,hus⟩:=Po r1
  have hrs:nX 2500 2 (.tup rs):=(j0 (c:=400) (dp:=1) (n:=6) (λz hz=>(r1 z hz).1) r0).mono (by lia) (by lia)
  refine Gen.eq (y:=.nx (qu h sc k ps sl (l++[.tup [.str "rule",.int n,.int m,.str x,.tup rs]]) (ns++[n]) [e8,val (.int w),val (.int m),val (.str x),val (.int q),val (.lst rs),e14])) ?_ ⟨_,_,_,_,_,_,_,_,rfl,by simp,⟨hp.snoc nn n0 n1 ⟨"rule",x,m,[.tup rs],rfl,.inr ⟨.inr rfl,_,rfl,hrs,rfl⟩,m0,m1⟩,Ed hgs (.inl ⟨n,m,x,us,by rw[<-hus],by rw[hus,PD] at r0;exact r0⟩)⟩⟩
  simp only[cP,P0,P1,aa,ab,aL,aS,we,IS,rZ,en,ee,j8,MX,Qv hlz]
  rfl
 rw[cB (by rw[lt,Qb c3])]
 have e6:aF (ab (bT false) (λρ=>aq ρ 5) (aE (λρ=>((λ_=>M.ret []) ρ).bind aM))) (qu h sc k ps sl l (ns++[n]) [e8,val (.int w),val (.int m),e11,e12,e13,e14])= .ret sl.isEmpty:=by
  simp only[aF,ab,aE,aL,aS,rZ,GW]
  cases sl<;>rfl
 have eor:Kd (aF (ab t6 (λρ=>aq ρ 9) (λ_=>M.ret (.int 6)))) (aF (ab (bT false) (λρ=>aq ρ 5) (aE (λρ=>((λ_=>M.ret []) ρ).bind aM)))) (qu h sc k ps sl l (ns++[n]) [e8,val (.int w),val (.int m),e11,e12,e13,e14])= .ret (decide (w < 6)||sl.isEmpty):=by
  unfold Kd
  rw[lt,e6]
  cases decide (w < 6)<;>rfl
 cases c6:(decide (w < 6)||sl.isEmpty) with
 |true=>
  rw[c9 (by rw[eor,c6])]
  refine Gen.le (gC (c:=2) (d:=1) (I:=λρ=> ∃ v:Int,v.natAbs < 10 ^ 61/\ρ=qu h sc k ps sl l (ns++[n]) [e8,val (.int w),val (.int m),e11,e12,e13,val (.int v)]) ?_ ?_) (by decide)
  ·have ep:Dg (.int 10) (.int 50)= .ret (.int (10 ^ 50)):=by
    unfold Dg yk
    dsimp only
    rw[Qv (by decide +kernel)]
    rfl
   simp only[az,ab,aE,aa,aL,aS,rZ,ep,Kt,af,M.bZ]
   refine Gen.le (Gen.bind (Gen.draw (by lia) (by lia)) (d:=1) ?_) (by decide)
   rintro _ ⟨d,rfl,d0,d1⟩
   have es:A7 (.int d) (.int 3)= .ret (.int (d - 3)):=rfl
   simp only[es,rZ]
   refine Gen.le (Gen.bind (Gen.draw (by lia) (by lia)) (d:=0) ?_) (by decide)
   rintro _ ⟨g,rfl,g0,g1⟩
   obtain⟨y,hy,e⟩:=eO (l:=[PV.int 1,PV.int 1,PV.int 1,PV.int (10 ^ 50)]) g0 g1
   obtain⟨u,rfl,hu⟩: ∃ u:Int,y= .int u/\(u=1\/u=10 ^ 50):=by
    simp only[PR,PU,or_false] at hy
    rcases hy with rfl|rfl|rfl|rfl
    ·exact⟨_,rfl,.inl rfl⟩
    ·exact⟨_,rfl,.inl rfl⟩
    ·exact⟨_,rfl,.inl rfl⟩
    ·exact⟨_,rfl,.inr rfl⟩
   simp only[aw,e,M.bK,rZ]
   rw[vP (by lia) (by lia)]
   refine Gen.eq (y:=.nx _) rfl ⟨_,rfl,(d - 3) * u,?_,rfl⟩
   rcases hu with rfl|rfl
   ·lia
   ·lia
  rintro _ ⟨v,hv,rfl⟩
  simp only[cP,P0,P1,aa,ab,aL,aS,we,IS,rZ,en,ee,cY,af,PD,M.bZ]
  rw[<-M.bZ]
  refine Gen.le (Gen.bind (ue (l:=ps.map PV.str) (by rw[PD]) (by rw[PD];lia) (by rw[PD];lia)) (d:=0) ?_) (by decide)
  intro y hy
  obtain⟨x,hx,rfl⟩:=PX.mp hy
  refine Gen.eq (y:=.nx (qu h sc k ps sl (l++[.tup [.str "read",.int n,.int m,.str x,.int v]]) (ns++[n]) [e8,val (.int w),val (.int m),e11,e12,e13,val (.int v)])) ?_ ⟨_,_,_,_,_,_,_,_,rfl,by simp,⟨hp.snoc nn n0 n1 ⟨"read",x,m,[.int v],rfl,.inr ⟨.inl rfl,_,rfl,big (si hv),rfl⟩,m0,m1⟩,Ed hgs (.inr (.inl ⟨n,m,x,v,rfl⟩))⟩⟩
  simp only[rZ,MX,Qv hlz]
  rfl
 |false=>
  rw[cB (by rw[eor,c6])]
  have hse:0 < sl.length:=by
   rw[Bool.or_eq_false_iff] at c6
   cases sl with
   |nil=>exact absurd c6.2 (by decide)
   |cons a b=>simp
  simp only[cP,P0,P1,aa,ab,aL,aS,we,IS,rZ,en,ee,cY,af,PD,M.bZ]
  rw[<-M.bZ]
  refine Gen.le (Gen.bind (ue (l:=sl.map PV.str) (by rw[PD]) (by rw[PD];lia) (by rw[PD];lia)) (d:=0) ?_) (by decide)
  intro y hy
  obtain⟨x,hx,rfl⟩:=PX.mp hy
  refine Gen.eq (y:=.nx (qu h sc k ps sl (l++[.tup [.str "look",.int n,.int m,.str x]]) (ns++[n]) [e8,val (.int w),val (.int m),e11,e12,e13,e14])) ?_ ⟨_,_,_,_,_,_,_,_,rfl,by simp,⟨hp.snoc nn n0 n1 ⟨"look",x,m,[],rfl,.inl ⟨rfl,rfl⟩,m0,m1⟩,Ed hgs (.inr (.inr ((sw x hx).elim λq hq=>⟨n,m,x,q,rfl,hq⟩)))⟩⟩
  simp only[rZ,OB,Qv hlz]
  rfl
def BV (H:dv h ws ax) (s0:1<=sc) (s1:sc<=33333) (k0:0<=k) (k1:k<=60):Gen (f6 [.bD,h,.int sc,.int k]) (29+k.toNat * 60) (λy=> ∃ l ns,y= .lst l/\l.length=k.toNat/\qp ws l ns):=by
 obtain⟨h0,_⟩:=fS H
 obtain⟨p,ws',rfl⟩: ∃ p ws',ws=p::ws':=by
  obtain⟨_,_,w0,_⟩:=H
  match ws,w0 with
  |p::ws',_=>exact⟨p,ws',rfl⟩
 have hw0:Wd p.1:=by
  obtain⟨_,_,_,_,hw,_⟩:=H
  exact(hw p PB).1
 unfold f6 jy
 show Gen ((au _ _ [val .bD,val h,val (.int sc),val (.int k),un,un,un,un,un,un,un,un,un,un,un]).bind bC) _ _
 refine Gen.le (cG (c:=29) (d:=k.toNat * 60) (I:=λρ=> ∃ ps:List Str,0 < ps.length/\ps.length<=20/\(∀ z∈ps,Wd z)/\ρ=[val .bD,val h,val (.int sc),val (.int k),val (.lst (ps.map PV.str)),un,un,un,un,un,un,un,un,un,un]) ?_ ?_) (by lia)
 ·have i0:aw (.tup ((p::ws').map λp=>PV.tup (.str p.1::p.2))) (.int 0)= .ret (.tup (.str p.1::p.2)):=by simp only[aw,PQ,iZ,M.bK]
  have i1:aw (.tup (.str p.1::p.2)) (.int 0)= .ret (.str p.1):=by simp only[aw,iZ,M.bK]
  simp only[az,aE,qR,ab,aa,aL,aS,rZ,h0,i0,i1,MY,af,M.bZ]
  refine Gen.le (Gen.bind (Gen.draw (by lia) (by lia)) (d:=28) ?_) (by decide)
  rintro _ ⟨d,rfl,d0,d1⟩
  have ea:bM (.int 1) (.int d)= .ret (.int (1+d)):=rfl
  simp only[ea,rZ]
  refine Gen.le (Gen.bind (mJ (k:=1+d) (by lia) (by lia)) (d:=1) ?_) (by lia)
  rintro _ ⟨zs,rfl,hl,hz,_⟩
  refine Gen.le (Gen.bind (Gen.draw (by lia) (by lia)) (d:=0) ?_) (by decide)
  rintro _ ⟨g,rfl,g0,g1⟩
  obtain⟨ps',hps',em⟩: ∃ ps':List Str,(ps'=[]\/ps'=[p.1])/\ka (.lst [.str p.1]) (.int g)= .ret (.lst (ps'.map PV.str)):=by
   obtain rfl|rfl:g=0\/g=1:=by lia
   ·exact⟨[],.inl rfl,rfl⟩
   ·exact⟨[p.1],.inr rfl,rfl⟩
  have hlen:(zs.map PV.str).length+(ps'.map PV.str).length<=100000:=by
   rcases hps' with rfl|rfl<;>simp<;>lia
  refine Gen.eq (y:=.nx _) (by simp only[em,rZ,Qv hlen];rfl) ⟨_,rfl,zs++ps',?_,?_,λz hz'=>?_,by rw[List.map_append];rfl⟩
  ·rw[Qc];lia
  ·rcases hps' with rfl|rfl<;>simp<;>lia
  ·rcases Qu.mp hz' with hz'|hz'
   ·exact hz z hz'
   ·rcases hps' with rfl|rfl
    ·exact absurd hz' PU
    ·rw[Qf.mp hz'];exact hw0
 rintro _ ⟨ps,p0,p1,pw,rfl⟩
 obtain⟨sl,sw,sz,esl⟩:=Bc H
 refine Gen.le (cG (c:=0) (d:=k.toNat * 60) (I:=λρ=>ρ=[val .bD,val h,val (.int sc),val (.int k),val (.lst (ps.map PV.str)),val (.lst (sl.map PV.str)),un,un,un,un,un,un,un,un,un]) ?_ ?_) (by lia)
 ·refine wc (I:=λρ=>ρ=_) ?_ rfl
  have hwl:((p::ws').map λp=>PV.tup (.str p.1::p.2)).length<=100000:=by
   obtain⟨_,_,_,w1,_⟩:=H
   rw[PD];lia
  have ec:de [none] [val .bD,val h,val (.int sc),val (.int k),val (.lst (ps.map PV.str)),un,un,un,un,un,un,un,un,un,un]=[un]:=rfl
  unfold az aE a8
  dsimp only
  rw[show ((ab aw (λρ=>aq ρ 1) (λ_=>M.ret (.int 0))) [val .bD,val h,val (.int sc),val (.int k),val (.lst (ps.map PV.str)),un,un,un,un,un,un,un,un,un,un])= .ret (.tup ((p::ws').map λp=>.tup (.str p.1::p.2))) by simp only[ab,aL,aS,rZ,h0]]
  simp only[rZ,aH,Qv hwl,ec]
  rw[esl]
  rfl
 rintro _ rfl
 refine Gen.le (cG (c:=0) (d:=k.toNat * 60) (I:=λρ=>ρ=[val .bD,val h,val (.int sc),val (.int k),val (.lst (ps.map PV.str)),val (.lst (sl.map PV.str)),Ent.own [],un,un,un,un,un,un,un,un]) (wc (by simp[gz,aM]) rfl) ?_) (by lia)
 rintro _ rfl
 refine Gen.le (cG (c:=0) (d:=k.toNat * 60) (I:=λρ=>ρ=qu h sc k ps sl [] [] [un,un,un,un,un,un,un]) (wc (by simp[gz,aM]) rfl) ?_) (by lia)
 rintro _ rfl
 have hint:(bx 0 k.toNat).length=k.toNat:=by simp[bx]
 have er:bX [.int k]= .ret (bx 0 k.toNat):=by simp only[bX,Qv (by lia: -1000000<=k/\k<=100000)]
 refine Gen.le (cG (c:=k.toNat * 60) (d:=0) (I:=λρ=> ∃ (l:List PV) (ns:List Int) (r:List Ent),l.length=k.toNat/\qp (p::ws') l ns/\ρ=qu h sc k ps sl l ns r) ?_ ?_) (by lia)
 ·show Gen (aK (λρ=>((aa (λρ=>aq ρ 3) (λ_=>M.ret [])) ρ).bind bX) (aA 8) NS _) _ _
  unfold aK
  simp only[aa,aL,aS,rZ,er]
  refine Gen.mono (K0 (k:=8) (c:=60) (Iv:=λi ρ=> ∃ (l:List PV) (ns:List Int) (e8 e9 e10 e11 e12 e13 e14:Ent),l.length=i/\qp (p::ws') l ns/\ρ=qu h sc k ps sl l ns [e8,e9,e10,e11,e12,e13,e14]) (bx 0 k.toNat) 0 _ ⟨[],[],_,_,_,_,_,_,_,rfl,⟨⟨rfl,List.nodup_nil,λz hz=>absurd hz PU,λi n z e=>by simp at e⟩,λz hz=>absurd hz PU⟩,rfl⟩ ?_) (by rw[hint];exact PM _) ?_
  rotate_left
  ·rintro f ⟨ρ',rfl,l,ns,e8,e9,e10,e11,e12,e13,e14,hl,hp,rfl⟩
   rw[hint,Nat.zero_add] at hl
   exact⟨_,rfl,l,ns,_,hl,hp,rfl⟩
  ·rintro y hy j hj _ ⟨l,ns,e8,e9,e10,e11,e12,e13,e14,hl,hp,rfl⟩
   rw[hint] at hj
   show Gen (NS (qu h sc k ps sl l ns [val y,e9,e10,e11,e12,e13,e14])) 60 _
   refine Gen.mono (Hd H s0 s1 p0 p1 pw sw sz hp (by lia)) (PM _) ?_
   rintro f ⟨l',ns',e9,e10,e11,e12,e13,e14,rfl,hl',hp'⟩
   exact⟨_,rfl,l',ns',_,_,_,_,_,_,_,by lia,hp',rfl⟩
 ·rintro _ ⟨l,ns,r,hl,hp,rfl⟩
  exact Gen.eq (br (aU rfl)) ⟨l,ns,rfl,hl,hp⟩
def Ck (e:PV.tup (.str a::r)= .tup (.str b::r')) (h:a≠b):False:=by
 injection e with e
 injection e with e
 injection e with e
 exact h e
theorem mI: ∀ {ws:List (Str×List PV)} {p q:Str×List PV},(ws.map (·.1)).Nodup->p∈ws->q∈ws->p.1=q.1->p=q
 |[],_,_,_,hp,_,_=>absurd hp PU
 |w::ws,p,q,nd,hp,hq,e=>by
  rw[PQ,List.nodup_cons] at nd
  rcases PR.mp hp with rfl|hp
  ·rcases PR.mp hq with rfl|hq
   ·rfl
   ·exact absurd (e▸Qh hq) nd.1
  ·rcases PR.mp hq with e2|hq
   ·rw[<-e2,<-e] at nd
    exact absurd (Qh hp) nd.1
   ·exact mI nd.2 hp hq e
def Oy (x:Str):bT true (.str x) (.str x)= .ret (.bl false):=by
 show M.ret (PV.bl (xor true (x==x)))=_
 simp
def HH (h:bf l ns) (hl:l.length < 64):iO [.lst l]= .ret (.tup (aI l)):=by
 have a9:L1 l=true:=by
  unfold L1
  simp only[Qk,decide_eq_true_eq,List.all_eq_true]
  exact⟨⟨hl,λz hz=>h.Pb hz⟩,h.nd⟩
 have es:rq (.lst l)= .ret (aI l):=by
  unfold rq
  show (if L1 l then M.ret (aI l) else .fail)=_
  rw[Qv a9]
 unfold iO il
 show (aT _ [val (.lst l)]).bind bC=_
 refine br (aU ?_)
 simp only[List.map,Ent.freeze,aE,aa,aL,aS,rZ,es,j8]
noncomputable def Ru.dec:PV->Ru
 | .tup [.str _,.int a,.int b]=>.iP a b
 | .tup [.str w,.str p,.int n]=>.post (w==("least":Str)) p n
 | .tup [.str _,.int n]=>.looked n
 | .tup [.str _,.str o]=>.zo o
 |_=>.never
def Lo (r:Ru):Ru.dec r.pv=r:=by
 cases r with
 |post b p n=>
  cases b with
  |true=>show Ru.post (("least":Str)==("least":Str)) p n=_;rw[show (("least":Str)==("least":Str))=true by decide +kernel]
  |false=>show Ru.post (("most":Str)==("least":Str)) p n=_;rw[show (("most":Str)==("least":Str))=false by decide +kernel]
 |_=>rfl
def dW:PV->List Ru
 | .tup [_,_,_,_,.tup vs]=>vs.map Ru.dec
 |_=>[]
def rA (a b c d:PV) (rs:List Ru):dW (.tup [a,b,c,d,.tup (rs.map Ru.pv)])=rs:=by
 show (rs.map Ru.pv).map Ru.dec=rs
 rw[List.map_map]
 exact(List.map_congr_left λr _=>Lo r).trans (List.map_id rs)
def oZ (hg:qp ws l ns) (hl:l.length<=1000) (z:Str) (t:Int):
  (dW (six l "rule" z t)).length<=6/\bV [.tup (aI l),.str z,.int t]= .ret (.tup ((dW (six l "rule" z t)).map Ru.pv))/\bP [.lst l,.str z,.int t]= .ret (.tup ((dW (six l "rule" z t)).map Ru.pv)):=by
 have s1:=seen hg.1 "rule" z t
 have s2:=Dw hg.1 hl "rule" z t
 have fin: ∀ v:PV,(∀ e0 e1 e2:Ent,pM (aF (ab (gn false) (λρ=>aq ρ 3) (λ_=>M.ret .aD))) (λρ=>((λ_=>M.ret []) ρ).bind aR) (ab aw (λρ=>aq ρ 3) (λ_=>M.ret (.int 4))) [e0,e1,e2,val (six l "rule" z t)]= .ret v)->bV [.tup (aI l),.str z,.int t]= .ret v/\bP [.lst l,.str z,.int t]= .ret v:=λv hv=>by
  constructor
  ·unfold bV kJ
   show (au _ _ [val (.tup (aI l)),val (.str z),val (.int t),un]).bind bC=_
   refine ay (ρ':=[val (.tup (aI l)),val (.str z),val (.int t),val (six l "rule" z t)]) ?_ (br (aU (hv _ _ _)))
   simp only[az,aa,aL,aS,rZ,s1]
   rfl
  ·unfold bP jx
   show (au _ _ [val (.lst l),val (.str z),val (.int t),un]).bind bC=_
   refine ay (ρ':=[val (.lst l),val (.str z),val (.int t),val (six l "rule" z t)]) ?_ (br (aU (hv _ _ _)))
   simp only[az,aa,aL,aS,rZ,s2]
   rfl
 rcases gQ hg.1 "rule" z t with e|⟨hm,n,hp,hh⟩
 ·rw[e] at fin ⊢
  exact⟨by simp[dW],fin _ λe0 e1 e2=>rfl⟩
 ·obtain⟨z',m,r,e,_⟩:=pN hp hh
  rcases hg.2 _ hm with⟨n',m',z'',rs,e',hr⟩|⟨n',m',z'',i,e'⟩|⟨n',m',z'',q,e',_⟩
  ·rw[e'] at fin ⊢
   rw[rA]
   exact⟨hr,fin _ λe0 e1 e2=>rfl⟩
  ·rw[e] at e';exact(Ck e' (by decide +kernel)).elim
  ·rw[e] at e';exact(Ck e' (by decide +kernel)).elim
def qM (l:List PV) (t:Int):List Str->Str->Bool:=qN l t λz=>dW (six l "rule" z t)
def qU (h:PV) (ws:List (Str×List PV)) (l:List PV) (t:Int) (S:List Str):Prop:=
 d6 [h,.lst l,.int t]= .ret (.lst (S.map PV.str))/\bA [h,.tup (aI l),.int t]= .ret (.tup (S.map PV.str))/\S=(ws.map (·.1)).filter (qM l t S)/\
  ∀ T:Str->Prop,(∀ z∈ws.map (·.1),∀ S':List Str,(∀ x∈S',T x)->qM l t S' z=true->T z)->∀ x∈S,T x
def lz (hg:qp ws l ns):Reads l:=λn m z v hv=>by
 rcases hg.2 _ hv with⟨n',m',z'',rs,e',hr⟩|⟨n',m',z'',i,e'⟩|⟨n',m',z'',q,e',_⟩
 ·exact(Ck e' (by decide +kernel)).elim
 ·refine⟨i,?_⟩
  simp at e'
  exact e'.2.2.2
 ·exact(Ck e' (by decide +kernel)).elim
def Ae (H:dv h ws ax) (hg:qp ws l ns) (hl:l.length < 64) (t:Int): ∃ S,qU h ws l t S:=by
 obtain⟨hm,rfl,w0,w1,hw,d0,d1,nd⟩:=H
 have rp:=λz=>oZ hg (by lia) z t
 have hk: ∀ p∈ws,∃ kd q,p.2= .str kd::q/\((kd==("slope":Str))=false->fw l t p.1=none):=λp hp=>by
  obtain⟨_,kd,q,e⟩:=hw p hp
  refine⟨kd,q,e,λhk=>?_⟩
  unfold fw
  rcases gQ hg.1 "look" p.1 t with e'|⟨hm,n,hpt,hh⟩
  ·rw[e']
  ·exfalso
   obtain⟨z',m,r,e1,_⟩:=pN hpt hh
   have hz:z'=p.1:=by
    rw[e1] at hh
    simp[hit] at hh
    exact hh.1
   rcases hg.2 _ hm with⟨n',m',z'',rs,e2,hr⟩|⟨n',m',z'',i,e2⟩|⟨n',m',z'',q',e2,hs⟩
   ·rw[e1] at e2;exact(Ck e2 (by decide +kernel)).elim
   ·rw[e1] at e2;exact(Ck e2 (by decide +kernel)).elim
   ·rw[e1] at e2
    simp at e2
    have hz2:z''=p.1:=by rw[<-e2.2.2.1];exact hz
    rw[hz2] at hs
    have this:=congrArg Prod.snd (mI nd hs hp rfl)
    rw[e] at this
    simp at this
    rw[<-this.1] at hk
    exact absurd hk (by decide +kernel)
 obtain⟨S,lo,hS,hT⟩:=DR (hm:=hm) (dk:=.int ax) (ws:=ws) (ru:=λz=>dW (six l "rule" z t)) hg.1 (by lia) (lz hg) (λz=>P7 (rp z).1 (by decide)) (by lia) (λz=>(rp z).2.2)
 exact⟨S,lo,Bq (hm:=hm) (dk:=.int ax) hg.1 (lz hg) (λz=>P7 (rp z).1 (by decide)) (by lia) nd hk (λz=>(rp z).2.1) hS hT,hS,hT⟩
def rG (e:qM l t=qM l m) (h1:qU h ws l t S) (h2:qU h ws l m S'):S=S':=by
 obtain⟨_,_,a1,a2⟩:=h1
 obtain⟨_,_,b1,b2⟩:=h2
 rw[e] at a1 a2
 have mono: ∀ (A B:List Str),(∀ x∈A,x∈B)->∀ z,qM l m A z=true->qM l m B z=true:=λA B hs z hz=>vK hs z hz
 have half: ∀ {A B:List Str},(∀ T:Str->Prop,(∀ z∈ws.map (·.1),∀ S':List Str,(∀ x∈S',T x)->qM l m S' z=true->T z)->∀ x∈A,T x)->B=(ws.map (·.1)).filter (qM l m B)->∀ x∈A,x∈B:=λ{A B} hA hB x hx=>by
  refine hA (·∈B) (λz hz S'' hs a9=>?_) x hx
  rw[hB]
  exact Qt.mpr ⟨hz,mono _ _ hs z a9⟩
 have i1:=half a2 b1
 have i2:=half b2 a1
 rw[a1,b1]
 refine List.filter_congr λz hz=>?_
 have c1:z∈S↔qM l m S z=true:=by
  conv=>lhs;rw[a1]
  rw[Qt]
  exact⟨λh=>h.2,λh=>⟨hz,h⟩⟩
 have c2:z∈S'↔qM l m S' z=true:=by
  conv=>lhs;rw[b1]
  rw[Qt]
  exact⟨λh=>h.2,λh=>⟨hz,h⟩⟩
 have c3:z∈S↔z∈S':=⟨i1 z,i2 z⟩
 rw[<-Bool.coe_iff_coe]
 exact c1.symm.trans (c3.trans c2)
structure Calm (l:List PV) (m t:Int):Prop where
 le:m<=t
 pg: ∀ (w:Str) (n p:Int) (z:Str) (r:List PV),PV.tup (.str w::.int n::.int p::.str z::r)∈l->p<=t->p<=m
 hr: ∀ (n p:Int) (z:Str) (rs:List Ru) (a b:Int),PV.tup [.str "rule",.int n,.int p,.str z,.tup (rs.map Ru.pv)]∈l->Ru.iP a b∈rs->(a<=t->a<=m)/\(b<=t->b<=m)
 lk: ∀ (n p:Int) (z:Str) (rs:List Ru) (k n' p':Int),PV.tup [.str "rule",.int n,.int p,.str z,.tup (rs.map Ru.pv)]∈l->Ru.looked k∈rs->PV.tup [.str "look",.int n',.int p',.str z]∈l->p'+k<=t->p'+k<=m
def CV (h:bf l ns) (c:Calm l m t) (w z:Str):six l w z t=six l w z m:=by
 have e:l.filter (hit w z t)=l.filter (hit w z m):=List.filter_congr λy hy=>by
  obtain⟨n,⟨w',z',p,r,rfl,_⟩,_⟩:=h.at hy
  show (w'==w&&(z'==z&&decide (p<=t)))=(w'==w&&(z'==z&&decide (p<=m)))
  have:(p<=t)↔(p<=m):=⟨λq=>c.pg w' n p z' r hy q,λq=>Int.le_trans q c.le⟩
  rw[decide_eq_decide.mpr this]
 unfold six
 rw[e]
def vJ (hg:qp ws l ns) (c:Calm l m t):qM l t=qM l m:=by
 have e6:=CV hg.1 c
 have e1:i3 l t=i3 l m:=funext λp=>by unfold i3;rw[e6]
 have e2: ∀ z,fw l t z=fw l m z:=λz=>by unfold fw;rw[e6]
 funext S z
 unfold qM qN
 dsimp only
 rw[e6,e1,e2]
 rw[Bool.eq_iff_iff,List.all_eq_true,List.all_eq_true]
 have one: ∀ r∈dW (six l "rule" z m),r.hold (i3 l m) (fw l m z) t (cF S)=r.hold (i3 l m) (fw l m z) m (cF S):=λr hr=>by
  rcases gQ hg.1 "rule" z m with e|⟨hm,n,hp,hh⟩
  ·rw[e] at hr;exact absurd hr PU
  ·obtain⟨z',p,q,e,_⟩:=pN hp hh
   have ez:z'=z:=by
    rw[e] at hh
    simp[hit] at hh
    exact hh.1
   rcases hg.2 _ hm with⟨n',m',z'',rs,e',_⟩|⟨n',m',z'',i,e'⟩|⟨n',m',z'',q,e',_⟩
   rotate_left
   ·rw[e] at e';exact(Ck e' (by decide +kernel)).elim
   ·rw[e] at e';exact(Ck e' (by decide +kernel)).elim
   have ez2:z''=z:=by
    rw[e] at e'
    simp at e'
    rw[<-e'.2.2.1];exact ez
   rw[e'] at hr hm
   rw[rA] at hr
   rw[ez2] at hm
   cases r with
   |iP a b=>
    obtain⟨h1,h2⟩:=c.hr _ _ _ _ a b hm hr
    have:=c.le
    show (decide (a<=t)&&decide (t < b))=(decide (a<=m)&&decide (m < b))
    rw[decide_eq_decide.mpr (⟨h1,λq=>Int.le_trans q this⟩:a<=t↔a<=m),decide_eq_decide.mpr (⟨λq=>by lia,λq=>by lia⟩:t < b↔m < b)]
   |post L p k=>rfl
   |looked k=>
    rcases gQ hg.1 "look" z m with e4|⟨hm4,n4,hp4,hh4⟩
    ·have:fw l m z=none:=by unfold fw;rw[e4]
     rw[this];rfl
    ·obtain⟨z4,p4,q4,e5,hk⟩:=pN hp4 hh4
     have ez4:z4=z:=by
      rw[e5] at hh4
      simp[hit] at hh4
      exact hh4.1
     have:fw l m z=some p4:=by unfold fw;rw[e5]
     rw[this]
     rcases hg.2 _ hm4 with⟨n',m',z'',rs,e',_⟩|⟨n',m',z'',i,e'⟩|⟨n',m',z'',q,e',_⟩
     ·rw[e5] at e';exact(Ck e' (by decide +kernel)).elim
     ·rw[e5] at e';exact(Ck e' (by decide +kernel)).elim
     ·rw[e5] at e'
      simp at e'
      rw[e5,e'.2.2.2,ez4] at hm4
      have q1:=c.lk _ _ _ _ k _ p4 hm hr hm4
      have:=c.le
      show decide (t < p4+k)=decide (m < p4+k)
      exact decide_eq_decide.mpr ⟨λq=>by lia,λq=>by lia⟩
   |zo o=>rfl
   |never=>rfl
 exact⟨λh r hr=>by rw[<-one r hr];exact h r hr,λh r hr=>by rw[one r hr];exact h r hr⟩
def Ai:PV->Int
 | .tup (_::_::.int p::_)=>p
 |_=>0
def nameOf:PV->Str
 | .tup (_::_::_::.str z::_)=>z
 |_=>""
def pI (z:Str):PV->Bool
 | .tup (.str w::_::_::.str z'::_)=>w==("look":Str)&&z'==z
 |_=>false
def yr:PV->Bool
 | .tup (.str w::_)=>w==("rule":Str)
 |_=>false
def fk (B:List PV) (z:Str):Ru->List Int
 | .iP a b=>[a,b]
 | .looked n=>(B.filter (pI z)).map λy=>Ai y+n
 |_=>[]
def cX (B:List PV) (y:PV):List Int:=Ai y::(if yr y=true then(dW y).flatMap (fk B (nameOf y)) else[])
def xU (hB: ∀ y∈B,∃ n,eS n y) (hl:B.length<=1000) (r:Ru):bE [.tup B,.str z,r.pv]= .ret (.lst ((fk B z r).map PV.int)):=by
 have look: ∀ {v:PV} {w:Str},aw v (.int 0)= .ret (.str w)->∀ (x:Str) (ρ:ae),aq ρ 2= .ret v->aF (ab (bT false) (ab aw (λρ=>aq ρ 2) (λ_=>M.ret (.int 0))) (λ_=>M.ret (.str x))) ρ= .ret (w==x):=λ{v w} hv x ρ hρ=>by
  simp only[aF,ab,hρ,rZ,hv,yA]
 have no: ∀ {v:PV} {w:Str},aw v (.int 0)= .ret (.str w)->(w==("hours":Str))=false->(w==("looked":Str))=false->bE [.tup B,.str z,v]= .ret (.lst []):=λ{v w} hv h1 h2=>by
  unfold bE dE
  show (au _ _ [val (.tup B),val (.str z),val v]).bind bC=_
  refine ay (ρ':=[val (.tup B),val (.str z),val v]) (cB (by rw[look hv _ _ rfl,h1])) ?_
  refine ay (ρ':=[val (.tup B),val (.str z),val v]) (cB (by rw[look hv _ _ rfl,h2])) ?_
  exact br (aU rfl)
 cases r with
 |iP a b=>
  unfold bE dE
  show (au _ _ [val (.tup B),val (.str z),val (.tup [.str "hours",.int a,.int b])]).bind bC=_
  refine dB ?_
  rw[c9 rfl]
  exact aU rfl
 |looked n=>
  unfold bE dE
  show (au _ _ [val (.tup B),val (.str z),val (.tup [.str "looked",.int n])]).bind bC=_
  refine ay (ρ':=[val (.tup B),val (.str z),val (.tup [.str "looked",.int n])]) rfl ?_
  refine dB ?_
  rw[c9 rfl]
  refine aU ?_
  have ec:de [none,some 2,some 1] (List.map Ent.freeze [val (.tup B),val (.str z),val (.tup [.str "looked",.int n])])=[un,val (.tup [.str "looked",.int n]),val (.str z)]:=rfl
  unfold aE a8
  rw[ec]
  have q:=bS (k:=0) (tt:=cC (aF (ab (bT false) (ab aw (λρ=>aq ρ 0) (λ_=>M.ret (.int 0))) (λ_=>M.ret (.str "look")))) (aF (ab (bT false) (ab aw (λρ=>aq ρ 0) (λ_=>M.ret (.int 3))) (λρ=>aq ρ 2)))) (te:=ab bM (ab aw (λρ=>aq ρ 0) (λ_=>M.ret (.int 2))) (ab aw (λρ=>aq ρ 1) (λ_=>M.ret (.int 1)))) (p:=pI z) (f:=λy=>.int (Ai y+n)) (ρ:=[un,val (.tup [.str "looked",.int n]),val (.str z)]) B [un,val (.tup [.str "looked",.int n]),val (.str z)] (λ_=>rfl) (λy hy=>by
   obtain⟨i,w,z',m,r,rfl,_⟩:=hB y hy
   show _=M.ret (w==("look":Str)&&z'==z)
   simp only[cC,aF,ab,PN,aL,aS,rZ,aw,iZ,LC,M.bK,yA]
   cases w==("look":Str)<;>rfl) (λy hy _=>by
   obtain⟨i,w,z',m,r,rfl,_⟩:=hB y hy
   simp only[ab,PN,aL,aS,rZ,aw,wY,nW,M.bK]
   rfl)
  simp only[PQ,List.map_nil,Ent.freeze,aL,rZ,aH]
  rw[Qv (by lia),q,rZ]
  show M.ret (PV.lst _)=M.ret (PV.lst (((B.filter (pI z)).map λy=>Ai y+n).map PV.int))
  rw[List.map_map]
  rfl
 |post L p n=>
  cases L with
  |true=>exact no (v:=Ru.pv (.post true p n)) rfl (by decide +kernel) (by decide +kernel)
  |false=>exact no (v:=Ru.pv (.post false p n)) rfl (by decide +kernel) (by decide +kernel)
 |zo o=>exact no (v:=Ru.pv (.zo o)) rfl (by decide +kernel) (by decide +kernel)
 |never=>exact no (v:=Ru.pv .never) rfl (by decide +kernel) (by decide +kernel)
def mf (r:Ru):(fk B z r).length<=B.length+2:=by
 cases r with
 |iP a b=>simp[fk]
 |looked n=>
  show ((B.filter (pI z)).map _).length<=_
  rw[PD]
  have:=List.length_filter_le (pI z) B
  lia
 |_=>simp[fk]
noncomputable def NN:ae->M Fl:=(BZ 2 (λρ=>((aa (λρ=>aq ρ 1) (aa (ab aw (λρ=>aq ρ 3) (λ_=>M.ret (.int 3))) (aa (λρ=>aq ρ 4) (λ_=>M.ret [])))) ρ).bind bE))
noncomputable def LW:ae->M Fl:=(au (cP 2 (ab aw (λρ=>aq ρ 3) (λ_=>M.ret (.int 2))))
  (cN (aF (ab (bT false) (ab aw (λρ=>aq ρ 3) (λ_=>M.ret (.int 0))) (λ_=>M.ret (.str "rule"))))
  (aK (λρ=>((ab aw (λρ=>aq ρ 3) (λ_=>M.ret (.int 4))) ρ).bind aH) (aA 4)
  (BZ 2 (λρ=>((aa (λρ=>aq ρ 1) (aa (ab aw (λρ=>aq ρ 3) (λ_=>M.ret (.int 3))) (aa (λρ=>aq ρ 4) (λ_=>M.ret [])))) ρ).bind bE)))
  (λρ=>M.ret (.nx ρ))))
section
variable {h:PV} {B:List PV}
theorem uU (hB: ∀ y∈B,∃ n,eS n y) (hl:B.length<=100) (hy:aw y (.int 3)= .ret (.str z)): ∀ (rs:List Ru) (xs:List Int) (e4:Ent),xs.length+rs.length * (B.length+2)<=90000->
  ∃ e4',bp (aA 4) NN (rs.map Ru.pv) [val h,val (.tup B),Ent.own (xs.map PV.int),val y,e4]= .ret (.nx [val h,val (.tup B),Ent.own ((xs++rs.flatMap (fk B z)).map PV.int),val y,e4'])
 |[],xs,e4,_=>⟨e4,by simp[bp]⟩
 |r::rs,xs,e4,hz=>by
  have rl:=mf (B:=B) (z:=z) r
  simp only[PY,Nat.add_mul,Nat.one_mul] at hz
  obtain⟨e4',ih⟩:=uU hB hl hy rs (xs++fk B z r) (val r.pv) (by rw[Qc];lia)
  refine⟨e4',?_⟩
  rw[PQ]
  unfold bp
  have st:NN [val h,val (.tup B),Ent.own (xs.map PV.int),val y,val r.pv]= .ret (.nx [val h,val (.tup B),Ent.own ((xs++fk B z r).map PV.int),val y,val r.pv]):=by
   unfold NN BZ
   have hc:(xs.map PV.int).length+((fk B z r).map PV.int).length<=100000:=by rw[PD,PD];lia
   simp only[P0,P1,aa,ab,aL,aS,rZ,hy,xU hB (by lia:B.length<=1000),M4,Qv hc,List.map_append]
   rfl
  simp only[aA,rZ,Qo,PN,st]
  rw[ih,List.flatMap_cons,List.append_assoc]
def Jy (hB: ∀ y∈B,∃ n,eS n y) (hl:B.length<=100) (hy:nu ws y) (e4:Ent) (hz:xs.length+1+6 * (B.length+2)<=80000):
  ∃ e4',LW [val h,val (.tup B),Ent.own (xs.map PV.int),val y,e4]= .ret (.nx [val h,val (.tup B),Ent.own ((xs++cX B y).map PV.int),val y,e4']):=by
 have app: ∀ {w:Str} {n m:Int} {z:Str} {r:List PV},cP 2 (ab aw (λρ=>aq ρ 3) (λ_=>M.ret (.int 2))) [val h,val (.tup B),Ent.own (xs.map PV.int),val (.tup (.str w::.int n::.int m::.str z::r)),e4]= .ret (.nx [val h,val (.tup B),Ent.own ((xs++[m]).map PV.int),val (.tup (.str w::.int n::.int m::.str z::r)),e4]):=λ{w n m z r}=>by
  have hc:(xs.map PV.int).length < 100000:=by rw[PD];lia
  unfold cP
  simp only[P0,P1,ab,aL,aS,rZ,aw,wY,M.bK,Qv hc,List.map_append]
  rfl
 have tst: ∀ {w:Str} {r:List PV} {e0 e1 e2 e3:Ent},aF (ab (bT false) (ab aw (λρ=>aq ρ 3) (λ_=>M.ret (.int 0))) (λ_=>M.ret (.str "rule"))) [e0,e1,e2,val (.tup (.str w::r)),e3]= .ret (w==("rule":Str)):=λ{w r e0 e1 e2 e3}=>by
  simp only[aF,ab,aL,aS,rZ,aw,iZ,M.bK,yA]
 have other: ∀ {w:Str} {n m:Int} {z:Str} {r:List PV},(w==("rule":Str))=false->LW [val h,val (.tup B),Ent.own (xs.map PV.int),val (.tup (.str w::.int n::.int m::.str z::r)),e4]= .ret (.nx [val h,val (.tup B),Ent.own ((xs++cX B (.tup (.str w::.int n::.int m::.str z::r))).map PV.int),val (.tup (.str w::.int n::.int m::.str z::r)),e4]):=λ{w n m z r} hw=>by
  have ep:cX B (.tup (.str w::.int n::.int m::.str z::r))=[m]:=by
   show m::(if(w==("rule":Str))=true then _ else[])=_
   rw[hw];rfl
  rw[ep]
  unfold LW au
  rw[app,rZ]
  show cN _ _ _ _=_
  rw[cB (by rw[tst,hw])]
 rcases hy with⟨n,m,z,rs,rfl,hr⟩|⟨n,m,z,i,rfl⟩|⟨n,m,z,q,rfl,_⟩
 ·obtain⟨e4',lp⟩:=uU (h:=h) hB hl (y:=.tup [.str "rule",.int n,.int m,.str z,.tup (rs.map Ru.pv)]) (z:=z) rfl rs (xs++[m]) e4 (by
   rw[Qc,List.length_singleton]
   have:rs.length * (B.length+2)<=6 * (B.length+2):=Nat.mul_le_mul_right _ hr
   lia)
  refine⟨e4',?_⟩
  have ep:cX B (.tup [.str "rule",.int n,.int m,.str z,.tup (rs.map Ru.pv)])=[m]++rs.flatMap (fk B z):=by
   show m::(if(("rule":Str)==("rule":Str))=true then(dW _).flatMap (fk B z) else[])=_
   rw[rA,Qv (by decide +kernel)]
   rfl
  rw[ep,<-List.append_assoc]
  unfold LW au
  rw[app,rZ]
  show cN _ _ _ _=_
  rw[c9 (by rw[tst];exact congrArg M.ret (by decide +kernel))]
  show aK _ (aA 4) NN _=_
  unfold aK
  simp only[ab,aL,aS,rZ,aw,O5,M.bK,aH]
  exact lp
 ·exact⟨e4,other (by decide +kernel)⟩
 ·exact⟨e4,other (by decide +kernel)⟩
theorem zx (hB: ∀ y∈B,∃ n,eS n y) (hl:B.length<=100): ∀ (C:List PV) (xs:List Int) (e3 e4:Ent),(∀ y∈C,nu ws y)->xs.length+C.length * (1+6 * (B.length+2))<=80000->
  ∃ e3' e4',bp (aA 3) LW C [val h,val (.tup B),Ent.own (xs.map PV.int),e3,e4]= .ret (.nx [val h,val (.tup B),Ent.own ((xs++C.flatMap (cX B)).map PV.int),e3',e4'])
 |[],xs,e3,e4,_,_=>⟨e3,e4,by simp[bp]⟩
 |y::C,xs,e3,e4,hC,hz=>by
  have pl:(cX B y).length<=1+6 * (B.length+2):=by
   have fm: ∀ rs:List Ru,(rs.flatMap (fk B (nameOf y))).length<=rs.length * (B.length+2):=λrs=>by
    induction rs with
    |nil=>simp
    |cons r rs ih=>
     rw[List.flatMap_cons,Qc,PY,Nat.add_mul]
     have:=mf (B:=B) (z:=nameOf y) r
     lia
   unfold cX
   rw[PY]
   by_cases c:yr y=true
   ·rw[Qv c]
    have f1:=fm (dW y)
    have:(dW y).length<=6:=by
     rcases hC y PB with⟨n,m,z,rs,rfl,hr⟩|⟨n,m,z,i,rfl⟩|⟨n,m,z,q,rfl,_⟩
     ·rw[rA];exact hr
     ·simp[dW]
     ·simp[dW]
    have:(dW y).length * (B.length+2)<=6 * (B.length+2):=Nat.mul_le_mul_right _ this
    lia
   ·rw[Qw c];simp
  simp only[PY,Nat.add_mul,Nat.one_mul] at hz
  obtain⟨x4,st⟩:=Jy (h:=h) (xs:=xs) hB hl (hC y PB) e4 (by lia)
  obtain⟨e3',e4',ih⟩:=zx hB hl C (xs++cX B y) (val y) x4 (λz hz=>hC z (PH _ hz)) (by rw[Qc];lia)
  refine⟨e3',e4',?_⟩
  unfold bp
  simp only[aA,rZ,Qo,PN,st]
  rw[ih,List.flatMap_cons,List.append_assoc]
end
theorem rN: ∀ is:List Int,pE (is.map Sum.inl)=some is
 |[]=>rfl
 |i::is=>by
  show (pE (is.map Sum.inl)).map (i:: ·)=_
  rw[rN is]
  rfl
theorem uk: ∀ (xs js:List Int),∃ is:List Int,(xs.map PV.int).foldl (λks z=>if ua ks (keyOf z)=true then ks else ks++[keyOf z]) (js.map Sum.inl)=is.map Sum.inl/\∀ i,i∈is↔i∈js\/i∈xs
 |[],js=>⟨js,rfl,λi=>by simp⟩
 |x::xs,js=>by
  rw[PQ,List.foldl_cons]
  have mem:ua (js.map Sum.inl) (keyOf (.int x))=true↔x∈js:=by
   show (List.any (js.map Sum.inl) λk'=>decide (k'=Sum.inl x))=true↔_
   rw[List.any_eq_true]
   constructor
   ·rintro⟨k,hk,e⟩
    obtain⟨j,hj,rfl⟩:=PX.mp hk
    have:=of_decide_eq_true e
    cases this
    exact hj
   ·exact λhx=>⟨Sum.inl x,Qh hx,by simp⟩
  by_cases c:x∈js
  ·rw[Qv (mem.mpr c)]
   obtain⟨is,e,hi⟩:=uk xs js
   refine⟨is,e,λi=>?_⟩
   rw[hi,PR]
   constructor
   ·rintro(h|h)
    ·exact .inl h
    ·exact .inr (.inr h)
   ·rintro(h|rfl|h)
    ·exact .inl h
    ·exact .inl c
    ·exact .inr h
  ·rw[Qw (λh=>c (mem.mp h))]
   have ej:js.map Sum.inl++[keyOf (.int x)]=(js++[x]).map (Sum.inl:Int->Key):=by rw[List.map_append];rfl
   rw[ej]
   obtain⟨is,e,hi⟩:=uk xs (js++[x])
   refine⟨is,e,λi=>?_⟩
   rw[hi,Qu,Qf,PR]
   constructor
   ·rintro((h|h)|h)
    ·exact .inl h
    ·exact .inr (.inl h)
    ·exact .inr (.inr h)
   ·rintro(h|h|h)
    ·exact .inl (.inl h)
    ·exact .inl (.inr h)
    ·exact .inr h
theorem lO: ∀ (n:Nat) (l:List Int),l.Nodup->(∀ i∈l,0<=i/\i < n)->l.length<=n
 |0,l,_,h=>by
  match l with
  |[]=>exact PM _
  |i::l=>
   have:=h i PB
   lia
 |n+1,l,nd,h=>by
  by_cases c:(n:Int)∈l
  ·have e:=List.length_erase_of_mem c
   have ih:=lO n (l.erase (n:Int)) (nd.erase _) λi hi=>by
    obtain⟨h1,h2⟩:=(nd.mem_erase_iff).mp hi
    have:=h i h2
    lia
   lia
  ·have ih:=lO n l nd λi hi=>by
    have:=h i hi
    have:i≠n:=λz=>c (z▸hi)
    lia
   lia
def uS (H:dv h ws ax) (hg:qp ws l ns) (hl:l.length<=24) (hd:ax<=40):
  ∃ τ:List Int,j7 [h,.tup (aI l)]= .ret (.lst (τ.map PV.int))/\τ.Pairwise (· < ·)/\∀ i,i∈τ↔(0<=i/\i<=ax)/\i∈0::(aI l).flatMap (cX (aI l)):=by
 obtain⟨h0,h2⟩:=fS H
 have pm:=du l
 have hB: ∀ y∈aI l,∃ n,eS n y:=λy hy=>(hg.1.at (pm.mem_iff.mp hy)).imp λn hn=>hn.1
 have hG: ∀ y∈aI l,nu ws y:=λy hy=>hg.2 y (pm.mem_iff.mp hy)
 have hlB:(aI l).length<=24:=by rw[pm.length_eq];exact hl
 obtain⟨B,eB⟩: ∃ B,B=aI l:=⟨_,rfl⟩
 rw[<-eB] at hB hG hlB ⊢
 have lenb:B.length * (1+6 * (B.length+2))<=24 * (1+6 * (24+2)):=Nat.mul_le_mul hlB (by lia)
 obtain⟨e3,e4,lp⟩:=zx (h:=h) (ws:=ws) hB (by lia) B [0] un un hG (by simp only[List.length_singleton];lia)
 have flen: ∀ C:List PV,(∀ y∈C,nu ws y)->(C.flatMap (cX B)).length<=C.length * (1+6 * (B.length+2)):=λC=>by
  induction C with
  |nil=>simp
  |cons y C ih=>
   intro hC
   have i1:=ih λz hz=>hC z (PH _ hz)
   have fm: ∀ rs:List Ru,(rs.flatMap (fk B (nameOf y))).length<=rs.length * (B.length+2):=λrs=>by
    induction rs with
    |nil=>simp
    |cons r rs ih=>
     rw[List.flatMap_cons,Qc,PY,Nat.add_mul]
     have:=mf (B:=B) (z:=nameOf y) r
     lia
   rw[List.flatMap_cons,Qc,PY,Nat.add_mul,Nat.one_mul]
   have:(cX B y).length<=1+6 * (B.length+2):=by
    unfold cX
    rw[PY]
    by_cases c:yr y=true
    ·rw[Qv c]
     have f1:=fm (dW y)
     have:(dW y).length<=6:=by
      rcases hC y PB with⟨n,m,z,rs,rfl,hr⟩|⟨n,m,z,i,rfl⟩|⟨n,m,z,q,rfl,_⟩
      ·rw[rA];exact hr
      ·simp[dW]
      ·simp[dW]
     have:(dW y).length * (B.length+2)<=6 * (B.length+2):=Nat.mul_le_mul_right _ this
     lia
    ·rw[Qw c];simp
   lia
 have fl:=flen B hG
 obtain⟨xs,exs⟩: ∃ xs,xs=0::B.flatMap (cX B):=⟨_,rfl⟩
 have exs':[0]++B.flatMap (cX B)=xs:=by rw[exs];rfl
 have xl:xs.length<=4000:=by rw[exs,PY];lia
 rw[exs'] at lp
 rw[<-exs]
 obtain⟨is,ei,mi⟩:=uk (xs.filter λi=>decide (0<=i)&&decide (i<=ax)) []
 have ei':dk ((xs.filter λi=>decide (0<=i)&&decide (i<=ax)).map PV.int)=is.map Sum.inl:=ei
 have nd:is.Nodup:=by
  have:=wC ((xs.filter λi=>decide (0<=i)&&decide (i<=ax)).map PV.int)
  rw[ei'] at this
  exact List.Pairwise.of_map Sum.inl (λa b h z=>h (by rw[z])) this
 have mem: ∀ i,i∈is↔(0<=i/\i<=ax)/\i∈xs:=λi=>by
  rw[mi i]
  simp only[PU,false_or,Qt,Qk,decide_eq_true_eq]
  exact⟨λq=>⟨q.2,q.1⟩,λq=>⟨q.2,q.1⟩⟩
 have few:=lO 41 is nd λi hi=>by
  have:=((mem i).mp hi).1
  lia
 have srt:sortI ((xs.filter λi=>decide (0<=i)&&decide (i<=ax)).map PV.int)= .ret ((ja is).map PV.int):=by
  unfold sortI
  rw[ei',rN]
  show (if is.length < 64 then M.ret _ else M.fail)=_
  rw[Qv (by lia)]
 refine⟨ja is,?_,?_,λi=>?_⟩
 ·unfold j7 tZ
  show (au _ _ [val h,val (.tup B),un,un,un]).bind bC=_
  refine ay (ρ':=[val h,val (.tup B),Ent.own ([0].map PV.int),un,un]) rfl ?_
  refine ay (ρ':=[val h,val (.tup B),Ent.own (xs.map PV.int),e3,e4]) ?_ ?_
  ·show aK _ (aA 3) LW _=_
   unfold aK
   simp only[aL,aS,rZ,aH]
   exact lp
  ·refine br (aU ?_)
   have ec:de [none,some 0] (List.map Ent.freeze [val h,val (.tup B),Ent.own (xs.map PV.int),e3,e4])=[un,val h]:=rfl
   unfold aE DN
   dsimp only
   rw[ec]
   have q:=bS (k:=0) (tt:=aF (chain iV iV (λ_=>M.ret (.int 0)) (λρ=>aq ρ 0) (ab aw (λρ=>aq ρ 1) (λ_=>M.ret (.int 2))))) (te:=λρ=>(aq ρ 0).bind G9) (p:=λy=>match y with| .int i=>decide (0<=i)&&decide (i<=ax)|_=>false) (f:=λy=>y) (ρ:=[un,val h]) (xs.map PV.int) [un,val h] (λ_=>rfl) (λy hy=>by
    obtain⟨i,_,rfl⟩:=PX.mp hy
    show _=M.ret (decide (0<=i)&&decide (i<=ax))
    simp only[aF,chain,ab,PN,aL,aS,rZ,h2,iV]
    by_cases c:(0:Int)<=i
    ·simp[c]
    ·simp[c]) (λy hy _=>by
    obtain⟨i,_,rfl⟩:=PX.mp hy
    rfl)
   have eg:gv 2 (List.map Ent.freeze [val h,val (.tup B),Ent.own (xs.map PV.int),e3,e4])= .ret (.lst (xs.map PV.int)):=rfl
   rw[eg]
   simp only[rZ,aH]
   rw[Qv (by rw[PD];exact xl),q,rZ,List.map_id',List.filter_map]
   have ef:((λy=>match y with|PV.int i=>decide (0<=i)&&decide (i<=ax)|_=>false)∘PV.int)=λi:Int=>decide (0<=i)&&decide (i<=ax):=rfl
   rw[ef,srt]
   rfl
 ·have nds:(ja is).Nodup:=(gN is).nodup_iff.mpr nd
  have le:=oP is
  exact(le.and nds).imp λbu=>by obtain⟨a,b⟩:=bu;lia
 ·rw[(gN is).mem_iff,mem]
def AK {ax:Int} (hg:qp ws l ns) {τ:List Int} (hτ: ∀ i,i∈τ↔(0<=i/\i<=ax)/\i∈0::(aI l).flatMap (cX (aI l))) {m t:Int} (m0:0<=m) (hmt:m<=t) (ht:t<=ax) (hlast: ∀ i∈τ,i<=t->i<=m):Calm l m t:=by
 have pm:=du l
 have key: ∀ (y:PV) (i:Int),y∈l->i∈cX (aI l) y->i<=t->i<=m:=λy i hy hi hit=>by
  by_cases c:0<=i
  ·exact hlast i ((hτ i).mpr ⟨⟨c,by lia⟩,PH _ (List.mem_flatMap.mpr ⟨y,pm.mem_iff.mpr hy,hi⟩)⟩) hit
  ·lia
 have rl: ∀ (n p:Int) (z:Str) (rs:List Ru) (r:Ru) (i:Int),PV.tup [.str "rule",.int n,.int p,.str z,.tup (rs.map Ru.pv)]∈l->r∈rs->i∈fk (aI l) z r->i<=t->i<=m:=λn p z rs r i hy hr hi=>by
  refine key _ i hy ?_
  show i∈p::(if(("rule":Str)==("rule":Str))=true then(dW _).flatMap (fk (aI l) z) else[])
  rw[rA,Qv (by decide +kernel)]
  exact PH _ (List.mem_flatMap.mpr ⟨r,hr,hi⟩)
 refine⟨hmt,λw n p z r hy=>key _ p hy PB,λn p z rs a b hy hr=>⟨rl _ _ _ _ _ a hy hr PB,rl _ _ _ _ _ b hy hr (PH _ PB)⟩,λn p z rs k n' p' hy hr hy'=>rl _ _ _ _ _ _ hy hr ?_⟩
 refine PX.mpr ⟨.tup [.str "look",.int n',.int p',.str z],Qt.mpr ⟨pm.mem_iff.mpr hy',?_⟩,rfl⟩
 show (("look":Str)==("look":Str)&&z==z)=true
 rw[show (("look":Str)==("look":Str))=true by decide +kernel]
 simp
abbrev uO:=List (Int×Int)
def c5 (p:Int×Int):PV:=.tup [.int p.1,.int p.2]
noncomputable def u6 (g:Int->Bool) (acc:uO) (t:Int):uO:=
 if g t=true then(match acc.getLast? with|some p=>if p.2=t then acc.dropLast++[(p.1,t+1)] else acc++[(t,t+1)]|none=>acc++[(t,t+1)]) else acc
def runN (g:Int->Bool):Nat->uO
 |0=>[]
 |n+1=>u6 g (runN g n) n
def zD (h:g t=false):u6 g acc t=acc:=by unfold u6;rw[h];rfl
def zE (h:g t=true):u6 g (acc++[(x,t)]) t=acc++[(x,t+1)]:=by
 unfold u6
 rw[Qv h]
 simp
def sI (h:g t=true) (hl: ∀ p,acc.getLast?=some p->p.2≠t):u6 g acc t=acc++[(t,t+1)]:=by
 unfold u6
 rw[Qv h]
 cases e:acc.getLast? with
 |none=>rfl
 |some p=>dsimp only;rw[Qw (hl p e)]
theorem zN {g:Int->Bool} {a:Nat}: ∀ k:Nat,(∀ t:Int,a<=t->t < a+k->g t=false)->runN g (a+k)=runN g a
 |0,_=>rfl
 |k+1,h=>by
  show u6 g (runN g (a+k)) ((a+k:Nat):Int)=_
  rw[zD (h _ (by lia) (by lia)),zN k λt h1 h2=>h t h1 (by lia)]
theorem tu (e:runN g a=acc++[(x,(a:Int))]): ∀ k:Nat,(∀ t:Int,a<=t->t < a+k->g t=true)->runN g (a+k)=acc++[(x,((a+k:Nat):Int))]
 |0,_=>e
 |k+1,h=>by
  show u6 g (runN g (a+k)) ((a+k:Nat):Int)=_
  rw[tu e k λt h1 h2=>h t h1 (by lia),zE (h _ (by lia) (by lia))]
  rfl
def Gb (e:runN g a=acc) (hl: ∀ p,acc.getLast?=some p->p.2≠(a:Int)) (k:Nat) (h: ∀ t:Int,a<=t->t < a+(k+1:Nat)->g t=true):runN g (a+(k+1))=acc++[((a:Int),((a+(k+1):Nat):Int))]:=by
 have e1:runN g (a+1)=acc++[((a:Int),((a+1:Nat):Int))]:=by
  show u6 g (runN g a) a=_
  rw[e,sI (h _ (Int.le_refl _) (by lia)) hl]
  rfl
 have:=tu e1 k λt h1 h2=>h t (by lia) (by lia)
 rw[show a+1+k=a+(k+1) by lia] at this
 exact this
def CN (g:Int->Bool) (m:Int) (s:uO×Option Int):uO×Option Int:=if g m=true then(s.1,some (s.2.getD m)) else(s.1++s.2.toList.map λx=>(x,m),none)
def Iu (g:Int->Bool):List Int->uO×Option Int->uO×Option Int
 |[],s=>s
 |m::r,s=>Iu g r (CN g m s)
def O9 (ax:Int) (s:uO×Option Int):uO:=s.1++s.2.toList.map λx=>(x,ax+1)
def N6 (g:Int->Bool) (m:Int) (s:uO×Option Int):Prop:=runN g m.toNat=s.1++(s.2.toList.map λx=>(x,m))/\(s.2=none->∀ p,s.1.getLast?=some p->p.2 < m)
def AQ (m0:0<=m) (hmn:m < n) (hc: ∀ t,m<=t->t < n->g t=g m) (h:N6 g m s):N6 g n (CN g m s):=by
 obtain⟨acc,b⟩:=s
 obtain⟨h1,h2⟩:=h
 obtain⟨a,rfl⟩: ∃ a:Nat,m=a:=⟨m.toNat,by lia⟩
 obtain⟨k,rfl⟩: ∃ k:Nat,n=((a+(k+1):Nat):Int):=⟨(n - a - 1).toNat,by lia⟩
 have ea:((a:Nat):Int).toNat=a:=by lia
 have en:(((a+(k+1):Nat):Int)).toNat=a+(k+1):=by lia
 rw[ea] at h1
 dsimp only at h1 h2
 unfold N6 CN
 rw[en]
 cases c:g a with
 |true=>
  have hc': ∀ t:Int,a<=t->t < a+(k+1:Nat)->g t=true:=λt q1 q2=>by rw[hc t q1 (by lia),c]
  rw[Qv rfl]
  refine⟨?_,λz=>by cases z⟩
  cases b with
  |none=>
   have:=Gb (acc:=acc) (h1.trans (by simp)) (λp hp=>by have:=h2 rfl p hp;lia) k hc'
   rw[this]
   rfl
  |some x=>exact tu h1 (k+1) hc'
 |false=>
  have hc': ∀ t:Int,a<=t->t < a+(k+1:Nat)->g t=false:=λt q1 q2=>by rw[hc t q1 (by lia),c]
  rw[Qw (by simp),zN (k+1) hc',h1]
  refine⟨by simp,λ_ p hp=>?_⟩
  cases b with
  |none=>
   have:=h2 rfl p (by simpa using hp)
   lia
  |some x=>
   have:p=(x,(a:Int)):=by
    simp at hp
    exact hp.symm
   rw[this]
   show (a:Int) < _
   lia
theorem zF: ∀ (r:List Int) (m:Int) (s:uO×Option Int),(m::r).Pairwise (· < ·)->(∀ i∈m::r,0<=i/\i<=ax)->(∀ i∈m::r,∀ t,i<=t->t<=ax->(∀ j∈m::r,j<=t->j<=i)->g t=g i)->N6 g m s->O9 ax (Iu g (m::r) s)=runN g (ax+1).toNat
 |[],m,s,_,hb,hc,h=>by
  have b:=hb m PB
  have:=AQ (n:=ax+1) b.1 (by lia) (λt q1 q2=>hc m PB t q1 (by lia) λj hj _=>by
   rw[Qf] at hj
   lia) h
  exact this.1.symm
 |n::r,m,s,pw,hb,hc,h=>by
  obtain⟨p1,p2⟩:=Qy.mp pw
  have hmn:=p1 n PB
  have b:=hb m PB
  have bn:=hb n (PH _ PB)
  have step:=AQ (n:=n) b.1 hmn (λt q1 q2=>hc m PB t q1 (by lia) λj hj hjt=>by
   rcases PR.mp hj with rfl|hj
   ·lia
   ·rcases PR.mp hj with rfl|hj
    ·lia
    ·have:=(Qy.mp p2).1 j hj
     lia) h
  refine zF r n (CN g m s) p2 (λi hi=>hb i (PH _ hi)) (λi hi t q1 q2 q3=>hc i (PH _ hi) t q1 q2 λj hj hjt=>?_) step
  rcases PR.mp hj with rfl|hj
  ·have:=p1 i hi
   lia
  ·exact q3 j hj hjt
def KS (x:Str) (zs:List Str) (b:Bool):iW b (.str x) (.tup (zs.map PV.str))= .ret (.bl (xor b (cF zs x))):=gA x zs b
def Nt:Option Int->PV
 |none=>.aD
 |some x=>.int x
noncomputable def NQ:ae->M Fl:=(au (cN (cC (aF (ab (iW false) (gv 1) (gv 6))) (aF (ab (gn false) (gv 4) (λ_=>M.ret .aD))))
  (az 4 (gv 5))
  (λρ=>M.ret (.nx ρ)))
  (cN (cC (aF (ab (iW true) (gv 1) (gv 6))) (aF (ab (gn true) (gv 4) (λ_=>M.ret .aD))))
  (au (cP 3 (λρ=>((aa (gv 4) (aa (gv 5) aN)) ρ).bind aR))
  (az 4 (λ_=>M.ret .aD)))
  (λρ=>M.ret (.nx ρ))))
abbrev E7 (P:PV) (w:Str) (ax:Int) (s:uO×Option Int) (e5 e6:Ent):ae:=[val P,val (.str w),val (.int ax),Ent.own (s.1.map c5),val (Nt s.2),e5,e6]
def JJ (hg:g m=cF S w) (s:uO×Option Int) (hz:s.1.length < 90000):NQ (E7 P w ax s (val (.int m)) (val (.tup (S.map PV.str))))= .ret (.nx (E7 P w ax (CN g m s) (val (.int m)) (val (.tup (S.map PV.str))))):=by
 obtain⟨acc,b⟩:=s
 have hc:(acc.map c5).length < 100000:=by rw[PD];dsimp only at hz;lia
 unfold NQ au CN
 rw[hg]
 have t1: ∀ (q:Bool) (y:PV) (e0 e2 e3 e5:Ent),cC (aF (ab (iW q) (λρ=>aq ρ 1) (λρ=>aq ρ 6))) (aF (ab (gn q) (λρ=>aq ρ 4) (λ_=>M.ret .aD))) [e0,val (.str w),e2,e3,val y,e5,val (.tup (S.map PV.str))]=if xor q (cF S w)=true then aF (ab (gn q) (λρ=>aq ρ 4) (λ_=>M.ret .aD)) [e0,val (.str w),e2,e3,val y,e5,val (.tup (S.map PV.str))] else .ret false:=λq y e0 e2 e3 e5=>by
  unfold cC
  have:aF (ab (iW q) (λρ=>aq ρ 1) (λρ=>aq ρ 6)) [e0,val (.str w),e2,e3,val y,e5,val (.tup (S.map PV.str))]= .ret (xor q (cF S w)):=by
   simp only[aF,ab,aL,aS,rZ,KS]
  rw[this,rZ]
 cases c:cF S w with
 |true=>
  cases b with
  |none=>
   rw[c9 (by rw[t1,c];rfl)]
   show (M.ret (Fl.nx (E7 P w ax (acc,some m) (val (.int m)) (val (.tup (S.map PV.str)))))).bind _=_
   rw[rZ]
   show cN _ _ _ _=_
   rw[cB (by rw[t1,c];rfl)]
   rfl
  |some x=>
   rw[cB (by rw[t1,c];rfl)]
   rw[rZ]
   show cN _ _ _ _=_
   rw[cB (by rw[t1,c];rfl)]
   rfl
 |false=>
  cases b with
  |none=>
   rw[cB (by rw[t1,c];rfl)]
   rw[rZ]
   show cN _ _ _ _=_
   rw[cB (by rw[t1,c];rfl)]
   simp
  |some x=>
   rw[cB (by rw[t1,c];rfl)]
   rw[rZ]
   show cN _ _ _ _=_
   rw[c9 (by rw[t1,c];rfl)]
   unfold cP
   simp only[P0,P1,aa,aL,aS,rZ,Nt,vS,Qv hc,Qp,if_false]
   simp[az,E7,Nt,c5]
def zC (g:Int->Bool) (m:Int) (s:uO×Option Int):(CN g m s).1.length<=s.1.length+1:=by
 unfold CN
 split
 ·simp
 ·cases s.2<;>simp
theorem zG {g:Int->Bool} {f:Int->List Str} (hg: ∀ m,g m=cF (f m) w): ∀ (τ:List Int) (s:uO×Option Int) (e5 e6:Ent),s.1.length+τ.length < 90000->
  ∃ e5' e6',bp (bJ [5,6]) NQ (τ.map λm=>.tup [.int m,.tup ((f m).map PV.str)]) (E7 P w ax s e5 e6)= .ret (.nx (E7 P w ax (Iu g τ s) e5' e6'))
 |[],s,e5,e6,_=>⟨e5,e6,rfl⟩
 |m::τ,s,e5,e6,hz=>by
  have sl:=zC g m s
  simp only[PY] at hz
  obtain⟨e5',e6',ih⟩:=zG hg τ (CN g m s) (val (.int m)) (val (.tup ((f m).map PV.str))) (by lia)
  refine⟨e5',e6',?_⟩
  rw[PQ]
  unfold bp
  have eb:bJ [5,6] (.tup [.int m,.tup ((f m).map PV.str)]) (E7 P w ax s e5 e6)= .ret (E7 P w ax s (val (.int m)) (val (.tup ((f m).map PV.str)))):=rfl
  rw[eb,rZ,JJ (hg m) s (by lia),rZ]
  exact ih
def AZ {g:Int->Bool} {f:Int->List Str} (hg: ∀ m,g m=cF (f m) w) {τ:List Int} (hz:τ.length < 80000):dO [.lst (τ.map λm=>.tup [.int m,.tup ((f m).map PV.str)]),.str w,.int ax]= .ret (.tup ((O9 ax (Iu g τ ([],none))).map c5)):=by
 obtain⟨P,eP⟩: ∃ P,P=PV.lst (τ.map λm=>.tup [.int m,.tup ((f m).map PV.str)]):=⟨_,rfl⟩
 obtain⟨e5,e6,lp⟩:=zG (P:=P) (w:=w) (ax:=ax) hg τ ([],none) un un (by simp;lia)
 have wl: ∀ (τ:List Int) (s:uO×Option Int),(Iu g τ s).1.length<=s.1.length+τ.length:=λτ=>by
  induction τ with
  |nil=>exact λs=>PM _
  |cons m τ ih=>
   intro s
   have h1:=ih (CN g m s)
   have h2:=zC g m s
   show (Iu g τ (CN g m s)).1.length<=_
   simp only[PY]
   lia
 have wl':=wl τ ([],none)
 rw[<-eP]
 unfold dO fu
 show (au _ _ [val P,val (.str w),val (.int ax),un,un,un,un]).bind bC=_
 refine ay (ρ':=[val P,val (.str w),val (.int ax),Ent.own [],un,un,un]) rfl ?_
 refine ay (ρ':=E7 P w ax ([],none) un un) rfl ?_
 refine ay (ρ':=E7 P w ax (Iu g τ ([],none)) e5 e6) ?_ ?_
 ·show aK _ (bJ [5,6]) NQ _=_
  unfold aK
  simp only[aL,rZ]
  rw[eP] at lp ⊢
  simp only[aH,rZ]
  exact lp
 generalize Iu g τ ([],none)=s at wl' ⊢
 obtain⟨acc,b⟩:=s
 have hc:(acc.map c5).length < 100000:=by
  rw[PD]
  simp at wl'
  lia
 cases b with
 |none=>
  refine ay (ρ':=E7 P w ax (acc,none) e5 e6) (cB rfl) ?_
  refine br (aU ?_)
  show _=M.ret (PV.tup ((acc++[]).map c5))
  rw[List.append_nil]
  rfl
 |some x=>
  refine ay (ρ':=E7 P w ax (acc++[(x,ax+1)],some x) e5 e6) ?_ ?_
  ·rw[c9 rfl]
   have ea:bM (.int ax) (.int 1)= .ret (.int (ax+1)):=rfl
   unfold cP
   simp only[P0,P1,aa,ab,aL,aS,rZ,Nt,ea,vS,Qv hc]
   simp[E7,Nt,c5]
  ·exact br (aU rfl)
noncomputable def NR:ae->M Fl:=(cN (cC (aF (ab (iW false) (gv 1) (gv 4))) (cC (aF (ab (bT true) (gb 2) (aE (λρ=>(aN ρ).bind aM)))) (aF (ab (bT false) (ab aw (ab aw (gb 2) (λρ=>((cI 1) ρ).bind h9)) (cI 1)) (gv 3)))))
  (vc 2 (λρ=>((cI 1) ρ).bind h9) (λρ=>((aa (ab aw (ab aw (gb 2) (λρ=>((cI 1) ρ).bind h9)) (cI 0)) (aa (ab bM (gv 3) (cI 1)) aN)) ρ).bind aR))
  (cN (aF (ab (iW false) (gv 1) (gv 4)))
  (cP 2 (λρ=>((aa (gv 3) (aa (ab bM (gv 3) (cI 1)) aN)) ρ).bind aR))
  (λρ=>M.ret (.nx ρ))))
abbrev zh (T:PV) (w:Str) (acc:uO) (e3 e4:Ent):ae:=[val T,val (.str w),Ent.own (acc.map c5),e3,e4]
def Fb (h:a ρ= .ret true):cC a b ρ=b ρ:=by unfold cC;rw[h];rfl
def Ja (h:a ρ= .ret false):cC a b ρ= .ret false:=by unfold cC;rw[h];rfl
def JP (hg:g t=cF S w) (hz:acc.length < 90000):NR (zh T w acc (val (.int t)) (val (.lst (S.map PV.str))))= .ret (.nx (zh T w (u6 g acc t) (val (.int t)) (val (.lst (S.map PV.str))))):=by
 have hc:(acc.map c5).length < 100000:=by rw[PD];lia
 have e1:aF (ab (iW false) (λρ=>aq ρ 1) (λρ=>aq ρ 4)) (zh T w acc (val (.int t)) (val (.lst (S.map PV.str))))= .ret (cF S w):=by
  simp only[aF,ab,aL,aS,rZ,gA,Bool.false_xor]
 have ea:bM (.int t) (.int 1)= .ret (.int (t+1)):=rfl
 have en:h9 (.int 1)= .ret (.int (-1)):=rfl
 have app:cP 2 (λρ=>((aa (λρ=>aq ρ 3) (aa (ab bM (λρ=>aq ρ 3) (λ_=>M.ret (.int 1))) (λ_=>M.ret []))) ρ).bind aR) (zh T w acc (val (.int t)) (val (.lst (S.map PV.str))))= .ret (.nx (zh T w (acc++[(t,t+1)]) (val (.int t)) (val (.lst (S.map PV.str))))):=by
  unfold cP
  simp only[P0,P1,aa,ab,aL,aS,rZ,ea,vS,Qv hc]
  simp[zh,c5]
 unfold NR
 cases c:cF S w with
 |false=>
  rw[cB (Ja (by rw[e1,c])),cB (by rw[e1,c]),zD (by rw[hg,c])]
 |true=>
  rcases List.eq_nil_or_concat acc with rfl|⟨l0,p,rfl⟩
  ·rw[cB ((Fb (by rw[e1,c])).trans (Ja rfl)),c9 (by rw[e1,c]),app,sI (by rw[hg,c]) (λp hp=>by simp at hp)]
  ·rw[List.concat_eq_append] at hc app hz e1 ⊢
   have ne:aF (ab (bT true) (λρ=>eZ ρ 2) (aE (λρ=>((λ_=>M.ret []) ρ).bind aM))) (zh T w (l0++[p]) (val (.int t)) (val (.lst (S.map PV.str))))= .ret true:=by
    simp only[aF,ab,aE,we,IS,rZ,GW]
    cases l0<;>rfl
   have ix:aw (.lst ((l0++[p]).map c5)) (.int (-1))= .ret (c5 p):=by
    rw[List.map_append]
    simp only[aw,PQ,List.map_nil,E8,M.bK]
   have ix1:aw (c5 p) (.int 1)= .ret (.int p.2):=by simp only[c5,aw,nW,M.bK]
   have Pd:aw (c5 p) (.int 0)= .ret (.int p.1):=by simp only[c5,aw,iZ,M.bK]
   have e2:cC (aF (ab (bT true) (λρ=>eZ ρ 2) (aE (λρ=>((λ_=>M.ret []) ρ).bind aM)))) (aF (ab (bT false) (ab aw (ab aw (λρ=>eZ ρ 2) (λρ=>((λ_=>M.ret (.int 1)) ρ).bind h9)) (λ_=>M.ret (.int 1))) (λρ=>aq ρ 3))) (zh T w (l0++[p]) (val (.int t)) (val (.lst (S.map PV.str))))= .ret (p.2==t):=by
    unfold cC
    rw[ne,rZ]
    simp only[aF,ab,we,IS,aL,aS,rZ,en,ix,ix1,Pe,if_true]
   by_cases d:p.2=t
   ·rw[c9 ((Fb (by rw[e1,c])).trans (by rw[e2];simp[d]))]
    have es:u6 g (l0++[p]) t=l0++[(p.1,t+1)]:=by
     have:p=(p.1,t):=by rw[<-d]
     rw[this]
     exact zE (by rw[hg,c])
    rw[es]
    unfold vc
    have el:uN ((l0++[p]).map c5).length (-1)=some l0.length:=by
     unfold uN
     rw[Qw (by decide),Qv (by simp;lia)]
     congr 1
     simp
     lia
    simp only[aa,ab,we,IS,aL,aS,rZ,en,ix,Pd,ea,vS,P0,P1,pL,el,M.bK]
    simp[zh,c5]
   ·rw[cB ((Fb (by rw[e1,c])).trans (by rw[e2];simp[d])),c9 (by rw[e1,c]),app,sI (by rw[hg,c]) (λq hq=>by
     simp at hq
     rw[<-hq]
     exact d)]
def FR (g:Int->Bool) (acc:uO) (t:Int):(u6 g acc t).length<=acc.length+1:=by
 unfold u6
 split
 ·split
  ·split
   ·simp
   ·simp
  ·simp
 ·lia
theorem oY (g:Int->Bool): ∀ n:Nat,(runN g n).length<=n
 |0=>PM _
 |n+1=>by
  have:=oY g n
  have:=FR g (runN g n) n
  show (u6 g (runN g n) n).length<=_
  lia
theorem zQ {g:Int->Bool} {f:Int->List Str} (hg: ∀ m,g m=cF (f m) w): ∀ (j k:Nat) (e3 e4:Ent),k+j < 80000->
  ∃ e3' e4',bp (bJ [3,4]) NR ((List.range' k j).map λi:Nat=>PV.tup [.int i,.lst ((f i).map PV.str)]) (zh T w (runN g k) e3 e4)= .ret (.nx (zh T w (runN g (k+j)) e3' e4'))
 |0,k,e3,e4,_=>⟨e3,e4,rfl⟩
 |j+1,k,e3,e4,hz=>by
  obtain⟨e3',e4',ih⟩:=zQ hg j (k+1) (val (.int k)) (val (.lst ((f k).map PV.str))) (by lia)
  refine⟨e3',e4',?_⟩
  rw[List.range'_succ,PQ]
  unfold bp
  have eb:bJ [3,4] (.tup [.int k,.lst ((f k).map PV.str)]) (zh T w (runN g k) e3 e4)= .ret (zh T w (runN g k) (val (.int k)) (val (.lst ((f k).map PV.str)))):=rfl
  have:=oY g k
  rw[eb,rZ,JP (hg k) (by lia),rZ]
  rw[show k+1+j=k+(j+1) by lia] at ih
  exact ih
def wq (F:Nat->PV) (n:Nat):jG ((List.range n).map F)=(List.range' 0 n).map λi:Nat=>PV.tup [.int i,F i]:=by
 unfold jG
 apply List.ext_getElem
 ·simp
 ·intro i h1 h2
  simp
def Ga {g:Int->Bool} {f:Int->List Str} (hg: ∀ m,g m=cF (f m) w) {n:Nat} (hn:n < 80000):fJ [.lst ((List.range n).map λi:Nat=>PV.lst ((f i).map PV.str)),.str w]= .ret (.tup ((runN g n).map c5)):=by
 obtain⟨T,eT⟩: ∃ T,T=PV.lst ((List.range n).map λi:Nat=>PV.lst ((f i).map PV.str)):=⟨_,rfl⟩
 obtain⟨e3,e4,lp⟩:=zQ (T:=T) (w:=w) hg n 0 un un (by lia)
 rw[Nat.zero_add] at lp
 rw[<-eT]
 unfold fJ kN
 show (au _ _ [val T,val (.str w),un,un,un]).bind bC=_
 refine ay (ρ':=zh T w [] un un) rfl ?_
 refine ay (ρ':=zh T w (runN g n) e3 e4) ?_ (br (aU rfl))
 show aK _ (bJ [3,4]) NR _=_
 unfold aK
 simp only[aa,aL,rZ]
 rw[eT] at lp ⊢
 simp only[yB,rZ,wq]
 exact lp
def CP (H:dv h ws ax) (hg:qp ws l ns) (hl:l.length<=24) (hd:ax<=40) {f:Int->List Str} (hf: ∀ t,qU h ws l t (f t)) (w:Str):
  lW [h,.tup (aI l),.str w]= .ret (.tup ((runN (λt=>cF (f t) w) (ax+1).toNat).map c5)):=by
 obtain⟨h0,h2⟩:=fS H
 obtain⟨τ,et,pw,hτ⟩:=uS H hg hl hd
 obtain⟨hm,_,_,_,_,d0,_⟩:=id H
 have z0:(0:Int)∈τ:=(hτ 0).mpr ⟨⟨Int.le_refl _,by lia⟩,PB⟩
 have tl:τ.length<=41:=lO 41 τ (pw.imp λ{a b} q z=>by lia) λi hi=>by
  have:=((hτ i).mp hi).1
  lia
 have cst: ∀ i∈τ,∀ t,i<=t->t<=ax->(∀ j∈τ,j<=t->j<=i)->cF (f t) w=cF (f i) w:=λi hi t q1 q2 q3=>by
  have c:=AK hg hτ ((hτ i).mp hi).1.1 q1 q2 q3
  rw[rG (vJ hg c) (hf t) (hf i)]
 obtain⟨r,rfl⟩: ∃ r,τ=0::r:=by
  match τ,z0 with
  |m::r,z0=>
   refine⟨r,?_⟩
   have m0:=((hτ m).mp PB).1.1
   rcases PR.mp z0 with e|z0
   ·rw[<-e]
   ·have:=(Qy.mp pw).1 0 z0
    lia
 have sr:=zF (g:=λt=>cF (f t) w) (ax:=ax) r 0 ([],none) pw (λi hi=>((hτ i).mp hi).1) cst ⟨rfl,λ_ p hp=>by cases hp⟩
 have st:fZ [h,.tup (aI l)]= .ret (.lst ((0::r).map λm=>.tup [.int m,.tup ((f m).map PV.str)])):=by
  unfold fZ jt
  show (aT _ [val h,val (.tup (aI l))]).bind bC=_
  refine br (aU ?_)
  have ec:de [none,some 0,some 1] (List.map Ent.freeze [val h,val (.tup (aI l))])=[un,val h,val (.tup (aI l))]:=rfl
  have q:=j4 (k:=0) (te:=λρ=>((aa (λρ=>aq ρ 0) (aa (λρ=>((aa (λρ=>aq ρ 1) (aa (λρ=>aq ρ 2) (aa (λρ=>aq ρ 0) (λ_=>M.ret [])))) ρ).bind bA) (λ_=>M.ret []))) ρ).bind aR) (f:=λy=>match y with| .int m=>.tup [.int m,.tup ((f m).map PV.str)]|_=>.aD) (ρ:=[un,val h,val (.tup (aI l))]) ((0::r).map PV.int) [un,val h,val (.tup (aI l))] (λ_=>rfl) (λy hy=>by
   obtain⟨m,_,rfl⟩:=PX.mp hy
   have ho:=(hf m).2.1
   simp only[PN,aa,aL,aS,rZ,ho,vS])
  unfold aE a8
  dsimp only
  rw[ec]
  simp only[PQ,List.map_nil,Ent.freeze,aa,aL,aS,rZ] at et q ⊢
  rw[et]
  simp only[rZ,aH]
  rw[Qv (by simp at tl ⊢;lia),q,rZ,List.map_map]
  rfl
 have wi:=AZ (w:=w) (ax:=ax) (g:=λt=>cF (f t) w) (f:=f) (λ_=>rfl) (τ:=0::r) (by lia)
 rw[sr] at wi
 unfold lW t5
 show (aT _ [val h,val (.tup (aI l)),val (.str w)]).bind bC=_
 refine br (aU ?_)
 simp only[PQ,List.map_nil,Ent.freeze,aa,ab,aL,aS,rZ] at st wi ⊢
 rw[st]
 simp only[rZ,h2,wi]
def G7 (hw: ∀ p∈ws,Wd p.1/\∃ kd q,p.2=PV.str kd::q) (nd:(ws.map (·.1)).Nodup) (hg:qp ws l ns): ∀ p∈ws,∃ kd q,p.2= .str kd::q/\((kd==("slope":Str))=false->fw l t p.1=none):=λp hp=>by
  obtain⟨_,kd,q,e⟩:=hw p hp
  refine⟨kd,q,e,λhk=>?_⟩
  unfold fw
  rcases gQ hg.1 "look" p.1 t with e'|⟨hm,n,hpt,hh⟩
  ·rw[e']
  ·exfalso
   obtain⟨z',m,r,e1,_⟩:=pN hpt hh
   have hz:z'=p.1:=by
    rw[e1] at hh
    simp[hit] at hh
    exact hh.1
   rcases hg.2 _ hm with⟨n',m',z'',rs,e2,hr⟩|⟨n',m',z'',i,e2⟩|⟨n',m',z'',q',e2,hs⟩
   ·rw[e1] at e2;exact(Ck e2 (by decide +kernel)).elim
   ·rw[e1] at e2;exact(Ck e2 (by decide +kernel)).elim
   ·rw[e1] at e2
    simp at e2
    have hz2:z''=p.1:=by rw[<-e2.2.2.1];exact hz
    rw[hz2] at hs
    have this:=congrArg Prod.snd (mI nd hs hp rfl)
    rw[e] at this
    simp at this
    rw[<-this.1] at hk
    exact absurd hk (by decide +kernel)
theorem E5: ∀ (rs:List Ru) (j i:Nat),bad g j rs= .int i->i < j+rs.length
 |[],j,i,e=>by cases e
 |r::rs,j,i,e=>by
  unfold bad at e
  cases c:g r with
  |true=>
   rw[Qv c] at e
   have:=E5 rs (j+1) i e
   simp only[PY]
   lia
  |false=>
   rw[Qw (by rw[c];decide)] at e
   injection e with e
   simp only[PY]
   lia
def oQ:nX 82 0 .aD:=⟨.none,by simp only[toD],by simp only[PyData.showable],by simp only[PyData.hasDict],by simp only[PyData.shown];decide,by simp only[PyData.depth];lia⟩
def yQ (g:Ru->Bool) (j:Nat):List Ru->List Int
 |[]=>[]
 |r::rs=>if g r=true then yQ g (j+1) rs else(j:Int)::yQ g (j+1) rs
theorem qi: ∀ (rs:List Ru) (j:Nat),bad g j rs=(match yQ g j rs with|[]=>.aD|i::_=>.int i)
 |[],j=>rfl
 |r::rs,j=>by
  unfold bad yQ
  cases c:g r with
  |true=>rw[Qv rfl,Qv rfl];exact qi rs (j+1)
  |false=>rw[Qw (by decide),Qw (by decide)]
def Iw (h:m ρ= .ret (.nx ρ')):au m k ρ=k ρ':=by unfold au;rw[h];rfl
def NT:ae->M Bool:=(pd (aF (λρ=>((aa (gv 2) (aa (ab aw (gv 3) (cI 0)) (aa (gv 1) (aa (gv 4) (aa (gv 5) aN))))) ρ).bind cj)))
noncomputable def NL:ae->M Fl:=(au (az 6 (λρ=>((aa (gv 1) (aa (ab aw (gv 5) (cI 0)) (aa (gv 3) aN))) ρ).bind bP))
  (au (az 7 (aE (a8 [none,none,some 1,some 5,some 3,some 2] (λρ=>((aa (gv 6) aN) ρ).bind qP) (bJ [0,1]) (pd (aF (λρ=>((aa (gv 2) (aa (ab aw (gv 3) (cI 0)) (aa (gv 1) (aa (gv 4) (aa (gv 5) aN))))) ρ).bind cj))) (gv 0))))
  (jH 4 (ab aw (gv 5) (cI 0)) (pM (aF (ab (bT true) (gv 7) (aE (λρ=>(aN ρ).bind aM)))) (ab aw (gv 7) (cI 0)) (λ_=>M.ret .aD)))))
section
variable {l:List PV} {ns:List Int} {t:Int} {h:PV} {S:List Str} {ws:List (Str×List PV)} {p:Str×List PV}
theorem Aj (h:bf l ns) (hn:l.length<=1000) (hr:Reads l): ∀ (rs:List Ru) (j:Nat) (e0 e1:Ent),pC (bJ [0,1]) NT (λρ=>aq ρ 0) (Fv j rs) [e0,e1,val (.lst l),val (aW p),val (.int t),val (.lst (S.map PV.str))]= .ret ((yQ (λr=>r.hold (i3 l t) (fw l t p.1) t (cF S)) j rs).map PV.int)
 |[],j,e0,e1=>rfl
 |r::rs,j,e0,e1=>by
  have ih:=Aj h hn hr rs (j+1) (val (.int j)) (val r.pv)
  have ix:aw (aW p) (.int 0)= .ret (.str p.1):=by simp only[aw,iZ,M.bK]
  have eb:bJ [0,1] (.tup [.int j,r.pv]) [e0,e1,val (.lst l),val (aW p),val (.int t),val (.lst (S.map PV.str))]= .ret [val (.int j),val r.pv,val (.lst l),val (aW p),val (.int t),val (.lst (S.map PV.str))]:=rfl
  have lh:=rL (nm:=p.1) (t:=t) (os:=S) h hn hr r
  have tst:NT [val (.int j),val r.pv,val (.lst l),val (aW p),val (.int t),val (.lst (S.map PV.str))]= .ret (!(r.hold (i3 l t) (fw l t p.1) t (cF S))):=by
   simp only[NT,pd,aF,aa,ab,aL,aS,rZ,ix,lh]
  unfold Fv pC
  rw[eb,rZ,tst,rZ]
  unfold yQ
  cases c:r.hold (i3 l t) (fw l t p.1) t (cF S) with
  |true=>
   rw[Qw (by decide),Qv rfl]
   exact ih
  |false=>
   rw[Qv (by decide),Qw (by decide)]
   simp only[aL,rZ,ih,PQ]
def LU (l:List PV) (S:List Str) (t:Int) (w:Str):PV:=bad (λr=>r.hold (i3 l t) (fw l t w) t (cF S)) 0 (dW (six l "rule" w t))
abbrev Fi (h:PV) (l:List PV) (S:List Str) (t:Int) (kv:List (Key×PV)) (e5 e6 e7:Ent):ae:=[val h,val (.lst l),val (.lst (S.map PV.str)),val (.int t),Ent.bt kv,e5,e6,e7]
def Gh (h: ∀ q∈kv,q.1≠k):nJ kv k y=kv++[(k,y)]:=by
 unfold nJ
 rw[Qw]
 simp only[List.any_eq_true,decide_eq_true_eq,not_exists,not_and]
 exact h
def Jm (hg:qp ws l ns) (hl:l.length<=1000) (hk: ∀ q∈kv,q.1≠kn p.1) (hz:kv.length < 1000) (e6 e7:Ent): ∃ e6' e7',NL (Fi h l S t kv (val (aW p)) e6 e7)= .ret (.nx (Fi h l S t (kv++[(kn p.1,LU l S t p.1)]) (val (aW p)) e6' e7')):=by
 have rp:=oZ hg hl p.1 t
 have ix:aw (aW p) (.int 0)= .ret (.str p.1):=by simp only[aw,iZ,M.bK]
 obtain⟨R,eR⟩: ∃ R,R=dW (six l "rule" p.1 t):=⟨_,rfl⟩
 unfold LU
 rw[<-eR] at rp ⊢
 obtain⟨fs,hfs⟩: ∃ fs,fs=yQ (λr=>r.hold (i3 l t) (fw l t p.1) t (cF S)) 0 R:=⟨_,rfl⟩
 refine⟨val (.tup (R.map Ru.pv)),val (.lst (fs.map PV.int)),?_⟩
 unfold NL
 rw[Iw (ρ':=Fi h l S t kv (val (aW p)) (val (.tup (R.map Ru.pv))) e7) (by
  simp only[az,aa,ab,aL,aS,rZ,ix,rp.2.2]
  rfl)]
 rw[Iw (ρ':=Fi h l S t kv (val (aW p)) (val (.tup (R.map Ru.pv))) (val (.lst (fs.map PV.int)))) (by
  have ec:de [none,none,some 1,some 5,some 3,some 2] (Fi h l S t kv (val (aW p)) (val (.tup (R.map Ru.pv))) e7)=[un,un,val (.lst l),val (aW p),val (.int t),val (.lst (S.map PV.str))]:=rfl
  have q:=Aj (p:=p) (S:=S) (t:=t) hg.1 hl (lz hg) R 0 un un
  have hlen:(Fv 0 R).length<=100000:=by
   rw[<-pX,mL,PD];lia
  show az 7 (aE (a8 [none,none,some 1,some 5,some 3,some 2] (λρ=>((aa (λρ=>aq ρ 6) (λ_=>M.ret [])) ρ).bind qP) (bJ [0,1]) NT (λρ=>aq ρ 0))) (Fi h l S t kv (val (aW p)) (val (.tup (R.map Ru.pv))) e7)=_
  simp only[az,aE,a8,aa,aL,aS,rZ,qP,pX,Qv hlen,ec]
  rw[q,<-hfs]
  rfl)]
 have ev:pM (aF (ab (bT true) (λρ=>aq ρ 7) (aE (λρ=>((λ_=>M.ret []) ρ).bind aM)))) (ab aw (λρ=>aq ρ 7) (λ_=>M.ret (.int 0))) (λ_=>M.ret .aD) (Fi h l S t kv (val (aW p)) (val (.tup (R.map Ru.pv))) (val (.lst (fs.map PV.int))))= .ret (bad (λr=>r.hold (i3 l t) (fw l t p.1) t (cF S)) 0 R):=by
  rw[qi,<-hfs]
  cases fs with
  |nil=>rw[Au rfl]
  |cons i fs=>
   rw[D6 rfl]
   simp only[ab,aL,aS,rZ,PQ,aw,iZ,M.bK]
 have hz':kv.length < 100000:=by lia
 unfold jH
 dsimp only at ev ⊢
 rw[ev]
 simp only[rZ,P0,P1,ab,aL,aS,ix,nQ,M.bK,Qv hz',Gh hk]
 rfl
theorem zk (hg:qp ws l ns) (hl:l.length<=1000): ∀ (vs:List (Str×List PV)) (kv:List (Key×PV)) (e5 e6 e7:Ent),(vs.map (·.1)).Nodup->(∀ p∈vs,∀ q∈kv,q.1≠kn p.1)->kv.length+vs.length < 1000->
  ∃ e5' e6' e7',bp (aA 5) NL (vs.map aW) (Fi h l S t kv e5 e6 e7)= .ret (.nx (Fi h l S t (kv++vs.map λp=>(kn p.1,LU l S t p.1)) e5' e6' e7'))
 |[],kv,e5,e6,e7,_,_,_=>⟨e5,e6,e7,by rw[List.map_nil,List.map_nil,List.append_nil];rfl⟩
 |p::vs,kv,e5,e6,e7,nd,hk,hz=>by
  simp only[PY] at hz
  rw[PQ,List.nodup_cons] at nd
  obtain⟨x6,x7,h1⟩:=Jm (h:=h) (S:=S) (t:=t) hg hl (hk p PB) (by lia) e6 e7
  obtain⟨e5',e6',e7',ih⟩:=zk hg hl vs (kv++[(kn p.1,LU l S t p.1)]) (val (aW p)) x6 x7 nd.2 (λq hq r hr=>by
   rcases Qu.mp hr with hr|hr
   ·exact hk q (PH _ hq) r hr
   ·rw[Qf.mp hr]
    intro e
    injection e with e
    exact nd.1 (PX.mpr ⟨q,hq,e.symm⟩)) (by rw[Qc,List.length_singleton];lia)
  refine⟨e5',e6',e7',?_⟩
  rw[PQ,PQ]
  unfold bp
  simp only[aA,rZ,Qo,PN]
  rw[h1,rZ]
  rw[List.append_assoc] at ih
  exact ih
def FD (H:dv h ws ax) (hg:qp ws l ns) (hl:l.length<=1000):fI [h,.lst l,.lst (S.map PV.str),.int t]= .ret (.cU (ws.map λp=>(kn p.1,LU l S t p.1))):=by
 obtain⟨h0,h2⟩:=fS H
 obtain⟨hm,_,w0,w1,hw,d0,d1,nd⟩:=H
 obtain⟨e5,e6,e7,lp⟩:=zk (h:=h) (S:=S) (t:=t) hg hl ws [] un un un nd (λp hp q hq=>absurd hq PU) (by simp only[List.length_nil];lia)
 unfold fI kM
 show (au _ _ [val h,val (.lst l),val (.lst (S.map PV.str)),val (.int t),un,un,un,un]).bind bC=_
 refine ay (ρ':=Fi h l S t [] un un un) rfl ?_
 refine ay (ρ':=Fi h l S t (ws.map λp=>(kn p.1,LU l S t p.1)) e5 e6 e7) ?_ (br (aU rfl))
 show aK _ (aA 5) NL _=_
 simp only[aK,ab,aL,aS,rZ,h0,aH]
 exact lp
theorem Cu {W:Str->PV} {w:Str}: ∀ {ws:List (Str×List PV)},w∈ws.map (·.1)->iS (ws.map λp=>(kn p.1,W p.1)) (kn w)=some (W w)
 |[],h=>absurd h PU
 |p::ws,h=>by
  unfold iS
  rw[PQ]
  by_cases c:p.1=w
  ·rw[List.find?_cons_of_pos (by rw[c];exact decide_eq_true rfl),c]
   rfl
  ·rw[List.find?_cons_of_neg (by
    rw[decide_eq_true_eq]
    intro e
    injection e with e
    exact c e)]
   rw[PQ] at h
   rcases PR.mp h with h|h
   ·exact absurd h.symm c
   ·exact Cu h
def Hv {W:Str->PV} {w:Str} (hw:w∈ws.map (·.1)):dU (.cU (ws.map λp=>(kn p.1,W p.1))) (.str w)= .ret (W w):=by
 simp only[dU,nQ,M.bK,rZ,Cu hw]
end
def gJ (l:List PV) (f:Int->List Str) (w:Str) (u:Int):PV:=bad (λr=>r.hold (i3 l u) (fw l u w) u (cF (f u))) 0 (dW (six l "rule" w u))
def Cq (H:dv h ws ax) (hg:qp ws l ns) (hl:l.length < 64) (hf: ∀ t,qU h ws l t (f t)) (hp:p∈ws) (u:Int):
  bg [h,.tup (aI l),.str p.1,.int u]= .ret (gJ l f p.1 u)/\gn false (gJ l f p.1 u) .aD= .ret (.bl (cF (f u) p.1))/\gn true (gJ l f p.1 u) .aD= .ret (.bl (!cF (f u) p.1))/\nX 82 0 (gJ l f p.1 u):=by
 obtain⟨hm,rfl,w0,w1,hw,d0,d1,nd⟩:=H
 have rp:=oZ hg (by lia) p.1 u
 obtain⟨kd,q,e,hk⟩:=G7 (t:=u) hw nd hg p hp
 refine⟨Jq (hm:=hm) (dk:=.int ax) (ru:=λz=>dW (six l "rule" z u)) hg.1 (lz hg) nd hp e hk (hf u).2.1 rp.2.1,?_⟩
 have m:p.1∈f u↔qM l u (f u) p.1=true:=by
  conv=>lhs;rw[(hf u).2.2.1]
  rw[Qt]
  exact⟨λh=>h.2,λh=>⟨Qh hp,h⟩⟩
 have inS:cF (f u) p.1=qM l u (f u) p.1:=by
  cases c:qM l u (f u) p.1 with
  |true=>exact iu.mpr (m.mpr c)
  |false=>
   cases c2:cF (f u) p.1 with
   |false=>rfl
   |true=>rw[m.mp (iu.mp c2)] at c;cases c
 rw[inS]
 unfold qM qN gJ
 rcases uA (g:=λr=>r.hold (i3 l u) (fw l u p.1) u (cF (f u))) (dW (six l "rule" p.1 u)) 0 with⟨hb,ha⟩|⟨i,hb,ha⟩
 ·rw[hb,ha]
  exact⟨rfl,rfl,oQ⟩
 ·have hi:=E5 (g:=λr=>r.hold (i3 l u) (fw l u p.1) u (cF (f u))) (dW (six l "rule" p.1 u)) 0 i hb
  rw[hb,ha]
  refine⟨rfl,rfl,si ?_⟩
  have:=rp.1
  rw[Int.natAbs_natCast]
  have h2:(7:Nat) < 10 ^ 61:=by decide
  lia
def oF:Option Int->PV
 |none=>.aD
 |some m=>.int m
def oW (W:Int->PV):Option Int->PV
 |none=>.aD
 |some m=>W m
def qF (g:Int->Bool) (W:Int->PV) (t:Int) (o:Option Int):PV:=if g t=true then .tup [.str "open",oF o,oW W o] else .tup [.str "shut",W t,oF o]
def iU (g:Int->Bool) (t m:Int):Bool:=g m !=g t
noncomputable def Ki:ae->M Fl:=(cN (aF (ab Cm (gv 5) (gv 3)))
  (au (az 6 (λρ=>((aa (gv 0) (aa (gv 1) (aa (gv 2) (aa (gv 5) aN)))) ρ).bind bg))
  (au (cN (cC (aF (ab (gn false) (gv 4) (λ_=>M.ret .aD))) (aF (ab (gn true) (gv 6) (λ_=>M.ret .aD))))
  (aT (λρ=>((aa (cS "open") (aa (gv 5) (aa (gv 6) aN))) ρ).bind aR))
  (λρ=>M.ret (.nx ρ)))
  (cN (cC (aF (ab (gn true) (gv 4) (λ_=>M.ret .aD))) (aF (ab (gn false) (gv 6) (λ_=>M.ret .aD))))
  (aT (λρ=>((aa (cS "shut") (aa (gv 4) (aa (gv 5) aN))) ρ).bind aR))
  (λρ=>M.ret (.nx ρ)))))
  (λρ=>M.ret (.nx ρ)))
section
variable {h B:PV} {w:Str} {g:Int->Bool} {W:Int->PV} {t:Int}
abbrev Cf (h B:PV) (w:Str) (t:Int) (y:PV) (e5 e6:Ent):ae:=[val h,val B,val (.str w),val (.int t),val y,e5,e6]
def Kh (hw: ∀ u,bg [h,B,.str w,.int u]= .ret (W u)) (hT: ∀ u,gn false (W u) .aD= .ret (.bl (g u))) (hF: ∀ u,gn true (W u) .aD= .ret (.bl (!g u))) (m:Int) (e6:Ent):
  ((decide (t < m)&&iU g t m)=true/\Ki (Cf h B w t (W t) (val (.int m)) e6)= .ret (.rt (qF g W t (some m))))\/((decide (t < m)&&iU g t m)=false/\∃ e6',Ki (Cf h B w t (W t) (val (.int m)) e6)= .ret (.nx (Cf h B w t (W t) (val (.int m)) e6'))):=by
 have gt:aF (ab Cm (λρ=>aq ρ 5) (λρ=>aq ρ 3)) (Cf h B w t (W t) (val (.int m)) e6)= .ret (decide (t < m)):=rfl
 unfold Ki
 by_cases c:t < m
 ·rw[c9 (by rw[gt,decide_eq_true c]),decide_eq_true c,Bool.true_and]
  have st:az 6 (λρ=>((aa (λρ=>aq ρ 0) (aa (λρ=>aq ρ 1) (aa (λρ=>aq ρ 2) (aa (λρ=>aq ρ 5) (λ_=>M.ret []))))) ρ).bind bg) (Cf h B w t (W t) (val (.int m)) e6)= .ret (.nx (Cf h B w t (W t) (val (.int m)) (val (W m)))):=by
   simp only[az,aa,aL,aS,rZ,hw]
   rfl
  have t1: ∀ (a b:Bool),cC (aF (ab (gn a) (λρ=>aq ρ 4) (λ_=>M.ret .aD))) (aF (ab (gn b) (λρ=>aq ρ 6) (λ_=>M.ret .aD))) (Cf h B w t (W t) (val (.int m)) (val (W m)))= .ret ((xor a (g t))&&(xor b (g m))):=λa b=>by
   cases a<;>cases b<;>(simp only[cC,aF,ab,aL,aS,rZ,hT,hF];cases g t<;>simp)
  unfold au
  rw[st,rZ]
  dsimp only
  unfold qF iU
  cases ct:g t with
  |true=>
   cases cm:g m with
   |true=>
    refine .inr ⟨rfl,val (W m),?_⟩
    rw[cB (by rw[t1,ct,cm];rfl),rZ]
    show cN _ _ _ _=_
    rw[cB (by rw[t1,ct,cm];rfl)]
   |false=>
    refine .inl ⟨rfl,?_⟩
    rw[c9 (by rw[t1,ct,cm];rfl),aU (y:=.tup [.str "open",.int m,W m]) (by
     simp only[PQ,List.map_nil,Ent.freeze,aa,aL,aS,rZ,vR])]
    rfl
  |false=>
   cases cm:g m with
   |true=>
    refine .inl ⟨rfl,?_⟩
    rw[cB (by rw[t1,ct,cm];rfl),rZ]
    show cN _ _ _ _=_
    rw[c9 (by rw[t1,ct,cm];rfl),aU (y:=.tup [.str "shut",W t,.int m]) (by
     simp only[PQ,List.map_nil,Ent.freeze,aa,aL,aS,rZ,vR])]
    rfl
   |false=>
    refine .inr ⟨rfl,val (W m),?_⟩
    rw[cB (by rw[t1,ct,cm];rfl),rZ]
    show cN _ _ _ _=_
    rw[cB (by rw[t1,ct,cm];rfl)]
 ·rw[cB (by rw[gt,Qb c]),Qb c,Bool.false_and]
  exact .inr ⟨rfl,e6,rfl⟩
theorem Ah (hw: ∀ u,bg [h,B,.str w,.int u]= .ret (W u)) (hT: ∀ u,gn false (W u) .aD= .ret (.bl (g u))) (hF: ∀ u,gn true (W u) .aD= .ret (.bl (!g u))): ∀ (τ:List Int) (e5 e6:Ent),
  (∃ m,τ.find? (λm=>decide (t < m)&&iU g t m)=some m/\bp (aA 5) Ki (τ.map PV.int) (Cf h B w t (W t) e5 e6)= .ret (.rt (qF g W t (some m))))\/(τ.find? (λm=>decide (t < m)&&iU g t m)=none/\∃ e5' e6',bp (aA 5) Ki (τ.map PV.int) (Cf h B w t (W t) e5 e6)= .ret (.nx (Cf h B w t (W t) e5' e6')))
 |[],e5,e6=>.inr ⟨rfl,e5,e6,rfl⟩
 |m::τ,e5,e6=>by
  rw[PQ]
  unfold bp
  simp only[aA,rZ,Qo,PN]
  rcases Kh (t:=t) hw hT hF m e6 with⟨c,st⟩|⟨c,e6',st⟩
  ·refine .inl ⟨m,List.find?_cons_of_pos (p:=λm=>decide (t < m)&&iU g t m) c,?_⟩
   rw[st]
   rfl
  ·rw[List.find?_cons_of_neg (p:=λm=>decide (t < m)&&iU g t m) (by rw[c];decide),st,rZ]
   exact Ah hw hT hF τ (val (.int m)) e6'
def ye (hw: ∀ u,bg [h,B,.str w,.int u]= .ret (W u)) (hT: ∀ u,gn false (W u) .aD= .ret (.bl (g u))) (hF: ∀ u,gn true (W u) .aD= .ret (.bl (!g u))) {τ:List Int} (hτ:j7 [h,B]= .ret (.lst (τ.map PV.int))):
  ff [h,B,.str w,.int t]= .ret (qF g W t (τ.find? λm=>decide (t < m)&&iU g t m)):=by
 unfold ff mD
 show (au _ _ [val h,val B,val (.str w),val (.int t),un,un,un]).bind bC=_
 refine ay (ρ':=Cf h B w t (W t) un un) ?_ ?_
 ·simp only[az,aa,aL,aS,rZ,hw]
  rfl
 rcases Ah (t:=t) hw hT hF τ un un with⟨m,e,lp⟩|⟨e,e5,e6,lp⟩
 ·rw[e]
  refine dB ?_
  show aK _ (aA 5) Ki _=_
  simp only[aK,aa,aL,aS,rZ,hτ,aH]
  exact lp
 ·rw[e]
  refine ay (ρ':=Cf h B w t (W t) e5 e6) ?_ ?_
  ·show aK _ (aA 5) Ki _=_
   simp only[aK,aa,aL,aS,rZ,hτ,aH]
   exact lp
  ·refine br (aU ?_)
   unfold qF pM
   have:aF (ab (gn false) (λρ=>aq ρ 4) (λ_=>M.ret .aD)) (List.map Ent.freeze (Cf h B w t (W t) e5 e6))= .ret (g t):=by
    simp only[PQ,List.map_nil,Ent.freeze,aF,ab,aL,aS,rZ,hT]
   rw[this,rZ]
   cases g t with
   |true=>rfl
   |false=>rfl
end
def N4 (g:Int->Bool) (t ax:Int):Option Int->Prop
 |none=> ∀ u,t < u->u<=ax->g u=g t
 |some m=>t < m/\m<=ax/\g m≠g t/\∀ u,t < u->u < m->g u=g t
theorem Hf: ∀ {o o':Option Int},N4 g t ax o->N4 g t ax o'->o=o'
 |none,none,_,_=>rfl
 |none,some m,h,h'=>absurd (h m h'.1 h'.2.1) h'.2.2.1
 |some m,none,h,h'=>absurd (h' m h.1 h.2.1) h.2.2.1
 |some m,some m',h,h'=>by
  rcases Int.lt_trichotomy m m' with c|c|c
  ·exact absurd (h'.2.2.2 m h.1 c) h.2.2.1
  ·rw[c]
  ·exact absurd (h.2.2.2 m' h'.1 c) h'.2.2.1
theorem rM: ∀ (τ:List Int),(∃ i∈τ,i<=u)->∃ i∈τ,i<=u/\∀ j∈τ,j<=u->j<=i
 |[],h=>by obtain⟨i,hi,_⟩:=h;exact absurd hi PU
 |x::τ,h=>by
  by_cases c: ∃ i∈τ,i<=u
  ·obtain⟨i,hi,h1,h2⟩:=rM τ c
   by_cases d:x<=u/\i < x
   ·refine⟨x,PB,d.1,λj hj hju=>?_⟩
    rcases PR.mp hj with rfl|hj
    ·lia
    ·have:=h2 j hj hju
     lia
   ·refine⟨i,PH _ hi,h1,λj hj hju=>?_⟩
    rcases PR.mp hj with rfl|hj
    ·lia
    ·exact h2 j hj hju
  ·obtain⟨i,hi,hiu⟩:=h
   rcases PR.mp hi with rfl|hi
   ·refine⟨i,PB,hiu,λj hj hju=>?_⟩
    rcases PR.mp hj with rfl|hj
    ·lia
    ·exact absurd ⟨j,hj,hju⟩ c
   ·exact absurd ⟨i,hi,hiu⟩ c
def BX {g:Int->Bool} {t ax:Int} {τ:List Int} (t0:0<=t) (pw:τ.Pairwise (· < ·)) (z0:(0:Int)∈τ) (hb: ∀ i∈τ,0<=i/\i<=ax) (cst: ∀ i∈τ,∀ u,i<=u->u<=ax->(∀ j∈τ,j<=u->j<=i)->g u=g i) (ht:t<=ax):N4 g t ax (τ.find? λm=>decide (t < m)&&iU g t m):=by
 have key: ∀ u,t < u->u<=ax->(∀ i∈τ,t < i->i<=u->g i=g t)->g u=g t:=λu h1 h2 h3=>by
  obtain⟨i,hi,q1,q2⟩:=rM (u:=u) τ ⟨0,z0,by lia⟩
  rw[cst i hi u q1 h2 q2]
  by_cases c:t < i
  ·exact h3 i hi c q1
  ·exact(cst i hi t (by lia) ht λj hj hjt=>q2 j hj (by lia)).symm
 cases e:τ.find? (λm=>decide (t < m)&&iU g t m) with
 |none=>
  rw[List.find?_eq_none] at e
  refine λu h1 h2=>key u h1 h2 λi hi hti hiu=>?_
  have:=e i hi
  rw[decide_eq_true hti,Bool.true_and] at this
  unfold iU at this
  simpa using this
 |some m=>
  obtain⟨c,as,bs,eq,ha⟩:=List.find?_eq_some_iff_append.mp e
  rw[Qk,decide_eq_true_eq] at c
  have hm:m∈τ:=by rw[eq];simp
  refine⟨c.1,(hb m hm).2,by simpa[iU] using c.2,λu h1 h2=>key u h1 (by have:=(hb m hm).2;lia) λi hi hti hiu=>?_⟩
  have him:i < m:=by lia
  have hia:i∈as:=by
   rw[eq] at hi pw
   rcases Qu.mp hi with hi|hi
   ·exact hi
   ·rcases PR.mp hi with rfl|hi
    ·lia
    ·have:=(Qy.mp (List.pairwise_append.mp pw).2.1).1 i hi
     lia
  have:=ha i hia
  rw[decide_eq_true hti,Bool.true_and] at this
  simpa[iU] using this
def Ei {t ax:Int} {n:Nat} (hn:(n:Int)=ax - t):N4 g t ax (((List.range n).map λi:Nat=>t+1+(i:Int)).find? λm=>iU g t m):=by
 have mem: ∀ u,t < u->u<=ax->u∈(List.range n).map λi:Nat=>t+1+(i:Int):=λu h1 h2=>PX.mpr ⟨(u - t - 1).toNat,List.mem_range.mpr (by lia),by lia⟩
 have bd: ∀ u∈(List.range n).map λi:Nat=>t+1+(i:Int),t < u/\u<=ax:=λu hu=>by
  obtain⟨i,hi,rfl⟩:=PX.mp hu
  have:=List.mem_range.mp hi
  lia
 have pw:((List.range n).map λi:Nat=>t+1+(i:Int)).Pairwise (· < ·):=by
  rw[List.pairwise_map]
  exact List.pairwise_lt_range.imp λ{a b} q=>by lia
 cases e:((List.range n).map λi:Nat=>t+1+(i:Int)).find? λm=>iU g t m with
 |none=>
  rw[List.find?_eq_none] at e
  exact λu h1 h2=>by simpa[iU] using e u (mem u h1 h2)
 |some m=>
  obtain⟨c,as,bs,eq,ha⟩:=List.find?_eq_some_iff_append.mp e
  have hm:m∈(List.range n).map λi:Nat=>t+1+(i:Int):=by rw[eq];simp
  have bm:=bd m hm
  refine⟨bm.1,bm.2,by simpa[iU] using c,λu h1 h2=>?_⟩
  have hu:=mem u h1 (by lia)
  have hua:u∈as:=by
   rw[eq] at hu pw
   rcases Qu.mp hu with hu|hu
   ·exact hu
   ·rcases PR.mp hu with rfl|hu
    ·lia
    ·have:=(Qy.mp (List.pairwise_append.mp pw).2.1).1 u hu
     lia
  simpa[iU] using ha u hua
def CF {n:Nat} {u:Int} (u0:0<=u) (u1:u < n):aw (.lst ((List.range n).map F)) (.int u)= .ret (F u.toNat):=by
 obtain⟨k,rfl⟩: ∃ k:Nat,u=k:=⟨u.toNat,by lia⟩
 have hk:k < n:=by lia
 have e:((List.range n).map F)[k]?=some (F k):=by simp[hk]
 simp only[aw,iH e,M.bK,Int.toNat_natCast]
def Lk {f:Int->List Str} {g:Int->Bool} {W:Int->PV} (hgf: ∀ u,g u=cF (f u) w) {ax t:Int} {n k:Nat} (hn:(n:Int)=ax+1) (hd:ax<=40) (t0:0<=t) (ht:t<=ax) (hk:(k:Int)=ax - t)
  (ta: ∀ u,0<=u->u<=ax->aw T (.int u)= .ret (.lst ((f u).map PV.str))) (tl:cY [T]= .ret (.int n)) (wt: ∀ u,0<=u->u<=ax->∃ D,aw WT (.int u)= .ret D/\dU D (.str w)= .ret (W u)):
  fg [T,WT,.str w,.int t]= .ret (qF g W t (((List.range k).map λi:Nat=>t+1+(i:Int)).find? λm=>iU g t m)):=by
 obtain⟨us,eus⟩: ∃ us,us=(List.range k).map λi:Nat=>t+1+(i:Int):=⟨_,rfl⟩
 have ub: ∀ u∈us,0<=u/\u<=ax:=λu hu=>by
  rw[eus] at hu
  obtain⟨i,hi,rfl⟩:=PX.mp hu
  have:=List.mem_range.mp hi
  lia
 rw[<-eus]
 have ea:bM (.int t) (.int 1)= .ret (.int (t+1)):=rfl
 have hkn:k<=41:=by lia
 have er:vp [.int (t+1),.int n]= .ret (us.map PV.int):=by
  have e1:((n:Int) - (t+1)).toNat=k:=by lia
  simp only[vp,Qv (by lia: -1000000<=t+1/\t+1<=10000000/\-1000000<=(n:Int)/\(n:Int)<=10000000/\(n:Int) - (t+1)<=100000),e1]
  rw[eus,List.map_map]
  rfl
 have ul:(us.map PV.int).length<=100000:=by rw[eus];simp;lia
 have inL: ∀ u,iW false (.str w) (.lst ((f u).map PV.str))= .ret (.bl (g u)):=λu=>by rw[gA,hgf];simp
 have ne: ∀ a b:Bool,bT true (.bl a) (.bl b)= .ret (.bl (a !=b)):=λa b=>by cases a<;>cases b<;>rfl
 unfold fg mE
 show (au _ _ [val T,val WT,val (.str w),val (.int t),un,un,un]).bind bC=_
 refine ay (ρ':=[val T,val WT,val (.str w),val (.int t),val (.bl (g t)),un,un]) ?_ ?_
 ·simp only[az,ab,aL,aS,rZ,ta t t0 ht,inL]
  rfl
 refine ay (ρ':=[val T,val WT,val (.str w),val (.int t),val (.bl (g t)),val (.lst ((us.filter λu=>iU g t u).map PV.int)),un]) ?_ ?_
 ·have ec:de [none,some 2,some 0,some 4] [val T,val WT,val (.str w),val (.int t),val (.bl (g t)),un,un]=[un,val (.str w),val T,val (.bl (g t))]:=rfl
  have q:=bS (k:=0) (tt:=aF (ab (bT true) (ab (iW false) (λρ=>aq ρ 1) (ab aw (λρ=>aq ρ 2) (λρ=>aq ρ 0))) (λρ=>aq ρ 3))) (te:=λρ=>aq ρ 0) (p:=λy=>match y with| .int u=>iU g t u|_=>false) (f:=λy=>y) (ρ:=[un,val (.str w),val T,val (.bl (g t))]) (us.map PV.int) [un,val (.str w),val T,val (.bl (g t))] (λ_=>rfl) (λy hy=>by
   obtain⟨u,hu,rfl⟩:=PX.mp hy
   have b:=ub u hu
   show _=M.ret (g u !=g t)
   simp only[aF,ab,PN,aL,aS,rZ,ta u b.1 b.2,inL,ne]) (λy hy _=>by
   simp only[PN,aL])
  unfold az aE a8
  dsimp only
  rw[ec]
  simp only[aa,ab,aL,aS,rZ,ea,tl,er] at q ⊢
  rw[Qv ul,q,rZ,List.map_id',List.filter_map]
  rfl
 have hd6:(us.filter λu=>iU g t u).head?=us.find? λu=>iU g t u:=List.head?_filter
 refine ay (ρ':=[val T,val WT,val (.str w),val (.int t),val (.bl (g t)),val (.lst ((us.filter λu=>iU g t u).map PV.int)),val (oF (us.find? λu=>iU g t u))]) ?_ ?_
 ·rw[<-hd6]
  cases us.filter λu=>iU g t u with
  |nil=>rfl
  |cons a r=>
   unfold az
   rw[D6 rfl]
   simp only[ab,aL,aS,rZ,PQ,aw,iZ,M.bK]
   rfl
 have ob: ∀ m,us.find? (λu=>iU g t u)=some m->0<=m/\m<=ax:=λm e=>ub m (List.mem_of_find?_eq_some e)
 generalize us.find? (λu=>iU g t u)=o at ob ⊢
 generalize (us.filter λu=>iU g t u).map PV.int=fs
 unfold qF
 have asg: ∀ b:Bool,aF (λρ=>aq ρ 4) [val T,val WT,val (.str w),val (.int t),val (.bl b),val (.lst fs),val (oF o)]= .ret b:=λb=>rfl
 cases c:g t with
 |true=>
  rw[Qv rfl]
  refine dB ?_
  rw[c9 (asg true)]
  refine aU ?_
  cases o with
  |none=>rfl
  |some m=>
   have b:=ob m rfl
   obtain⟨D,d1,d2⟩:=wt m b.1 b.2
   simp only[PQ,List.map_nil,Ent.freeze,aa,aL,aS,rZ]
   rw[Au rfl]
   simp only[ab,aa,aL,aS,rZ,oF,d1,d2,vR,oW]
 |false=>
  rw[Qw (by decide)]
  refine ay (ρ':=[val T,val WT,val (.str w),val (.int t),val (.bl false),val (.lst fs),val (oF o)]) (cB (asg false)) ?_
  refine br (aU ?_)
  obtain⟨D,d1,d2⟩:=wt t t0 ht
  simp only[PQ,List.map_nil,Ent.freeze,ab,aa,aL,aS,rZ,d1,d2,vR]
theorem zP (g:Int->Bool): ∀ (n:Nat) (p:Int×Int),p∈runN g n->(0<=p.1/\p.1<=n)/\(0<=p.2/\p.2<=n)
 |0,p,h=>absurd h PU
 |n+1,p,h=>by
  have h':p∈u6 g (runN g n) n:=h
  have ih:=zP g n
  have old: ∀ q,q∈runN g n->(0<=q.1/\q.1<=(n+1:Nat))/\(0<=q.2/\q.2<=(n+1:Nat)):=λq hq=>by
   have:=ih q hq
   lia
  have new: ∀ q:Int×Int,q=((n:Int),(n:Int)+1)->(0<=q.1/\q.1<=(n+1:Nat))/\(0<=q.2/\q.2<=(n+1:Nat)):=λq hq=>by
   rw[hq]
   dsimp only
   lia
  unfold u6 at h'
  split at h'
  ·split at h'
   ·rename_i q e
    have hq:=ih q (List.mem_of_getLast? e)
    split at h'
    ·rcases Qu.mp h' with h'|h'
     ·exact old p (List.dropLast_subset _ h')
     ·rw[Qf.mp h']
      dsimp only
      lia
    ·rcases Qu.mp h' with h'|h'
     ·exact old p h'
     ·exact new p (Qf.mp h')
   ·rcases Qu.mp h' with h'|h'
    ·exact old p h'
    ·exact new p (Qf.mp h')
  ·exact old p h'
def C2 (g:Int->Bool) (hn:n<=41):nX 8000 2 (.tup ((runN g n).map c5)):=by
 refine(j0 (c:=171) (dp:=1) (n:=41) (λz hz=>?_) ?_).mono (by lia) (by lia)
 ·obtain⟨p,hp,rfl⟩:=PX.mp hz
  have b:=zP g n p hp
  refine(j0 (c:=82) (dp:=0) (n:=2) (l:=[.int p.1,.int p.2]) (λz hz=>?_) (by simp)).mono (by lia) (by lia)
  simp only[PR,PU,or_false] at hz
  rcases hz with rfl|rfl<;>exact si (by lia)
 ·rw[PD]
  exact P7 (oY g n) hn
def Kr (h: ∀ z∈l,nX c dp z) (hd:dp<=18):bT true (.tup l) (.tup l)= .ret (.bl false):=by
 have e:qv 20 (.tup l) (.tup l)=some true:=by
  simp only[qv]
  refine lP l λz hz=>?_
  obtain⟨d,h1,_,_,_,h5⟩:=h z hz
  exact eq_self 19 z d h1 (by lia)
 unfold bT
 rw[e]
 rfl
def AI (h:z∈lR l a b):z∈l:=List.mem_of_mem_drop (List.mem_of_mem_take h)
def wM (l:List PV) (a b:Option Int):(lR l a b).length<=l.length:=by
 unfold lR
 rw[List.length_take,List.length_drop]
 lia
noncomputable def NW:ae->M Fl:=(cN (aF (ab (bT true) (λρ=>((aa (λρ=>((aa (gv 5) (aa (gv 7) (aa (ab aw (gv 10) (cI 0)) aN))) ρ).bind lW) aN) ρ).bind dD) (λρ=>((aa (λρ=>((aa (gv 8) (aa (ab aw (gv 10) (cI 0)) aN)) ρ).bind fJ) aN) ρ).bind dD)))
  (aT (λ_=>M.ret (.bl false)))
  (λρ=>M.ret (.nx ρ)))
noncomputable def OI:ae->M Fl:=(au (cN (aF (ab (bT true) (λρ=>((aa (gv 5) (aa (gv 7) (aa (gv 11) aN))) ρ).bind bA) (λρ=>((aa (ab aw (gv 8) (gv 11)) aN) ρ).bind j8)))
  (aT (λ_=>M.ret (.bl false)))
  (λρ=>M.ret (.nx ρ)))
  (au (aK (λρ=>((aE (qR (Ft CU (aE (a8 [none,some 8,some 11] (λρ=>((gv 2) ρ).bind aH) (aA 0) (aF (ab (iW true) (ab aw (gv 0) (cI 0)) (ab aw (gv 1) (gv 2)))) (ab aw (gv 0) (cI 0)))) (λ_=>M.ret none) (λρ=>((cI 4) ρ).bind λy=>(pL y).bind λi=>M.ret (some i))) (Ft CU (ab aw (gv 8) (gv 11)) (λ_=>M.ret none) (λρ=>((cI 1) ρ).bind λy=>(pL y).bind λi=>M.ret (some i))))) ρ).bind aH) (aA 12)
  (cN (aF (ab (bT true) (λρ=>((aa (λρ=>((aa (gv 5) (aa (gv 7) (aa (gv 12) (aa (gv 11) aN)))) ρ).bind bg) aN) ρ).bind dD) (λρ=>((aa (ab dU (ab aw (gv 9) (gv 11)) (gv 12)) aN) ρ).bind dD)))
  (aT (λ_=>M.ret (.bl false)))
  (λρ=>M.ret (.nx ρ))))
  (au (az 12 (ab aw (ab aw (gv 2) (λρ=>((aa (gv 1) (aa (λρ=>((aa (gv 2) aN) ρ).bind cY) aN)) ρ).bind af)) (cI 0)))
  (cN (aF (ab (bT true) (λρ=>((aa (λρ=>((aa (gv 5) (aa (gv 7) (aa (gv 12) (aa (gv 11) aN)))) ρ).bind ff) aN) ρ).bind dD) (λρ=>((aa (λρ=>((aa (gv 8) (aa (gv 9) (aa (gv 12) (aa (gv 11) aN)))) ρ).bind fg) aN) ρ).bind dD)))
  (aT (λ_=>M.ret (.bl false)))
  (λρ=>M.ret (.nx ρ))))))
noncomputable def NV:ae->M Fl:=(cN (aF (ab (bT true) (λρ=>((aa (λρ=>((aa (gv 5) (aa (gv 7) (aa (gv 12) (aa (gv 11) aN)))) ρ).bind bg) aN) ρ).bind dD) (λρ=>((aa (ab dU (ab aw (gv 9) (gv 11)) (gv 12)) aN) ρ).bind dD)))
  (aT (λ_=>M.ret (.bl false)))
  (λρ=>M.ret (.nx ρ)))
abbrev oG (ws:List (Str×List PV)) (hm dk h:PV) (l:List PV) (B T WT e10 e11 e12:Ent):ae:=[un,val .bD,val (.tup (ws.map aW)),val hm,val dk,val h,val (.lst l),B,T,WT,e10,e11,e12]
section
variable {h hm dk:PV} {ws:List (Str×List PV)} {ax:Int} {l:List PV} {ns:List Int} {f:Int->List Str} {n:Nat} {T WT:PV}
theorem zM (H:dv h ws ax) (hg:qp ws l ns) (hl:l.length<=24) (hd:ax<=40) (hf: ∀ t,qU h ws l t (f t)) (hn:n=(ax+1).toNat) (eT:T= .lst ((List.range n).map λi:Nat=>PV.lst ((f i).map PV.str))) (e11 e12:Ent): ∀ (vs:List (Str×List PV)) (e10:Ent),(∀ p∈vs,p∈ws)->
  ∃ e10',bp (aA 10) NW (vs.map aW) (oG ws hm dk h l (val (.tup (aI l))) (val T) (val WT) e10 e11 e12)= .ret (.nx (oG ws hm dk h l (val (.tup (aI l))) (val T) (val WT) e10' e11 e12))
 |[],e10,_=>⟨e10,rfl⟩
 |p::vs,e10,hs=>by
  obtain⟨e10',ih⟩:=zM H hg hl hd hf hn eT e11 e12 vs (val (aW p)) λq hq=>hs q (PH _ hq)
  refine⟨e10',?_⟩
  have one:NW (oG ws hm dk h l (val (.tup (aI l))) (val T) (val WT) (val (aW p)) e11 e12)= .ret (.nx (oG ws hm dk h l (val (.tup (aI l))) (val T) (val WT) (val (aW p)) e11 e12)):=by
   have ix:aw (aW p) (.int 0)= .ret (.str p.1):=by simp only[aw,iZ,M.bK]
   have e1:=CP H hg hl hd hf p.1
   have e2:=Ga (w:=p.1) (g:=λt=>cF (f t) p.1) (f:=f) (λ_=>rfl) (n:=n) (by lia)
   rw[<-hn] at e1
   rw[<-eT] at e2
   obtain⟨tx,rx⟩:=o1 (C2 (λt=>cF (f t) p.1) (by lia:n<=41)) rfl (by lia) (by lia)
   unfold NW
   refine cB ?_
   simp only[aF,aa,ab,aL,aS,rZ,ix,e1,e2,rx,Oy]
  rw[PQ]
  unfold bp
  simp only[aA,rZ,Qo,PN]
  rw[one,rZ]
  exact ih
theorem Ii (H:dv h ws ax) (hg:qp ws l ns) (hl:l.length < 64) (hf: ∀ t,qU h ws l t (f t)) (wt: ∀ w∈ws.map (·.1),∃ D,aw WT (.int t)= .ret D/\dU D (.str w)= .ret (gJ l f w t)) (e10:Ent): ∀ (zs:List PV) (e12:Ent),(∀ z∈zs,∃ p∈ws,z= .str p.1)->
  ∃ e12',bp (aA 12) NV zs (oG ws hm dk h l (val (.tup (aI l))) (val T) (val WT) e10 (val (.int t)) e12)= .ret (.nx (oG ws hm dk h l (val (.tup (aI l))) (val T) (val WT) e10 (val (.int t)) e12'))
 |[],e12,_=>⟨e12,rfl⟩
 |z::zs,e12,hs=>by
  obtain⟨p,hp,rfl⟩:=hs z PB
  obtain⟨e12',ih⟩:=Ii H hg hl hf wt e10 zs (val (.str p.1)) λq hq=>hs q (PH _ hq)
  refine⟨e12',?_⟩
  have one:NV (oG ws hm dk h l (val (.tup (aI l))) (val T) (val WT) e10 (val (.int t)) (val (.str p.1)))= .ret (.nx (oG ws hm dk h l (val (.tup (aI l))) (val T) (val WT) e10 (val (.int t)) (val (.str p.1)))):=by
   obtain⟨D,d1,d2⟩:=wt p.1 (Qh hp)
   have wa:=Cq H hg hl hf hp t
   have nl:Kq (gJ l f p.1 t)=true:=by
    unfold gJ
    rw[qi]
    split<;>rfl
   obtain⟨tx,rx⟩:=o1 wa.2.2.2 nl (by lia) (by lia)
   unfold NV
   refine cB ?_
   simp only[aF,aa,ab,aL,aS,rZ,wa.1,d1,d2,rx,Oy]
  unfold bp
  simp only[aA,rZ,Qo,PN]
  rw[one,rZ]
  exact ih
def Dz (H:dv h ws ax) (hg:qp ws l ns) (hl:l.length<=24) (hd:ax<=40) (hf: ∀ t,qU h ws l t (f t)) (hn:(n:Int)=ax+1) (ta: ∀ u,0<=u->u<=ax->aw T (.int u)= .ret (.lst ((f u).map PV.str))) (tl:cY [T]= .ret (.int n)) (hp:p∈ws) (wt: ∀ u,0<=u->u<=ax->∃ D,aw WT (.int u)= .ret D/\dU D (.str p.1)= .ret (gJ l f p.1 u)) (t0:0<=t) (ht:t<=ax):
  ∃ (y:PV) (tx:Str),ff [h,.tup (aI l),.str p.1,.int t]= .ret y/\fg [T,WT,.str p.1,.int t]= .ret y/\dD [y]= .ret (.str tx):=by
 have d0:1<=ax:=by obtain⟨_,_,_,_,_,d0,_⟩:=H;exact d0
 obtain⟨τ,et,pw,hτ⟩:=uS H hg hl hd
 have z0:(0:Int)∈τ:=(hτ 0).mpr ⟨⟨Int.le_refl _,by lia⟩,PB⟩
 have wa:=λu=>Cq H hg (by lia) hf hp u
 have e1:=ye (h:=h) (B:=.tup (aI l)) (w:=p.1) (g:=λu=>cF (f u) p.1) (W:=gJ l f p.1) (t:=t) (λu=>(wa u).1) (λu=>(wa u).2.1) (λu=>(wa u).2.2.1) et
 have e2:=Lk (f:=f) (w:=p.1) (g:=λu=>cF (f u) p.1) (W:=gJ l f p.1) (λ_=>rfl) (ax:=ax) (t:=t) (n:=n) (k:=(ax - t).toNat) hn hd t0 ht (by lia) ta tl wt
 have cst: ∀ i∈τ,∀ u,i<=u->u<=ax->(∀ j∈τ,j<=u->j<=i)->cF (f u) p.1=cF (f i) p.1:=λi hi u q1 q2 q3=>by
  have c:=AK hg hτ ((hτ i).mp hi).1.1 q1 q2 q3
  rw[rG (vJ hg c) (hf u) (hf i)]
 have f1:=BX (g:=λu=>cF (f u) p.1) t0 pw z0 (λi hi=>((hτ i).mp hi).1) cst ht
 have f2:=Ei (g:=λu=>cF (f u) p.1) (t:=t) (ax:=ax) (n:=(ax - t).toNat) (by lia)
 rw[<-Hf f1 f2] at e2
 generalize τ.find? (λm=>decide (t < m)&&iU (λu=>cF (f u) p.1) t m)=o at e1 e2 f1
 have ob: ∀ m,o=some m->0<=m/\m<=40:=λm e=>by
  rw[e] at f1
  have:=f1.1
  have:=f1.2.1
  lia
 have sF:nX 82 0 (oF o):=by
  cases o with
  |none=>exact oQ
  |some m=>exact si (by have:=ob m rfl;lia)
 have sW:nX 82 0 (oW (gJ l f p.1) o):=by
  cases o with
  |none=>exact oQ
  |some m=>exact(wa m).2.2.2
 have so:nX 300 1 (qF (λu=>cF (f u) p.1) (gJ l f p.1) t o)/\Kq (qF (λu=>cF (f u) p.1) (gJ l f p.1) t o)=true:=by
  unfold qF
  split
  ·refine⟨(j0 (c:=82) (dp:=0) (n:=3) (λz hz=>?_) (by simp)).mono (by lia) (by lia),rfl⟩
   simp only[PR,PU,or_false] at hz
   rcases hz with rfl|rfl|rfl
   ·exact ss (by decide)
   ·exact sF
   ·exact sW
  ·refine⟨(j0 (c:=82) (dp:=0) (n:=3) (λz hz=>?_) (by simp)).mono (by lia) (by lia),rfl⟩
   simp only[PR,PU,or_false] at hz
   rcases hz with rfl|rfl|rfl
   ·exact ss (by decide)
   ·exact(wa t).2.2.2
   ·exact sF
 obtain⟨tx,rx⟩:=o1 so.1 so.2 (by lia) (by lia)
 exact⟨_,tx,e1,e2,rx⟩
def Ml (H:dv h ws ax) (hg:qp ws l ns) (hl:l.length<=24) (hd:ax<=40) (hf: ∀ t,qU h ws l t (f t)) (hn:(n:Int)=ax+1) (ta: ∀ u,0<=u->u<=ax->aw T (.int u)= .ret (.lst ((f u).map PV.str))) (tl:cY [T]= .ret (.int n)) (wt: ∀ w∈ws.map (·.1),∀ u,0<=u->u<=ax->∃ D,aw WT (.int u)= .ret D/\dU D (.str w)= .ret (gJ l f w u)) (t0:0<=t) (ht:t<=ax) (e10 e12:Ent):
  Gen (OI (oG ws hm dk h l (val (.tup (aI l))) (val T) (val WT) e10 (val (.int t)) e12)) 1 λfl=> ∃ ρ',fl= .nx ρ'/\∃ e11' e12',ρ'=oG ws hm dk h l (val (.tup (aI l))) (val T) (val WT) e10 e11' e12':=by
 obtain⟨hm',_,w0,w1,hw,d0,d1,nd⟩:=id H
 have fs: ∀ x∈f t,x∈ws.map (·.1):=λx hx=>by
  rw[(hf t).2.2.1] at hx
  exact(Qt.mp hx).1
 have fl:(f t).length<=12:=by
  rw[(hf t).2.2.1]
  exact P7 (List.length_filter_le _ _) (by rw[PD];exact w1)
 unfold OI
 refine Gen.le (gC (c:=0) (d:=1) (I:=λρ=>ρ=oG ws hm dk h l (val (.tup (aI l))) (val T) (val WT) e10 (val (.int t)) e12) (wc (cB ?_) rfl) ?_) (by decide)
 ·have ne:=Kr (c:=82) (dp:=0) (l:=(f t).map PV.str) (λz hz=>by
   obtain⟨x,hx,rfl⟩:=PX.mp hz
   obtain⟨p,hp,rfl⟩:=PX.mp (fs x hx)
   exact ss (hw p hp).1.sh) (by decide)
  have et:j8 [.lst ((f t).map PV.str)]= .ret (.tup ((f t).map PV.str)):=rfl
  simp only[aF,aa,ab,aL,aS,rZ,(hf t).2.1,ta t t0 ht,et,ne]
 rintro _ rfl
 refine Gen.le (gC (c:=0) (d:=1) (I:=λρ=> ∃ e12',ρ=oG ws hm dk h l (val (.tup (aI l))) (val T) (val WT) e10 (val (.int t)) e12') ?_ ?_) (by decide)
 ·have ec:de [none,some 8,some 11] (oG ws hm dk h l (val (.tup (aI l))) (val T) (val WT) e10 (val (.int t)) e12)=[un,val T,val (.int t)]:=rfl
  have q:=bS (k:=0) (tt:=aF (ab (iW true) (ab aw (λρ=>aq ρ 0) (λ_=>M.ret (.int 0))) (ab aw (λρ=>aq ρ 1) (λρ=>aq ρ 2)))) (te:=ab aw (λρ=>aq ρ 0) (λ_=>M.ret (.int 0))) (p:=λy=>match y with| .tup (.str x::_)=>!cF (f t) x|_=>false) (f:=λy=>match y with| .tup (x::_)=>x|_=>.aD) (ρ:=[un,val T,val (.int t)]) (ws.map aW) [un,val T,val (.int t)] (λ_=>rfl) (λy hy=>by
   obtain⟨p,hp,rfl⟩:=PX.mp hy
   have ix:aw (aW p) (.int 0)= .ret (.str p.1):=by simp only[aw,iZ,M.bK]
   simp only[aF,ab,PN,aL,aS,rZ,ix,ta t t0 ht,gA,Bool.true_xor]) (λy hy _=>by
   obtain⟨p,hp,rfl⟩:=PX.mp hy
   simp only[ab,PN,aL,aS,rZ,aw,iZ,M.bK])
  obtain⟨A,eA⟩: ∃ A,A=((ws.map aW).filter λy=>match y with| .tup (.str x::_)=>!cF (f t) x|_=>false).map λy=>match y with| .tup (x::_)=>x|_=>PV.aD:=⟨_,rfl⟩
  have hA: ∀ z∈A,∃ p∈ws,z= .str p.1:=λz hz=>by
   rw[eA] at hz
   obtain⟨y,hy,rfl⟩:=PX.mp hz
   obtain⟨p,hp,rfl⟩:=PX.mp (Qt.mp hy).1
   exact⟨p,hp,rfl⟩
  have lA:A.length<=12:=by
   rw[eA,PD]
   exact P7 (List.length_filter_le _ _) (by rw[PD];exact w1)
  rw[<-eA] at q
  have hlen:(ws.map aW).length<=100000:=by rw[PD];lia
  have c1:=wM A none (some 4)
  have c2:=wM ((f t).map PV.str) none (some 1)
  rw[PD] at c2
  have hc:(lR A none (some 4)).length+(lR ((f t).map PV.str) none (some 1)).length<=100000:=by lia
  obtain⟨e12',lp⟩:=Ii (hm:=hm) (dk:=dk) (T:=T) H hg (by lia) hf (λw hw=>wt w hw t t0 ht) e10 (lR A none (some 4)++lR ((f t).map PV.str) none (some 1)) e12 (λz hz=>by
   rcases Qu.mp hz with hz|hz
   ·exact hA z (AI hz)
   ·obtain⟨x,hx,rfl⟩:=PX.mp (AI hz)
    obtain⟨p,hp,rfl⟩:=PX.mp (fs x hx)
    exact⟨p,hp,rfl⟩)
  refine wc (ρ':=oG ws hm dk h l (val (.tup (aI l))) (val T) (val WT) e10 (val (.int t)) e12') ?_ ⟨e12',rfl⟩
  show aK _ (aA 12) NV _=_
  unfold aK aE qR a8 Ft
  dsimp only
  rw[ec]
  simp only[ab,aL,aS,rZ,aH] at q ⊢
  rw[Qv hlen,q]
  simp only[rZ,pL,CU,ta t t0 ht,Qv hc,aH]
  exact lp
 rintro _ ⟨e12',rfl⟩
 refine Gen.le (gC (c:=1) (d:=0) (I:=λρ=> ∃ p∈ws,ρ=oG ws hm dk h l (val (.tup (aI l))) (val T) (val WT) e10 (val (.int t)) (val (.str p.1))) ?_ ?_) (by decide)
 ·have el:cY [.tup (ws.map aW)]= .ret (.int ws.length):=by
   show M.ret (PV.int (((ws.map aW).length:Nat)))=_
   rw[PD]
  simp only[az,aa,ab,aL,aS,rZ,af,el,M.bZ]
  refine Gen.le (Gen.bind (Gen.draw (by lia) (by lia)) (d:=0) ?_) (by decide)
  rintro _ ⟨i,rfl,i0,i1⟩
  obtain⟨y,hy,e⟩:=eO (l:=ws.map aW) i0 (by rw[PD];exact i1)
  obtain⟨p,hp,rfl⟩:=PX.mp hy
  refine Gen.eq (y:=.nx _) ?_ ⟨_,rfl,p,hp,rfl⟩
  simp only[aw,e,M.bK,rZ,iZ]
  rfl
 rintro _ ⟨p,hp,rfl⟩
 obtain⟨y,tx,q1,q2,q3⟩:=Dz H hg hl hd hf hn ta tl hp (λu=>wt p.1 (Qh hp) u) t0 ht
 refine wc (cB ?_) ⟨_,_,rfl⟩
 simp only[aF,aa,ab,aL,aS,rZ,q1,q2,q3,Oy]
end
theorem zq (H:dv h ws ax) (hg:qp ws l ns) (hl:l.length<=1000): ∀ (j k:Nat) (e0 e1:Ent),pC (bJ [0,1]) cx (λρ=>((aa (λρ=>aq ρ 2) (aa (λρ=>aq ρ 3) (aa (λρ=>aq ρ 1) (aa (λρ=>aq ρ 0) (λ_=>M.ret []))))) ρ).bind fI) ((List.range' k j).map λi:Nat=>PV.tup [.int i,.lst ((f i).map PV.str)]) [e0,e1,val h,val (.lst l)]= .ret ((List.range' k j).map λi:Nat=>PV.cU (ws.map λp=>(kn p.1,gJ l f p.1 i)))
 |0,k,e0,e1=>rfl
 |j+1,k,e0,e1=>by
  have ih:=zq (f:=f) H hg hl j (k+1) (val (.int k)) (val (.lst ((f k).map PV.str)))
  have w:=FD (S:=f k) (t:=(k:Int)) H hg hl
  have eb:bJ [0,1] (.tup [.int k,.lst ((f k).map PV.str)]) [e0,e1,val h,val (.lst l)]= .ret [val (.int k),val (.lst ((f k).map PV.str)),val h,val (.lst l)]:=rfl
  rw[List.range'_succ,PQ,PQ]
  unfold pC
  rw[eb,rZ]
  simp only[cx,rZ,if_true,aa,aL,aS,w] at ih ⊢
  rw[ih]
  rfl
def DX:(pj ((List.replicate 13 un).set 1 (.val .bD))).wp 1000000 λf _=>f= .rt (.bl true):=by
 have g:Gen (pj ((List.replicate 13 un).set 1 (.val .bD))) 3000 (λf=>f= .rt (.bl true)):=by
  show Gen (pj [un,val .bD,un,un,un,un,un,un,un,un,un,un,un]) 3000 _
  unfold pj
  refine Gen.le (gC (c:=301) (d:=2600) (I:=λρ=> ∃ (hm:PV) (ws:List (Str×List PV)) (ax:Int),dv (.tup [.tup (ws.map aW),hm,.int ax]) ws ax/\ρ=[un,val .bD,val (.tup (ws.map aW)),val hm,val (.int ax),un,un,un,un,un,un,un,un]) ?_ ?_) (by decide)
  ·simp only[Cy,aE,aa,ab,aL,aS,rZ,OD,af,M.bZ]
   refine Gen.le (Gen.bind (Gen.draw (by lia) (by lia)) (d:=300) ?_) (by decide)
   rintro _ ⟨k,rfl,k0,k1⟩
   obtain⟨most,em,m0,m1⟩: ∃ most:Int,aw (.lst [.int 4,.int 6,.int 12]) (.int k)= .ret (.int most)/\1<=most/\most<=12:=by
    rcases(by lia:k=0\/k=1\/k=2) with rfl|rfl|rfl
    ·exact⟨4,rfl,by decide,by decide⟩
    ·exact⟨6,rfl,by decide,by decide⟩
    ·exact⟨12,rfl,by decide,by decide⟩
   simp only[em,rZ]
   refine Gen.le (Gen.bind (Eg (most:=most) (sc:=1) m0 m1 (by decide) (by decide)) (d:=0) ?_) (by decide)
   rintro h ⟨ws,ax,H⟩
   obtain⟨hm,rfl,r⟩:=id H
   exact Gen.eq (y:=.nx _) rfl ⟨_,rfl,hm,ws,ax,H,rfl⟩
  rintro _ ⟨hm,ws,ax,H,rfl⟩
  obtain⟨_,_,w0,w1,hw,d0,d1,nd⟩:=id H
  refine Gen.le (gC (c:=1) (d:=2000) (I:=λρ=> ∃ d:Int,1<=d/\d<=12/\ρ=[un,val .bD,val (.tup (ws.map aW)),val hm,val (.int ax),val (.tup [.tup (ws.map aW),hm,.int d]),un,un,un,un,un,un,un]) ?_ ?_) (by decide)
  ·simp only[az,aa,ab,aL,aS,rZ,af,M.bZ]
   refine Gen.le (Gen.bind (Gen.draw (by lia) (by lia)) (d:=0) ?_) (by decide)
   rintro _ ⟨k,rfl,k0,k1⟩
   have ea:bM (.int 3) (.int k)= .ret (.int (3+k)):=rfl
   obtain⟨d,ed,db0,db1⟩: ∃ d:Int,ph [.int ax,.int (3+k)]= .ret (.int d)/\1<=d/\d<=12:=⟨if 3+k < ax then 3+k else ax,rfl,by split<;>lia,by split<;>lia⟩
   refine Gen.eq (y:=.nx _) ?_ ⟨_,rfl,d,db0,db1,rfl⟩
   simp only[ea,rZ,ed,vR]
   rfl
  rintro _ ⟨d,db0,db1,rfl⟩
  have H':dv (.tup [.tup (ws.map aW),hm,.int d]) ws d:=⟨hm,rfl,w0,w1,hw,db0,by lia,nd⟩
  obtain⟨h,eh⟩: ∃ h,h=PV.tup [.tup (ws.map aW),hm,.int d]:=⟨_,rfl⟩
  rw[<-eh] at H' ⊢
  obtain⟨h0,h2⟩:=fS H'
  refine Gen.le (gC (c:=1500) (d:=100) (I:=λρ=> ∃ l ns,l.length<=24/\qp ws l ns/\ρ=oG ws hm (.int ax) h l un un un un un un) ?_ ?_) (by decide)
  ·simp only[az,aa,aL,aS,rZ,af,M.bZ]
   refine Gen.le (Gen.bind (Gen.draw (by lia) (by lia)) (d:=1499) ?_) (by decide)
   rintro _ ⟨k,rfl,k0,k1⟩
   refine Gen.le (Gen.bind (BV (sc:=1) H' (by decide) (by decide) k0 (by lia)) (d:=0) ?_) (by lia)
   rintro _ ⟨l,ns,rfl,hl,hg⟩
   exact Gen.eq (y:=.nx _) rfl ⟨_,rfl,l,ns,by lia,hg,rfl⟩
  rintro _ ⟨l,ns,hl,hg,rfl⟩
  obtain⟨f,hf⟩: ∃ f:Int->List Str,∀ t,qU h ws l t (f t):=⟨λt=>Classical.choose (Ae H' hg (by lia) t),λt=>Classical.choose_spec (Ae H' hg (by lia) t)⟩
  obtain⟨n,hn⟩: ∃ n:Nat,n=(d+1).toNat:=⟨_,rfl⟩
  have nI:(n:Int)=d+1:=by lia
  refine Gen.le (gC (c:=0) (d:=100) (I:=λρ=>ρ=oG ws hm (.int ax) h l (val (.tup (aI l))) un un un un un) (wc ?_ rfl) ?_) (by decide)
  ·simp only[az,aa,aL,aS,rZ,HH hg.1 (by lia:l.length < 64)]
   rfl
  rintro _ rfl
  have ea:bM (.int d) (.int 1)= .ret (.int (d+1)):=rfl
  have er:bX [.int (d+1)]= .ret (bx 0 n):=by simp only[bX,Qv (by lia: -1000000<=d+1/\d+1<=100000),hn]
  obtain⟨T,eT⟩: ∃ T,T=PV.lst ((List.range n).map λi:Nat=>PV.lst ((f i).map PV.str)):=⟨_,rfl⟩
  refine Gen.le (gC (c:=0) (d:=100) (I:=λρ=>ρ=oG ws hm (.int ax) h l (val (.tup (aI l))) (val T) un un un un) (wc ?_ rfl) ?_) (by decide)
  ·have ec:de [none,some 5,some 6] (oG ws hm (.int ax) h l (val (.tup (aI l))) un un un un un)=[un,val h,val (.lst l)]:=rfl
   have q:=j4 (k:=0) (te:=λρ=>((aa (λρ=>aq ρ 1) (aa (λρ=>aq ρ 2) (aa (λρ=>aq ρ 0) (λ_=>M.ret [])))) ρ).bind d6) (f:=λy=>match y with| .int m=>.lst ((f m).map PV.str)|_=>.aD) (ρ:=[un,val h,val (.lst l)]) (bx 0 n) [un,val h,val (.lst l)] (λ_=>rfl) (λy hy=>by
    obtain⟨m,_,rfl⟩:=PX.mp hy
    have ho:=(hf (0+(m:Int))).1
    simp only[PN,aa,aL,aS,rZ,ho])
   have em:(bx 0 n).map (λy=>match y with|PV.int m=>PV.lst ((f m).map PV.str)|_=>.aD)=(List.range n).map λi:Nat=>PV.lst ((f i).map PV.str):=by
    unfold bx
    rw[List.map_map]
    refine List.map_congr_left λi _=>?_
    show PV.lst ((f (0+(i:Int))).map PV.str)=_
    rw[Int.zero_add]
   have hlen:(bx 0 n).length<=100000:=by simp[bx];lia
   unfold az aE a8
   dsimp only
   rw[ec]
   simp only[aa,ab,aL,aS,rZ,h2,ea,er] at q ⊢
   rw[Qv hlen,q,rZ,em,<-eT]
   rfl
  rintro _ rfl
  obtain⟨WT,eW⟩: ∃ WT,WT=PV.lst ((List.range n).map λi:Nat=>PV.cU (ws.map λp=>(kn p.1,gJ l f p.1 i))):=⟨_,rfl⟩
  refine Gen.le (gC (c:=0) (d:=100) (I:=λρ=>ρ=oG ws hm (.int ax) h l (val (.tup (aI l))) (val T) (val WT) un un un) (wc ?_ rfl) ?_) (by decide)
  ·have ec:de [none,none,some 5,some 6] (oG ws hm (.int ax) h l (val (.tup (aI l))) (val T) un un un un)=[un,un,val h,val (.lst l)]:=rfl
   have q:=zq (h:=h) (l:=l) (ns:=ns) (f:=f) H' hg (by lia) n 0 un un
   unfold az aE a8
   dsimp only
   rw[ec,eT]
   simp only[aa,aL,aS,rZ,yB,wq] at q ⊢
   rw[Qv (by simp;lia),q,rZ,eW,List.range_eq_range']
   rfl
  rintro _ rfl
  have ta: ∀ u,0<=u->u<=d->aw T (.int u)= .ret (.lst ((f u).map PV.str)):=λu q1 q2=>by
   rw[eT,CF q1 (by lia)]
   rw[show ((u.toNat:Nat):Int)=u by lia]
  have tl:cY [T]= .ret (.int n):=by
   rw[eT]
   show M.ret (PV.int (((List.range n).map λi:Nat=>PV.lst ((f i).map PV.str)).length:Nat))=_
   simp
  have wt: ∀ w∈ws.map (·.1),∀ u,0<=u->u<=d->∃ D,aw WT (.int u)= .ret D/\dU D (.str w)= .ret (gJ l f w u):=λw hw' u q1 q2=>by
   refine⟨_,by rw[eW,CF q1 (by lia)],?_⟩
   rw[show ((u.toNat:Nat):Int)=u by lia]
   exact Hv (W:=λx=>gJ l f x u) hw'
  refine Gen.le (gC (c:=0) (d:=100) (I:=λρ=> ∃ e10,ρ=oG ws hm (.int ax) h l (val (.tup (aI l))) (val T) (val WT) e10 un un) ?_ ?_) (by decide)
  ·obtain⟨e10,lp⟩:=zM (hm:=hm) (dk:=.int ax) (WT:=WT) H' hg hl (by lia) hf hn eT un un ws un λp hp=>hp
   refine wc (ρ':=oG ws hm (.int ax) h l (val (.tup (aI l))) (val T) (val WT) e10 un un) ?_ ⟨e10,rfl⟩
   show aK _ (aA 10) NW _=_
   simp only[aK,aL,aS,rZ,aH]
   exact lp
  rintro _ ⟨e10,rfl⟩
  refine Gen.le (gC (c:=50) (d:=0) (I:=λ_=>True) ?_ ?_) (by decide)
  ·show Gen (aK _ (aA 11) OI _) _ _
   simp only[aK,aa,ab,aL,aS,rZ,h2,ea,er]
   refine Gen.mono (Gen.M8 (c:=1) (Iv:=λρ=> ∃ e11 e12,ρ=oG ws hm (.int ax) h l (val (.tup (aI l))) (val T) (val WT) e10 e11 e12) (bx 0 n) _ ⟨_,_,rfl⟩ λy hy ρ hρ=>?_) (by simp[bx];lia) λfl hfl=>by
    obtain⟨ρ',e,_⟩:=hfl
    exact⟨ρ',e,trivial⟩
   obtain⟨m,hm',rfl⟩:=PX.mp hy
   obtain⟨e11,e12,rfl⟩:=hρ
   have hm2:=List.mem_range.mp hm'
   exact Ml (hm:=hm) (dk:=.int ax) H' hg hl (by lia) hf nI ta tl wt (t:=0+(m:Int)) (by lia) (by lia) e10 e12
  intro ρ _
  exact Gen.eq (y:=.rt (.bl true)) (aU rfl) rfl
 exact M.wp_mono (g.h 1000000 (by decide)) λf n h=>h.2
def NM {α:Type} {us:List α} (h:us.length=1): ∃ a,us=[a]:=by
 match us,h with
 |[a],_=>exact⟨_,rfl⟩
def Il {α:Type} {us:List α} (h:us.length=2): ∃ a b,us=[a,b]:=by
 match us,h with
 |[a,b],_=>exact⟨_,_,rfl⟩
def A2 {α:Type} {us:List α} (h:us.length=3): ∃ a b c,us=[a,b,c]:=by
 match us,h with
 |[a,b,c],_=>exact⟨_,_,_,rfl⟩
def Fs {α:Type} {us:List α} (h:us.length=4): ∃ a b c d,us=[a,b,c,d]:=by
 match us,h with
 |[a,b,c,d],_=>exact⟨_,_,_,_,rfl⟩
def Pj {α:Type} {us:List α} (h:us.length=5): ∃ a b c d e,us=[a,b,c,d,e]:=by
 match us,h with
 |[a,b,c,d,e],_=>exact⟨_,_,_,_,_,rfl⟩
def all_mk {l:PySem.W.OpenLaw} {w:World} {K:Frag} {h:Heap} {mg:Str->Option Value} {q:Program} {fa jO jS mR lg jR iJ iK gm fF iL jQ k9 iI uK jP fE uL mS j6 qj yR uC yW ql yU qk uE k7 k6 uF uD yV yS E6 yT sC cf ak cb ah:Addr} (X:K.In h) (G:h.Ns mainGlobals mg) (hfa:mg "law"=some (.ref fa))
  {od27 an27 od28 an28 od35 an35:Option Addr} {sl27 sl28 sl35:Array (Option Value)} {oc27 kV27 dc27 pm27 cd27 ct27 oc28 kV28 dc28 pm28 cd28 ct28 oc35 kV35 dc35 pm35 cd35 ct35:Value}
  (w0:cV K "way_named" jc jO)
  (w1:cV K "last_page" jk jS)
  (w2:cV K "reading" l7 mR)
  (w3:cV K "rules_at" kr lg)
  (w4:cV K "looked_at" jf jR)
  (w5:cV K "post_holds" gU iJ)
  (w6:cV K "look_holds" gV iK)
  (w7:cV K "holds_alone" gf gm)
  (w8:cV K "others_asked" fj fF)
  (w9:cV K "found_open" gZ iL)
  (w10:cV K "open_ways" je jQ)
  (w11:cV K "why_shut" kq k9)
  (w12:cV K "rule_turns" gR iI)
  (w13:cV K "turns" tf uK)
  (w14:cV K "stretches" jd jP)
  (w15:cV K "spans_within" fi fE)
  (w16:cV K "spans" tj uL)
  (w17:cV K "outlook" l8 mS)
  (w18:cV K "_law_start" eD j6)
  (w19:cV K "_law_pick" kC qj)
  (w20:cV K "_law_word" ku yR)
  (w21:cV K "_law_words" jg uC)
  (w22:cV K "_law_hill" kF yW)
  (w23:cV K "_law_moment" gX ql)
  (w24:cV K "_law_rule" kA yU)
  (w25:cV K "_law_number" gW qk)
  (w26:cV K "_law_pages" ji uE)
  (x27:nsIn K mainGlobals "_law_book"=some (some (.ref k7))) (l27:K.lookup k7=some ⟨oc27,od27,.func (fnOf "_law_book" "_law_book" (d7 cn) (bo cn) (ao cn) .none kV27 dc27 pm27 an27 cd27 ct27),sl27⟩) (c27:codeIn K cd27 "_law_book"=true) (k27:keepIn K (.ref k7)=true)
  (x28:nsIn K mainGlobals "_law_page"=some (some (.ref k6))) (l28:K.lookup k6=some ⟨oc28,od28,.func (fnOf "_law_page" "_law_page" (d7 bQ) (bo bQ) (ao bQ) .none kV28 dc28 pm28 an28 cd28 ct28),sl28⟩) (c28:codeIn K cd28 "_law_page"=true) (k28:keepIn K (.ref k6)=true)
  (w29:cV K "_law_holds" jj uF)
  (w30:cV K "_law_rules" jh uD)
  (w31:cV K "_law_open" kE yV)
  (w32:cV K "_law_whys" kx yS)
  (w33:cV K "_law_due" l9 E6)
  (w34:cV K "_law_runs" kz yT)
  (x35:nsIn K mainGlobals "law"=some (some (.ref sC))) (l35:K.lookup sC=some ⟨oc35,od35,.func (fnOf "law" "law" (d7 fQ) (bo fQ) (ao fQ) .none kV35 dc35 pm35 an35 cd35 ct35),sl35⟩) (c35:codeIn K cd35 "law"=true) (k35:keepIn K (.ref sC)=true)
  (z0:nsIn K mainGlobals "len"=some none)
  (z1:nsIn K mainGlobals "abs"=some none)
  (z2:nsIn K mainGlobals "all"=some none)
  (z3:nsIn K mainGlobals "range"=some none)
  (z4:nsIn K mainGlobals "int"=some none)
  (z5:nsIn K mainGlobals "tuple"=some none)
  (z6:nsIn K mainGlobals "max"=some none)
  (z7:nsIn K mainGlobals "min"=some none)
  (z8:nsIn K mainGlobals "sorted"=some none)
  (z9:nsIn K mainGlobals "enumerate"=some none)
  (z10:nsIn K mainGlobals "reversed"=some none)
  (z11:nsIn K mainGlobals "repr"=some none)
  {ov27:Value} {oo27:Option Addr} {fv27:Array Value} {os27:Array (Option Value)} (tc27:cd27= .ref cf) (tv27:K.lookup cf=some ⟨ov27,oo27,.fields fv27,os27⟩) (tw27:fv27[11]?=some (Value.ref ak)) (tt27:PySem.W.tabIn K "_law_book"=some (cf,ak)) (th27:PySem.W.codeHdIn K cf ak=true) (tn27:K.lookup ak=none) (tr27:((recsOf q).find? λr=>r.name==("_law_book":Str)).isSome=true)
  {ov28:Value} {oo28:Option Addr} {fv28:Array Value} {os28:Array (Option Value)} (tc28:cd28= .ref cb) (tv28:K.lookup cb=some ⟨ov28,oo28,.fields fv28,os28⟩) (tw28:fv28[11]?=some (Value.ref ah)) (tt28:PySem.W.tabIn K "_law_page"=some (cb,ah)) (th28:PySem.W.codeHdIn K cb ah=true) (tn28:K.lookup ah=none) (tr28:((recsOf q).find? λr=>r.name==("_law_page":Str)).isSome=true) (cA:ak≠ah) (cz:ah≠ak):
  ∃ (fd:FuncData) (ts:List (Str×Addr×Addr)),(∀ e∈ts,PySem.W.tabIn K e.1=some e.2/\K.lookup e.2.2=none/\((recsOf q).find? λr=>r.name==e.1).isSome=true)/\(∀ (s:Shared) (v:Value),BindsTo s fd ⟨[v],[]⟩ [("_law_script",v)])/\∀ base:Heap,K.In base->base.Ns mainGlobals mg->FA base mg->di l.prog w K mg base i5 9 fa fd ["_law_script"] (l6 K (ts.map (·.2.2))):=by
 subst tc27
 subst tc28
 have e:=hfa.symm.trans (Qs X G x35)
 cases e
 obtain⟨_,F0⟩:=w0.F
 have b0:=F0.binds (ps:=["hill","name"]) λ_ _ _ _ _ _ us hl=>by obtain⟨_,_,rfl⟩:=Il hl;rfl
 obtain⟨_,F1⟩:=w1.F
 have b1:=F1.binds (ps:=["book","kind","name","t"]) λ_ _ _ _ _ _ us hl=>by obtain⟨_,_,_,_,rfl⟩:=Fs hl;rfl
 obtain⟨_,F2⟩:=w2.F
 have b2:=F2.binds (ps:=["book","post","t"]) λ_ _ _ _ _ _ us hl=>by obtain⟨_,_,_,rfl⟩:=A2 hl;rfl
 obtain⟨_,F3⟩:=w3.F
 have b3:=F3.binds (ps:=["book","w","t"]) λ_ _ _ _ _ _ us hl=>by obtain⟨_,_,_,rfl⟩:=A2 hl;rfl
 obtain⟨_,F4⟩:=w4.F
 have b4:=F4.binds (ps:=["book","w","t"]) λ_ _ _ _ _ _ us hl=>by obtain⟨_,_,_,rfl⟩:=A2 hl;rfl
 obtain⟨_,F5⟩:=w5.F
 have b5:=F5.binds (ps:=["book","rule","t"]) λ_ _ _ _ _ _ us hl=>by obtain⟨_,_,_,rfl⟩:=A2 hl;rfl
 obtain⟨_,F6⟩:=w6.F
 have b6:=F6.binds (ps:=["book","way","n","t"]) λ_ _ _ _ _ _ us hl=>by obtain⟨_,_,_,_,rfl⟩:=Fs hl;rfl
 obtain⟨_,F7⟩:=w7.F
 have b7:=F7.binds (ps:=["book","way","rule","t"]) λ_ _ _ _ _ _ us hl=>by obtain⟨_,_,_,_,rfl⟩:=Fs hl;rfl
 obtain⟨_,F8⟩:=w8.F
 have b8:=F8.binds (ps:=["book","way","t"]) λ_ _ _ _ _ _ us hl=>by obtain⟨_,_,_,rfl⟩:=A2 hl;rfl
 obtain⟨_,F9⟩:=w9.F
 have b9:=F9.binds (ps:=["asked"]) λ_ _ _ _ _ _ us hl=>by obtain⟨_,rfl⟩:=NM hl;rfl
 obtain⟨_,F10⟩:=w10.F
 have b10:=F10.binds (ps:=["hill","book","t"]) λ_ _ _ _ _ _ us hl=>by obtain⟨_,_,_,rfl⟩:=A2 hl;rfl
 obtain⟨_,F11⟩:=w11.F
 have b11:=F11.binds (ps:=["hill","book","w","t"]) λ_ _ _ _ _ _ us hl=>by obtain⟨_,_,_,_,rfl⟩:=Fs hl;rfl
 obtain⟨_,F12⟩:=w12.F
 have b12:=F12.binds (ps:=["book","w","rule"]) λ_ _ _ _ _ _ us hl=>by obtain⟨_,_,_,rfl⟩:=A2 hl;rfl
 obtain⟨_,F13⟩:=w13.F
 have b13:=F13.binds (ps:=["hill","book"]) λ_ _ _ _ _ _ us hl=>by obtain⟨_,_,rfl⟩:=Il hl;rfl
 obtain⟨_,F14⟩:=w14.F
 have b14:=F14.binds (ps:=["hill","book"]) λ_ _ _ _ _ _ us hl=>by obtain⟨_,_,rfl⟩:=Il hl;rfl
 obtain⟨_,F15⟩:=w15.F
 have b15:=F15.binds (ps:=["parts","w","dark"]) λ_ _ _ _ _ _ us hl=>by obtain⟨_,_,_,rfl⟩:=A2 hl;rfl
 obtain⟨_,F16⟩:=w16.F
 have b16:=F16.binds (ps:=["hill","book","w"]) λ_ _ _ _ _ _ us hl=>by obtain⟨_,_,_,rfl⟩:=A2 hl;rfl
 obtain⟨_,F17⟩:=w17.F
 have b17:=F17.binds (ps:=["hill","book","w","t"]) λ_ _ _ _ _ _ us hl=>by obtain⟨_,_,_,_,rfl⟩:=Fs hl;rfl
 obtain⟨_,F18⟩:=w18.F
 have b18:=F18.binds (ps:=["_law_script"]) λ_ _ _ _ _ _ us hl=>by obtain⟨_,rfl⟩:=NM hl;rfl
 obtain⟨_,F19⟩:=w19.F
 have b19:=F19.binds (ps:=["_law_state","_law_many"]) λ_ _ _ _ _ _ us hl=>by obtain⟨_,_,rfl⟩:=Il hl;rfl
 obtain⟨_,F20⟩:=w20.F
 have b20:=F20.binds (ps:=["_law_state","_law_taken"]) λ_ _ _ _ _ _ us hl=>by obtain⟨_,_,rfl⟩:=Il hl;rfl
 obtain⟨_,F21⟩:=w21.F
 have b21:=F21.binds (ps:=["_law_state","_law_many"]) λ_ _ _ _ _ _ us hl=>by obtain⟨_,_,rfl⟩:=Il hl;rfl
 obtain⟨_,F22⟩:=w22.F
 have b22:=F22.binds (ps:=["_law_state","_law_most","_law_scale"]) λ_ _ _ _ _ _ us hl=>by obtain⟨_,_,_,rfl⟩:=A2 hl;rfl
 obtain⟨_,F23⟩:=w23.F
 have b23:=F23.binds (ps:=["_law_state","_law_hill_here","_law_scale"]) λ_ _ _ _ _ _ us hl=>by obtain⟨_,_,_,rfl⟩:=A2 hl;rfl
 obtain⟨_,F24⟩:=w24.F
 have b24:=F24.binds (ps:=["_law_state","_law_hill_here","_law_posts","_law_scale"]) λ_ _ _ _ _ _ us hl=>by obtain⟨_,_,_,_,rfl⟩:=Fs hl;rfl
 obtain⟨_,F25⟩:=w25.F
 have b25:=F25.binds (ps:=["_law_state","_law_taken"]) λ_ _ _ _ _ _ us hl=>by obtain⟨_,_,rfl⟩:=Il hl;rfl
 obtain⟨_,F26⟩:=w26.F
 have b26:=F26.binds (ps:=["_law_state","_law_hill_here","_law_scale","_law_many"]) λ_ _ _ _ _ _ us hl=>by obtain⟨_,_,_,_,rfl⟩:=Fs hl;rfl
 have F27:=uf (st:=cn) l27 c27 k27
 have b27:=F27.binds (ps:=["_law_pages_here"]) λ_ _ _ _ _ _ us hl=>by obtain⟨_,rfl⟩:=NM hl;rfl
 have F28:=uf (st:=bQ) l28 c28 k28
 have b28:=F28.binds (ps:=["_law_pages_here","_law_kind","_law_name","_law_t"]) λ_ _ _ _ _ _ us hl=>by obtain⟨_,_,_,_,rfl⟩:=Fs hl;rfl
 obtain⟨_,F29⟩:=w29.F
 have b29:=F29.binds (ps:=["_law_pages_here","_law_name","_law_rule_here","_law_t","_law_opened"]) λ_ _ _ _ _ _ us hl=>by obtain⟨_,_,_,_,_,rfl⟩:=Pj hl;rfl
 obtain⟨_,F30⟩:=w30.F
 have b30:=F30.binds (ps:=["_law_pages_here","_law_name","_law_t"]) λ_ _ _ _ _ _ us hl=>by obtain⟨_,_,_,rfl⟩:=A2 hl;rfl
 obtain⟨_,F31⟩:=w31.F
 have b31:=F31.binds (ps:=["_law_hill_here","_law_pages_here","_law_t"]) λ_ _ _ _ _ _ us hl=>by obtain⟨_,_,_,rfl⟩:=A2 hl;rfl
 obtain⟨_,F32⟩:=w32.F
 have b32:=F32.binds (ps:=["_law_hill_here","_law_pages_here","_law_opened","_law_t"]) λ_ _ _ _ _ _ us hl=>by obtain⟨_,_,_,_,rfl⟩:=Fs hl;rfl
 obtain⟨_,F33⟩:=w33.F
 have b33:=F33.binds (ps:=["_law_table","_law_whys_here","_law_w","_law_t"]) λ_ _ _ _ _ _ us hl=>by obtain⟨_,_,_,_,rfl⟩:=Fs hl;rfl
 obtain⟨_,F34⟩:=w34.F
 have b34:=F34.binds (ps:=["_law_table","_law_w"]) λ_ _ _ _ _ _ us hl=>by obtain⟨_,_,rfl⟩:=Il hl;rfl
 have F35:=uf (st:=fQ) l35 c35 k35
 have b35:=F35.binds (ps:=["_law_script"]) λ_ _ _ _ _ _ us hl=>by obtain⟨_,rfl⟩:=NM hl;rfl
 have T:Txt K mg ⟨_,_,_,_,_,_,_,_,_,_,_,_,_,_,_,_,_,_,_,_,_,_,_,_,_,_,_,_,_,_,_,_,_,_,_,_,cf,ak,cb,ah⟩ ⟨_,_,_,_,_,_,_,_,_,_,_,_,_,_,_,_,_,_,_,_,_,_,_,_,_,_,_,_,_,_,_,_,_,_,_,_⟩:=⟨⟨F0,Qs X G w0.n,b0⟩,⟨F1,Qs X G w1.n,b1⟩,⟨F2,Qs X G w2.n,b2⟩,⟨F3,Qs X G w3.n,b3⟩,⟨F4,Qs X G w4.n,b4⟩,⟨F5,Qs X G w5.n,b5⟩,⟨F6,Qs X G w6.n,b6⟩,⟨F7,Qs X G w7.n,b7⟩,⟨F8,Qs X G w8.n,b8⟩,⟨F9,Qs X G w9.n,b9⟩,⟨F10,Qs X G w10.n,b10⟩,⟨F11,Qs X G w11.n,b11⟩,⟨F12,Qs X G w12.n,b12⟩,⟨F13,Qs X G w13.n,b13⟩,⟨F14,Qs X G w14.n,b14⟩,⟨F15,Qs X G w15.n,b15⟩,⟨F16,Qs X G w16.n,b16⟩,⟨F17,Qs X G w17.n,b17⟩,⟨F18,Qs X G w18.n,b18⟩,⟨F19,Qs X G w19.n,b19⟩,⟨F20,Qs X G w20.n,b20⟩,⟨F21,Qs X G w21.n,b21⟩,⟨F22,Qs X G w22.n,b22⟩,⟨F23,Qs X G w23.n,b23⟩,⟨F24,Qs X G w24.n,b24⟩,⟨F25,Qs X G w25.n,b25⟩,⟨F26,Qs X G w26.n,b26⟩,⟨F27,Qs X G x27,b27⟩,⟨F28,Qs X G x28,b28⟩,⟨F29,Qs X G w29.n,b29⟩,⟨F30,Qs X G w30.n,b30⟩,⟨F31,Qs X G w31.n,b31⟩,⟨F32,Qs X G w32.n,b32⟩,⟨F33,Qs X G w33.n,b33⟩,⟨F34,Qs X G w34.n,b34⟩,⟨F35,Qs X G x35,b35⟩,Qr X G z0,Qr X G z1,Qr X G z2,Qr X G z3,Qr X G z4,Qr X G z5,Qr X G z6,Qr X G z7,Qr X G z8,Qr X G z9,Qr X G z10,Qr X G z11,⟨⟨_,_,_,_,_,_,_,_,rfl,l27,c27⟩,th27⟩,⟨⟨_,_,_,_,_,_,_,_,rfl,l28,c28⟩,th28⟩,cA,cz⟩
 refine⟨fnOf "law" "law" (d7 fQ) (bo fQ) (ao fQ) .none kV35 dc35 pm35 an35 cd35 ct35,[("_law_book",cf,ak),("_law_page",cb,ah)],?_,λs v=>.of_eq rfl,λbase kb _ hB=>?_⟩
 ·intro e he
  simp only[PR,PU,or_false] at he
  rcases he with rfl|rfl
  ·exact⟨tt27,tn27,tr27⟩
  ·exact⟨tt28,tn28,tr28⟩
 show di _ _ _ _ _ _ _ _ _ _ (l6 K [ak,ah])
 have ar:=B1 (φ:=cO ak ah K) (GK (P:=l.prog) (w:=w) (base:=base) T)
 have jW:=DH (P:=l.prog) (w:=w) (base:=base) T
 exact Kj T ar kb hB jW DX
def walk {l:PySem.W.OpenLaw} {q:Program} {loose:List Str} {XP:(Str->Option Value)->Heap->Prop} {YP:World->Heap->Prop} {d:DefRec} {K:Params->Frag} (hn:l.most=some 63) (hdf:d.params.defaults=[])
  (hY: ∀ (w:World) (h:Heap),YP w h->(K w.params).In h)
  (F: ∀ (w:World) (mg:Str->Option Value) (fa:Addr) (h:Heap),(K w.params).In h->h.Ns mainGlobals mg->mg d.name=some (.ref fa)->
   ∃ (fd:FuncData) (ts:List (Str×Addr×Addr)),(∀ e∈ts,PySem.W.tabIn (K w.params) e.1=some e.2/\(K w.params).lookup e.2.2=none/\((recsOf q).find? λr=>r.name==e.1).isSome=true)/\(∀ (s:Shared) (u:Value),BindsTo s fd ⟨[u],[]⟩ [("_law_script",u)])/\
    ∀ base:Heap,(K w.params).In base->base.Ns mainGlobals mg->FA base mg->di l.prog w (K w.params) mg base i5 9 fa fd ["_law_script"] (l6 (K w.params) (ts.map (·.2.2)))):
  PySem.W.WalkO q loose XP YP l.row.toRowW d [] (λf vs=>PySem.call f vs):=
 L2.A1 (n:=63) (k:=9) (x:="_law_script") (CX:=λ_=>i5) (sp:=λw tbs=>l6 (K w.params) tbs) hn (by decide) hdf ⟨rfl,by decide,by decide,rfl⟩ hY F (λ_ _ a ns tbs hl ht hS=>⟨a,ns,rfl,hS,hl,ht,λ_=>rfl⟩) λ_ _ _ _ _ z=>z
end K80
end
def PySem.W.Fast.tw15197293758908242530:=0
def PySem.W.Fast.tw14347935468424112199:=0
def PySem.W.Fast.tw13398754404490874058:=0
def PySem.W.Fast.tw9299447872920106248:=0
def PySem.W.Fast.tw10829117816346719743:=0
def PySem.W.Fast.tw3940669815895294037:=0
def PySem.W.Fast.tw11417164958124567352:=0
def PySem.W.Fast.tw10267063649786200886:=0
def PySem.W.Fast.tw3164882617725616971:=0
def PySem.W.Fast.tw6788508395957695109:=0
def PySem.W.Fast.tw14611712273451131669:=0
def PySem.W.Fast.tw7731283460607816680:=0
open PySem PySem.W PyProof.Rows
set_option maxRecDepth 100000 in
set_option maxHeartbeats 0 in
theorem PySem.Challenge.cw_homeslopes_k80_whole_open_at_every_momen_holds : PySem.Challenge.rw_homeslopes_k80_whole_open_at_every_momen.Holds := by
 w_on;o_law;k_head;(case hw=>w_witness2)
 k_fill
 refine K80.walk (l:=PySem.Challenge.rw_homeslopes_k80_whole_open_at_every_momen) rfl rfl (fun w h Y=>PySem.W.km_in_of Y) ?F
 case F=>
  intro w mg fa h KX G hmg
  refine' K80.all_mk KX G hmg ?w0 ?w1 ?w2 ?w3 ?w4 ?w5 ?w6 ?w7 ?w8 ?w9 ?w10 ?w11 ?w12 ?w13 ?w14 ?w15 ?w16 ?w17 ?w18 ?w19 ?w20 ?w21 ?w22 ?w23 ?w24 ?w25 ?w26 ?x27 ?l27 ?c27 ?k27 ?x28 ?l28 ?c28 ?k28 ?w29 ?w30 ?w31 ?w32 ?w33 ?w34 ?x35 ?l35 ?c35 ?k35 ?z0 ?z1 ?z2 ?z3 ?z4 ?z5 ?z6 ?z7 ?z8 ?z9 ?z10 ?z11 ?tc27 ?tv27 ?tw27 ?tt27 ?th27 ?tn27 ?tr27 ?tc28 ?tv28 ?tw28 ?tt28 ?th28 ?tn28 ?tr28 ?cA ?cz
  all_goals try (refine' L2.OQ ?x ?l ?c ?k; (case x => k_is); (case l => k_is); (case c => k_is); (case k => k_is))
  (case x27=>k_is);(case l27=>k_is);(case c27=>k_is);(case k27=>k_is)
  (case x28=>k_is);(case l28=>k_is);(case c28=>k_is);(case k28=>k_is)
  (case x35=>k_is);(case l35=>k_is);(case c35=>k_is);(case k35=>k_is)
  (case z0=>k_is)
  (case z1=>k_is)
  (case z2=>k_is)
  (case z3=>k_is)
  (case z4=>k_is)
  (case z5=>k_is)
  (case z6=>k_is)
  (case z7=>k_is)
  (case z8=>k_is)
  (case z9=>k_is)
  (case z10=>k_is)
  (case z11=>k_is)
  (case tc27=>rfl);(case tv27=>k_is);(case tw27=>rfl);(case tt27=>kernel_rfl);(case th27=>kernel_rfl);(case tn27=>kernel_rfl);(case tr27=>rfl)
  (case tc28=>rfl);(case tv28=>k_is);(case tw28=>rfl);(case tt28=>kernel_rfl);(case th28=>kernel_rfl);(case tn28=>kernel_rfl);(case tr28=>rfl)
  (case cA=>decide)
  (case cz=>decide)
