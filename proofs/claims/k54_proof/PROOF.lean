import PyProof.Rows.All
import PyProof.StrLawsIdx
import Wide.All
import OpenK.AllK
import Wide.FinOn
import Lean
import PyProof.EqAt
import PyProof.EqKinds
import PyProof.TupleCall
import PyProof.NeKinds
import PySem.Challenge.RW_homeslopes_k54_reach
set_option Elab.async false
set_option linter.all false
set_option maxRecDepth 100000
set_option maxHeartbeats 4000000
set_option genSizeOf false
set_option genInjectivity false
noncomputable section
open PySem PySem.Spec PyProof.Rows
open PySem.W (Frag nsIn keepIn codeIn fnOf)
abbrev Hd:=@List.getElem?_eq_getElem
abbrev He:=@wpAny_bind
abbrev Hf:=@List.mem_cons_self
abbrev Hg:=@List.length_map
abbrev Hh:=@Heap.get?_push_of_some
abbrev Hj:=@List.mem_cons_of_mem
abbrev Hk:=@wpAny_pure
abbrev Hl:=@List.size_toArray
abbrev Hm:=@List.getElem?_eq_some_iff
abbrev Hn:=@Nat.le_refl
abbrev Ho:=@List.set_cons_zero
abbrev Hq:=@List.map_cons
abbrev Hr:=@List.mem_cons
abbrev Hs:=@List.not_mem_nil
abbrev Hu:=@List.mem_map
abbrev Hv:=@List.length_cons
abbrev Hw:=@Heap.get?_push_size
abbrev Hx:=@List.getElem?_cons_succ
abbrev Hy:=@List.getElem?_cons_zero
abbrev Hz:=@Heap.lt_size
abbrev HA:=@List.getD_eq_getElem?_getD
abbrev HB:=@List.mem_append_right
abbrev HC:=@List.getElem?_map
abbrev HD:=@Nat.le_trans
abbrev HE:=@Array.getD_eq_getD_getElem?
abbrev HF:=@Nat.lt_of_lt_of_le
abbrev HG:=@Option.map_eq_some_iff
abbrev HH:=@decide_eq_false
abbrev HI:=@List.length_append
abbrev HJ:=@Nat.zero_le
abbrev HK:=@List.mem_singleton
abbrev HL:=@Nat.ne_of_lt
abbrev HM:=@List.mem_map_of_mem
abbrev HN:=@PySem.F.plainAttrs_list
abbrev HP:=@List.getElem?_set_ne
abbrev HQ:=@PySem.F.type_list_append
abbrev HR:=@PySem.F.slot_list_append
abbrev HS:=@Array.length_toList
abbrev HU:=@Bool.and_eq_true
abbrev HV:=@List.eq_nil_of_length_eq_zero
abbrev HW:=@sizeLine_eq
abbrev HX:=@List.getElem?_append_left
abbrev HY:=@Bool.false_eq_true
abbrev HZ:=@List.getElem_mem
abbrev Ia:=@PySem.W.mg_none_of
abbrev Ib:=@PySem.W.mg_of
abbrev Ic:=@List.mem_filter
abbrev Ie:=@List.mem_append
abbrev Ig:=@if_pos
abbrev Ih:=@if_neg
abbrev Ii:=@List.getElem?_set_self
abbrev Ij:=@List.pairwise_cons
abbrev Ik:=@Option.some.inj
abbrev Il:=@decide_eq_true
abbrev Im:=@List.map_append
abbrev Io:=@List.foldl_cons
abbrev Ip:=@List.map_map
abbrev Iq:=@Bool.false_ne_true
abbrev Ir:=@Option.getD_some
abbrev Iu:=@beq_self_eq_true
abbrev Iw:=@Int.emod_lt_of_pos
abbrev Iy:=@Int.emod_nonneg
abbrev Iz:=@Int.le_refl
abbrev IA:=@decide_eq_true_eq
abbrev IB:=@List.getElem?_replicate
abbrev IC:=@List.getElem?_eq_none
abbrev ID:=@List.find?_cons
abbrev IE:=@List.append_nil
abbrev IF:=@List.mem_range
abbrev IG:=@List.map_congr_left
section
namespace L2
open PySem PySem.Spec PyProof.Rows
abbrev Key:=Sum Int Str
noncomputable def mK:Key→Value→Bool
 | .inl k,v=>Value.isInt k v
 | .inr x,v=>Value.isStrOf x v
noncomputable def Gg (w:World):Key→Int
 | .inl k=>hashInt k
 | .inr x=>hashStr w x
theorem cg: ∀ {k:Key} {v:Value},mK k v=true→(∃ i t,k=Sum.inl i∧v=Value.int i t)∨(∃ x t,k=Sum.inr x∧v=Value.str x t)
 | .inl i,v,h=>by
  obtain⟨t,e⟩:=Value.isInt_shape (k:=i) (v:=v) h
  exact .inl ⟨i,t,rfl,e⟩
 | .inr x,v,h=>by
  obtain⟨t,e⟩:=Value.isStrOf_shape (x:=x) (v:=v) h
  exact .inr ⟨x,t,rfl,e⟩
theorem vd (i:Int) (t:Tok):mK (.inl i) (.int i t)=true:=by simp[mK,Value.isInt]
theorem vc (x:Str) (t:Tok):mK (.inr x) (.str x t)=true:=by simp[mK,Value.isStrOf]
theorem CH (a b:Int):decide ((Sum.inl a:Key)=Sum.inl b)=(a==b):=by
 by_cases e:a=b
 ·subst e;simp
 ·have h: ¬ (Sum.inl a:Key)=Sum.inl b:=fun q=>e (Sum.inl.inj q)
  rw[HH h]
  exact(beq_eq_false_iff_ne.mpr e).symm
theorem CC (a b:Str):decide ((Sum.inr a:Key)=Sum.inr b)=decide (a=b):=by
 by_cases e:a=b
 ·subst e;simp
 ·have h: ¬ (Sum.inr a:Key)=Sum.inr b:=fun q=>e (Sum.inr.inj q)
  rw[HH h,HH e]
theorem CG (a:Int) (b:Str):decide ((Sum.inl a:Key)=Sum.inr b)=false:=HH (fun q=>nomatch q)
theorem CD (a:Str) (b:Int):decide ((Sum.inr a:Key)=Sum.inl b)=false:=HH (fun q=>nomatch q)
noncomputable def bI (prog:Program) (w:World):PySem.KeyKind prog w Key where
 is:=mK
 hash:=Gg w
 inj:=fun v a b ha hb=>by
  rcases cg ha with⟨i,t,rfl,rfl⟩|⟨x,t,rfl,rfl⟩
  ·rcases cg hb with⟨j,u,rfl,e⟩|⟨y,u,rfl,e⟩
   ·injection e with e1 _;rw[e1]
   ·exact nomatch e
  ·rcases cg hb with⟨j,u,rfl,e⟩|⟨y,u,rfl,e⟩
   ·exact nomatch e
   ·injection e with e1 _;rw[e1]
 byValue:=fun k v h=>by
  rcases cg h with⟨i,t,rfl,rfl⟩|⟨x,t,rfl,rfl⟩<;>rfl
 pyHash:=fun hv h=>by
  rcases cg hv with⟨i,t,rfl,rfl⟩|⟨x,t,rfl,rfl⟩
  ·exact wpAny_pyHash_int h
  ·exact wpAny_pyHash_str h
 eqBool:=fun hu hv h=>by
  rcases cg hu with⟨i,t,rfl,rfl⟩|⟨x,t,rfl,rfl⟩
  ·rcases cg hv with⟨j,u,rfl,rfl⟩|⟨y,u,rfl,rfl⟩
   ·rw[CH] at h;exact wpAny_eqBool_int h
   ·rw[CG] at h;exact SeqAt.EqAt.int_str i t y u _ _ _ _ h
  ·rcases cg hv with⟨j,u,rfl,rfl⟩|⟨y,u,rfl,rfl⟩
   ·rw[CD] at h;exact SeqAt.EqAt.str_int x t j u _ _ _ _ h
   ·rw[CC] at h;exact wpAny_eqBool_str h
 «strs»:=fun k x t v h=>by
  rcases cg h with⟨i,u,rfl,e⟩|⟨y,u,rfl,e⟩
  ·exact nomatch e
  ·injection e with e1 _
   subst e1
   cases v<;>rfl
theorem sy (prog:Program) (w:World) (k:Key) (v:Value):(bI prog w).is k v=mK k v:=rfl
theorem qD (prog:Program) (w:World) (i:Int) (t:Tok):(bI prog w).is (.inl i) (.int i t)=true:=vd i t
theorem qC (prog:Program) (w:World) (x:Str) (t:Tok):(bI prog w).is (.inr x) (.str x t)=true:=vc x t
end L2
namespace L2
open PySem PySem.Spec PyProof.Rows
set_option genInjectivity true in
inductive V where
 |bX|bl (b:Bool)|int (i:Int)|str (x:Str)|C7 (b:Array UInt8)|EI (b:UInt64)|ref (a:Addr)|ty (n:String)
 deriving DecidableEq
noncomputable def RelV:V→Value→Prop
 | .bX,u=>u=Value.none
 | .bl b,u=>u=Value.bool b
 | .int i,u=> ∃ t,u=Value.int i t
 | .str x,u=> ∃ t,u=Value.str x t
 | .C7 b,u=> ∃ t,u=Value.bytes b t
 | .EI b,u=> ∃ t,u=Value.float b t
 | .ref a,u=>u=Value.ref a
 | .ty n,u=>u=Value.type n
abbrev Vals:List V→List Value→Prop:=Paired RelV
theorem Vals.length {xs:List V} {us:List Value} (r:Vals xs us):xs.length=us.length:=Paired.length r
theorem Vals.get: ∀ {xs:List V} {us:List Value} {i:Nat} {x:V},Vals xs us→xs[i]?=some x→∃ u,us[i]?=some u∧RelV x u
 |_,_,_,_,.nil,e=>by simp at e
 |_,_,0,_,.cons r _,e=>by simp at e;subst e;exact⟨_,rfl,r⟩
 |_,_,i+1,x,.cons _ t,e=>by
  obtain⟨u,h1,h2⟩:=Vals.get (i:=i) (x:=x) t (by simpa using e)
  exact⟨u,by simpa using h1,h2⟩
theorem Vals.set (r:RelV x u): ∀ {xs:List V} {us:List Value} (i:Nat),Vals xs us→Vals (xs.set i x) (us.set i u)
 |_,_,_,.nil=>.nil
 |_,_,0,.cons _ t=>.cons r t
 |_,_,i+1,.cons q t=>.cons q (Vals.set r i t)
theorem Vals.append: ∀ {xs ys:List V} {us ws:List Value},Vals xs us→Vals ys ws→Vals (xs++ys) (us++ws)
 |_,_,_,_,.nil,s=>s
 |_,_,_,_,.cons r t,s=>.cons r (Vals.append t s)
theorem Vals.take: ∀ {xs:List V} {us:List Value} (n:Nat),Vals xs us→Vals (xs.take n) (us.take n)
 |_,_,0,_=>.nil
 |_,_,_+1,.nil=>.nil
 |_,_,n+1,.cons r t=>.cons r (Vals.take n t)
theorem Vals.drop: ∀ {xs:List V} {us:List Value} (n:Nat),Vals xs us→Vals (xs.drop n) (us.drop n)
 |_,_,0,r=>r
 |_,_,_+1,.nil=>.nil
 |_,_,n+1,.cons _ t=>Vals.drop n t
noncomputable def vw:Option V→Option Value→Prop
 |some v,some u=>RelV v u
 |none,none=>True
 |_,_=>False
noncomputable def KV {κ:Type}:List (κ×V)→List (κ×Value)→Prop:=Paired fun (p:κ×V) (q:κ×Value)=>p.1=q.1∧RelV p.2 q.2
noncomputable def kV:Key→V
 | .inl i=>.int i
 | .inr x=>.str x
inductive HO where
  |lst (xs:List V)
  |tup (xs:List V)
  |dK (kvs:List (Key×V))|dT (kvs:List (List Key×V))
  |set (S:Int→Bool) (n:Nat)
  |ins (C dx:Addr) (fs:List (Str×V))
  |own (x:Addr)
  |xd (fs:List (Str×V))
  |met (f x:Addr)
  |qg (lo hi:Int)
  |lx (o:Obj) (u:HO)
  |lV (ps:Array Value)
  |ext (φ:Heap→Prop)
abbrev Hp:=Addr→Option HO
noncomputable def upd (H:Hp) (a:Addr) (o:HO):Hp:=fun b=>if b=a then some o else H b
theorem ay:upd H a o a=some o:=by unfold upd;rw[Ig rfl]
theorem au (h:b≠a):upd H a o b=H b:=by unfold upd;rw[Ih h]
theorem xB {H:Hp} (h:H a=some o) (h':H b=some u) (d:o≠u):a≠b:=by
 intro e;subst e;rw[h] at h';exact d (Ik h')
theorem bh {H:Hp} (h:H a=some o) (h':H b=none):a≠b:=by
 intro e;subst e;rw[h] at h';cases h'
def gS (h:Heap) (a:Addr) (items:Array Value):Prop:= ∃ n,h.get? a=some {cls:=.type "tuple",data:=.seq items n}
theorem gS.is (p:gS h a items):IsTup h a items:=by
 obtain⟨n,e⟩:=p
 exact⟨_,e,rfl,n,rfl⟩
theorem gS.new (h:Heap) (items:Array Value):gS (h.push {cls:=.type "tuple",data:=.seq items}) h.objs.size items:=⟨_,Hw _ rfl⟩
section
variable (P:Program) (w:World)
noncomputable def dk (H:Hp) (h:Heap) (a:Addr):HO→Prop
 | .lst xs=>xs.length≤sizeLine∧∃ (aA:List Value) (n:Nat),Vals xs aA∧h.get? a=some {cls:=.type "list",data:=.seq aA.toArray n}
 | .tup xs=>xs.length≤sizeLine∧∃ aA:List Value,Vals xs aA∧gS h a aA.toArray
 | .dK kvs=>kvs.length≤sizeLine∧(a==sysModules)=false∧∃ vs,KV kvs vs∧h.DictOf (bI P w) a vs
 | .dT kvs=>kvs.length≤sizeLine∧(a==sysModules)=false∧∃ xs:List (List Key×Addr×Value),
   Paired (fun (p:List Key×V) (q:List Key×Addr×Value)=>p.1=q.1∧H q.2.1=some (.tup (p.1.map kV))∧RelV p.2 q.2.2) kvs xs∧
   ∃ o es ep,h.get? a=some o∧o.ExactDict∧o.data= .dict es ep∧es.toList=xs.map (entryOfKey (tupleKind (bI P w)))∧(xs.map (·.1)).Nodup
 | .set S n=>h.SetOf (intKind P w) a S n
 | .ins C dx fs=>H dx=some (.own a)∧fs.length≤1000∧dx≠a∧h.get? a=some (PySem.W.instObj C dx)∧
   ∃ mA,h.Ns1 dx mA∧(∀ f,vw (fs.lookup f) (mA f))∧PySem.Within mA (fs.map (·.1))
 | .own _=> ∃ o,h.get? a=some o
 | .xd fs=> ∃ mA,h.Ns1 a mA∧∀ f,vw (fs.lookup f) (mA f)
 | .qg lo hi=> ∃ t u v,h.get? a=some {cls:=.type "range",data:=.fields #[.int lo t,.int hi u,.int 1 v]}
 | .lx o u=>h.get? a=some o∧dk H h a u
 | .lV ps=>h.get? a=some {cls:=.none,data:=.fields ps}
 | .met f x=>h.get? a=some (PySem.W.methodObj (.ref f) (.ref x))
 | .ext φ=>φ h∧(∃ o,h.get? a=some o)∧∀ h1 h2:Heap,φ h1→(∀ o,h1.get? a=some o→h2.get? a=some o)→φ h2
def iU (H:Hp) (h:Heap):Prop:= ∀ a o,H a=some o→dk P w H h a o
end
section
variable {P:Program} {w:World} {H H':Hp} {h h':Heap} {a:Addr} {o:HO}
theorem dk.lt (x:dk P w H h a o):a < h.objs.size:=by
 cases o with
 |lst xs=>obtain⟨_,_,_,_,e⟩:=x;exact Hz e
 |tup xs=>obtain⟨_,_,_,p⟩:=x;exact p.is.lt
 |dK kvs=>obtain⟨_,_,_,_,o,_,_,e,_⟩:=x;exact Hz e
 |dT kvs=>obtain⟨_,_,_,_,o,_,_,e,_⟩:=x;exact Hz e
 |set S n=>obtain⟨o,_,_,_,e,_⟩:=x;exact Hz e
 |ins C dx fs=>obtain⟨_,_,_,e,_⟩:=x;exact Hz e
 |own y=>obtain⟨_,e⟩:=x;exact Hz e
 |xd fs=>obtain⟨_,⟨_,_,_,e,_⟩,_⟩:=x;exact Hz e
 |qg lo hi=>obtain⟨_,_,_,e⟩:=x;exact Hz e
 |lx ob u=>obtain⟨e,_⟩:=x;exact Hz e
 |lV ps=>exact Hz (show h.get? a=some _ from x)
 |met f y=>exact Hz (show h.get? a=some _ from x)
 |ext φ=>obtain⟨_,⟨_,e⟩,_⟩:=x;exact Hz e
theorem Paired.Cs: ∀ {l₁:List α} {l₂:List β},Paired F l₁ l₂→(∀ a b,F a b→G a b)→Paired G l₁ l₂
 |_,_,.nil,_=>.nil
 |_,_,.cons r t,f=>.cons (f _ _ r) (Paired.Cs t f)
theorem dk.oG (x:dk P w H h a o) (k: ∀ b u,(b=a∨H b=some (.own a))→h.get? b=some u→h'.get? b=some u)
  (ho: ∀ b,H b=some (.own a)→H' b=some (.own a)) (ht: ∀ b xs,H b=some (.tup xs)→H' b=some (.tup xs)):dk P w H' h' a o:=by
 induction o with
 |lst xs=>obtain⟨z,aA,n,r,e⟩:=x;exact⟨z,aA,n,r,k _ _ (.inl rfl) e⟩
 |tup xs=>obtain⟨z,aA,r,n,e⟩:=x;exact⟨z,aA,r,n,k _ _ (.inl rfl) e⟩
 |dK kvs=>obtain⟨z,y,vs,r,ob,es,ep,e,c⟩:=x;exact⟨z,y,vs,r,ob,es,ep,k _ _ (.inl rfl) e,c⟩
 |dT kvs=>
  obtain⟨z,y,xs,r,ob,es,ep,e,c⟩:=x
  exact⟨z,y,xs,Paired.Cs r fun p q z=>⟨z.1,ht _ _ z.2.1,z.2.2⟩,ob,es,ep,k _ _ (.inl rfl) e,c⟩
 |set S n=>obtain⟨ob,es,ep,t,e,c⟩:=x;exact⟨ob,es,ep,t,k _ _ (.inl rfl) e,c⟩
 |ins C dx fs=>
  obtain⟨d,z,ne,e,mA,⟨od,es,ep,e2,c⟩,r⟩:=x
  exact⟨ho _ d,z,ne,k _ _ (.inl rfl) e,mA,⟨od,es,ep,k _ _ (.inr d) e2,c⟩,r⟩
 |own y=>obtain⟨ob,e⟩:=x;exact⟨ob,k _ _ (.inl rfl) e⟩
 |xd fs=>obtain⟨mA,⟨od,es,ep,e,c⟩,r⟩:=x;exact⟨mA,⟨od,es,ep,k _ _ (.inl rfl) e,c⟩,r⟩
 |qg lo hi=>obtain⟨t,u,v,e⟩:=x;exact⟨t,u,v,k _ _ (.inl rfl) e⟩
 |lx ob u ih=>obtain⟨e,q⟩:=x;exact⟨k _ _ (.inl rfl) e,ih q⟩
 |lV ps=>
  have e:h.get? a=some {cls:=.none,data:=.fields ps}:=x
  show h'.get? a=some {cls:=.none,data:=.fields ps}
  exact k a _ (.inl rfl) e
 |met f y=>
  have e:h.get? a=some (PySem.W.methodObj (.ref f) (.ref y)):=x
  show h'.get? a=some (PySem.W.methodObj (.ref f) (.ref y))
  exact k a _ (.inl rfl) e
 |ext φ=>obtain⟨p,⟨o,e⟩,st⟩:=x;exact⟨st _ _ p fun o q=>k _ _ (.inl rfl) q,⟨o,k _ _ (.inl rfl) e⟩,st⟩
theorem iU.lt (x:iU P w H h) (e:H a=some o):a < h.objs.size:=(x a o e).lt
theorem iU.fresh (x:iU P w H h) (e:h.objs.size≤a):H a=none:=by
 cases q:H a with
 |none=>rfl
 |some u=>exact absurd (HF (x.lt q) e) (Nat.lt_irrefl _)
theorem iU.kept (x:iU P w H h) (k: ∀ b u,h.get? b=some u→h'.get? b=some u):iU P w H h':=fun a o e=>
 (x a o e).oG (fun b u _ q=>k b u q) (fun _ q=>q) fun _ _ q=>q
theorem iU.laid (x:iU P w H h) (k: ∀ b u,h.get? b=some u→h'.get? b=some u) (hp:h.objs.size≤a) (new:dk P w (upd H a o) h' a o):iU P w (upd H a o) h':=fun b u e=>by
 have hn:=x.fresh hp
 by_cases hb:b=a
 ·subst hb;rw[ay] at e;cases e;exact new
 ·rw[au hb] at e
  exact(x b u e).oG (fun c v _ q=>k c v q) (fun c q=>by rw[au (bh q hn)];exact q) fun c xs q=>by rw[au (bh q hn)];exact q
end
def Rd (H:Hp) (a:Addr) (u:HO):Prop:=H a=some u∨∃ o,H a=some (.lx o u)
theorem Rd.of {H:Hp} {a:Addr} {u:HO} (h:H a=some u):Rd H a u:=.inl h
theorem Rd.ok {P:Program} {w:World} {H:Hp} {h:Heap} {a:Addr} {u:HO} (r:Rd H a u) (x:iU P w H h):dk P w H h a u:=by
 rcases r with r|⟨o,r⟩
 ·exact x a u r
 ·obtain⟨_,q⟩:=x a _ r
  exact q
noncomputable def E6:Option HO→Prop
 |some (.lst _)=>True
 |some (.dK _)=>True
 |some (.dT _)=>True
 |some (.set _ _)=>True
 |some (.ins _ _ _)=>True
 |some (.ext _)=>True
 |_=>False
section
variable {P:Program} {w:World} {H:Hp} {h h':Heap} {x e:Addr} {o':HO}
theorem iU.write (ok:iU P w H h) (mu:E6 (H x)) (he:e=x∨H e=some (.own x)) (k: ∀ b u,b≠e→h.get? b=some u→h'.get? b=some u) (heo: ∃ u,h'.get? e=some u)
  (new:dk P w (upd H x o') h' x o'):iU P w (upd H x o') h':=fun b u q=>by
 have nown: ∀ c y,H c=some (.own y)→c≠x:=fun c y r z=>by subst z;rw[r] at mu;exact mu
 have ntup: ∀ c xs,H c=some (.tup xs)→c≠x:=fun c xs r z=>by subst z;rw[r] at mu;exact mu
 by_cases hb:b=x
 ·subst hb;rw[ay] at q;cases q;exact new
 ·rw[au hb] at q
  by_cases hbe:b=e
  ·have q':H b=some (.own x):=by
    rcases he with z|z
    ·exact absurd (hbe.trans z) hb
    ·rw[hbe];exact z
   rw[q] at q';cases q'
   obtain⟨v,hv⟩:=heo
   exact⟨v,by rw[hbe];exact hv⟩
  ·refine(ok b u q).oG (fun c v hc r=>k c v ?_ r) (fun c r=>by rw[au (nown c b r)];exact r) fun c xs r=>by rw[au (ntup c xs r)];exact r
   rcases hc with rfl|hc
   ·exact hbe
   ·rintro rfl
    rcases he with z|z
    ·exact nown c b hc z
    ·rw[hc] at z;cases z;exact hb rfl
end
structure Un (fs ex:List Addr) (H H':Hp) (h h':Heap):Prop where
 keep: ∀ b o,h.get? b=some o→H b=none→b∉fs→b∉ex→h'.get? b=some o
 slot: ∀ b o,h.get? b=some o→H b=none→b∈fs→b∉ex→∃ sl,h'.get? b=some {o with slots:=sl}
 free: ∀ b o,h.get? b=some o→H b=none→b∉ex→H' b=none
 there: ∀ b o,h.get? b=some o→b∉ex→∃ o',h'.get? b=some o'
 p6: ∀ b xs,H b=some (.tup xs)→H' b=some (.tup xs)
 ph: ∀ b o u,H b=some (.lx o u)→H' b=some (.lx o u)
 oF: ∀ b ps,H b=some (.lV ps)→∃ more,H' b=some (.lV (ps++more))
section
variable {fs fs' ex ex':List Addr} {H H1 H2:Hp} {h h1 h2 h':Heap} {a x e:Addr} {o:HO}
theorem Un.any (u:Un fs ex H H1 h h1) {b:Addr} {ob:Obj} (q:h.get? b=some ob) (n:H b=none) (hx:b∉ex): ∃ sl,h1.get? b=some {ob with slots:=sl}:=by
 by_cases hb:b∈fs
 ·exact u.slot b ob q n hb hx
 ·exact⟨ob.slots,u.keep b ob q n hb hx⟩
theorem Un.kept (k: ∀ b u,h.get? b=some u→h'.get? b=some u):Un fs ex H H h h':=
 ⟨fun b ob q _ _ _=>k b ob q,fun b ob q _ _ _=>⟨ob.slots,k b ob q⟩,fun _ _ _ n _=>n,fun b ob q _=>⟨ob,k b ob q⟩,fun _ _ q=>q,fun _ _ _ q=>q,fun _ ps q=>⟨#[],by rw[q];simp⟩⟩
theorem Un.refl:Un fs ex H H h h:=Un.kept fun _ _ q=>q
theorem Un.laid (k: ∀ b u,h.get? b=some u→h'.get? b=some u) (hp:h.objs.size≤a) (hn:H a=none):Un fs ex H (upd H a o) h h' where
 keep:=fun b u q _ _ _=>k b u q
 slot:=fun b u q _ _ _=>⟨u.slots,k b u q⟩
 free:=fun b u q n _=>by rw[au (HL (HF (Hz q) hp))];exact n
 there:=fun b u q _=>⟨u,k b u q⟩
 p6:=fun b xs q=>by rw[au (bh q hn)];exact q
 ph:=fun b u xs q=>by rw[au (bh q hn)];exact q
 oF:=fun b ps q=>⟨#[],by rw[au (bh q hn),q];simp⟩
theorem Un.write (mu:E6 (H x)) (he:e=x∨H e=some (.own x)) (k: ∀ b u,b≠e→h.get? b=some u→h'.get? b=some u) (heo: ∃ u,h'.get? e=some u):Un fs ex H (upd H x o) h h':=by
 have hx: ∀ b,H b=none→b≠x:=fun b n z=>by subst z;rw[n] at mu;exact mu
 have hb: ∀ b,H b=none→b≠e:=fun b n z=>by
  subst z
  rcases he with r|r
  ·exact hx b n r
  ·rw[n] at r;cases r
 have hm: ∀ b u,H b=some u→¬ E6 (some u)→b≠x:=fun b u q nm z=>by subst z;rw[q] at mu;exact nm mu
 refine⟨fun b u q n _ _=>k b u (hb b n) q,fun b u q n _ _=>⟨u.slots,k b u (hb b n) q⟩,fun b u q n _=>by rw[au (hx b n)];exact n,fun b u q _=>?_,
  fun b xs q=>by rw[au (hm b _ q fun z=>z)];exact q,fun b u xs q=>by rw[au (hm b _ q fun z=>z)];exact q,fun b ps q=>⟨#[],by rw[au (hm b _ q fun z=>z),q];simp⟩⟩
 by_cases hbe:b=e
 ·subst hbe;exact heo
 ·exact⟨u,k b u hbe q⟩
end
noncomputable def Fj (h:Heap) (H:Hp):List Addr:=(List.range h.objs.size).filter fun a=>(H a).isSome
noncomputable def o9 (h:Heap) (H:Hp):Heap:=PySem.W.hideAll h (Fj h H)
theorem vg (h:Heap) (H:Hp):(o9 h H).objs.size=h.objs.size:=PySem.W.hideAll_size _ _
theorem mM (e:h.get? b=some o) (n:H b=none):(o9 h H).get? b=some o:=
 PySem.W.hideAll_get _ e fun hm=>by
  have q:(H b).isSome=true:=(Ic.mp hm).2
  rw[n] at q;simp at q
theorem zV (e:(o9 h H).get? b=some o):h.get? b=some o∧H b=none:=by
 have e':h.get? b=some o:=PySem.W.of_hideAll (Fj h H) e
 refine⟨e',?_⟩
 cases q:H b with
 |none=>rfl
 |some x=>
  have hm:b∈Fj h H:=Ic.mpr ⟨IF.mpr (Hz e'),by simp[q]⟩
  have z:(o9 h H).get? b=none:=PySem.W.hideAll_none (Fj h H) hm
  rw[z] at e;cases e
noncomputable def AK (g h:Heap) (L:Addr):List (Addr×Obj):=(List.range h.objs.size).filterMap fun a=>if a=L∨(g.get? a).isSome=true then none else(h.get? a).map fun o=>(a,o)
noncomputable def rest (g h:Heap) (L d:Addr):List (Addr×Obj):=(AK g h L).filter fun p=>decide (p.1≠d)
end L2
namespace L2
open PySem PySem.Spec PyProof.Rows
structure Mod (K:Frag) (mg:Str→Option Value) (base:Heap):Prop where
  Ge:K.In base
  glob:base.Ns mainGlobals mg
  blt: ∃ mb,base.Ns builtinsNs mb∧∀ x:Str,x≠"__name__"→mb x=bootBuiltins x
  nolimit:base.NoLimit
structure Cx where
 prog:Program
 w:World
 K:Frag
 mg:Str→Option Value
 base:Heap
 A:Around
 N:List Str
 s₀:Shared
 H₀:Hp
 env:Env
 outer:List Env
 stack:List Env
 ex:List Addr
 fn:Str→Bool
 calm:Bool
 pn:List (Addr×Obj)
 xe:Value→Shared→Prop
noncomputable def ya (l:List Env):List Addr:=l.filterMap (·.frame)
abbrev Cx.fs (X:Cx):List Addr:=ya X.outer
def Fy (sc:Scope) (x:Str):Prop:=sc.names.lookup x=some .local∨sc.names.lookup x=some .cell∨sc.names.lookup x=some .free
def Loc (sc:Scope) (x:Str):Prop:=sc.names.lookup x=some .local∨sc.names.lookup x=some .cell
def Look (env:Env) (h:Heap) (m:Str→Option Value) (x:Str) (u:Value):Prop:=
 (env.kindOf x=some .local∧m x=some u)∨((env.kindOf x=some .cell∨env.kindOf x=some .free)∧∃ c,env.cells.lookup x=some c∧h.IsCell c (some u))
structure Cx.Ok (X:Cx):Prop where
 mod:Mod X.K X.mg X.base
 kind:X.env.scope.kind= .function
 glob:X.env.globals=mainGlobals
 blt:X.env.builtins=builtinsNs
 above:X.s₀.heap.objs.size≤X.env.locals
 inj: ∀ x y c,X.env.cells.lookup x=some c→X.env.cells.lookup y=some c→x=y
 has: ∀ x,(X.env.kindOf x=some .cell∨X.env.kindOf x=some .free)→∃ c,X.env.cells.lookup x=some c
 DD: ∀ x c,X.fn x=true→X.env.cells.lookup x=some c→X.s₀.heap.objs.size≤c
 hd:X.calm=true→X.A.handled=none
 frames:X.A.frames=some X.stack
 DP:X.stack=X.outer∨(X.stack=X.env::X.outer∧X.env.frame=some X.env.locals)
 Gn: ∀ b∈X.ex,b≠X.env.locals∧∀ x c,X.env.cells.lookup x=some c→c≠b
 bs: ∀ b o,X.base.get? b=some o→X.s₀.heap.get? b=some o∧X.H₀ b=none
 yX:X.base.objs.size≤X.s₀.heap.objs.size
 u5: ∀ b o,X.base.get? b=some o→b∉X.ex
 yd: ∀ b∈X.ex,b∉X.fs
 kn:X.s₀.heap.FunFrames X.base X.outer
 A8: ∀ b∈X.fs,X.H₀ b=none
structure Inv (X:Cx) (pZ:List (Addr×Obj)) (σ:List (Option V)) (H:Hp) (s:Shared):Prop where
 ok:X.Ok
 os:s.os=X.s₀.os
 bare:AllBare s.gens
 base:Un X.fs X.ex X.H₀ H X.s₀.heap s.heap
 loc: ∃ m,s.heap.Ns X.env.locals m∧∀ (i:Nat) (x:Str) (v:V),X.N[i]?=some x→σ[i]?=some (some v)→Fy X.env.scope x→∃ u,RelV v u∧Look X.env s.heap m x u
 cell: ∀ x c,X.env.cells.lookup x=some c→∃ v,s.heap.IsCell c v
 free:H X.env.locals=none
 iT: ∀ x c,X.env.cells.lookup x=some c→H c=none
 pin: ∀ p∈X.pn++pZ,s.heap.get? p.1=some p.2∧H p.1=none∧p.1≠X.env.locals∧p.1∉X.fs∧∀ v,p.2.data≠.cell v
 cm:iU X.prog X.w H s.heap
 len:σ.length=X.N.length
section
variable {X:Cx} {pZ:List (Addr×Obj)} {σ:List (Option V)} {H H':Hp} {s:Shared} {h':Heap}
theorem Cx.Ok.Ga (ok:X.Ok) (e:X.base.get? b=some o):b∉X.fs:=fun hb=>by
 have:=(ok.kn.mem hb).1
 rw[e] at this;cases this
theorem Inv.bs (I:Inv X pZ σ H s): ∀ b o,X.base.get? b=some o→s.heap.get? b=some o∧H b=none:=fun b o e=>
 ⟨I.base.keep b o (I.ok.bs b o e).1 (I.ok.bs b o e).2 (I.ok.Ga e) (I.ok.u5 b o e),I.base.free b o (I.ok.bs b o e).1 (I.ok.bs b o e).2 (I.ok.u5 b o e)⟩
theorem Inv.bk (I:Inv X pZ σ H s): ∀ b o,X.base.get? b=some o→s.heap.get? b=some o:=fun b o e=>(I.bs b o e).1
theorem Inv.mod (I:Inv X pZ σ H s):Mod X.K X.mg X.base:=I.ok.mod
theorem Inv.DA (I:Inv X pZ σ H s):X.K.In s.heap:=I.ok.mod.Ge.keeps I.bk
theorem Inv.lt (I:Inv X pZ σ H s):X.env.locals < s.heap.objs.size:=let ⟨_,hn,_⟩:=I.loc;hn.lt
theorem Inv.sz (I:Inv X pZ σ H s):X.s₀.heap.objs.size≤s.heap.objs.size:=HD I.ok.above (Nat.le_of_lt I.lt)
theorem Inv.FZ (I:Inv X pZ σ H s) (h:s.heap.objs.size≤a):a∉X.fs:=fun hb=>by
 obtain⟨_,o,ho,_⟩:=I.ok.kn.mem hb
 exact absurd (HF (Hz ho) (HD I.sz h)) (Nat.lt_irrefl _)
theorem Inv.C3 (I:Inv X pZ σ H s): ∀ x c,X.env.cells.lookup x=some c→c≠X.env.locals:=fun x c e z=>by
 obtain⟨v,o,ho,hd⟩:=I.cell x c e
 obtain⟨m,⟨o',es,ep,ho',hd',_⟩,_⟩:=I.loc
 rw[z,ho'] at ho;cases ho;rw[hd'] at hd;cases hd
theorem Inv.kn (I:Inv X pZ σ H s):s.heap.FunFrames X.base X.outer:=by
 have all: ∀ (l:List Env),(∀ b∈ya l,b∈X.fs)→X.s₀.heap.FunFrames X.base l→s.heap.FunFrames X.base l:=by
  intro l
  induction l with
  |nil=>intro _ _;trivial
  |cons env r ih=>
   intro hs hl
   obtain⟨hk,⟨L,o,hf,hn,ho,hd⟩,hr⟩:=hl
   have hL:L∈X.fs:=hs L (by unfold ya;rw[List.filterMap_cons,hf];exact Hf)
   obtain⟨sl,e⟩:=I.base.slot L o ho (I.ok.A8 L hL) hL fun z=>I.ok.yd L z hL
   exact⟨hk,⟨L,_,hf,hn,e,hd⟩,ih (fun b hb=>hs b (by unfold ya;rw[List.filterMap_cons,hf];exact Hj _ hb)) hr⟩
 exact all X.outer (fun _ hb=>hb) I.ok.kn
theorem Inv.stack (I:Inv X pZ σ H s):s.heap.FunFrames X.base X.stack:=by
 rcases I.ok.DP with e|⟨e,hf⟩
 ·rw[e];exact I.kn
 ·rw[e]
  obtain⟨m,hn,_⟩:=I.loc
  refine .cons (by rw[I.ok.kind];decide) hf hn ?_ I.kn
  exact Heap.get?_none_of_le (HD I.ok.yX I.ok.above)
theorem Inv.iY (I:Inv X pZ σ H s): ∀ b∈ya X.stack,b∈X.env.locals::X.fs:=fun b hb=>by
 rcases I.ok.DP with e|⟨e,hf⟩
 ·rw[e] at hb;exact Hj _ hb
 ·rw[e] at hb
  unfold ya at hb
  rw[List.filterMap_cons,hf] at hb
  exact hb
theorem Inv.tM (I:Inv X pZ σ H s): ∀ b∈ya X.stack,H b=none:=fun b hb=>by
 rcases Hr.mp (I.iY b hb) with e|hb
 ·rw[e];exact I.free
 ·obtain⟨_,o,ho,_⟩:=I.ok.kn.mem hb
  exact I.base.free b o ho (I.ok.A8 b hb) fun z=>I.ok.yd b z hb
theorem Inv.step {g':Array GenState} {t':Nat} {d':Drawn} {ch:List Addr} (I:Inv X pZ σ H s)
  (hch: ∀ b∈ch,(b∈X.ex∨X.s₀.heap.objs.size≤b)∧b≠X.env.locals∧(∀ x c,X.env.cells.lookup x=some c→c≠b)∧∀ p∈X.pn++pZ,p.1≠b)
  (keep: ∀ b o,b≠X.env.locals→b∉X.fs→b∉ch→s.heap.get? b=some o→H b=none→h'.get? b=some o)
  (slot: ∀ b o,b≠X.env.locals→b∈X.fs→b∉ch→s.heap.get? b=some o→H b=none→∃ sl,h'.get? b=some {o with slots:=sl}) (free: ∀ b o,b∉ch→s.heap.get? b=some o→H b=none→H' b=none)
  (there: ∀ b o,b∉ch→s.heap.get? b=some o→∃ o',h'.get? b=some o')
  (p6: ∀ b xs,H b=some (.tup xs)→H' b=some (.tup xs)) (ph: ∀ b o u,H b=some (.lx o u)→H' b=some (.lx o u)) (oF: ∀ b ps,H b=some (.lV ps)→∃ more,H' b=some (.lV (ps++more)))
  (ns: ∀ m,s.heap.Ns X.env.locals m→h'.Ns X.env.locals m) (cm:iU X.prog X.w H' h') (hg:AllBare g'):
  Inv X pZ σ H' {s with heap:=h',gens:=g',drawn:=d',toks:=t'}:=by
 have Gd: ∀ b o,X.s₀.heap.get? b=some o→b≠X.env.locals:=fun b o e=>HL (HF (Hz e) I.ok.above)
 have neC: ∀ b o,X.s₀.heap.get? b=some o→b∉X.ex→b∉ch:=fun b o e hx hb=>by
  rcases(hch b hb).1 with z|z
  ·exact hx z
  ·exact absurd (HF (Hz e) z) (Nat.lt_irrefl _)
 have cellK: ∀ x c,X.env.cells.lookup x=some c→∀ v,s.heap.IsCell c v→h'.IsCell c v:=fun x c e v cy=>by
  obtain⟨o,ho,hd⟩:=cy
  have nch:c∉ch:=fun z=>(hch c z).2.2.1 x c e rfl
  by_cases hc:c∈X.fs
  ·obtain⟨sl,q⟩:=slot c o (I.C3 x c e) hc nch ho (I.iT x c e)
   exact⟨_,q,hd⟩
  ·exact⟨o,keep c o (I.C3 x c e) hc nch ho (I.iT x c e),hd⟩
 refine⟨I.ok,I.os,hg,⟨fun b o e n hb hx=>?_,fun b o e n hb hx=>?_,fun b o e n hx=>?_,fun b o e hx=>?_,fun b xs e=>p6 b xs (I.base.p6 b xs e),fun b o xs e=>ph b o xs (I.base.ph b o xs e),fun b ps e=>?_⟩,?_,fun x c e=>?_,?_,fun x c e=>?_,fun p hp=>?_,cm,I.len⟩
 ·exact keep b o (Gd b o e) hb (neC b o e hx) (I.base.keep b o e n hb hx) (I.base.free b o e n hx)
 ·obtain⟨sl,e1⟩:=I.base.slot b o e n hb hx
  obtain⟨sl',e2⟩:=slot b _ (Gd b o e) hb (neC b o e hx) e1 (I.base.free b o e n hx)
  exact⟨sl',e2⟩
 ·obtain⟨o',e1⟩:=I.base.there b o e hx
  exact free b o' (neC b o e hx) e1 (I.base.free b o e n hx)
 ·obtain⟨o',e1⟩:=I.base.there b o e hx
  exact there b o' (neC b o e hx) e1
 ·obtain⟨m1,e1⟩:=I.base.oF b ps e
  obtain⟨m2,e2⟩:=oF b _ e1
  exact⟨m1++m2,by rw[e2,Array.append_assoc]⟩
 ·obtain⟨m,hn,hl⟩:=I.loc
  refine⟨m,ns m hn,fun i x v e1 e2 e3=>?_⟩
  obtain⟨u,r,l⟩:=hl i x v e1 e2 e3
  refine⟨u,r,?_⟩
  rcases l with l|⟨k,c,e,z⟩
  ·exact .inl l
  ·exact .inr ⟨k,c,e,cellK x c e _ z⟩
 ·obtain⟨v,z⟩:=I.cell x c e
  exact⟨v,cellK x c e v z⟩
 ·obtain⟨m,⟨o,_,_,ho,_⟩,_⟩:=I.loc
  exact free _ o (fun z=>(hch _ z).2.1 rfl) ho I.free
 ·obtain⟨v,o,ho,hd⟩:=I.cell x c e
  exact free c o (fun z=>(hch c z).2.2.1 x c e rfl) ho (I.iT x c e)
 ·obtain⟨e,n,ne,nf,d⟩:=I.pin p hp
  have nch:p.1∉ch:=fun z=>(hch p.1 z).2.2.2 p hp rfl
  exact⟨keep p.1 p.2 ne nf nch e n,free p.1 p.2 nch e n,ne,nf,d⟩
theorem Inv.un {t':Nat} (I:Inv X pZ σ H s) (u:Un X.fs [] H H' s.heap h') (cm:iU X.prog X.w H' h'):Inv X pZ σ H' {s with heap:=h',toks:=t'}:=by
 obtain⟨m,⟨o,es,ep,ho,r⟩,_⟩:=id I.loc
 obtain⟨sl,hL⟩:=u.any ho I.free (by simp)
 exact I.step (g':=s.gens) (d':=s.drawn) (ch:=[]) (fun _ z=>nomatch z) (fun b o _ hb _ e n=>u.keep b o e n hb (by simp)) (fun b o _ hb _ e n=>u.slot b o e n hb (by simp)) (fun b o _ e n=>u.free b o e n (by simp)) (fun b o _ e=>u.there b o e (by simp)) u.p6 u.ph u.oF (fun m' hm=>by
  obtain⟨o',es',ep',ho',r'⟩:=hm
  rw[ho] at ho';cases ho'
  exact⟨_,es',ep',hL,r'⟩) cm I.bare
theorem Inv.call {g':Array GenState} {t':Nat} {d':Drawn} {ch:List Addr} (I:Inv X pZ σ H s) (u:Un (ya X.stack) ch H H' s.heap h') (cm:iU X.prog X.w H' h') (hg:AllBare g')
  (hch: ∀ b∈ch,(b∈X.ex∨X.s₀.heap.objs.size≤b)∧b≠X.env.locals∧(∀ x c,X.env.cells.lookup x=some c→c≠b)∧∀ p∈X.pn++pZ,p.1≠b):
  Inv X pZ σ H' {s with heap:=h',gens:=g',drawn:=d',toks:=t'}:=by
 obtain⟨m,⟨o,es,ep,ho,r⟩,_⟩:=id I.loc
 obtain⟨sl,hL⟩:=u.any ho I.free fun z=>(hch _ z).2.1 rfl
 exact I.step (ch:=ch) hch (fun b o hL hb hc e n=>u.keep b o e n (fun z=>(Hr.mp (I.iY b z)).elim hL hb) hc) (fun b o _ _ hc e n=>u.any e n hc) (fun b o hc e n=>u.free b o e n hc) (fun b o hc e=>u.there b o e hc) u.p6 u.ph u.oF (fun m' hm=>by
  obtain⟨o',es',ep',ho',r'⟩:=hm
  rw[ho] at ho';cases ho'
  exact⟨_,es',ep',hL,r'⟩) cm hg
theorem Inv.turned {t':Nat} {it:Addr} (I:Inv X pZ σ H s) (k: ∀ b o,b≠it→s.heap.get? b=some o→h'.get? b=some o) (hn:H it=none) (hL:it≠X.env.locals)
  (h1:it∈X.ex∨X.s₀.heap.objs.size≤it) (h2: ∀ x c,X.env.cells.lookup x=some c→c≠it) (h3: ∀ p∈X.pn++pZ,p.1≠it):Inv X pZ σ H {s with heap:=h',toks:=t'}:=by
 have nit: ∀ b u,H b=some u→b≠it:=fun b u e z=>by rw[z,hn] at e;cases e
 refine I.step (g':=s.gens) (d':=s.drawn) (ch:=[it]) (fun b hb=>?_) (fun b o _ _ hc e _=>k b o (fun z=>hc (by simp[z])) e) (fun b o _ _ hc e _=>⟨o.slots,k b o (fun z=>hc (by simp[z])) e⟩) (fun _ _ _ _ n=>n)
  (fun b o hc e=>⟨o,k b o (fun z=>hc (by simp[z])) e⟩) (fun _ _ e=>e) (fun _ _ _ e=>e) (fun b ps e=>⟨#[],by rw[e];simp⟩) (fun m hm=>?_) (fun b u e=>?_) I.bare
 ·have e:b=it:=by simpa using hb
  subst e
  exact⟨h1,hL,h2,h3⟩
 ·obtain⟨o,es,ep,ho,r⟩:=hm
  exact⟨o,es,ep,k _ o (Ne.symm hL) ho,r⟩
 ·refine(I.cm b u e).oG (fun c v hc q=>k c v ?_ q) (fun _ q=>q) fun _ _ q=>q
  rcases hc with z|z
  ·rw[z];exact nit b u e
  ·exact nit c _ z
theorem Inv.tok (I:Inv X pZ σ H s) (t:Nat):Inv X pZ σ H {s with toks:=t}:=I.un (h':=s.heap) (t':=t) Un.refl I.cm
theorem Inv.kept {t':Nat} (I:Inv X pZ σ H s) (k: ∀ b u,s.heap.get? b=some u→h'.get? b=some u):Inv X pZ σ H {s with heap:=h',toks:=t'}:=I.un (Un.kept k) (I.cm.kept k)
theorem Inv.laid {a:Addr} {o:HO} {t':Nat} (I:Inv X pZ σ H s) (k: ∀ b u,s.heap.get? b=some u→h'.get? b=some u) (hp:s.heap.objs.size≤a) (new:dk X.prog X.w (upd H a o) h' a o):
  Inv X pZ σ (upd H a o) {s with heap:=h',toks:=t'}:=I.un (Un.laid k hp (I.cm.fresh hp)) (I.cm.laid k hp new)
theorem Inv.write {t':Nat} (I:Inv X pZ σ H s) (mu:E6 (H x)) (he:e=x∨H e=some (.own x)) (k: ∀ b u,b≠e→s.heap.get? b=some u→h'.get? b=some u) (heo: ∃ u,h'.get? e=some u)
  (new:dk X.prog X.w (upd H x o) h' x o):Inv X pZ σ (upd H x o) {s with heap:=h',toks:=t'}:=I.un (Un.write mu he k heo) (I.cm.write mu he k heo new)
theorem Inv.iC (I:Inv X pZ σ H s) (h: ∀ p∈kK,s.heap.get? p.1=some p.2∧H p.1=none∧p.1≠X.env.locals∧p.1∉X.fs∧∀ v,p.2.data≠.cell v):Inv X kK σ H s:=
 ⟨I.ok,I.os,I.bare,I.base,I.loc,I.cell,I.free,I.iT,fun p hp=>(Ie.mp hp).elim (fun z=>I.pin p (List.mem_append_left _ z)) (h p),I.cm,I.len⟩
theorem qz {N:List Str} (hN:N.Nodup) {i j:Nat} (a:N[i]?=some x) (b:N[j]?=some x):i=j:=by
 obtain⟨h1,e1⟩:=Hm.mp a
 obtain⟨h2,e2⟩:=Hm.mp b
 exact(List.getElem_inj hN).mp (e1.trans e2.symm)
theorem jX {i:Nat} {Q:Unit→Shared→Prop} (I:Inv X pZ σ H s) (hN:X.N.Nodup) (hi:X.N[i]?=some x) (hx:Loc X.env.scope x) (r:RelV v u)
  (h: ∀ s',Inv X pZ (σ.set i (some v)) H s'→(∃ a,Heap.SameBut a s.heap s'.heap∧(a=X.env.locals∨X.env.cells.lookup x=some a))→Q () s') (hf:X.fn x=true∨X.env.scope.names.lookup x=some .local:=by first|exact .inl rfl|exact .inr rfl|assumption):wpAny M A (storeName X.env x u) Q E s:=by
 obtain⟨m,hn,hl⟩:=id I.loc
 have hcls:(X.env.scope.kind== .class||(X.env.scope.kind== .module&&X.env.locals !=X.env.globals))=false:=by rw[I.ok.kind];rfl
 have hiσ:i < σ.length:=by rw[I.len];exact(Hm.mp hi).1
 have C3:=I.C3
 have tracked: ∀ {a:Addr} {h':Heap},(∃ o,s.heap.get? a=some o∧H a=none)→Heap.SameBut a s.heap h'→iU X.prog X.w H h':=fun {a h'} ha hs b ob e=>by
  obtain⟨_,_,hfree⟩:=ha
  refine(I.cm b ob e).oG (fun c w' hc q=>(hs.2 c ?_).trans q) (fun _ q=>q) fun _ _ q=>q
  rintro rfl
  rcases hc with rfl|hc
  ·rw[hfree] at e;cases e
  ·rw[hfree] at hc;cases hc
 rcases hx with hk|hk
 ·refine wpAny_storeName_local hk hn (fun h' hn' hs=>?_) hcls
  obtain⟨oL,_,_,hoL,_⟩:=id hn
  refine h _ ⟨I.ok,I.os,I.bare,⟨fun b o e n hb hx=>?_,fun b o e n hb hx=>?_,I.base.free,fun b o e hx=>?_,I.base.p6,I.base.ph,I.base.oF⟩,⟨_,hn',fun j y v' e1 e2 e3=>?_⟩,fun y c e=>?_,I.free,I.iT,fun p hp=>?_,tracked ⟨oL,hoL,I.free⟩ hs,by simpa using I.len⟩ ⟨_,hs,.inl rfl⟩
  ·exact(hs.2 b (HL (HF (Hz e) I.ok.above))).trans (I.base.keep b o e n hb hx)
  ·obtain⟨sl,e1⟩:=I.base.slot b o e n hb hx
   exact⟨sl,(hs.2 b (HL (HF (Hz e) I.ok.above))).trans e1⟩
  ·obtain⟨o',e1⟩:=I.base.there b o e hx
   exact⟨o',(hs.2 b (HL (HF (Hz e) I.ok.above))).trans e1⟩
  ·by_cases hj:j=i
   ·subst hj
    rw[hi] at e1;cases e1
    rw[Ii hiσ] at e2
    cases e2
    exact⟨u,r,.inl ⟨hk,by simp⟩⟩
   ·rw[HP (Ne.symm hj)] at e2
    obtain⟨u',r',q⟩:=hl j y v' e1 e2 e3
    refine⟨u',r',?_⟩
    rcases q with⟨k,e⟩|⟨k,c,e,z⟩
    ·refine .inl ⟨k,?_⟩
     have:y≠x:=fun e=>hj (qz hN e1 (e▸hi))
     simp[this,e]
    ·exact .inr ⟨k,c,e,z.sameBut hs (C3 y c e)⟩
  ·obtain⟨w',z⟩:=I.cell y c e
   exact⟨w',z.sameBut hs (C3 y c e)⟩
  ·obtain⟨e,n,ne,nf,d⟩:=I.pin p hp
   exact⟨(hs.2 p.1 ne).trans e,n,ne,nf,d⟩
 ·have hfn:X.fn x=true:=by
   rcases hf with z|z
   ·exact z
   ·rw[z] at hk;cases hk
  obtain⟨c,hc⟩:=I.ok.has x (.inl hk)
  obtain⟨w',z⟩:=I.cell x c hc
  refine wpAny_storeName_cell I.ok.kind hk hc z (fun h' hc' hs=>?_)
  obtain⟨oc,hoc,hocd⟩:=id z
  refine h {s with heap:=h'} ⟨I.ok,I.os,I.bare,⟨fun b o e n hb hx=>?_,fun b o e n hb hx=>?_,I.base.free,fun b o e hx=>?_,I.base.p6,I.base.ph,I.base.oF⟩,⟨m,hn.sameBut hs (Ne.symm (C3 x c hc)),fun j y v' e1 e2 e3=>?_⟩,fun y c' e=>?_,I.free,I.iT,fun p hp=>?_,tracked ⟨oc,hoc,I.iT x c hc⟩ hs,by simpa using I.len⟩ ⟨c,hs,.inr hc⟩
  ·exact(hs.2 b (HL (HF (Hz e) (I.ok.DD x c hfn hc)))).trans (I.base.keep b o e n hb hx)
  ·obtain⟨sl,e1⟩:=I.base.slot b o e n hb hx
   exact⟨sl,(hs.2 b (HL (HF (Hz e) (I.ok.DD x c hfn hc)))).trans e1⟩
  ·obtain⟨o',e1⟩:=I.base.there b o e hx
   exact⟨o',(hs.2 b (HL (HF (Hz e) (I.ok.DD x c hfn hc)))).trans e1⟩
  ·by_cases hj:j=i
   ·subst hj
    rw[hi] at e1;cases e1
    rw[Ii hiσ] at e2
    cases e2
    exact⟨u,r,.inr ⟨.inl hk,c,hc,hc'⟩⟩
   ·rw[HP (Ne.symm hj)] at e2
    obtain⟨u',r',q⟩:=hl j y v' e1 e2 e3
    refine⟨u',r',?_⟩
    rcases q with q|⟨k,c',e,z'⟩
    ·exact .inl q
    ·refine .inr ⟨k,c',e,z'.sameBut hs ?_⟩
     rintro rfl
     exact hj (qz hN e1 (I.ok.inj _ _ _ e hc▸hi))
  ·by_cases hcc:c'=c
   ·subst hcc;exact⟨_,hc'⟩
   ·obtain⟨w2,z2⟩:=I.cell y c' e
    exact⟨w2,z2.sameBut hs hcc⟩
  ·obtain⟨e,n,ne,nf,d⟩:=I.pin p hp
   refine⟨(hs.2 p.1 ?_).trans e,n,ne,nf,d⟩
   intro q
   rw[q,hoc] at e
   have q':oc=p.2:=Ik e
   exact d w' (by rw[←q'];exact hocd)
theorem jm {M:Model} {A:Around} {E:Value→Shared→Prop} {i:Nat} {x:Str} {v:V} {u:Value} {Q:Unit→Shared→Prop} (I:Inv X pZ σ H s) (hN:X.N.Nodup) (hi:X.N[i]?=some x) (hx:Loc X.env.scope x) (r:RelV v u)
  (h: ∀ s',Inv X pZ (σ.set i (some v)) H s'→Q () s') (hf:X.fn x=true∨X.env.scope.names.lookup x=some .local:=by first|exact .inl rfl|exact .inr rfl|assumption):wpAny M A (storeName X.env x u) Q E s:=
 jX I hN hi hx r (fun s' I' _=>h s' I') hf
theorem Inv.ET (I:Inv X pZ σ H s) (ho:s'.os=s.os) (u:Un (ya X.stack) ch H H' s.heap s'.heap) (cm:iU X.prog X.w H' s'.heap) (hg:AllBare s'.gens)
  (hch: ∀ b∈ch,(b∈X.ex∨X.s₀.heap.objs.size≤b)∧b≠X.env.locals∧(∀ x c,X.env.cells.lookup x=some c→c≠b)∧∀ p∈X.pn++pZ,p.1≠b):Inv X pZ σ H' s':=by
 obtain⟨h',g',d',t',o'⟩:=s'
 have e:o'=s.os:=ho
 subst e
 exact I.call (g':=g') (t':=t') (d':=d') u cm hg hch
end
abbrev XK:=Value→Option Addr→Hp→Prop
abbrev St:=List (Option V)
abbrev VK:=V→Hp→Prop
abbrev TE:=St→Hp→VK→Prop
abbrev TT:=St→Hp→(Bool→Hp→Prop)→Prop
abbrev TA:=St→Hp→(List V→Hp→Prop)→Prop
structure Ends where
 nx:St→Hp→Prop
 rt:VK
 bk:St→Hp→Prop:=fun _ _=>False
 ct:St→Hp→Prop:=fun _ _=>False
abbrev TS:=Ends→St→Hp→Prop
def EP (X:Cx) (pZ:List (Addr×Obj)) (σ:St) (Q:VK) (u:Value) (s':Shared):Prop:= ∃ v H',Inv X pZ σ H' s'∧RelV v u∧Q v H'
def TP (X:Cx) (pZ:List (Addr×Obj)) (σ:St) (Q:Bool→Hp→Prop) (b:Bool) (s':Shared):Prop:= ∃ H',Inv X pZ σ H' s'∧Q b H'
def AP (X:Cx) (pZ:List (Addr×Obj)) (σ:St) (Q:List V→Hp→Prop) (us:List Value) (s':Shared):Prop:= ∃ vs H',Inv X pZ σ H' s'∧Vals vs us∧Q vs H'
def SP (X:Cx) (pZ:List (Addr×Obj)) (D:Ends) (f:Flow) (s':Shared):Prop:=
 match f with
 | .next=> ∃ σ' H',Inv X pZ σ' H' s'∧D.nx σ' H'
 | .brk=> ∃ σ' H',Inv X pZ σ' H' s'∧D.bk σ' H'
 | .cont=> ∃ σ' H',Inv X pZ σ' H' s'∧D.ct σ' H'
 | .ret u=> ∃ v σ' H',Inv X pZ σ' H' s'∧RelV v u∧D.rt v H'
def PE (X:Cx) (e:Expr) (t:TE):Prop:=
 ∀ (pZ:List (Addr×Obj)) (s:Shared) (σ:St) (H:Hp) (Q:VK),Inv X pZ σ H s→t σ H Q→wpAny (model X.prog X.w) X.A (eval e X.env) (EP X pZ σ Q) X.xe s
def PT (X:Cx) (e:Expr) (t:TT):Prop:=
 ∀ (pZ:List (Addr×Obj)) (s:Shared) (σ:St) (H:Hp) (Q:Bool→Hp→Prop),Inv X pZ σ H s→t σ H Q→wpAny (model X.prog X.w) X.A (isTrue e X.env (eval e X.env)) (TP X pZ σ Q) X.xe s
def PW (X:Cx) (e:Expr) (t:TT):Prop:=
 ∀ (whole:Sem Value) (pZ:List (Addr×Obj)) (s:Shared) (σ:St) (H:Hp) (Q:Bool→Hp→Prop),Inv X pZ σ H s→t σ H Q→wpAny (model X.prog X.w) X.A (isTrue e X.env whole) (TP X pZ σ Q) X.xe s
theorem PW.pt {X:Cx} {e:Expr} {t:TT} (h:PW X e t):PT X e t:=h _
def PA (X:Cx) (es:List Expr) (t:TA):Prop:=
 ∀ (pos:Pos) (pZ:List (Addr×Obj)) (s:Shared) (σ:St) (H:Hp) (Q:List V→Hp→Prop),Inv X pZ σ H s→t σ H Q→wpAny (model X.prog X.w) X.A (spliced (backTo pos (starEach es X.env))) (AP X pZ σ Q) X.xe s
def PS (X:Cx) (st:Stmt) (t:TS):Prop:=
 ∀ (pZ:List (Addr×Obj)) (s:Shared) (σ:St) (H:Hp) (D:Ends),Inv X pZ σ H s→t D σ H→wpAny (model X.prog X.w) X.A (exec st X.env) (SP X pZ D) X.xe s
def rG (X:Cx) (st:List Stmt) (t:TS):Prop:=
 ∀ (pZ:List (Addr×Obj)) (s:Shared) (σ:St) (H:Hp) (D:Ends),Inv X pZ σ H s→t D σ H→wpAny (model X.prog X.w) X.A (execs st X.env) (SP X pZ D) X.xe s
theorem bF {α:Type} {t:Sem α} {Q Q':α→Shared→Prop} {M:Model} {A:Around} {E:Value→Shared→Prop} {s:Shared} (h:wpAny M A t Q E s) (hQ: ∀ a s,Q a s→Q' a s):wpAny M A t Q' E s:=wpAny_mono h hQ fun _ _ x=>x
end L2
namespace L2
open PySem PySem.Spec PyProof.Rows
section
variable {X:Cx}
noncomputable def nc (i:Nat):TE:=fun σ H Q=> ∃ v,σ[i]?=some (some v)∧Q v H
def tC (v:V):TE:=fun _ H Q=>Q v H
theorem wY (hN:X.N[i]?=some x) (hv:Fy X.env.scope x) (hd:(x==("__debug__":Str))=false:=by decide) (hcd:(x==("__classdict__":Str))=false:=by decide):PE X (.Name x pos) (nc i):=by
 intro pZ s σ H Q I h
 obtain⟨v,e,h⟩:=h
 obtain⟨m,hn,hl⟩:=I.loc
 obtain⟨u,r,l⟩:=hl i x v hN e hv
 have fin:EP X pZ σ Q u s:=⟨v,H,I,r,h⟩
 rcases l with⟨hk,hm⟩|⟨hk,c,hc,hcell⟩
 ·exact wpAny_Name (wpAny_loadName_local I.ok.kind hk hn hm fin) hd
 ·rcases hk with hk|hk
  ·exact wpAny_Name (wpAny_loadName_cell I.ok.kind hk hc hcell fin) hd
  ·exact wpAny_Name (wpAny_loadName_free I.ok.kind hk hc hcell fin hcd) hd
theorem aX {i j pos}:PE X (.Constant (.int i) j pos) (tC (.int i)):=fun _ _ _ H _ I h=>wpAny_Constant_int ⟨.int i,H,I.tok _,⟨_,rfl⟩,h⟩
theorem Ej {b j pos}:PE X (.Constant (.bool b) j pos) (tC (.bl b)):=fun _ _ _ H _ I h=>Constant_bool ⟨.bl b,H,I,rfl,h⟩
theorem B5 {x j pos}:PE X (.Constant (.str x) j pos) (tC (.str x)):=fun _ _ _ H _ I h=>Calls.Constant_str ⟨.str x,H,I.tok _,⟨_,rfl⟩,h⟩
def Gl (X:Cx) (x:Str):Prop:=X.env.kindOf x=some .globalImplicit
theorem Ae {E:Value→Shared→Prop} {pZ:List (Addr×Obj)} {s:Shared} {σ:St} {H:Hp} {x:Str} {u:Value} {pos:Pos} {Q:Value→Shared→Prop} (I:Inv X pZ σ H s) (hg:Gl X x) (hm:X.mg x=some u) (h:Q u s)
  (hd:(x==("__debug__":Str))=false:=by decide):wpAny (model X.prog X.w) X.A (eval (.Name x pos) X.env) Q E s:=
 Calls.Name_function_global I.ok.kind hg (Calls.loadGlobal_global (by rw[I.ok.glob];exact I.mod.glob.keeps I.bk) hm h) hd
theorem ke {E:Value→Shared→Prop} {pZ:List (Addr×Obj)} {s:Shared} {σ:St} {H:Hp} {x:Str} {u:Value} {pos:Pos} {Q:Value→Shared→Prop} (I:Inv X pZ σ H s) (hg:Gl X x) (hm:X.mg x=none) (hv:bootBuiltins x=some u) (h:Q u s)
  (hn:x≠"__name__":=by decide) (hd:(x==("__debug__":Str))=false:=by decide):wpAny (model X.prog X.w) X.A (eval (.Name x pos) X.env) Q E s:=by
 obtain⟨mb,h1,h2⟩:=I.mod.blt
 exact Calls.Name_function_global I.ok.kind hg (Calls.loadGlobal_builtin (by rw[I.ok.glob];exact I.mod.glob.keeps I.bk) hm (by rw[I.ok.blt];exact h1.keeps I.bk) ((h2 x hn).trans hv) h) hd
variable {a b:Expr} {ta tb:TE} {pos:Pos}
def PC (X:Cx) (op:CmpOp) (a b:Expr) (t:TE):Prop:=
 ∀ (pZ:List (Addr×Obj)) (s:Shared) (σ:St) (H:Hp) (Q:VK),Inv X pZ σ H s→t σ H Q→
  wpAny (model X.prog X.w) X.A (eval a X.env) (fun v s₁=>wpAny (model X.prog X.w) X.A (eval b X.env) (fun u s₂=>wpAny (model X.prog X.w) X.A (compareOp op v u) (EP X pZ σ Q) X.xe s₂) X.xe s₁) X.xe s
theorem xy (b:Expr) {op:CmpOp} (h:op≠.In) (h2:op≠.NotIn):behindInMarks op b=false:=by
 have e1:(op==CmpOp.In)=false:=by cases op<;>first|rfl|exact absurd rfl h
 have e2:(op==CmpOp.NotIn)=false:=by cases op<;>first|rfl|exact absurd rfl h2
 cases b<;>simp[behindInMarks,e1,e2]
noncomputable def tB (t:TE):TT:=fun σ H Q=>t σ H fun x H1=> ∃ c,x= .bl c∧Q c H1
theorem B0 {op:CmpOp} {t:TE} (h:PC X op a b t) (h1:behindInMarks op b=false:=by first|exact xy _ (by decide) (by decide)|rfl):PT X (.Compare a [op] [b] pos) (tB t):=by
 intro pZ s σ H Q I hw
 refine wpAny_isTrue_Compare1 (bF (h pZ s σ H _ I hw) fun v s1 h1=>bF h1 fun u s2 h2=>bF h2 fun c s3 ⟨x,H1,I1,r1,q1⟩=>?_) h1
 obtain⟨d,rfl,q⟩:=q1
 cases r1
 exact wpAny_truthy_bool ⟨H1,I1,q⟩
theorem BZ {e:Expr} {t:TE} (h:PE X e t) (he: ∀ whole,isTrue e X.env whole=(do let v ←whole;standAt e.pos;holding [v] (truthy v)):=by intro _;rfl):PT X e (tB t):=by
 intro pZ s σ H Q I hw
 refine isTrue_plain (bF (h pZ s σ H _ I hw) fun v s1 ⟨x,H1,I1,r1,q1⟩=>?_) (he _)
 obtain⟨d,rfl,q⟩:=q1
 cases r1
 exact wpAny_truthy_bool ⟨H1,I1,q⟩
variable {tA tB':TT} {rest:List Expr}
noncomputable def FP (t u:TT):TT:=fun σ H Q=>t σ H fun c H1=>if c=true then u σ H1 Q else Q false H1
noncomputable def G0 (t u:TT):TT:=fun σ H Q=>t σ H fun c H1=>if c=true then Q true H1 else u σ H1 Q
theorem tV (ha:PT X a tA):PW X (.BoolOp .And [a] pos) tA:=by
 intro wh pZ s σ H Q I h
 refine isTrue_and (bF (ha pZ s σ H Q I h) fun c s1 e=>?_)
 cases c with
 |true=>exact isTrue_and_nil e
 |false=>exact e
theorem BX (ha:PT X a tA):PW X (.BoolOp .Or [a] pos) tA:=by
 intro wh pZ s σ H Q I h
 refine isTrue_or (bF (ha pZ s σ H Q I h) fun c s1 e=>?_)
 cases c with
 |false=>exact isTrue_or_nil e
 |true=>exact e
theorem wK (ha:PT X a tA) (hb:PW X (.BoolOp .And (b::rest) pos) tB'):PW X (.BoolOp .And (a::b::rest) pos) (FP tA tB'):=by
 intro wh pZ s σ H Q I h
 refine isTrue_and (bF (ha pZ s σ H _ I h) fun c s1 ⟨H1,I1,q1⟩=>?_)
 cases c with
 |true=>exact hb wh pZ s1 σ H1 Q I1 q1
 |false=>exact⟨H1,I1,q1⟩
theorem Ea (ha:PT X a tA) (hb:PW X (.BoolOp .Or (b::rest) pos) tB'):PW X (.BoolOp .Or (a::b::rest) pos) (G0 tA tB'):=by
 intro wh pZ s σ H Q I h
 refine isTrue_or (bF (ha pZ s σ H _ I h) fun c s1 ⟨H1,I1,q1⟩=>?_)
 cases c with
 |true=>exact⟨H1,I1,q1⟩
 |false=>exact hb wh pZ s1 σ H1 Q I1 q1
noncomputable def DO (ta tb:TE):TE:=fun σ H Q=>ta σ H fun x H1=> ∃ c,x= .bl c∧if c=true then tb σ H1 Q else Q (.bl false) H1
theorem B6 {op} (h:PE X a t):PE X (.BoolOp op [a] pos) t:=fun pZ s σ H Q I hw=>BoolOp_one (h pZ s σ H Q I hw)
theorem B8 (ha:PE X a ta) (hb:PE X (.BoolOp .And (b::rest) pos) tb):PE X (.BoolOp .And (a::b::rest) pos) (DO ta tb):=by
 intro pZ s σ H Q I h
 refine BoolOp_and (bF (ha pZ s σ H _ I h) fun v s1 ⟨x,H1,I1,r1,q1⟩=>?_)
 obtain⟨c,rfl,q1⟩:=q1
 cases r1
 refine wpAny_truthy_bool ?_
 cases c with
 |true=>exact hb pZ s1 σ H1 Q I1 q1
 |false=>exact⟨.bl false,H1,I1,rfl,q1⟩
end
end L2
namespace L2
open PySem PySem.Spec PyProof.Rows
def cw (K:Frag) (H:Hp) (a:Addr) (xs:List V):Prop:=
 Rd H a (.lst xs)∨
  ∃ (o:Obj) (aA:Array Value) (n:Nat),K.lookup a=some o∧o.cls= .type "list"∧o.dict=none∧o.data= .seq aA n∧aA.size≤sizeLine∧Vals xs aA.toList
def dJ (K:Frag) (H:Hp) (a:Addr) (xs:List V):Prop:=
 Rd H a (.tup xs)∨
  ∃ (o:Obj) (aA:Array Value) (n:Nat),K.lookup a=some o∧o.cls= .type "tuple"∧o.data= .seq aA n∧aA.size≤sizeLine∧Vals xs aA.toList
noncomputable def Gw:Value→Option V
 | .none=>some .bX
 | .bool b=>some (.bl b)
 | .int i _=>some (.int i)
 | .str x _=>some (.str x)
 | .bytes b _=>some (.C7 b)
 | .float b _=>some (.EI b)
 | .ref a=>some (.ref a)
 | .type n=>some (.ty n)
 |_=>none
theorem RelV.abs (r:RelV x u):Gw u=some x:=by
 cases x with
 |bX=>cases r;rfl
 |bl _=>cases r;rfl
 |int _=>obtain⟨t,rfl⟩:=r;rfl
 |str _=>obtain⟨t,rfl⟩:=r;rfl
 |C7 _=>obtain⟨t,rfl⟩:=r;rfl
 |EI _=>obtain⟨t,rfl⟩:=r;rfl
 |ref _=>cases r;rfl
 |ty _=>cases r;rfl
theorem RelV.inj {x y:V} {u:Value} (r:RelV x u) (q:RelV y u):x=y:=Ik (r.abs.symm.trans q.abs)
theorem Vals.inj: ∀ {xs ys:List V} {us:List Value},Vals xs us→Vals ys us→xs=ys
 |_,_,_,.nil,.nil=>rfl
 |_,_,_,.cons r t,.cons r' t'=>by rw[r.inj r',Vals.inj t t']
section
variable {X:Cx} {pZ:List (Addr×Obj)} {σ:St} {H:Hp} {s:Shared} {a:Addr} {xs ys:List V}
theorem cw.of {K:Frag} (h:H a=some (.lst xs)):cw K H a xs:=.inl (.inl h)
theorem dJ.of {K:Frag} (h:H a=some (.tup xs)):dJ K H a xs:=.inl (.inl h)
theorem Inv.list (I:Inv X pZ σ H s) (h:cw X.K H a xs): ∃ aA:List Value,Vals xs aA∧PlainL s.heap a aA.toArray∧xs.length≤sizeLine:=by
 rcases h with h|⟨o,aA,n,hk,hc,hd,hs,hz,r⟩
 ·obtain⟨z,aA,n,r,e⟩:=h.ok I.cm
  exact⟨aA,r,⟨_,n,e,rfl,rfl,rfl⟩,z⟩
 ·refine⟨aA.toList,r,⟨o,n,I.DA a o hk,hc,hd,by simpa using hs⟩,?_⟩
  have e:=r.length
  simp only[HS] at e
  lia
theorem Inv.tuple (I:Inv X pZ σ H s) (h:dJ X.K H a xs): ∃ aA:List Value,Vals xs aA∧IsTup s.heap a aA.toArray∧xs.length≤sizeLine:=by
 rcases h with h|⟨o,aA,n,hk,hc,hs,hz,r⟩
 ·obtain⟨z,aA,r,p⟩:=h.ok I.cm
  exact⟨aA,r,p.is,z⟩
 ·refine⟨aA.toList,r,⟨o,I.DA a o hk,hc,n,by simpa using hs⟩,?_⟩
  have e:=r.length
  simp only[HS] at e
  lia
theorem Inv.qH (I:Inv X pZ σ H s) (h:cw X.K H a xs) (h':cw X.K H a ys):xs=ys:=by
 obtain⟨aA,r,⟨o,n,e,_,_,d⟩,_⟩:=I.list h
 obtain⟨bL,r',⟨o',n',e',_,_,d'⟩,_⟩:=I.list h'
 rw[e] at e';cases e'
 rw[d] at d'
 injection d' with d1 _
 have:aA=bL:=by simpa using congrArg Array.toList d1
 subst this
 exact r.inj r'
theorem Inv.uJ (I:Inv X pZ σ H s) (h:dJ X.K H a xs) (h':dJ X.K H a ys):xs=ys:=by
 obtain⟨aA,r,⟨o,e,_,n,d⟩,_⟩:=I.tuple h
 obtain⟨bL,r',⟨o',e',_,n',d'⟩,_⟩:=I.tuple h'
 rw[e] at e';cases e'
 rw[d] at d'
 injection d' with d1 _
 have:aA=bL:=by simpa using congrArg Array.toList d1
 subst this
 exact r.inj r'
end
abbrev Cx.lT (X:Cx) (E:Value→Shared→Prop):Cx:={X with xe:=E}
abbrev Cx.pW (X:Cx):Cx:=X.lT fun _ _=>False
theorem Cx.Ok.lT {X:Cx} (ok:X.Ok) (E:Value→Shared→Prop):(X.lT E).Ok:=
 ⟨ok.mod,ok.kind,ok.glob,ok.blt,ok.above,ok.inj,ok.has,ok.DD,ok.hd,ok.frames,ok.DP,ok.Gn,ok.bs,ok.yX,ok.u5,ok.yd,ok.kn,ok.A8⟩
theorem Cx.Ok.gx {X:Cx} (ok:(X.lT E).Ok):X.Ok:=
 ⟨ok.mod,ok.kind,ok.glob,ok.blt,ok.above,ok.inj,ok.has,ok.DD,ok.hd,ok.frames,ok.DP,ok.Gn,ok.bs,ok.yX,ok.u5,ok.yd,ok.kn,ok.A8⟩
section
variable {X:Cx} {pZ:List (Addr×Obj)} {σ:St} {H:Hp} {s:Shared} {E:Value→Shared→Prop}
theorem Inv.lT (I:Inv X pZ σ H s) (E:Value→Shared→Prop):Inv (X.lT E) pZ σ H s:=⟨I.ok.lT E,I.os,I.bare,I.base,I.loc,I.cell,I.free,I.iT,I.pin,I.cm,I.len⟩
theorem Inv.gx (I:Inv (X.lT E) pZ σ H s):Inv X pZ σ H s:=⟨I.ok.gx,I.os,I.bare,I.base,I.loc,I.cell,I.free,I.iT,I.pin,I.cm,I.len⟩
theorem SP.gx (h:SP (X.lT E) pZ D f s'):SP X pZ D f s':=by
 cases f with
 |next=>obtain⟨σ',H',I,q⟩:=h;exact⟨σ',H',I.gx,q⟩
 |brk=>obtain⟨σ',H',I,q⟩:=h;exact⟨σ',H',I.gx,q⟩
 |cont=>obtain⟨σ',H',I,q⟩:=h;exact⟨σ',H',I.gx,q⟩
 |ret u=>obtain⟨v,σ',H',I,r,q⟩:=h;exact⟨v,σ',H',I.gx,r,q⟩
theorem PE.pW (h:PE X.pW e t):PE X e t:=fun pZ s σ H Q I hw=>
 wpAny_mono (h pZ s σ H Q (I.lT _) hw) (fun _ _ ⟨v,H',I',r,q⟩=>⟨v,H',I'.gx,r,q⟩) fun _ _ z=>False.elim z
theorem rG.pW {st:List Stmt} {t:TS} (h:rG X.pW st t):rG X st t:=fun pZ s σ H D I hw=>
 wpAny_mono (h pZ s σ H D (I.lT _) hw) (fun _ _ q=>q.gx) fun _ _ z=>False.elim z
end
section
variable {X:Cx} {st:Stmt} {rest:List Stmt} {t u:TS} {e:Expr} {te:TE} {pos:Pos}
def DM:TS:=fun D σ H=>D.nx σ H
noncomputable def FN (t u:TS):TS:=fun D σ H=>t {D with nx:=u D} σ H
theorem oO:rG X [] DM:=fun _ _ σ H _ I h=>wpAny_execs_nil ⟨σ,H,I,h⟩
theorem cZ (h1:PS X st t) (h2:rG X rest u):rG X (st::rest) (FN t u):=by
 intro pZ s σ H D I h
 refine wpAny_execs_cons (bF (h1 pZ s σ H {D with nx:=u D} I h) fun f s1 q=>?_)
 cases f with
 |next=>
  obtain⟨σ',H',I',q⟩:=q
  exact h2 pZ s1 σ' H' D I' q
 |ret v=>exact q
 |brk=>exact q
 |cont=>exact q
theorem gF (h1:PS X st t):rG X [st] t:=by
 intro pZ s σ H D I h
 refine wpAny_execs_cons (bF (h1 pZ s σ H D I h) fun f s1 q=>?_)
 cases f with
 |next=>exact wpAny_execs_nil q
 |ret v=>exact q
 |brk=>exact q
 |cont=>exact q
theorem Inv.quiet {pZ:List (Addr×Obj)} {σ:St} {H:Hp} {s:Shared} (I:Inv X pZ σ H s):interactive X.env=false:=by simp[interactive,I.ok.kind]
noncomputable def vV (te:TE):TS:=fun D σ H=>te σ H fun _ H1=>D.nx σ H1
theorem zE (he:PE X e te) (hs:swapsWith e none pos.line X.env=pure false:=by rfl):PS X (.Expr e pos) (vV te):=by
 intro pZ s σ H D I h
 exact wpAny_Expr_any (bF (he pZ s σ H _ I h) fun v s1 ⟨x,H1,I1,r1,q1⟩=>⟨σ,H1,I1,q1⟩) I.quiet hs
noncomputable def Bv (te:TE):TS:=fun D σ H=>te σ H D.rt
theorem oP (he:PE X e te):PS X (.Return (some e) pos) (Bv te):=by
 intro pZ s σ H D I h
 exact wpAny_Return_some (bF (he pZ s σ H _ I h) fun v s1 ⟨x,H1,I1,r1,q1⟩=>⟨x,σ,H1,I1,r1,q1⟩)
noncomputable def Bz (c:TT) (t u:TS):TS:=fun D σ H=>c σ H fun b H1=>if b=true then t D σ H1 else u D σ H1
theorem wN {c:Expr} {a b:List Stmt} {tc:TT} (hc:PT X c tc) (ha:rG X a t) (hb:rG X b u):PS X (.If c a b pos) (Bz tc t u):=by
 intro pZ s σ H D I h
 refine wpAny_If (bF (hc pZ s σ H _ I h) fun d s1 ⟨H1,I1,q1⟩=>?_)
 cases d with
 |true=>exact ha pZ s1 σ H1 D I1 q1
 |false=>exact hb pZ s1 σ H1 D I1 q1
end
abbrev TG:=V→St→Hp→(St→Hp→Prop)→Prop
abbrev yZ:=List V→St→Hp→(St→Hp→Prop)→Prop
def PG (X:Cx) (target:Expr) (t:TG):Prop:=
 ∀ (pZ:List (Addr×Obj)) (s:Shared) (σ:St) (H:Hp) (v:V) (u:Value) (Q:St→Hp→Prop),Inv X pZ σ H s→RelV v u→t v σ H Q→
  wpAny (model X.prog X.w) X.A (assign target X.env u) (fun _ s'=> ∃ σ' H',Inv X pZ σ' H' s'∧Q σ' H') X.xe s
def E5 (X:Cx) (ts:List Expr) (t:yZ):Prop:=
 ∀ (pZ:List (Addr×Obj)) (s:Shared) (σ:St) (H:Hp) (vs:List V) (us:List Value) (Q:St→Hp→Prop),Inv X pZ σ H s→Vals vs us→t vs σ H Q→
  wpAny (model X.prog X.w) X.A (assignInOrder ((assignEach ts X.env).map (·.2)) us) (fun _ s'=> ∃ σ' H',Inv X pZ σ' H' s'∧Q σ' H') X.xe s
abbrev Dl:=V→V→V→Hp→(Hp→Prop)→Prop
def E4 (X:Cx) (t:Dl):Prop:=
 ∀ (pZ:List (Addr×Obj)) (s:Shared) (σ:St) (H:Hp) (o i v:V) (ov iv u:Value) (Q:Hp→Prop),Inv X pZ σ H s→RelV o ov→RelV i iv→RelV v u→t o i v H Q→
  wpAny (model X.prog X.w) X.A (setItem ov iv u) (fun _ s'=> ∃ H',Inv X pZ σ H' s'∧Q H') X.xe s
section
variable {X:Cx} {pos:Pos}
noncomputable def dW (i:Nat):TG:=fun v σ H Q=>Q (σ.set i (some v)) H
theorem lI (hN:X.N.Nodup) (hi:X.N[i]?=some x) (hx:Loc X.env.scope x) (hf:X.fn x=true∨X.env.scope.names.lookup x=some .local:=by first|exact .inl rfl|exact .inr rfl|assumption):PG X (.Name x pos) (dW i):=by
 intro pZ s σ H v u Q I r h
 exact wpAny_assign_Name (jm I hN hi hx r (fun s' I'=>⟨_,H,I',h⟩) hf)
def CQ:yZ:=fun vs σ H Q=>vs=[]∧Q σ H
noncomputable def xZ (t:TG) (u:yZ):yZ:=fun vs σ H Q=> ∃ v r,vs=v::r∧t v σ H fun σ' H'=>u r σ' H' Q
theorem t4:E5 X [] CQ:=by
 intro pZ s σ H vs us Q I r h
 obtain⟨e,h⟩:=h
 subst e
 cases r
 exact assignInOrder_nil ⟨σ,H,I,h⟩
theorem mw {e:Expr} {es:List Expr} {t:TG} {u:yZ} (h1:PG X e t) (h2:E5 X es u)
  (hs:(assignEach (e::es) X.env).map (·.2)=assign e X.env::(assignEach es X.env).map (·.2):=by rfl):E5 X (e::es) (xZ t u):=by
 intro pZ s σ H vs us Q I r h
 obtain⟨v,vr,e1,h⟩:=h
 subst e1
 cases r with
 |cons r rr=>
  rw[hs]
  refine assignInOrder_cons (bF (h1 pZ s σ H _ _ _ I r h) fun _ s1 ⟨σ1,H1,I1,q1⟩=>?_)
  exact h2 pZ s1 σ1 H1 _ _ Q I1 rr q1
noncomputable def vj (K:Frag) (n:Nat) (t:yZ):TG:=fun v σ H Q=> ∃ a xs,v= .ref a∧dJ K H a xs∧xs.length=n∧t xs σ H Q
theorem wV (hc:X.calm=true) (h:E5 X es t)
  (hn:(assignEach es X.env).length=n:=by rfl) (hst:(assignEach es X.env).findIdx? (·.1)=none:=by rfl):PG X (.Tuple es k pos) (vj X.K n t):=by
 intro pZ s σ H v u Q I r hw
 obtain⟨a,xs,e1,hq,hl,hw⟩:=hw
 subst e1
 cases r
 obtain⟨aA,rv,ht,hz⟩:=I.tuple hq
 refine assign_Tuple_tuple (I.ok.hd hc) ht (by simp[hn,←hl,rv.length]) hst fun h' hx=>?_
 have I1:Inv X pZ σ H {s with heap:=h'}:=I.kept (t':=s.toks) fun b o e=>hx b o (HL (Hz e)) e
 exact h pZ _ σ H xs _ Q I1 (by simpa using rv) hw
noncomputable def Gm (to ti:TE) (t:Dl):TG:=fun v σ H Q=>to σ H fun o H1=>ti σ H1 fun i H2=>t o i v H2 fun H3=>Q σ H3
theorem wW {o i:Expr} {to ti:TE} {t:Dl} (ho:PE X o to) (hi:PE X i ti) (hs:E4 X t)
  (ha: ∀ v,assign (.Subscript o i pos) X.env v=(do
   let ov ←holding [v] (eval o X.env)
   let iv ←holding [v,ov] (eval i X.env)
   standAt pos
   holding [v,ov,iv] (setItem ov iv v)
   release [v,ov,iv] []):=by intro _;rfl):PG X (.Subscript o i pos) (Gm to ti t):=by
 intro pZ s σ H v u Q I r h
 rw[ha]
 refine He (wpAny_holding (bF (ho pZ s σ H _ I h) fun ov s1 ⟨x,H1,I1,r1,q1⟩=>?_))
 refine He (wpAny_holding (bF (hi pZ s1 σ H1 _ I1 q1) fun iv s2 ⟨y,H2,I2,r2,q2⟩=>?_))
 refine He (wpAny_standAt (He (wpAny_holding (bF (hs pZ s2 σ H2 x y v ov iv u _ I2 r1 r2 r q2) fun _ s3 ⟨H3,I3,q3⟩=>?_))))
 exact wpAny_release ⟨σ,H3,I3,q3⟩
noncomputable def gz (te:TE) (g:TG):TS:=fun D σ H=>te σ H fun x H1=>g x σ H1 D.nx
theorem rX {tg e:Expr} {te:TE} {g:TG} (he:PE X e te) (hg:PG X tg g) (hs:swapsWithSole [tg] e pos.line X.env=pure false:=by rfl) (hw:swappedStores [tg] e X.env=pure none:=by rfl)
  (h1:(assignEach [tg] X.env).map (·.2)=[assign tg X.env]:=by rfl):PS X (.Assign [tg] e pos) (gz te g):=by
 intro pZ s σ H D I h
 refine wpAny_Assign_stores (bF (he pZ s σ H _ I h) fun v s1 ⟨x,H1,I1,r1,q1⟩=>?_) hs hw
 rw[h1]
 exact bF (hg pZ s1 σ H1 x v _ I1 r1 q1) fun _ s2 q=>q
theorem hZ {i:Nat} {x:Str} {e:Expr} {te:TE} {pos':Pos} (hN:X.N.Nodup) (hi:X.N[i]?=some x) (hx:Loc X.env.scope x) (he:PE X e te) (hs:swapsWith e (some (.Name x pos')) pos.line X.env=pure false:=by rfl) (hf:X.fn x=true∨X.env.scope.names.lookup x=some .local:=by first|exact .inl rfl|exact .inr rfl|assumption):
  PS X (.Assign [.Name x pos'] e pos) (gz te (dW i)):=by
 intro pZ s σ H D I h
 refine wpAny_Assign_Name (bF (he pZ s σ H _ I h) fun v s1 ⟨y,H1,I1,r1,q1⟩=>?_) hs
 exact jm I1 hN hi hx r1 (fun s2 I2=>⟨_,H1,I2,q1⟩) hf
noncomputable def Bw (i j:Nat) (ta:TA):TS:=fun D σ H=>ta σ H fun vs H1=> ∃ v w,vs=[v,w]∧D.nx ((σ.set i (some v)).set j (some w)) H1
theorem B1 {i j:Nat} {x y:Str} {a b:Expr} {ta:TA} {px py pt:Pos} {kt k2 pt2} (hc:X.calm=true) (hN:X.N.Nodup) (hi:X.N[i]?=some x) (hj:X.N[j]?=some y) (hij:i≠j)
  (hx:X.env.scope.names.lookup x=some .local) (hy:X.env.scope.names.lookup y=some .local) (ha:PA X [a,b] ta)
  (hw:swappedStores [.Tuple [.Name x px,.Name y py] kt pt] (.Tuple [a,b] k2 pt2) X.env=pure (some [x,y]))
  (hs:swapsWithSole [.Tuple [.Name x px,.Name y py] kt pt] (.Tuple [a,b] k2 pt2) pos.line X.env=pure false:=by rfl):
  PS X (.Assign [.Tuple [.Name x px,.Name y py] kt pt] (.Tuple [a,b] k2 pt2) pos) (Bw i j ta):=by
 intro pZ s σ H D I h
 rw[exec_Assign_arm]
 refine He (wpAny_standAt ?_)
 rw[hs]
 refine He (Hk ?_)
 rw[Ih (by decide)]
 refine He (Tuple_ (bF (ha _ pZ s σ H _ I h) fun us s1 ⟨vs,H1,I1,r1,q1⟩=>?_))
 obtain⟨v,w,e1,q1⟩:=q1
 subst e1
 obtain⟨u1,u2,rfl,rv,rw'⟩: ∃ u1 u2,us=[u1,u2]∧RelV v u1∧RelV w u2:=by
  cases r1 with
  |cons p q=>
   cases q with
   |cons p' q'=>
    cases q'
    exact⟨_,_,rfl,p,p'⟩
 refine wpAny_newObj_type ?_ (by show 2≤sizeLine;decide)
 have I2:Inv X pZ σ H1 {s1 with heap:=s1.heap.push {cls:=.type "tuple",data:=.seq [u1,u2].toArray}}:=I1.kept (t':=s1.toks) fun b o e=>Hh _ e
 rw[hw]
 refine He (Hk ?_)
 show wpAny (model X.prog X.w) X.A (do rule "assign.swapped-stores";let items ←unpackItems (.ref s1.heap.objs.size) 2 none;assignInOrder [fun v=>bindName X.env y v,fun v=>bindName X.env x v] items.reverse;pure Flow.next) _ _ _
 refine He (wpAny_rule (He (unpackItems_tuple (items:= #[u1,u2]) (I.ok.hd hc) (IsTup.new s1.heap _) fun h' hx'=>?_)))
 have I3:=I2.kept (h':=h') (t':=s1.toks) fun b o e=>hx' b o (HL (Hz e)) e
 show wpAny _ _ (assignInOrder [fun v=>bindName X.env y v,fun v=>bindName X.env x v] [u2,u1] >>= fun _=>pure Flow.next) _ _ _
 refine He (assignInOrder_cons (wpAny_bindName (jm I3 hN hj (.inl hy) rw' (fun s2 I4=>?_) (.inr hy))))
 refine assignInOrder_cons (wpAny_bindName (jm I4 hN hi (.inl hx) rv (fun s3 I5=>assignInOrder_nil (Hk ?_)) (.inr hx)))
 rw[List.set_comm _ _ (Ne.symm hij)] at I5
 exact⟨_,H1,I5,q1⟩
end
section
variable {X:Cx} {pos:Pos}
noncomputable def rL (c:TT) (tb:TS):TS:=fun D σ H=> ∃ W:Nat→St→Hp→Prop,(∃ m,W m σ H)∧∀ m σ H,W m σ H→
 c σ H fun b H1=>if b=true then ∃ N:St→Hp→Prop,(∀ σ' H',N σ' H'→∃ m',m' < m∧W m' σ' H')∧tb {D with nx:=N,ct:=N,bk:=D.nx} σ H1 else D.nx σ H1
theorem wM {c:Expr} {body:List Stmt} {tc:TT} {tb:TS} (hp:PassesOwn (model X.prog X.w) X.A X.env X.xe) (hc:PT X c tc) (hb:rG X body tb):PS X (.While c body [] pos) (rL tc tb):=by
 intro pZ s σ H D I h
 obtain⟨W,⟨m0,w0⟩,turn⟩:=h
 refine wpAny_While (codeAny_whileLoop (fun n s'=> ∃ σ' H',Inv X pZ σ' H' s'∧W n σ' H') ?_ m0 ⟨σ,H,I,w0⟩)
 rintro n s1 ⟨σ1,H1,I1,w1⟩
 refine wpAny_passesOwn hp (bF (hc pZ s1 σ1 H1 _ I1 (turn n σ1 H1 w1)) fun b s2 ⟨H2,I2,q2⟩=>?_)
 cases b with
 |true=>
  obtain⟨N,hN,q2⟩:=q2
  rw[Ig rfl]
  refine wpAny_passesOwn hp (bF (hb pZ s2 σ1 H2 _ I2 q2) fun f s3 q3=>?_)
  cases f with
  |next=>
   obtain⟨σ3,H3,I3,n3⟩:=q3
   obtain⟨m',hm,w3⟩:=hN σ3 H3 n3
   exact⟨m',hm,σ3,H3,I3,w3⟩
  |cont=>
   obtain⟨σ3,H3,I3,n3⟩:=q3
   obtain⟨m',hm,w3⟩:=hN σ3 H3 n3
   exact⟨m',hm,σ3,H3,I3,w3⟩
  |brk=>exact q3
  |ret v=>exact q3
 |false=>
  rw[Ih Iq]
  exact wpAny_execs_nil ⟨σ1,H2,I2,q2⟩
end
structure It where
 go:Nat→Hp→Prop
 oC:Nat→Hp→V→Hp→Prop
 stop:Nat→Hp→Prop
def cJ (X:Cx) (pZ:List (Addr×Obj)) (H:Hp) (b:Addr):Prop:=
 H b=none∧b≠X.env.locals∧b∉X.fs∧(b∈X.ex∨X.s₀.heap.objs.size≤b)∧(∀ x c,X.env.cells.lookup x=some c→c≠b)∧∀ p∈X.pn++pZ,p.1≠b
theorem Inv.pj {X:Cx} {pZ:List (Addr×Obj)} {σ:St} {H H':Hp} {s:Shared} {b:Addr} (I:Inv X pZ σ H s) (hb:s.heap.objs.size≤b) (hn:H' b=none):cJ X pZ H' b:=by
 refine⟨hn,Nat.ne_of_gt (HF I.lt hb),I.FZ hb,.inr (HD I.sz hb),fun x c e z=>?_,fun p hp z=>?_⟩
 ·obtain⟨v,q⟩:=I.cell x c e
  exact absurd (HF q.lt (by rw[z];exact hb)) (Nat.lt_irrefl _)
 ·exact absurd (HF (Hz (I.pin p hp).1) (by rw[z];exact hb)) (Nat.lt_irrefl _)
structure Turn (P:Program) (w:World) (K:Frag) (tg:Expr) (J:It) (fp:List Addr) (it:Addr) (tn:Nat→Heap→Prop):Prop where
 mem:it∈fp
 obj: ∀ i h,tn i h→∀ b∈fp,∃ o,h.get? b=some o∧∀ v,o.data≠.cell v
 keep: ∀ i h h',tn i h→(∀ b∈fp,∀ o,h.get? b=some o→h'.get? b=some o)→tn i h'
 item: ∀ (X:Cx),X.prog=P→X.w=w→X.K=K→X.calm=true→∀ (i:Nat) (pZ:List (Addr×Obj)) (s:Shared) (σ:St) (H:Hp) (E:Value→Shared→Prop),Inv X pZ σ H s→(∀ b∈fp,cJ X pZ H b)→tn i s.heap→J.go i H→
  wpAny (model P w) X.A (pyNext (.ref it)) (fun r s1=> ∃ u,r=some u∧
   wpAny (model P w) X.A (letOwnedTupleGo tg (.ref it) u) (fun _ s2=> ∃ x H',Inv X pZ σ H' s2∧RelV x u∧J.oC i H x H'∧tn (i+1) s2.heap∧∀ b∈fp,H' b=none) E s1) E s
 done: ∀ (X:Cx),X.prog=P→X.w=w→X.K=K→X.calm=true→∀ (i:Nat) (pZ:List (Addr×Obj)) (s:Shared) (σ:St) (H:Hp) (E:Value→Shared→Prop),Inv X pZ σ H s→(∀ b∈fp,cJ X pZ H b)→tn i s.heap→J.stop i H→
  wpAny (model P w) X.A (pyNext (.ref it)) (fun r s1=>r=none∧Inv X pZ σ H s1) E s
 self: ∀ (A:Around) (i:Nat) (s:Shared) (Q:Value→Shared→Prop) (E:Value→Shared→Prop),tn i s.heap→Q (.ref it) s→wpAny (model P w) A (pyIter (.ref it)) Q E s
abbrev TI:=St→Hp→(It→Hp→Prop)→Prop
def FA (X:Cx) (pZ:List (Addr×Obj)) (σ:St) (tg:Expr) (R:It→Hp→Prop) (itv:Value) (s2:Shared):Prop:=
 ∃ (it:Addr) (fp:List Addr) (tn:Nat→Heap→Prop) (J:It) (H':Hp),itv= .ref it∧Inv X pZ σ H' s2∧Turn X.prog X.w X.K tg J fp it tn∧tn 0 s2.heap∧(∀ b∈fp,cJ X pZ H' b)∧R J H'
def PI (X:Cx) (tg iter:Expr) (wi:TI):Prop:=
 ∀ (pZ:List (Addr×Obj)) (s:Shared) (σ:St) (H:Hp) (R:It→Hp→Prop),Inv X pZ σ H s→wi σ H R→
  wpAny (model X.prog X.w) X.A (eval iter X.env) (fun v s1=>wpAny (model X.prog X.w) X.A (pyIter v) (FA X pZ σ tg R) X.xe s1) X.xe s
theorem qO (ho : s.heap.get? it = some o) (hc : o.cls = .type n) (hd : o.data = .fields vs)
    (hn : ["enumerate", "zip", "dict_itemiterator", "dict_reverseitemiterator", "odict_iterator", "itertools.zip_longest", "itertools.pairwise"].contains n = false) (hQ : Q () s): wpAny M A (letOwnedTupleGo tg (.ref it) u) Q E s := by
  unfold letOwnedTupleGo
  cases tg <;> first
    | exact Hk hQ
    | (cases u <;> first
        | exact Hk hQ
        | (refine He (wpAny_load ho ?_)
           rw [hc, hd]
           show wpAny M A (if (["enumerate", "zip", "dict_itemiterator", "dict_reverseitemiterator", "odict_iterator", "itertools.zip_longest", "itertools.pairwise"].contains n && vs[0]? == some (rawInt _)) = true then _ else _) Q E s
           rw [Ih (by intro h; rw [hn, Bool.false_and] at h; cases h)]
           exact Hk hQ))
noncomputable def FF (K:Frag) (a:Addr):It:=
 ⟨fun i H=> ∃ xs x,cw K H a xs∧xs[i]?=some x,fun i H x H'=>H'=H∧∀ xs,cw K H a xs→xs[i]?=some x,fun i H=> ∃ xs,cw K H a xs∧xs.length≤i⟩
noncomputable def FD (K:Frag) (a:Addr):It:=
 ⟨fun i H=> ∃ xs x,dJ K H a xs∧xs[i]?=some x,fun i H x H'=>H'=H∧∀ xs,dJ K H a xs→xs[i]?=some x,fun i H=> ∃ xs,dJ K H a xs∧xs.length≤i⟩
noncomputable def FE (lo:Int) (n:Nat):It:=⟨fun i _=>i < n,fun i H x H'=>H'=H∧x= .int (lo+i),fun i _=>n≤i⟩
theorem uH {P:Program} {w:World} {K:Frag} {tg:Expr} (a it:Addr):Turn P w K tg (FF K a) [it] it (fun i h=>h.IsListIter it a i) where
 mem:=by simp
 obj:=fun i h st b hb=>by
  have e:b=it:=by simpa using hb
  subst e
  obtain⟨o,e,c,d⟩:=st
  exact⟨o,e,fun v z=>by rw[d] at z;cases z⟩
 keep:=fun i h h' st k=>st.at fun o e=>k it (by simp) o e
 item:=by
  intro X hP hw hK hc i pZ s σ H E I hf st hg
  subst hP hw hK
  obtain⟨xs,x,hq,hx⟩:=hg
  obtain⟨aA,rv,p,hz⟩:=I.list hq
  obtain⟨u,hu,ru⟩:=rv.get hx
  obtain⟨f0,f1,f2,f3,f4,f5⟩:=hf it (by simp)
  refine wpAny_pyNext_list_item st p.isList (x:=u) (by simpa using hu) fun h' st' sb=>?_
  have I1:Inv X pZ σ H {s with heap:=h'}:=I.turned (t':=s.toks) (fun b o hb e=>(sb.2 b hb).trans e) f0 f1 f3 f4 f5
  obtain⟨o,e,c,d⟩:=id st'
  exact⟨u,rfl,qO (s:={s with heap:=h'}) e c d (by decide) ⟨x,H,I1,ru,⟨rfl,fun ys hy=>by rw[I.qH hy hq];exact hx⟩,st',fun b hb=>(hf b hb).1⟩⟩
 done:=by
  intro X hP hw hK hc i pZ s σ H E I hf st hg
  subst hP hw hK
  obtain⟨xs,hq,hx⟩:=hg
  obtain⟨aA,rv,p,hz⟩:=I.list hq
  obtain⟨f0,f1,f2,f3,f4,f5⟩:=hf it (by simp)
  have hl:=rv.length
  exact wpAny_pyNext_list_end (I.ok.hd hc) st p.isList (by simp;lia) fun h' eb=>⟨rfl,I.turned (t':=s.toks) (fun b o hb e=>eb b o hb e) f0 f1 f3 f4 f5⟩
 self:=fun _ _ _ _ _ st h=>wpAny_pyIter_listiter st h
theorem rH {P:Program} {w:World} {K:Frag} {tg:Expr} (a it:Addr):Turn P w K tg (FD K a) [it] it (fun i h=>h.IsTupleIter it a i) where
 mem:=by simp
 obj:=fun i h st b hb=>by
  have e:b=it:=by simpa using hb
  subst e
  obtain⟨o,e,c,d⟩:=st
  exact⟨o,e,fun v z=>by rw[d] at z;cases z⟩
 keep:=fun i h h' st k=>st.at fun o e=>k it (by simp) o e
 item:=by
  intro X hP hw hK hc i pZ s σ H E I hf st hg
  subst hP hw hK
  obtain⟨xs,x,hq,hx⟩:=hg
  obtain⟨aA,rv,p,hz⟩:=I.tuple hq
  obtain⟨u,hu,ru⟩:=rv.get hx
  obtain⟨f0,f1,f2,f3,f4,f5⟩:=hf it (by simp)
  refine wpAny_pyNext_tuple_item st (show s.heap.IsTuple a aA.toArray from p) (x:=u) (by simpa using hu) fun h' st' sb=>?_
  have I1:Inv X pZ σ H {s with heap:=h'}:=I.turned (t':=s.toks) (fun b o hb e=>(sb.2 b hb).trans e) f0 f1 f3 f4 f5
  obtain⟨o,e,c,d⟩:=id st'
  exact⟨u,rfl,qO (s:={s with heap:=h'}) e c d (by decide) ⟨x,H,I1,ru,⟨rfl,fun ys hy=>by rw[I.uJ hy hq];exact hx⟩,st',fun b hb=>(hf b hb).1⟩⟩
 done:=by
  intro X hP hw hK hc i pZ s σ H E I hf st hg
  subst hP hw hK
  obtain⟨xs,hq,hx⟩:=hg
  obtain⟨aA,rv,p,hz⟩:=I.tuple hq
  obtain⟨f0,f1,f2,f3,f4,f5⟩:=hf it (by simp)
  have hl:=rv.length
  exact wpAny_pyNext_tuple_end (I.ok.hd hc) st (show s.heap.IsTuple a aA.toArray from p) (by simp;lia) fun h' eb=>⟨rfl,I.turned (t':=s.toks) (fun b o hb e=>eb b o hb e) f0 f1 f3 f4 f5⟩
 self:=fun _ _ _ _ _ st h=>wpAny_pyIter_tupleiter st h
theorem rJ {P:Program} {w:World} {K:Frag} {tg:Expr} (it:Addr) (lo:Int) (n:Nat):Turn P w K tg (FE lo n) [it] it (fun i h=>IsRangeIter h it (lo+(i:Nat) * 1) ((n:Int) - (i:Nat)) 1) where
 mem:=by simp
 obj:=fun i h st b hb=>by
  have e:b=it:=by simpa using hb
  subst e
  exact⟨_,st,fun v z=>by
   have z':Data.fields _=Data.cell v:=z
   cases z'⟩
 keep:=fun i h h' st k=>k it (by simp) _ st
 item:=by
  intro X hP hw hK hc i pZ s σ H E I hf st hg
  subst hP hw hK
  obtain⟨f0,f1,f2,f3,f4,f5⟩:=hf it (by simp)
  have W:=Walks.range (prog:=X.prog) (w:=X.w) (I.ok.hd hc) it lo 1 n
  refine W.item i s _ _ hg st fun v h' tk hv st' kk=>?_
  obtain⟨t,rfl⟩:=hv
  have I1:Inv X pZ σ H {s with heap:=h',toks:=tk}:=I.turned (fun b o hb e=>kk b o (by simpa using hb) e) f0 f1 f3 f4 f5
  refine⟨_,rfl,qO (s:={s with heap:=h',toks:=tk}) (n:="range_iterator") st' rfl rfl (by decide) ⟨.int (lo+i),H,I1,⟨t,?_⟩,⟨rfl,rfl⟩,st',fun b hb=>(hf b hb).1⟩⟩
  rw[Int.mul_one]
 done:=by
  intro X hP hw hK hc i pZ s σ H E I hf st hg
  subst hP hw hK
  obtain⟨f0,f1,f2,f3,f4,f5⟩:=hf it (by simp)
  exact wpAny_pyNext_range_end (I.ok.hd hc) st (by have:n≤i:=hg;lia) fun h' eb=>⟨rfl,I.turned (t':=s.toks) (fun b o hb e=>eb b o hb e) f0 f1 f3 f4 f5⟩
 self:=fun _ _ _ _ _ st h=>wpAny_pyIter_rangeiter st h
end L2
namespace L2
open PySem PySem.Spec PyProof.Rows
section
variable {X:Cx} {tg:Expr}
theorem wF {pZ:List (Addr×Obj)} {σ:St} {H:Hp} {s:Shared} {R:It→Hp→Prop} {E:Value→Shared→Prop} {lo hi:Int} {t u v:Tok} {tk:Nat} (I:Inv X pZ σ H s) (h1: -(2 ^ 62)≤lo) (h2:lo < 2 ^ 62) (h3: -(2 ^ 62)≤hi) (h4:hi < 2 ^ 62)
  (q:R (FE lo (hi - lo).toNat) H):wpAny (model X.prog X.w) X.A (pyIter (.ref s.heap.objs.size)) (FA X pZ σ tg R) E {s with heap:=s.heap.push {cls:=.type "range",data:=.fields #[.int lo t,.int hi u,.int 1 v]},toks:=tk}:=by
 refine wpAny_pyIter_range (IsRange.new ..) (small_one h1 h2 h3 h4) ?_
 have I1:Inv X pZ σ H {s with heap:=s.heap.push {cls:=.type "range",data:=.fields #[.int lo t,.int hi u,.int 1 v]},toks:=tk}:=I.kept fun b o e=>Hh _ e
 refine⟨(s.heap.push {cls:=.type "range",data:=.fields #[.int lo t,.int hi u,.int 1 v]}).objs.size,[(s.heap.push {cls:=.type "range",data:=.fields #[.int lo t,.int hi u,.int 1 v]}).objs.size],_,_,H,rfl,
  I1.kept (t':=tk) fun b o e=>Hh _ e,rJ _ lo (hi - lo).toNat,?_,fun b hb=>?_,q⟩
 ·have e1:lo+((0:Nat):Int) * 1=lo:=by simp
  have e2:(((hi - lo).toNat:Nat):Int) - ((0:Nat):Int)=Builtin.Range.rangeSize lo hi 1:=by rw[rangeSize_one];split<;>lia
  show IsRangeIter _ _ (lo+((0:Nat):Int) * 1) ((((hi - lo).toNat:Nat):Int) - ((0:Nat):Int)) 1
  rw[e1,e2]
  exact Hw _ rfl
 ·have e:b=(s.heap.push {cls:=.type "range",data:=.fields #[.int lo t,.int hi u,.int 1 v]}).objs.size:=by simpa using hb
  subst e
  exact I1.pj (Hn _) (I1.cm.fresh (Hn _))
noncomputable def xS (ta:TA):TI:=fun σ H R=>ta σ H fun vs H1=> ∃ j:Int,vs=[.int j]∧-(2 ^ 62)≤j∧j < 2 ^ 62∧R (FE 0 j.toNat) H1
theorem uS {a:Expr} {ta:TA} {p pos:Pos} (hg:Gl X "range") (hm:X.mg "range"=none) (ha:PA X [a] ta) (hs:starEach [a] X.env=[(false,eval a X.env)]:=by rfl):PI X tg (.Call (.Name "range" p) [a] [] pos) (xS ta):=by
 intro pZ s σ H R I h
 refine Call_ (ke I hg hm boot_range (PyProof.Rows.callWith_type1 (bF (ha pos pZ s σ H _ I h) fun us s1 ⟨vs,H1,I1,r1,q1⟩=>?_) hs rfl))
 obtain⟨j,e,q1,q2,q⟩:=q1
 subst e
 cases r1 with
 |cons r rr=>
  cases rr
  obtain⟨t,rfl⟩:=r
  exact call_range_1 (wF I1 (by lia) (by lia) q1 q2 (by simpa using q))
noncomputable def zh (wi:TI) (g:TG) (tb:TS):TS:=fun D σ H=>wi σ H fun J H1=> ∃ W:Nat→Nat→St→Hp→Prop,(∃ m,W 0 m σ H1)∧∀ i m σ H,W i m σ H→
 (J.stop i H∧D.nx σ H)∨(J.go i H∧∃ N:St→Hp→Prop,(∀ σ' H',N σ' H'→∃ m',m' < m∧W (i+1) m' σ' H')∧∀ x H',J.oC i H x H'→g x σ H' fun σ2 H2=>tb {D with nx:=N,ct:=N,bk:=D.nx} σ2 H2)
noncomputable def h7 (fp:List Addr) (h:Heap):List (Addr×Obj):=fp.filterMap fun b=>(h.get? b).map fun o=>(b,o)
theorem cF {fp:List Addr} {h:Heap} {b:Addr} {o:Obj} (hb:b∈fp) (e:h.get? b=some o):(b,o)∈h7 fp h:=List.mem_filterMap.mpr ⟨b,hb,by rw[e];rfl⟩
theorem uZ (hp:p∈h7 fp h):p.1∈fp∧h.get? p.1=some p.2:=by
 obtain⟨b,hb,e⟩:=List.mem_filterMap.mp hp
 cases q:h.get? b with
 |none=>rw[q] at e;cases e
 |some o=>
  rw[q] at e
  have e':(b,o)=p:=Ik e
  subst e'
  exact⟨hb,q⟩
theorem Inv.pinned {pZ:List (Addr×Obj)} {σ:St} {H:Hp} {s:Shared} {fp:List Addr} (I:Inv X pZ σ H s) (hf: ∀ b∈fp,cJ X pZ H b) (ho: ∀ b∈fp,∃ o,s.heap.get? b=some o∧∀ v,o.data≠.cell v):Inv X (pZ++h7 fp s.heap) σ H s:=
 I.iC fun p hp=>(Ie.mp hp).elim (fun z=>I.pin p (HB _ z)) fun z=>by
  obtain⟨hb,e⟩:=uZ z
  obtain⟨f0,f1,f2,_⟩:=hf p.1 hb
  obtain⟨o,e',d⟩:=ho p.1 hb
  rw[e] at e';cases e'
  exact⟨e,f0,f1,f2,d⟩
theorem Inv.fG {pZ pl:List (Addr×Obj)} {σ:St} {H:Hp} {s:Shared} (I:Inv X (pZ++pl) σ H s):Inv X pZ σ H s:=I.iC fun p hp=>I.pin p (HB _ (List.mem_append_left _ hp))
theorem rW {iter:Expr} {body:List Stmt} {wi:TI} {g:TG} {tb:TS} {pos:Pos} (hp:PassesOwn (model X.prog X.w) X.A X.env X.xe) (hc:X.calm=true) (hi:PI X tg iter wi) (hg:PG X tg g) (hb:rG X body tb)
  (hs: ∀ x,foldedSetIterable iter X.env x=pure x:=by intro _;rfl):PS X (.For tg iter body [] pos) (zh wi g tb):=by
 intro pZ s σ H D I h
 refine wpAny_For (bF (hi pZ s σ H _ I h) fun v s1 h1=>bF h1 fun itv s2 h2=>?_) hs
 obtain⟨it,fp,tn,J,H2,e,I2,T,st2,f2,W,⟨m0,w0⟩,turn⟩:=h2
 subst e
 have gA: ∀ {H':Hp},(∀ b∈fp,H' b=none)→∀ b∈fp,cJ X pZ H' b:=fun hn b hb=>⟨hn b hb,(f2 b hb).2⟩
 refine codeAny_forLoop_any (fun n s'=> ∃ i σ' H',Inv X pZ σ' H' s'∧tn i s'.heap∧(∀ b∈fp,H' b=none)∧W i n σ' H') ?_ m0 ⟨0,σ,H2,I2,st2,fun b hb=>(f2 b hb).1,w0⟩
 rintro n s3 ⟨i,σ3,H3,I3,st3,fr3,w3⟩
 rcases turn i n σ3 H3 w3 with⟨stop,qn⟩|⟨go,N,hN,step⟩
 ·refine wpAny_passesOwn hp (bF (T.done X rfl rfl rfl hc i pZ s3 σ3 H3 X.xe I3 (gA fr3) st3 stop) fun r s4 ⟨hr,I4⟩=>?_)
  subst hr
  exact wpAny_execs_nil ⟨σ3,H3,I4,qn⟩
 ·refine wpAny_passesOwn hp (bF (T.item X rfl rfl rfl hc i pZ s3 σ3 H3 X.xe I3 (gA fr3) st3 go) fun r s4 ⟨u,hr,h4⟩=>?_)
  subst hr
  refine wpAny_passesOwn hp (bF h4 fun _ s5 ⟨x,H5,I5,r5,y5,st5,fr5⟩=>?_)
  have I5':=I5.pinned (gA fr5) (T.obj _ _ st5)
  refine wpAny_passesOwn hp (bF (hg _ s5 σ3 H5 x u _ I5' r5 (step x H5 y5)) fun _ s6 ⟨σ6,H6,I6,q6⟩=>?_)
  refine wpAny_passesOwn hp (bF (hb _ s6 σ6 H6 _ I6 q6) fun f s7 q7=>?_)
  have again: ∀ {σ7:St} {H7:Hp},Inv X (pZ++h7 fp s5.heap) σ7 H7 s7→N σ7 H7→∃ m,m < n∧∃ i σ' H',Inv X pZ σ' H' s7∧tn i s7.heap∧(∀ b∈fp,H' b=none)∧W i m σ' H':=fun {σ7 H7} I7 n7=>by
   obtain⟨m',hm,w7⟩:=hN σ7 H7 n7
   refine⟨m',hm,i+1,σ7,H7,I7.fG,T.keep _ _ _ st5 fun b hb o e=>(I7.pin (b,o) (HB _ (HB _ (cF hb e)))).1,fun b hb=>?_,w7⟩
   obtain⟨o,e,d⟩:=T.obj _ _ st5 b hb
   exact(I7.pin (b,o) (HB _ (HB _ (cF hb e)))).2.1
  cases f with
  |next=>obtain⟨σ7,H7,I7,n7⟩:=q7;exact again I7 n7
  |cont=>obtain⟨σ7,H7,I7,n7⟩:=q7;exact again I7 n7
  |brk=>obtain⟨σ7,H7,I7,q7⟩:=q7;exact⟨σ7,H7,I7.fG,q7⟩
  |ret v=>obtain⟨x7,σ7,H7,I7,r7,q7⟩:=q7;exact⟨x7,σ7,H7,I7.fG,r7,q7⟩
end
end L2
namespace L2
open PySem PySem.Spec PyProof.Rows
abbrev R2:=V→V→Hp→VK→Prop
def fK (X:Cx) (f:Value→Value→Sem Value) (r:R2):Prop:=
 ∀ (pZ:List (Addr×Obj)) (s:Shared) (σ:St) (H:Hp) (x y:V) (v u:Value) (Q:VK),Inv X pZ σ H s→RelV x v→RelV y u→r x y H Q→
  wpAny (model X.prog X.w) X.A (f v u) (EP X pZ σ Q) X.xe s
def Fz (X:Cx) (f:Value→Sem Value) (r:V→Hp→VK→Prop):Prop:=
 ∀ (pZ:List (Addr×Obj)) (s:Shared) (σ:St) (H:Hp) (x:V) (v:Value) (Q:VK),Inv X pZ σ H s→RelV x v→r x H Q→
  wpAny (model X.prog X.w) X.A (f v) (EP X pZ σ Q) X.xe s
def eR (X:Cx) (f:Value) (r:List V→Hp→VK→Prop):Prop:=
 ∀ (pZ:List (Addr×Obj)) (s:Shared) (σ:St) (H:Hp) (xs:List V) (us:List Value) (Q:VK),Inv X pZ σ H s→Vals xs us→r xs H Q→
  wpAny (model X.prog X.w) X.A (call f us) (EP X pZ σ Q) X.xe s
noncomputable def ze (r:R2) (ta tb:TE):TE:=fun σ H Q=>ta σ H fun x H1=>tb σ H1 fun y H2=>r x y H2 Q
noncomputable def FK (r:V→Hp→VK→Prop) (ta:TE):TE:=fun σ H Q=>ta σ H fun x H1=>r x H1 Q
noncomputable def rI (C:Int→Int→Prop) (g:Int→Int→V):R2:=fun x y H Q=> ∃ i j,x= .int i∧y= .int j∧C i j∧Q (g i j) H
noncomputable def vD (g:Int→Int→V):R2:=fun x y H Q=> ∃ i j,x= .int i∧y= .int j∧Q (g i j) H
noncomputable def rU (g:Int→V):V→Hp→VK→Prop:=fun x H Q=> ∃ i,x= .int i∧Q (g i) H
section
variable {X:Cx} {a b c:Expr} {ta tb tc:TE} {pos:Pos}
theorem Dc (ha:PE X a ta) (hb:PE X b tb) {pZ:List (Addr×Obj)} {s:Shared} {σ:St} {H:Hp} {R:V→V→Hp→Prop} (I:Inv X pZ σ H s)
  (h:ta σ H fun x H1=>tb σ H1 fun y H2=>R x y H2) {Q:Value→Shared→Prop} {f:Value→Value→Sem Value}
  (hf: ∀ v u s2 x y H2,Inv X pZ σ H2 s2→RelV x v→RelV y u→R x y H2→wpAny (model X.prog X.w) X.A (f v u) Q X.xe s2):
  wpAny (model X.prog X.w) X.A (eval a X.env) (fun v s₁=>wpAny (model X.prog X.w) X.A (eval b X.env) (fun u s₂=>wpAny (model X.prog X.w) X.A (f v u) Q X.xe s₂) X.xe s₁) X.xe s:=by
 refine bF (ha pZ s σ H _ I h) fun v s1 ⟨x,H1,I1,r1,q1⟩=>?_
 refine bF (hb pZ s1 σ H1 _ I1 q1) fun u s2 ⟨y,H2,I2,r2,q2⟩=>?_
 exact hf v u s2 x y H2 I2 r1 r2 q2
theorem cf (ho:fK X (binaryOp op) r) (ha:PE X a ta) (hb:PE X b tb):PE X (.BinOp a op b pos) (ze r ta tb):=by
 intro pZ s σ H Q I h
 exact wpAny_BinOp (Dc ha hb I h fun v u s2 x y H2 I2 rx ry q=>ho pZ s2 σ H2 x y v u Q I2 rx ry q)
theorem Eg {op:UnaryOp} {r:V→Hp→VK→Prop} (ho:Fz X (unaryOp op) r) (ha:PE X a ta):PE X (.UnaryOp op a pos) (FK r ta):=by
 intro pZ s σ H Q I h
 exact UnaryOp_ (bF (ha pZ s σ H _ I h) fun v s1 ⟨x,H1,I1,r1,q1⟩=>ho pZ s1 σ H1 x v Q I1 r1 q1)
theorem Dx {f:Value→Value→Sem Value} {C:Int→Int→Prop} {g:Int→Int→Int}
  (rule: ∀ (i j:Int) (t u:Tok) (s:Shared) (Q:Value→Shared→Prop) (E:Value→Shared→Prop),C i j→Q (.int (g i j) s.toks) {s with toks:=s.toks+1}→wpAny (model X.prog X.w) X.A (f (.int i t) (.int j u)) Q E s):
  fK X f (rI C fun i j=>.int (g i j)):=by
 intro pZ s σ H x y v u Q I rx ry h
 obtain⟨i,j,rfl,rfl,hc,q⟩:=h
 obtain⟨t,rfl⟩:=rx
 obtain⟨t',rfl⟩:=ry
 exact rule i j t t' s _ _ hc ⟨.int (g i j),H,I.tok _,⟨_,rfl⟩,q⟩
theorem Em {f:Value→Value→Sem Value} {g:Int→Int→Int}
  (rule: ∀ (i j:Int) (t u:Tok) (s:Shared) (Q:Value→Shared→Prop) (E:Value→Shared→Prop),Q (.int (g i j) s.toks) {s with toks:=s.toks+1}→wpAny (model X.prog X.w) X.A (f (.int i t) (.int j u)) Q E s):
  fK X f (vD fun i j=>.int (g i j)):=by
 intro pZ s σ H x y v u Q I rx ry h
 obtain⟨i,j,rfl,rfl,q⟩:=h
 obtain⟨t,rfl⟩:=rx
 obtain⟨t',rfl⟩:=ry
 exact rule i j t t' s _ _ ⟨.int (g i j),H,I.tok _,⟨_,rfl⟩,q⟩
theorem Ci {f:Value→Value→Sem Value} {g:Int→Int→Bool}
  (rule: ∀ (i j:Int) (t u:Tok) (s:Shared) (Q:Value→Shared→Prop) (E:Value→Shared→Prop),Q (.bool (g i j)) s→wpAny (model X.prog X.w) X.A (f (.int i t) (.int j u)) Q E s):
  fK X f (vD fun i j=>.bl (g i j)):=by
 intro pZ s σ H x y v u Q I rx ry h
 obtain⟨i,j,rfl,rfl,q⟩:=h
 obtain⟨t,rfl⟩:=rx
 obtain⟨t',rfl⟩:=ry
 exact rule i j t t' s _ _ ⟨.bl (g i j),H,I,rfl,q⟩
def Dp (i j:Int):Prop:=0 < j∧j < 1073741824
def yU (i j:Int):Prop:=0≤j∧j≤1000000∧i.natAbs < 2 ^ 64
def kI (i j:Int):Prop:=(-(2 ^ 64) < i∧i < 2 ^ 64)∨(-(2 ^ 64) < j∧j < 2 ^ 64)
theorem kI.ok {i j:Int} (h:kI i j):IntMulOk i j:=by
 rcases h with⟨h1,h2⟩|⟨h1,h2⟩
 ·exact .of_left (intBits_le_64 h1 h2)
 ·exact .of_right (intBits_le_64 h1 h2)
theorem gG:fK X (binaryOp .Add) (vD fun i j=>.int (i+j)):=Em fun _ _ _ _ _ _ _ q=>add_int q
theorem se:fK X (binaryOp .Sub) (vD fun i j=>.int (i - j)):=Em fun _ _ _ _ _ _ _ q=>sub_int q
theorem j8:fK X (binaryOp .Mult) (rI kI fun i j=>.int (i * j)):=Dx fun _ _ _ _ _ _ _ hc q=>mul_int q hc.ok
theorem oV:fK X (binaryOp .FloorDiv) (rI Dp fun i j=>.int (i / j)):=Dx fun i j _ _ _ _ _ hc q=>by
 have h1:(0:Int) < j:=hc.1
 have h2:j < 1073741824:=hc.2
 exact floordiv_int (by lia) (by rw[Int.fdiv_eq_ediv_of_nonneg i (by lia)];exact q) (.inl (PyProof.noPylong_small (by lia)))
theorem f6:fK X (binaryOp .Mod) (rI (fun _ j=>0 < j) fun i j=>.int (i % j)):=Dx fun i j _ _ _ _ _ hc q=>by
 have h1:(0:Int) < j:=hc
 exact mod_int' (by lia) (by rw[Int.fmod_eq_emod_of_nonneg i (by lia)];exact q)
theorem Cf:fK X (binaryOp .Pow) (rI yU fun i j=>.int (i ^ j.toNat)):=Dx fun _ _ _ _ _ _ _ hc q=>pow_int_small hc.1 hc.2.1 hc.2.2 q
theorem GY {f:Value→Sem Value} {g:Int→Int}
  (rule: ∀ (i:Int) (t:Tok) (s:Shared) (Q:Value→Shared→Prop) (E:Value→Shared→Prop),Q (.int (g i) s.toks) {s with toks:=s.toks+1}→wpAny (model X.prog X.w) X.A (f (.int i t)) Q E s):
  Fz X f (rU fun i=>.int (g i)):=by
 intro pZ s σ H x v Q I rx h
 obtain⟨i,rfl,q⟩:=h
 obtain⟨t,rfl⟩:=rx
 exact rule i t s _ _ ⟨.int (g i),H,I.tok _,⟨_,rfl⟩,q⟩
theorem lU:Fz X (unaryOp .USub) (rU fun i=>.int (-i)):=GY fun _ _ _ _ _ q=>neg_int q
end
section
variable {X:Cx} {a b c:Expr} {ta tb tc:TE} {pos:Pos}
theorem mP (I:Inv X pZ σ H s) (q:Q (.bl k) H) (e:k=k'):EP X pZ σ Q (.bool k') s:=by
 subst e
 exact⟨.bl k,H,I,rfl,q⟩
theorem my:fK X (compareOp .Lt) (vD fun i j=>.bl (decide (i < j))):=Ci fun _ _ _ _ _ _ _ q=>lt_int q
theorem xq:fK X (compareOp .Gt) (vD fun i j=>.bl (decide (j < i))):=Ci fun _ _ _ _ _ _ _ q=>gt_int q
theorem El:fK X (compareOp .GtE) (vD fun i j=>.bl (decide (j≤i))):=Ci fun _ _ _ _ _ _ _ q=>ge_int q
theorem uX:fK X (compareOp .In) (fun x y H Q=> ∃ i j,x= .str i∧y= .str j∧Q (.bl (!(Builtin.Str.occurrences j i 0 j.length 1).isEmpty)) H):=by
 intro pZ s σ H x y v u Q I rx ry h
 obtain⟨i,j,rfl,rfl,q⟩:=h
 obtain⟨t,rfl⟩:=rx
 obtain⟨t',rfl⟩:=ry
 exact in_str (mP I q rfl)
theorem fK.or {f:Value→Value→Sem Value} {r r':R2} (h:fK X f r) (h':fK X f r'):fK X f (fun x y H Q=>r x y H Q∨r' x y H Q):=by
 intro pZ s σ H x y v u Q I rx ry q
 rcases q with q|q
 ·exact h pZ s σ H x y v u Q I rx ry q
 ·exact h' pZ s σ H x y v u Q I rx ry q
theorem bq (b:Expr) (h:op≠.In:=by decide) (h2:op≠.NotIn:=by decide):behindInMarks op b=false:=by
 have e1:(op==CmpOp.In)=false:=by cases op<;>first|rfl|exact absurd rfl h
 have e2:(op==CmpOp.NotIn)=false:=by cases op<;>first|rfl|exact absurd rfl h2
 cases b<;>simp[behindInMarks,e1,e2]
theorem zJ (ho:fK X (compareOp op) r) (ha:PE X a ta) (hb:PE X b tb) (hm:behindInMarks op b=false):PE X (.Compare a [op] [b] pos) (ze r ta tb):=by
 intro pZ s σ H Q I h
 exact wpAny_Compare1 (Dc ha hb I h fun v u s2 x y H2 I2 rx ry q=>ho pZ s2 σ H2 x y v u Q I2 rx ry q) hm
noncomputable def DJ (t:TE):TT:=fun σ H Q=>t σ H fun x H'=> ∃ k,x= .bl k∧Q k H'
theorem lF {op:CmpOp} {r:R2} (ho:fK X (compareOp op) r) (ha:PE X a ta) (hb:PE X b tb) (hm:behindInMarks op b=false):PT X (.Compare a [op] [b] pos) (DJ (ze r ta tb)):=by
 intro pZ s σ H Q I h
 refine wpAny_isTrue_Compare1 (bF (ha pZ s σ H _ I h) fun v s1 ⟨x,H1,I1,r1,q1⟩=>bF (hb pZ s1 σ H1 _ I1 q1) fun u s2 ⟨y,H2,I2,r2,q2⟩=>
  bF (ho pZ s2 σ H2 x y v u _ I2 r1 r2 q2) fun c s3 ⟨z,H3,I3,r3,k,e,q3⟩=>?_) hm
 subst e
 cases r3
 exact wpAny_truthy_bool ⟨H3,I3,q3⟩
theorem mF:(sizeLine:Nat) < 2 ^ 63:=by rw[HW];decide
theorem sf:fK X (binaryOp .Add) (fun x y H Q=> ∃ i j,x= .str i∧y= .str j∧i.length+j.length≤sizeLine∧Q (.str (i++j)) H):=by
 intro pZ s σ H x y v u Q I rx ry h
 obtain⟨i,j,rfl,rfl,hz,q⟩:=h
 obtain⟨t,rfl⟩:=rx
 obtain⟨t',rfl⟩:=ry
 exact add_str (fun t' tk=>⟨.str (i++j),H,I.tok _,⟨_,rfl⟩,q⟩) hz
theorem vals1 (r:Vals [x] us): ∃ u,us=[u]∧RelV x u:=by
 cases r with
 |cons r1 r2=>cases r2;exact⟨_,rfl,r1⟩
theorem vals2 (r:Vals [x,y] us): ∃ u w',us=[u,w']∧RelV x u∧RelV y w':=by
 cases r with
 |cons r1 r2=>
  cases r2 with
  |cons r3 r4=>cases r4;exact⟨_,_,rfl,r1,r3⟩
theorem yH:eR X (.builtin "abs") (fun xs H Q=> ∃ i,xs=[.int i]∧Q (.int (if i < 0 then -i else i)) H):=by
 intro pZ s σ H xs us Q I r h
 obtain⟨i,rfl,q⟩:=h
 obtain⟨u,rfl,t,rfl⟩:=vals1 r
 exact call_abs_int fun u tk=>⟨.int (if i < 0 then -i else i),H,I.tok _,⟨_,rfl⟩,q⟩
theorem kA (hc:X.calm=true):eR X (.builtin "max") (fun xs H Q=> ∃ i j,xs=[.int i,.int j]∧Q (.int (if j > i then j else i)) H):=by
 intro pZ s σ H xs us Q I r h
 obtain⟨i,j,rfl,q⟩:=h
 obtain⟨u,w',rfl,⟨t,rfl⟩,⟨t',rfl⟩⟩:=vals2 r
 refine max_two_ints (I.ok.hd hc) fun h' tk k=>⟨_,H,I.kept k,?_,q⟩
 by_cases hj:j > i
 ·rw[Ig hj,Ig hj];exact⟨_,rfl⟩
 ·rw[Ih hj,Ih hj];exact⟨_,rfl⟩
theorem oe (hc:X.calm=true):eR X (.builtin "min") (fun xs H Q=> ∃ i j,xs=[.int i,.int j]∧Q (.int (if j < i then j else i)) H):=by
 intro pZ s σ H xs us Q I r h
 obtain⟨i,j,rfl,q⟩:=h
 obtain⟨u,w',rfl,⟨t,rfl⟩,⟨t',rfl⟩⟩:=vals2 r
 refine min_two_ints (I.ok.hd hc) fun h' tk k=>⟨_,H,I.kept k,?_,q⟩
 by_cases hj:j < i
 ·rw[Ig hj,Ig hj];exact⟨_,rfl⟩
 ·rw[Ih hj,Ih hj];exact⟨_,rfl⟩
theorem og:eR X (.type "int") (fun xs H Q=>(∃ i,xs=[.int i]∧Q (.int i) H)∨∃ k,xs=[.bl k]∧Q (.int (if k then 1 else 0)) H):=by
 intro pZ s σ H xs us Q I r h
 rcases h with⟨i,rfl,q⟩|⟨k,rfl,q⟩
 ·obtain⟨u,rfl,t,rfl⟩:=vals1 r
  exact call_int_int ⟨.int i,H,I,⟨_,rfl⟩,q⟩
 ·obtain⟨u,rfl,r1⟩:=vals1 r
  cases r1
  exact call_int_bool ⟨.int (if k then 1 else 0),H,I.tok _,⟨_,rfl⟩,q⟩
def E9 (K:Frag) (x:V) (H:Hp) (n:Nat):Prop:=
 match x with
 | .str y=>y.length≤sizeLine∧n=y.length
 | .C7 y=>y.size≤sizeLine∧n=y.size
 | .ref p=>(∃ xs,cw K H p xs∧n=xs.length)∨∃ xs,dJ K H p xs∧n=xs.length
 |_=>False
theorem yF:eR X (.builtin "len") (fun xs H Q=> ∃ x n,xs=[x]∧E9 X.K x H n∧Q (.int n) H):=by
 intro pZ s σ H xs us Q I r h
 obtain⟨x,n,rfl,e,q⟩:=h
 obtain⟨u,rfl,rx⟩:=vals1 r
 have hl:=mF
 have hs:sizeLine=16777216:=HW
 cases x with
 |str y=>
  obtain⟨t,rfl⟩:=rx
  obtain⟨hy,e'⟩:y.length≤sizeLine∧n=y.length:=e
  subst e'
  exact len_str (by lia) ⟨.int _,H,I.tok _,⟨_,rfl⟩,q⟩
 |C7 y=>
  obtain⟨t,rfl⟩:=rx
  obtain⟨hy,e'⟩:y.size≤sizeLine∧n=y.size:=e
  subst e'
  exact PySem.W.len_bytes (by lia) ⟨.int _,H,I.tok _,⟨_,rfl⟩,q⟩
 |ref p=>
  cases rx
  have e':(∃ xs,cw X.K H p xs∧n=xs.length)∨∃ xs,dJ X.K H p xs∧n=xs.length:=e
  rcases e' with⟨xs,hx,e'⟩|⟨xs,hx,e'⟩
  ·subst e'
   obtain⟨aA,r',pl,hz⟩:=I.list hx
   have hlen:=r'.length
   exact Calls.call_len_list pl.isList (by simp only[Hl];lia) ⟨.int xs.length,H,I.tok _,⟨_,by simp only[Hl];rw[hlen]⟩,q⟩
  ·subst e'
   obtain⟨aA,r',pl,hz⟩:=I.tuple hx
   have hlen:=r'.length
   exact len_tuple pl (by simp only[Hl];lia) ⟨.int xs.length,H,I.tok _,⟨_,by simp only[Hl];rw[hlen]⟩,q⟩
 |_=>exact(show False from e).elim
end
end L2
namespace L2
open PySem PySem.Spec PyProof.Rows
end L2
namespace L2
open PySem PySem.Spec PyProof.Rows
structure dA (k:Nat) (A:Around):Prop where
 hd:A.handled=none
 dp:A.depth+3 * k+5 < recursionLimit
 un:A.units+16 * k+200 < cLine
 gd:A.guards=some []
theorem dA.mono (r:dA k A) (h:j≤k):dA j A:=⟨r.hd,by have:=r.dp;lia,by have:=r.un;lia,r.gd⟩
theorem dA.deeper (r:dA (k+1) A) (env:Env):dA k (A.deeper env):=
 ⟨r.hd,by have:=r.dp;show A.depth+1+3 * k+5 < _;lia,by have:=r.un;show A.units+3+16 * k+200 < _;lia,r.gd⟩
theorem dA.in1 (r:dA (k+1) A):dA k A.in1:=
 ⟨r.hd,by have:=r.dp;show A.depth+3 * k+5 < _;lia,by have:=r.un;show A.units+1+16 * k+200 < _;lia,by first|exact r.gd|(simp[Around.in1,r.gd])⟩
theorem dA.depth (r:dA k A):A.depth < recursionLimit:=by have:=r.dp;lia
theorem dA.units (r:dA k A):A.units+64 < cLine:=by have:=r.un;lia
theorem dA.vN (r:dA k A):A.units < cLine:=by have:=r.un;lia
def vU:TA:=fun _ H Q=>Q [] H
noncomputable def lW (ta:TE) (tr:TA):TA:=fun σ H Q=>ta σ H fun x H1=>tr σ H1 fun xs H2=>Q (x::xs) H2
section
variable {X:Cx} {e:Expr} {es:List Expr} {te:TE} {t:TA} {pos:Pos}
theorem fZ:PA X [] vU:=fun _ _ _ _ H Q I h=>Calls.spliced_nil ⟨[],H,I,.nil,h⟩
theorem eL (ha:PE X e te) (hr:PA X es t) (hs:starEach (e::es) X.env=(false,eval e X.env)::starEach es X.env:=by rfl):PA X (e::es) (lW te t):=by
 intro pos pZ s σ H Q I h
 rw[hs]
 show wpAny _ _ (spliced ((false,eval e X.env)::backTo pos (starEach es X.env))) _ _ s
 refine Calls.spliced_cons (bF (ha pZ s σ H _ I h) fun u s1 ⟨x,H1,I1,r1,q1⟩=>?_)
 exact bF (hr pos pZ s1 σ H1 _ I1 q1) fun us s2 ⟨xs,H2,I2,r2,q2⟩=>⟨x::xs,H2,I2,.cons r1 r2,q2⟩
noncomputable def DI (t:TA):TE:=fun σ H Q=>t σ H fun xs H1=>xs.length≤sizeLine∧∀ p,H1 p=none→Q (.ref p) (upd H1 p (.tup xs))
noncomputable def FO (t:TA):TE:=fun σ H Q=>t σ H fun xs H1=>xs.length≤sizeLine∧∀ p,H1 p=none→Q (.ref p) (upd H1 p (.lst xs))
theorem xb {x1} (h:PA X es t):PE X (.Tuple es x1 pos) (DI t):=by
 intro pZ s σ H Q I hq
 refine wpAny_Tuple_spliced (bF (h pos pZ s σ H _ I hq) fun us s1 ⟨xs,H1,I1,r,z,q⟩=>⟨by rw[←r.length];exact z,?_⟩)
 have hf:H1 s1.heap.objs.size=none:=I1.cm.fresh (Hn _)
 refine⟨.ref s1.heap.objs.size,upd H1 s1.heap.objs.size (.tup xs),I1.laid (t':=s1.toks) (fun b u e=>Hh _ e) (Hn _) ?_,rfl,q _ hf⟩
 exact⟨z,us,r,⟨_,Hw _ rfl⟩⟩
theorem r8 (h:PA X es t):PE X (.List es pos) (FO t):=by
 intro pZ s σ H Q I hq
 refine wpAny_List_spliced (bF (h pos pZ s σ H _ I hq) fun us s1 ⟨xs,H1,I1,r,z,q⟩=>⟨by rw[←r.length];exact z,?_⟩)
 have hf:H1 s1.heap.objs.size=none:=I1.cm.fresh (Hn _)
 refine⟨.ref s1.heap.objs.size,upd H1 s1.heap.objs.size (.lst xs),I1.laid (t':=s1.toks) (fun b u e=>Hh _ e) (Hn _) ?_,rfl,q _ hf⟩
 exact⟨z,us,0,r,Hw _ rfl⟩
end
abbrev Sp:=List V→Hp→VK→XK→Prop
abbrev yT:=List Env→Hp→Shared→XK→Value→Shared→Prop
structure vy (P:Program) (w:World) (K:Frag) (mg:Str→Option Value) (base:Heap) (A:Around) (outer:List Env) (s:Shared) (H:Hp):Prop where
 frames:A.frames=some outer
 mod:Mod K mg base
 bs: ∀ b o,base.get? b=some o→s.heap.get? b=some o∧H b=none
 yX:base.objs.size≤s.heap.objs.size
 kn:s.heap.FunFrames base outer
 A8: ∀ b∈ya outer,H b=none
 cm:iU P w H s.heap
 bare:AllBare s.gens
def CE (outer:List Env) (P:Program) (w:World) (H:Hp) (s:Shared) (Q:VK) (u:Value) (s':Shared):Prop:=
 ∃ v H',s'.os=s.os∧AllBare s'.gens∧Un (ya outer) [] H H' s.heap s'.heap∧iU P w H' s'.heap∧RelV v u∧Q v H'
def CR (CX:yT) (outer:List Env) (P:Program) (w:World) (H:Hp) (s:Shared) (Q:VK) (E:XK) (r:Result) (s':Shared):Prop:=
 match r with
 | .ok (.ret u)=>CE outer P w H s Q u s'
 | .ok _=>False
 | .error e=>CX outer H s E e s'
structure bu (P:Program) (w:World) (K:Frag) (mg:Str→Option Value) (base:Heap) (CX:yT) (k:Nat) (f:Addr) (fd:FuncData) (ps:List Str) (sp:Sp):Prop where
 len: ∀ vs H Q E,sp vs H Q E→vs.length=ps.length
 run: ∀ (A:Around) (outer:List Env) (s:Shared) (H:Hp) (args:Args) (us:List Value) (vs:List V) (Q:VK) (E:XK),dA k A→vy P w K mg base A outer s H→BindsTo s fd args (ps.zip us)→Vals vs us→sp vs H Q E→
  codeAny (model P w) A (.call (.ref f) args) (CR CX outer P w H s Q E) s
theorem bu.imp {P:Program} {w:World} {K:Frag} {mg:Str→Option Value} {base:Heap} {CX:yT} {k:Nat} {f:Addr} {fd:FuncData} {ps:List Str} {sp sp':Sp} (F:bu P w K mg base CX k f fd ps sp)
  (h: ∀ vs H Q E,sp' vs H Q E→sp vs H Q E):bu P w K mg base CX k f fd ps sp':=
 ⟨fun vs H Q E q=>F.len vs H Q E (h _ _ _ _ q),fun A outer s H args us vs Q E hr he hb hv hs=>F.run A outer s H args us vs Q E hr he hb hv (h _ _ _ _ hs)⟩
section
variable {X:Cx} {pZ:List (Addr×Obj)} {σ:St} {H:Hp} {s s':Shared}
theorem Inv.pC (I:Inv X pZ σ H s):vy X.prog X.w X.K X.mg X.base X.A X.stack s H:=
 ⟨I.ok.frames,I.ok.mod,I.bs,HD I.ok.yX I.sz,I.stack,I.tM,I.cm,I.bare⟩
theorem Inv.after (I:Inv X pZ σ H s) (h:CE X.stack X.prog X.w H s Q u s'):EP X pZ σ Q u s':=by
 obtain⟨v,H',os,bare,un,cm,r,q⟩:=h
 obtain⟨hh,g,d,t,os'⟩:=s'
 obtain rfl:os'=s.os:=os
 exact⟨v,H',I.call (h':=hh) (g':=g) (d':=d) (t':=t) (ch:=[]) un cm bare (fun b z=>absurd z (by simp)),r,q⟩
end
noncomputable def p8 (sp:Sp) (dvs:List V) (E:XK) (t:TA):TE:=fun σ H Q=>t σ H fun vs H1=>sp (vs++dvs) H1 Q E
def Binds (K:Frag) (fd:FuncData) (ps:List Str) (ds:List Value):Prop:=
 ∀ (s:Shared) (us:List Value),K.In s.heap→(us++ds).length=ps.length→BindsTo s fd ⟨us,[]⟩ (ps.zip (us++ds))
theorem Binds.all {K:Frag} {fd:FuncData} {ps:List Str} (h: ∀ us:List Value,us.length=ps.length→bindArgs fd ⟨us,[]⟩=pure (ps.zip us)):Binds K fd ps []:=fun s us _ hl=>by
 rw[IE] at hl ⊢
 exact .of_eq (h us hl)
def Passes (CX:yT) (X:Cx) (E:XK):Prop:= ∀ (pZ:List (Addr×Obj)) (σ:St) (H:Hp) (s:Shared) (e:Value) (s':Shared),Inv X pZ σ H s→CX X.stack H s E e s'→X.xe e s'
section
variable {X:Cx} {CX:yT} {k:Nat} {f C:Addr} {fd:FuncData} {ps:List Str} {sp:Sp} {dvs:List V} {ds:List Value} {E:XK} {x m:Str} {p pos apos:Pos} {e o:Expr} {es:List Expr} {ta:TE} {t:TA}
theorem BM {pZ:List (Addr×Obj)} {σ:St} {H:Hp} {s:Shared} {Q:VK} {us:List Value} {vs:List V} (F:bu X.prog X.w X.K X.mg X.base CX k f fd ps sp) (hr:dA k X.A) (hb:Binds X.K fd ps ds) (hd:Vals dvs ds) (hx:Passes CX X E)
  (I:Inv X pZ σ H s) (r:Vals vs us) (h:sp (vs++dvs) H Q E):wpAny (model X.prog X.w) X.A (call (.ref f) us) (EP X pZ σ Q) X.xe s:=by
 have r2:Vals (vs++dvs) (us++ds):=r.append hd
 have hl:(us++ds).length=ps.length:=by rw[←r2.length];exact F.len _ _ _ _ h
 refine wpAny_call (codeAny_mono (F.run X.A X.stack s H ⟨us,[]⟩ (us++ds) (vs++dvs) Q E hr I.pC (hb s us I.DA hl) r2 h) fun r s' hq=>?_)
 cases r with
 |error e=>exact hx pZ σ H s e s' I hq
 |ok fl=>
  cases fl with
  |ret u=>exact I.after hq
  |next=>exact False.elim hq
  |brk=>exact False.elim hq
  |cont=>exact False.elim hq
theorem zK (F:bu X.prog X.w X.K X.mg X.base CX k f fd ps sp) (hr:dA k X.A) (hg:Gl X x) (hm:X.mg x=some (.ref f)) (hk:keepIn X.K (.ref f)=true) (hb:Binds X.K fd ps ds) (hd:Vals dvs ds) (hx:Passes CX X E)
  (ha:PA X (e::es) t) (pd:(x==("__debug__":Str))=false:=by decide) (he:starEach (e::es) X.env=(false,eval e X.env)::starEach es X.env:=by rfl) (kO:(backTo pos (starEach es X.env)).any (·.1)=false:=by rfl):
  PE X (.Call (.Name x p) (e::es) [] pos) (p8 sp dvs E t):=by
 intro pZ s σ H Q I h
 refine wpAny_Call_Name_kw (Ae I hg hm ?_ pd)
 refine PySem.W.callWith_K (h₀:=X.base) I.ok.mod.Ge hk (bF (ha pos pZ s σ H _ I h) fun us s1 ⟨vs,H1,I1,r,q⟩=>⟨I1.DA,?_⟩) he kO
 exact BM F hr hb hd hx I1 r q
end
structure ba (N P:List Str) (sc:Scope):Prop where
 kind:sc.kind= .function
 co:sc.isCoroutine=false
 gen:sc.isGenerator=false
 nd:N.Nodup
 pre:N.take P.length=P
 par: ∀ x∈P,sc.names.lookup x=some .local∨sc.names.lookup x=some .cell
 Cn: ∀ y∈sc.names,y.2≠.free
theorem oh {kindOf:Str→Option NameKind} {x:Str}: ∀ {binds:List (Str×Value)} {m:Str→Option Value},(∀ v,(x,v)∉binds)→bindL kindOf binds m x=m x
 |[],_,_=>rfl
 |(n,v)::r,m,h=>by
  unfold bindL
  rw[oh fun w hw=>h w (Hj _ hw)]
  split
  ·have:x≠n:=by rintro rfl;exact h v Hf
   simp[this]
  ·rfl
theorem oo {kindOf:Str→Option NameKind} {x:Str}: ∀ {binds:List (Str×Value)} {m:Str→Option Value},(∀ v,(x,v)∉binds)→bindC kindOf binds m x=m x
 |[],_,_=>rfl
 |(n,v)::r,m,h=>by
  unfold bindC
  rw[oo fun w hw=>h w (Hj _ hw)]
  split
  ·rfl
  ·have:x≠n:=by rintro rfl;exact h v Hf
   simp[this]
theorem om {kindOf:Str→Option NameKind}: ∀ {P:List Str} {vs:List Value} {i:Nat} {m:Str→Option Value},P.Nodup→P[i]?=some x→vs[i]?=some v→kindOf x=some .local→
  bindL kindOf (P.zip vs) m x=some v
 |[],_,_,_,_,h,_,_=>by simp at h
 |_::_,[],_,_,_,_,h,_=>by simp at h
 |p::P,w::vs,0,m,nd,h1,h2,hk=>by
  simp at h1 h2;subst h1;subst h2
  show bindL kindOf ((p,w)::P.zip vs) m p=_
  unfold bindL
  rw[oh fun v hv=>(List.nodup_cons.mp nd).1 (List.of_mem_zip hv).1,Ig hk]
  simp
 |p::P,w::vs,i+1,m,nd,h1,h2,hk=>by
  show bindL kindOf ((p,w)::P.zip vs) m x=_
  unfold bindL
  exact om (i:=i) (List.nodup_cons.mp nd).2 (by simpa using h1) (by simpa using h2) hk
theorem oq {kindOf:Str→Option NameKind}: ∀ {P:List Str} {vs:List Value} {i:Nat} {m:Str→Option Value},P.Nodup→P[i]?=some x→vs[i]?=some v→kindOf x≠some .local→
  bindC kindOf (P.zip vs) m x=some v
 |[],_,_,_,_,h,_,_=>by simp at h
 |_::_,[],_,_,_,_,h,_=>by simp at h
 |p::P,w::vs,0,m,nd,h1,h2,hk=>by
  simp at h1 h2;subst h1;subst h2
  show bindC kindOf ((p,w)::P.zip vs) m p=_
  unfold bindC
  rw[oo fun v hv=>(List.nodup_cons.mp nd).1 (List.of_mem_zip hv).1,Ih hk]
  simp
 |p::P,w::vs,i+1,m,nd,h1,h2,hk=>by
  show bindC kindOf ((p,w)::P.zip vs) m x=_
  unfold bindC
  exact oq (i:=i) (List.nodup_cons.mp nd).2 (by simpa using h1) (by simpa using h2) hk
noncomputable def start (N:List Str) (vs:List V):St:=vs.map some++List.replicate (N.length - vs.length) none
noncomputable def g9 (CX:yT) (P:Program) (w:World) (K:Frag) (mg:Str→Option Value) (base:Heap) (N:List Str) (qual:Str) (scope:Scope) (f:Addr) (cd:Value) (A:Around) (outer:List Env) (s:Shared) (H:Hp) (E:XK):Cx where
 prog:=P
 w:=w
 K:=K
 mg:=mg
 base:=base
 A:=A.deeper (envOfC qual scope s.heap.objs.size f cd)
 N:=N
 s₀:=s
 H₀:=H
 env:=envOfC qual scope s.heap.objs.size f cd
 outer:=outer
 stack:=envOfC qual scope s.heap.objs.size f cd::outer
 ex:=[]
 calm:=true
 fn:=fun _=>true
 pn:=[]
 xe:=fun e s'=>wpAny (model P w) (A.deeper (envOfC qual scope s.heap.objs.size f cd)) (leaving (envOfC qual scope s.heap.objs.size f cd) e) (fun _ s''=>CX outer H s E e s'') (fun e' s''=>CX outer H s E e' s'') s'
theorem qX {sc:Scope} (h:sc.names.lookup x=some .cell): ∃ c,(cellsFrom n sc.names []).lookup x=some c:=by
 have q:=PySem.W.cellsFrom_some sc.names n [] (.inl h)
 exact Option.isSome_iff_exists.mp q
theorem nU {CX:yT} {P:Program} {w:World} {K:Frag} {mg:Str→Option Value} {base:Heap} {N ps:List Str} {qual:Str} {scope:Scope} {f:Addr} {cd:Value} {A:Around} {outer:List Env} {s s1:Shared} {H:Hp} {E:XK} {us:List Value} {vs:List V}
  (S:ba N ps scope) (hd:A.handled=none) (e0:vy P w K mg base A outer s H) (hl:vs.length=ps.length) (r:Vals vs us)
  (x:InCallC s s.heap.objs.size (bindL (envOfC qual scope s.heap.objs.size f cd).kindOf (ps.zip us) fun _=>none) (cellsFrom (s.heap.objs.size+1) scope.names []) (bindC (envOfC qual scope s.heap.objs.size f cd).kindOf (ps.zip us) fun _=>none) s1):
  Inv (g9 CX P w K mg base N qual scope f cd A outer s H E) [] (start N vs) H s1:=by
 have kO:ps.length≤N.length:=by have:=congrArg List.length S.pre;rw[List.length_take] at this;lia
 obtain⟨h1,tk,rfl,hk⟩:=x.done
 have noA: ∀ b:Addr,b∉(g9 CX P w K mg base N qual scope f cd A outer s H E).ex:=fun b z=>absurd (show b∈([]:List Addr) from z) (by simp)
 refine⟨⟨e0.mod,S.kind,rfl,rfl,Hn _,fun y z c h1 h2=>?_,fun y hy=>?_,fun y c _ h=>?_,fun _=>hd,Around.frames_deeper e0.frames,.inr ⟨rfl,rfl⟩,fun b z=>absurd z (noA b),e0.bs,e0.yX,fun b _ _=>noA b,fun b z=>absurd z (noA b),e0.kn,e0.A8⟩,
  rfl,e0.bare,Un.kept hk,⟨_,x.toInCall.ns,fun i y v h1 h2 h3=>?_⟩,fun y c h=>⟨_,x.cell y c h⟩,e0.cm.fresh (Hn _),fun y c h=>?_,fun p hp=>absurd (show p∈([]:List (Addr×Obj)) from hp) (by simp),e0.cm.kept hk,?_⟩
 ·exact name_of_addr x.apart (PySem.mem_of_lookup h1) (PySem.mem_of_lookup h2)
 ·have hy:scope.names.lookup y=some .cell∨scope.names.lookup y=some .free:=hy
  rcases hy with hy|hy
  ·exact qX hy
  ·exact absurd rfl (S.Cn _ (PySem.mem_of_lookup hy))
 ·exact Nat.le_of_lt (x.above y c (PySem.mem_of_lookup h))
 ·have hi:i < vs.length:=by
   unfold start at h2
   by_cases hi:i < vs.length
   ·exact hi
   ·rw[List.getElem?_append_right (by simpa using hi)] at h2
    rw[IB] at h2
    split at h2<;>cases h2
  have ha:vs[i]?=some v:=by
   unfold start at h2
   rw[HX (by simpa using hi),HC] at h2
   cases e:vs[i]? with
   |none=>rw[e] at h2;cases h2
   |some a=>rw[e] at h2;cases h2;rfl
  obtain⟨u,hu,rv⟩:=r.get ha
  have hp:ps[i]?=some y:=by
   rw[←S.pre,List.getElem?_take_of_lt (by lia)];exact h1
  have ndP:ps.Nodup:=by rw[←S.pre];exact S.nd.sublist (List.take_sublist _ _)
  refine⟨u,rv,?_⟩
  rcases S.par y (List.mem_of_getElem? hp) with k|k
  ·exact .inl ⟨k,om ndP hp hu k⟩
  ·obtain⟨c,e⟩:=qX (n:=s.heap.objs.size+1) k
   refine .inr ⟨.inl k,c,e,?_⟩
   have q:=x.cell y c e
   rw[oq ndP hp hu (by show scope.names.lookup y≠_;rw[k];decide)] at q
   exact q
 ·exact e0.cm.fresh (Nat.le_of_lt (x.above y c (PySem.mem_of_lookup h)))
 ·unfold start
  show _=N.length
  rw[HI,Hg,List.length_replicate]
  lia
theorem Ba {CX:yT} {P:Program} {w:World} {K:Frag} {mg:Str→Option Value} {base:Heap} {k:Nat} {f:Addr} {name qual:Str} {params:Arguments} {body:List Stmt} {scope:Scope} {dV kV doc pm eF ct oc:Value} {an od:Option Addr}
  {osl:Array (Option Value)} {N ps:List Str} {sp:Sp} (lk:K.lookup f=some ⟨oc,od,.func (fnOf name qual params body scope dV kV doc pm an eF ct),osl⟩) (hcd:codeIn K eF qual=true) (S:ba N ps scope)
  (len: ∀ vs H Q E,sp vs H Q E→vs.length=ps.length)
  (ig: ∀ (A:Around) (outer:List Env) (s:Shared) (H:Hp) (vs:List V) (Q:VK) (E:XK),dA k (A.deeper (envOfC qual scope s.heap.objs.size f eF))→sp vs H Q E→
   ∃ t,rG (g9 CX P w K mg base N qual scope f eF A outer s H E) body t∧t {nx:=fun _ H'=>Q .bX H',rt:=Q} (start N vs) H):
  bu P w K mg base CX (k+1) f (fnOf name qual params body scope dV kV doc pm an eF ct) ps sp:=by
 refine⟨len,fun A outer s H args us vs Q E hr e0 hb r hsp=>?_⟩
 have hl:=len _ _ _ _ hsp
 have KX:K.In s.heap:=e0.mod.Ge.keeps fun b o e=>(e0.bs b o e).1
 have lim:s.heap.NoLimit:=e0.mod.nolimit.keeps fun b o e=>(e0.bs b o e).1
 have hkind: ∀ y∈ps.zip us,scope.names.lookup y.1=some .local∨(scope.names.lookup y.1=some .cell∧((cellsFrom (s.heap.objs.size+1) scope.names []).lookup y.1).isSome=true):=fun cy hy=>by
  obtain⟨n,v⟩:=cy
  rcases S.par n (List.of_mem_zip hy).1 with q|q
  ·exact .inl q
  ·exact .inr ⟨q,PySem.W.cellsFrom_some _ _ _ (.inl q)⟩
 refine codeAny_call_function hr.depth (KX _ _ lk) rfl S.co S.gen rfl (PySem.W.codeRec_of KX hcd) (hb _ _ _ _ ?_)
 refine wpAny_newFunctionEnv_cells S.kind hkind fun env he s1 x=>?_
 subst he
 refine⟨lim.keeps x.toInCall.keep,codeAny_func ?_⟩
 obtain⟨t,ht,hq⟩:=ig A outer s H vs Q E (hr.deeper _) hsp
 have I:Inv (g9 CX P w K mg base N qual scope f eF A outer s H E) [] (start N vs) H s1:=nU S hr.hd e0 hl r x
 refine wpAny_mono (ht [] s1 (start N vs) H _ I hq) (fun fl s' hs=>?_) fun e s' hs=>hs
 have fin: ∀ {σ':St} {H':Hp} {v:V} {u:Value},Inv (g9 CX P w K mg base N qual scope f eF A outer s H E) [] σ' H' s'→RelV v u→Q v H'→CE outer P w H s Q u s':=
  fun {σ' H' v u} J rv q=>⟨v,H',J.os,J.bare,J.base,J.cm,rv,q⟩
 cases fl with
 |ret u=>
  obtain⟨v,σ',H',J,rv,q⟩:=hs
  exact fin J rv q
 |next=>
  obtain⟨σ',H',J,q⟩:=hs
  exact fin (v:=V.bX) (u:=Value.none) J rfl q
 |brk=>
  obtain⟨_,_,_,q⟩:=hs
  exact False.elim q
 |cont=>
  obtain⟨_,_,_,q⟩:=hs
  exact False.elim q
end L2
namespace L2
open PySem PySem.Spec PyProof.Rows
section
variable {X:Cx} {x:Str} {p pos:Pos} {e:Expr} {es:List Expr} {t:TA} {id T:String} {r:List V→Hp→VK→Prop}
noncomputable def Ds (r:List V→Hp→VK→Prop) (t:TA):TE:=fun σ H Q=>t σ H fun vs H1=>r vs H1 Q
theorem qo (hc:eR X (.builtin id) r) (hg:Gl X x) (hm:X.mg x=none) (hv:bootBuiltins x=some (.builtin id)) (ha:PA X (e::es) t) (hn:x≠"__name__":=by decide) (pd:(x==("__debug__":Str))=false:=by decide)
  (he:starEach (e::es) X.env=(false,eval e X.env)::starEach es X.env:=by rfl) (kO:(backTo pos (starEach es X.env)).any (·.1)=false:=by rfl):PE X (.Call (.Name x p) (e::es) [] pos) (Ds r t):=by
 intro pZ s σ H Q I h
 refine wpAny_Call_Name_kw (ke I hg hm hv ?_ hn pd)
 exact PyProof.Rows.callWith_builtin1 (bF (ha pos pZ s σ H _ I h) fun us s1 ⟨vs,H1,I1,r1,q1⟩=>hc pZ s1 σ H1 vs us Q I1 r1 q1) he kO
theorem uT (hc:eR X (.type T) r) (hg:Gl X x) (hm:X.mg x=none) (hv:bootBuiltins x=some (.type T)) (ha:PA X (e::es) t) (hn:x≠"__name__":=by decide) (pd:(x==("__debug__":Str))=false:=by decide)
  (he:starEach (e::es) X.env=(false,eval e X.env)::starEach es X.env:=by rfl) (kO:(backTo pos (starEach es X.env)).any (·.1)=false:=by rfl):PE X (.Call (.Name x p) (e::es) [] pos) (Ds r t):=by
 intro pZ s σ H Q I h
 refine wpAny_Call_Name_kw (ke I hg hm hv ?_ hn pd)
 exact PyProof.Rows.callWith_type1 (bF (ha pos pZ s σ H _ I h) fun us s1 ⟨vs,H1,I1,r1,q1⟩=>hc pZ s1 σ H1 vs us Q I1 r1 q1) he kO
end
end L2
namespace HT
open PySem PyProof.Rows
noncomputable def lexLt:List Int→List Int→Bool
 |[],[]=>false
 |[],_::_=>true
 |_::_,[]=>false
 |x::xs,y::ys=>if x=y then lexLt xs ys else decide (x < y)
theorem sE (x y:Int) (xs ys:List Int):lexLt (x::xs) (y::ys)=if x=y then lexLt xs ys else decide (x < y):=rfl
theorem nt:lexLt [] []=false:=rfl
theorem mG (y:Int) (ys:List Int):lexLt [] (y::ys)=true:=rfl
theorem mH (x:Int) (xs:List Int):lexLt (x::xs) []=false:=rfl
theorem ym (A:Around) (s:Shared) (a:Int) (t:Tok) (c:Int) (u:Tok): ∃ e,SeqAt.EqAt A s (.int a t) (.int c u) e∧(e=true↔a=c):=
 ⟨(a==c),SeqAt.EqAt.int_int a t c u,by simp⟩
section
variable {prog : Program} {w : World} {A : Around} {E : Value → Shared → Prop} {s : Shared}
theorem Az (ht:IsTup s.heap t vs.toArray) (hb:IsTup s.heap b ws.toArray) (hv:vs≠[])
  (h1:ws=[]→Q (.ref t) s) (h2:ws≠[]→Q (.ref s.heap.objs.size) {s with heap:=s.heap.push {cls:=.type "tuple",data:=.seq (vs++ws).toArray}})
  (hsz:vs.length+ws.length≤sizeLine):wpAny (model prog w) A (binaryOp .Add (.ref t) (.ref b)) Q E s:=by
 obtain⟨⟨cls,dd,data,sl⟩,ho,hc,n,hd⟩:=id ht
 obtain⟨⟨cls2,dd2,data2,sl2⟩,ho2,hc2,n2,hd2⟩:=id hb
 simp only at hc hd hc2 hd2
 subst hc hd hc2 hd2
 have e:vs.toArray++ws.toArray=(vs++ws).toArray:=by simp
 by_cases hw:ws=[]
 ·exact concat_meets ⟨_,ho,rfl⟩ ⟨_,ho2,rfl⟩ noFill_tuple_add seq_tuple_add PySem.F.slot_tuple_add PySem.F.entry_tuple_add (PySem.F.args_tuple_add_2 _ _)
   (tuple_addW1 t b vs.toArray ws.toArray n n2 dd dd2 sl sl2 (by simpa using hv) (by simp[hw])) ⟨ho,ho2,h1 hw⟩
 ·refine concat_meets ⟨_,ho,rfl⟩ ⟨_,ho2,rfl⟩ noFill_tuple_add seq_tuple_add PySem.F.slot_tuple_add PySem.F.entry_tuple_add (PySem.F.args_tuple_add_2 _ _)
   (tuple_addW2 t b vs.toArray ws.toArray n n2 dd dd2 sl sl2 (by simpa using hv) (by simpa using hw) (by rw[Hl,Hl];exact hsz)) ⟨ho,ho2,?_⟩
  rw[e]
  exact h2 hw
noncomputable def dq (n d:Nat):Option Int→Nat
 |none=>d
 |some v=>if v < 0 then(v+(n:Int)).toNat else min v.toNat n
theorem hW (n d:Nat):dq n d none=d:=rfl
theorem jn (n d k:Nat):dq n d (some (k:Int))=min k n:=by
 show (if(k:Int) < 0 then((k:Int)+(n:Int)).toNat else min (k:Int).toNat n)=min k n
 rw[Ih (by lia),Int.toNat_natCast]
theorem BL (n d:Nat) (hd:d≤n) (o:Option Int):dq n d o≤n:=by
 cases o with
 |none=>exact hd
 |some v=>
  show (if v < 0 then(v+(n:Int)).toNat else min v.toNat n)≤n
  by_cases hv:v < 0
  ·rw[Ig hv];lia
  ·rw[Ih hv];exact Nat.min_le_right _ _
theorem ux (v:Int) (n d:Nat):(if v < 0 then max (v+(n:Int)) 0 else min v (n:Int))=((dq n d (some v):Nat):Int):=by
 show (if v < 0 then max (v+(n:Int)) 0 else min v (n:Int))=(((if v < 0 then(v+(n:Int)).toNat else min v.toNat n):Nat):Int)
 by_cases hv:v < 0
 ·simp only[Ig hv];lia
 ·simp only[Ih hv];lia
theorem tI (lo hi:Option Int) (n:Nat):Builtin.Slice.sliceAdjust lo hi 1 (n:Int)=(((dq n 0 lo:Nat):Int),((dq n n hi:Nat):Int)):=by
 have h1: ¬ ((1:Int) < 0):=by lia
 unfold Builtin.Slice.sliceAdjust
 simp only[h1,if_false]
 refine Prod.ext ?_ ?_
 ·cases lo with
  |none=>rfl
  |some v=>exact ux v n 0
 ·cases hi with
  |none=>rfl
  |some v=>exact ux v n n
theorem r6 (i j:Nat):Builtin.Slice.slicePlaces (i:Int) (j:Int) 1=j - i:=by
 unfold Builtin.Slice.slicePlaces
 have h1:(1:Int) > 0:=by lia
 simp only[h1,if_true,Int.ediv_one]
 split<;>lia
theorem lZ (p:IsPart v o) (h:Q o s):wpAny (model prog w) A (Builtin.Slice.slicePartIndex v) Q E s:=by
 cases p with
 |none=>exact slicePart_none h
 |int i t=>exact slicePart_int h
theorem gg {sl:Addr} {vl vu:Value} {lo hi:Option Int} {n:Nat} {Q:Int×Int×Nat→Shared→Prop} (hs:s.heap.IsSliceOf sl vl vu .none) (pl:IsPart vl lo) (pu:IsPart vu hi)
  (h:Q (((dq n 0 lo:Nat):Int),1,dq n n hi - dq n 0 lo) s):wpAny (model prog w) A (Builtin.Slice.sliceApplied (.ref sl) (pure (n:Int))) Q E s:=by
 obtain⟨os,hos,hcs,hds⟩:=id hs
 unfold Builtin.Slice.sliceApplied Builtin.Slice.sliceFields
 refine He (He (wpAny_field hos hds (x:=vl) rfl (He (wpAny_field hos hds (x:=vu) rfl (He (wpAny_field hos hds (x:=.none) rfl (Hk ?_)))))))
 refine He (slicePart_none ?_)
 show wpAny _ _ (if((1:Int)==0)=true then _ else _) _ _ s
 rw[Ih (by decide)]
 refine He (lZ pl (He (lZ pu (He (Hk ?_)))))
 show wpAny _ _ (match Builtin.Slice.sliceAdjust lo hi 1 (n:Int) with|(lo,hi)=>pure (lo,(1:Int),Builtin.Slice.slicePlaces lo hi 1)) _ _ s
 rw[tI lo hi n]
 show wpAny _ _ (pure (((dq n 0 lo:Nat):Int),(1:Int),Builtin.Slice.slicePlaces ((dq n 0 lo:Nat):Int) ((dq n n hi:Nat):Int) 1)) _ _ s
 rw[r6]
 exact Hk h
theorem wQ (xs:Array Value) (i k:Nat):((List.range k).filterMap fun (m:Nat)=>xs[((i:Int)+(m:Int) * 1).toNat]?).toArray=((xs.toList.drop i).take k).toArray:=by
 have e:(fun (m:Nat)=>xs[((i:Int)+(m:Int) * 1).toNat]?)=fun m=>xs[i+m]?:=by
  funext m
  have:((i:Int)+(m:Int) * 1).toNat=i+m:=by lia
  rw[this]
 rw[e]
 have:=pick_run xs i k
 rw[List.filterMap_map] at this
 have e2:((fun x=>xs[x]?)∘fun x=>i+x)=fun m=>xs[i+m]?:=rfl
 rw[e2] at this
 rw[this]
theorem jA {t sl:Addr} {items:Array Value} {vl vu:Value} {lo hi:Option Int} {Q:Value→Shared→Prop} (ht:IsTup s.heap t items) (hs:s.heap.IsSliceOf sl vl vu .none) (pl:IsPart vl lo) (pu:IsPart vu hi)
  (hw: ¬ (dq items.size 0 lo=0∧dq items.size items.size hi=items.size))
  (h:Q (.ref s.heap.objs.size) {s with heap:=s.heap.push {cls:=.type "tuple",data:=.seq ((items.toList.drop (dq items.size 0 lo)).take (dq items.size items.size hi - dq items.size 0 lo)).toArray}})
  (hsz:items.size≤sizeLine):wpAny (model prog w) A (getItem (.ref t) (.ref sl)) Q E s:=by
 have htake:sizeOk (.seq ((items.toList.drop (dq items.size 0 lo)).take (dq items.size items.size hi - dq items.size 0 lo)).toArray):=by
  show ((items.toList.drop (dq items.size 0 lo)).take (dq items.size items.size hi - dq items.size 0 lo)).toArray.size≤sizeLine
  rw[Hl,List.length_take,List.length_drop,HS]
  lia
 have hj:dq items.size items.size hi≤items.size:=BL _ _ (Hn _) hi
 obtain⟨os,hos,hcs,hds⟩:=id hs
 have hTs:s.TypeIs (.ref sl) "slice":=⟨os,hos,hcs⟩
 unfold getItem
 try with_reducible refine wpAny_holding ?_
 first|refine He (Hk ?_)|skip
 refine He (wpAny_sequenceKey ht.typeIs (by decide) ?_)
 refine He (wpAny_callSpecial?_slot (name:=Str.ofString "__getitem__") ht.typeIs PyProof.Rows.slot_tuple_getitem
  (wpAny_call_entry PyProof.Rows.slot_tuple_getitem ht.typeIs entry_tuple_getitem ?_ (args_tuple_getitem _ _)))
 show wpAny _ _ (Builtin.Tuple.tupleItemsOf (.ref t) >>= _) _ _ s
 refine He (tupleItemsOf_ ht ?_)
 refine He (wpAny_typeOf hTs ?_)
 rw[Ig (by decide)]
 refine He (gg hs pl pu ?_)
 have hno: ¬ ((((dq items.size 0 lo:Nat):Int)==0&&(1:Int)==1&&(dq items.size items.size hi - dq items.size 0 lo)==items.size)=true):=by
  intro q
  rw[HU,HU] at q
  have q1:((dq items.size 0 lo:Nat):Int)=0:=eq_of_beq q.1.1
  have q2:dq items.size items.size hi - dq items.size 0 lo=items.size:=eq_of_beq q.2
  exact hw ⟨by lia,by lia⟩
 show wpAny _ _ (if(((dq items.size 0 lo:Nat):Int)==0&&(1:Int)==1&&(dq items.size items.size hi - dq items.size 0 lo)==items.size)=true then _ else _) _ _ s
 rw[Ih hno,wQ]
 first
  |exact He (m:=Builtin.Tuple.tupleExact _) (wpAny_newObj_type (Hk ⟨_,rfl,Hk h⟩) htake)
  |exact He (m:=Builtin.Tuple.tupleExact _) (wpAny_newObj_type (He (Hk (Hk ⟨_,rfl,Hk h⟩))) htake)
  |exact He (He (m:=Builtin.Tuple.tupleExact _) (wpAny_newObj_type (Hk (Hk ⟨_,rfl,Hk h⟩)) htake))
  |exact He (He (m:=Builtin.Tuple.tupleExact _) (wpAny_newObj_type (Hk ⟨_,rfl,Hk h⟩) htake))
end
end HT
namespace L2
open PySem PySem.Spec PyProof.Rows
abbrev TO:=St→Hp→(Option Int→Hp→Prop)→Prop
def PO (X:Cx) (e:Option Expr) (t:TO):Prop:=
 ∀ (pZ:List (Addr×Obj)) (s:Shared) (σ:St) (H:Hp) (Q:Option Int→Hp→Prop),Inv X pZ σ H s→t σ H Q→
  wpAny (model X.prog X.w) X.A (evalPart e X.env) (fun u s'=> ∃ o H',Inv X pZ σ H' s'∧IsPart u o∧Q o H') X.xe s
def zf:TO:=fun _ H Q=>Q none H
noncomputable def DK (t:TE):TO:=fun σ H Q=>t σ H fun x H1=> ∃ i,x= .int i∧Q (some i) H1
theorem intsAre_of: ∀ {us:List Value},Vals (ns.map V.int) us→IntsAre us ns:=by
 induction ns with
 |nil=>intro us r;rw[List.map_nil] at r;cases r;exact .nil
 |cons n ns ih=>
  intro us r
  rw[Hq] at r
  cases r with
  |cons r1 r2=>
   obtain⟨t,e⟩:=r1
   subst e
   exact .cons n t (ih r2)
section
variable {X:Cx} {e:Expr} {te:TE} {lo hi:Option Expr} {tl th:TO} {pos p2:Pos}
theorem lH:PO X none zf:=by
 intro pZ s σ H Q I h
 rw[evalPart_none]
 exact Hk ⟨none,H,I,.none,h⟩
theorem lG (h:PE X e te):PO X (some e) (DK te):=by
 intro pZ s σ H Q I hw
 rw[evalPart_some]
 refine bF (h pZ s σ H _ I hw) fun u s1 ⟨x,H1,I1,r1,q1⟩=>?_
 obtain⟨i,rfl,q⟩:=q1
 obtain⟨t,rfl⟩:=r1
 exact⟨some i,H1,I1,.int i t,q⟩
def vG (X:Cx) (r:V→Option Int→Option Int→Hp→VK→Prop):Prop:=
 ∀ (pZ:List (Addr×Obj)) (s:Shared) (σ:St) (H:Hp) (x:V) (v vl vu:Value) (lo hi:Option Int) (sl:Addr) (Q:VK),Inv X pZ σ H s→RelV x v→s.heap.IsSliceOf sl vl vu .none→IsPart vl lo→IsPart vu hi→r x lo hi H Q→
  ∃ T id,typeLookup (.type T) "__getitem__"=pure (some (.builtin id))∧s.TypeIs v T∧wpAny (model X.prog X.w) X.A (getItem v (.ref sl)) (EP X pZ σ Q) X.xe s
theorem vG.or {r r':V→Option Int→Option Int→Hp→VK→Prop} (h:vG X r) (h':vG X r'):vG X (fun x lo hi H Q=>r x lo hi H Q∨r' x lo hi H Q):=by
 intro pZ s σ H x v vl vu lo hi sl Q I rx hs pl pu q
 rcases q with q|q
 ·exact h pZ s σ H x v vl vu lo hi sl Q I rx hs pl pu q
 ·exact h' pZ s σ H x v vl vu lo hi sl Q I rx hs pl pu q
noncomputable def FL (r:V→Option Int→Option Int→Hp→VK→Prop) (te:TE) (tl th:TO):TE:=fun σ H Q=>te σ H fun x H1=>tl σ H1 fun l H2=>th σ H2 fun u H3=>r x l u H3 Q
theorem jq (hr:vG X r) (he:PE X e te) (hl:PO X lo tl) (hu:PO X hi th):PE X (.Subscript e (.Slice lo hi none p2) pos) (FL r te tl th):=by
 intro pZ s σ H Q I h
 refine Subscript_ (bF (he pZ s σ H _ I h) fun v s1 ⟨x,H1,I1,r1,q1⟩=>?_)
 refine wpAny_Slice (bF (hl pZ s1 σ H1 _ I1 q1) fun vl s2 ⟨l,H2,I2,pl,q2⟩=>bF (hu pZ s2 σ H2 _ I2 q2) fun vu s3 ⟨u,H3,I3,pu,q3⟩=>?_)
 rw[evalPart_none]
 refine Hk ?_
 have I4:Inv X pZ σ H3 {s3 with heap:=s3.heap.push {cls:=.type "slice",data:=.fields #[vl,vu,.none]}}:=I3.kept (t':=s3.toks) fun b ob q=>Hh _ q
 obtain⟨T,id,hT,ht,hg⟩:=hr pZ {s3 with heap:=s3.heap.push {cls:=.type "slice",data:=.fields #[vl,vu,.none]}} σ H3 x v vl vu l u s3.heap.objs.size Q I4 r1 (Heap.IsSliceOf.new ..) pl pu q3
 show wpAny (model X.prog X.w) X.A (subscriptTail e (.Slice lo hi none p2) v (.ref s3.heap.objs.size)) (EP X pZ σ Q) X.xe {s3 with heap:=s3.heap.push {cls:=.type "slice",data:=.fields #[vl,vu,.none]}}
 exact tail_any (ops:=[.ref s3.heap.objs.size,v]) ht hT hg (by with_unfolding_all rfl)
noncomputable def jK (xs:List V) (lo hi:Option Int):List V:=(xs.drop (HT.dq xs.length 0 lo)).take (HT.dq xs.length xs.length hi - HT.dq xs.length 0 lo)
theorem kT (xs:List V) (lo hi:Option Int):(jK xs lo hi).length≤xs.length:=by
 unfold jK
 rw[List.length_take,List.length_drop]
 lia
noncomputable def DW (K:Frag):V→Option Int→Option Int→Hp→VK→Prop:=fun x lo hi H Q=> ∃ a xs,x= .ref a∧dJ K H a xs∧
 ¬ (HT.dq xs.length 0 lo=0∧HT.dq xs.length xs.length hi=xs.length)∧∀ p,H p=none→Q (.ref p) (upd H p (.tup (jK xs lo hi)))
theorem BJ:vG X (DW X.K):=by
 intro pZ s σ H x v vl vu lo hi sl Q I rx hs pl pu h
 obtain⟨a,xs,rfl,hx,hw,q⟩:=h
 cases rx
 obtain⟨aA,r,ht,hz⟩:=I.tuple hx
 have hlen:aA.toArray.size=xs.length:=by rw[Hl];exact r.length.symm
 refine⟨"tuple",_,PyProof.Rows.slot_tuple_getitem.lookup,ht.typeIs,?_⟩
 refine HT.jA ht hs pl pu (by rw[hlen];exact hw) ?_ (by rw[hlen];exact hz)
 rw[hlen]
 refine⟨.ref s.heap.objs.size,_,I.laid (t':=s.toks) (o:=.tup (jK xs lo hi)) (fun b ob q=>Hh _ q) (Hn _) ?_,rfl,q _ (I.cm.fresh (Hn _))⟩
 exact⟨HD (kT xs lo hi) hz,_,(r.drop (HT.dq xs.length 0 lo)).take (HT.dq xs.length xs.length hi - HT.dq xs.length 0 lo),gS.new _ _⟩
noncomputable def A0 (K:Frag):R2:=fun x y H Q=> ∃ a b xs ys,x= .ref a∧y= .ref b∧dJ K H a xs∧dJ K H b ys∧xs≠[]∧xs.length+ys.length≤sizeLine∧
 (ys=[]→Q (.ref a) H)∧(ys≠[]→∀ p,H p=none→Q (.ref p) (upd H p (.tup (xs++ys))))
theorem Vals.lM (r:Vals xs us):us=[]↔xs=[]:=by
 cases r with
 |nil=>simp
 |cons _ _=>simp
theorem zT:fK X (binaryOp .Add) (A0 X.K):=by
 intro pZ s σ H x y v u Q I rx ry h
 obtain⟨a,b,xs,ys,rfl,rfl,ha,hb,hx,hz,q1,q2⟩:=h
 cases rx
 cases ry
 obtain⟨aA,r1,p1,_⟩:=I.tuple ha
 obtain⟨sJ,r2,p2,_⟩:=I.tuple hb
 refine HT.Az p1 p2 (fun z=>hx (r1.lM.mp z)) (fun z=>⟨.ref a,H,I,rfl,q1 (r2.lM.mp z)⟩) (fun z=>?_) (by rw[←r1.length,←r2.length];exact hz)
 refine⟨.ref s.heap.objs.size,_,I.laid (t':=s.toks) (o:=.tup (xs++ys)) (fun b ob q=>Hh _ q) (Hn _) ?_,rfl,q2 (fun w=>z (r2.lM.mpr w)) _ (I.cm.fresh (Hn _))⟩
 exact⟨by rw[HI];exact hz,_,r1.append r2,gS.new _ _⟩
end
end L2
namespace L2
open PySem PySem.Spec PyProof.Rows
noncomputable def xP (n:Nat) (i:Int):Option Nat:=if 0≤i then(if i < n then some i.toNat else none) else if -(n:Int)≤i then some (i+n).toNat else none
noncomputable def ja {α:Type} (xs:List α) (i:Int):Option α:=(xP xs.length i).bind fun j=>xs[j]?
theorem ue (h:xP n i=some j):seqIndex? i n=some j∧j < n∧-(n:Int)≤i∧i < n:=by
 unfold xP at h
 by_cases h0:0≤i
 ·rw[Ig h0] at h
  by_cases h1:i < n
  ·rw[Ig h1] at h
   have e:i.toNat=j:=Ik h
   exact⟨by rw[seqIndex_of h0 h1,e],by lia,by lia,h1⟩
  ·rw[Ih h1] at h;cases h
 ·rw[Ih h0] at h
  by_cases h1: -(n:Int)≤i
  ·rw[Ig h1] at h
   have e:(i+n).toNat=j:=Ik h
   exact⟨by rw[seqIndex_neg (by lia) h1,e],by lia,h1,by lia⟩
  ·rw[Ih h1] at h;cases h
theorem pR {α:Type} {xs:List α} {i:Int} {v:α} (h:ja xs i=some v): ∃ j,seqIndex? i xs.length=some j∧xs[j]?=some v∧j < xs.length∧-(xs.length:Int)≤i∧i < xs.length:=by
 unfold ja at h
 cases e:xP xs.length i with
 |none=>rw[e] at h;cases h
 |some j=>
  rw[e] at h
  obtain⟨h1,h2,h3,h4⟩:=ue e
  exact⟨j,h1,h,h2,h3,h4⟩
theorem pQ {α:Type} {xs:List α} {j:Nat} {v:α} (h:xs[j]?=some v):ja xs (j:Int)=some v:=by
 have hj:j < xs.length:=(Hm.mp h).1
 have e:xP xs.length (j:Int)=some j:=by
  unfold xP
  rw[Ig (by lia),Ig (by lia)];simp
 unfold ja;rw[e];exact h
def uF (b:Expr):Prop:= ∀ o i,subscripted b false o i=operate [o,i] (getItem o i)
def y0 (X:Cx) (r:R2):Prop:=
 ∀ (value slice:Expr) (pZ:List (Addr×Obj)) (s:Shared) (σ:St) (H:Hp) (x y:V) (v u:Value) (Q:VK),Inv X pZ σ H s→RelV x v→RelV y u→r x y H Q→
  subscripted slice false v u=operate [v,u] (getItem v u)→wpAny (model X.prog X.w) X.A (subscriptTail value slice v u) (EP X pZ σ Q) X.xe s
def Gy (X:Cx) (id:String) (r:V→List V→Hp→VK→Prop):Prop:=
 ∀ (pZ:List (Addr×Obj)) (s:Shared) (σ:St) (H:Hp) (x:V) (xs:List V) (v:Value) (us:List Value) (Q:VK),Inv X pZ σ H s→RelV x v→Vals xs us→r x xs H Q→
  wpAny (model X.prog X.w) X.A (call (.builtin id) (v::us)) (EP X pZ σ Q) X.xe s
section
variable {X:Cx} {a b:Expr} {ta tb:TE} {pos:Pos}
theorem y0.or {r r':R2} (h:y0 X r) (h':y0 X r'):y0 X (fun x y H Q=>r x y H Q∨r' x y H Q):=by
 intro value slice pZ s σ H x y v u Q I rx ry q hs
 rcases q with q|q
 ·exact h value slice pZ s σ H x y v u Q I rx ry q hs
 ·exact h' value slice pZ s σ H x y v u Q I rx ry q hs
theorem h8 (hr:y0 X r) (ha:PE X a ta) (hb:PE X b tb) (hs:uF b):PE X (.Subscript a b pos) (ze r ta tb):=by
 intro pZ s σ H Q I h
 exact Subscript_ (Dc ha hb I h fun v u s2 x y H2 I2 rx ry q=>hr a b pZ s2 σ H2 x y v u Q I2 rx ry q (hs _ _))
noncomputable def D6 (K:Frag):R2:=fun x y H Q=> ∃ p xs i v,x= .ref p∧y= .int i∧cw K H p xs∧ja xs i=some v∧Q v H
noncomputable def zB (K:Frag):R2:=fun x y H Q=> ∃ p xs i v,x= .ref p∧y= .int i∧dJ K H p xs∧ja xs i=some v∧Q v H
noncomputable def D3:R2:=fun x y H Q=> ∃ z i c,x= .str z∧y= .int i∧z.length≤sizeLine∧ja z.cps.toList i=some c∧Q (.str ⟨#[c]⟩) H
theorem fB:y0 X (D6 X.K):=by
 intro value slice pZ s σ H x y v u Q I rx ry h hs
 obtain⟨p,xs,i,z,rfl,rfl,hq,he,q⟩:=h
 cases rx
 obtain⟨t,rfl⟩:=ry
 obtain⟨aA,r,pl,hz⟩:=I.list hq
 obtain⟨j,h1,h2,h3,h4,h5⟩:=pR he
 obtain⟨w,ew,rw'⟩:=r.get h2
 have hl:=r.length
 have hn:=mF
 have fin:EP X pZ σ Q w s:=⟨z,H,I,rw',q⟩
 by_cases h0:0≤i
 ·have hj:i.toNat=j:=by
   rw[seqIndex_of h0 h5] at h1
   exact Ik h1
  exact item_listR pl.isList h0 (by lia) (by rw[hj];simpa using ew) fin hs
 ·have hj:(i+(aA.toArray.size:Int)).toNat=j:=by
   rw[seqIndex_neg (by lia) h4] at h1
   rw[Hl,←hl]
   exact Ik h1
  exact subscriptTail_builtinR (x:=w) pl.isList.typeIs slot_list_getitem.lookup
   (wpAny_getItem_list_neg (Q:=fun r s'=>r=w∧EP X pZ σ Q r s') pl.isList (by lia) (by rw[Hl]<;>lia) (by lia) (by rw[hj];simpa using ew) ⟨rfl,fin⟩) hs
theorem sI:y0 X (zB X.K):=by
 intro value slice pZ s σ H x y v u Q I rx ry h hs
 obtain⟨p,xs,i,z,rfl,rfl,hq,he,q⟩:=h
 cases rx
 obtain⟨t,rfl⟩:=ry
 obtain⟨aA,r,pl,hz⟩:=I.tuple hq
 obtain⟨j,h1,h2,h3,h4,h5⟩:=pR he
 obtain⟨w,ew,rw'⟩:=r.get h2
 have hl:=r.length
 have hn:=mF
 have fin:EP X pZ σ Q w s:=⟨z,H,I,rw',q⟩
 exact subscriptTail_builtinR (x:=w) pl.typeIs slot_tuple_getitem.lookup
  (getItem_tuple (j:=j) (Q:=fun r s'=>r=w∧EP X pZ σ Q r s') pl (by lia) (by lia) (by rw[Hl,←hl];exact h1) (by simpa using ew) ⟨rfl,fin⟩) hs
theorem CI:y0 X D3:=by
 intro value slice pZ s σ H x y v u Q I rx ry h hs
 obtain⟨z,i,c,rfl,rfl,hz,he,q⟩:=h
 obtain⟨t,rfl⟩:=rx
 obtain⟨t',rfl⟩:=ry
 obtain⟨j,h1,h2,h3,h4,h5⟩:=pR he
 have hl:z.cps.toList.length=z.length:=by simp[Str.length]
 rw[hl] at h1 h4 h5
 have hn:=mF
 exact tail_any (typeIs_str s z t) slot_str_getitem.lookup (getItem_str (c:=c) (by
  have e1:decide (i < -(2 ^ 63:Int))=false:=HH (by lia)
  have e2:decide (i ≥ 2 ^ 63)=false:=HH (by lia)
  rw[e1,e2,Bool.or_false]) (by rw[h1];simpa using h2) ⟨.str ⟨#[c]⟩,H,I.tok _,⟨_,rfl⟩,q⟩) hs
noncomputable def GH (K:Frag):R2:=fun x y H Q=>D6 K x y H Q∨zB K x y H Q∨D3 x y H Q
theorem ax:y0 X (GH X.K):=fB.or (sI.or CI)
theorem sA (aA:List Value) (n j:Nat) (u:Value):Obj.mapSeq (·.setIfInBounds j u) {cls:=.type "list",data:=.seq aA.toArray n}={cls:=.type "list",data:=.seq (aA.set j u).toArray n}:=by
 simp[Obj.mapSeq]
theorem Inv.lst {pZ:List (Addr×Obj)} {σ:St} {H:Hp} {s:Shared} {p:Addr} {xs:List V} (I:Inv X pZ σ H s) (h:H p=some (.lst xs)):
  ∃ (aA:List Value) (n:Nat),Vals xs aA∧s.heap.get? p=some {cls:=.type "list",data:=.seq aA.toArray n}∧xs.length≤sizeLine:=by
 obtain⟨z,aA,n,r,e⟩:=I.cm p _ h
 exact⟨aA,n,r,e,z⟩
theorem Inv.Cu {aA bL:List Value} {f:Obj→Obj} (I:Inv X pZ σ H s) (h:H p=some (.lst xs))
  (ho:s.heap.get? p=some {cls:=.type "list",data:=.seq aA.toArray n}) (hf:f {cls:=.type "list",data:=.seq aA.toArray n}={cls:=.type "list",data:=.seq bL.toArray n'}) (r:Vals ys bL) (hz:ys.length≤sizeLine) (t:Nat):
  Inv X pZ σ (upd H p (.lst ys)) {s with heap:=s.heap.update p f,toks:=t}:=by
 have e:(s.heap.update p f).get? p=some {cls:=.type "list",data:=.seq bL.toArray n'}:=by
  rw[Heap.get?_update_self f ho (by rw[hf]<;>rfl),hf]
 refine I.write (x:=p) (e:=p) (by rw[h];trivial) (.inl rfl) (fun b u hb q=>(Heap.get?_update_other _ _ (Ne.symm hb)).trans q) ⟨_,e⟩ ?_
 exact⟨hz,bL,n',r,e⟩
noncomputable def D1:V→V→V→Hp→(Hp→Prop)→Prop:=fun o i v H Q=> ∃ p xs k j,o= .ref p∧i= .int k∧H p=some (.lst xs)∧xP xs.length k=some j∧Q (upd H p (.lst (xs.set j v)))
theorem set_list:E4 X D1:=by
 intro pZ s σ H o i v ov iv u Q I ro ri rv h
 obtain⟨p,xs,k,j,rfl,rfl,hp,hj,q⟩:=h
 cases ro
 obtain⟨t,rfl⟩:=ri
 obtain⟨aA,n,r,ho,hz⟩:=I.lst hp
 obtain⟨h1,h2,h3,h4⟩:=ue hj
 have hl:=r.length
 have hn:=mF
 have I':Inv X pZ σ (upd H p (.lst (xs.set j v))) {s with heap:=s.heap.update p (Obj.mapSeq (·.setIfInBounds j u))}:=
  I.Cu hp ho (sA aA n j u) (r.set rv j) (by rw[List.length_set];exact hz) s.toks
 by_cases h0:0≤k
 ·have hk:k.toNat=j:=by
   rw[seqIndex_of h0 h4] at h1
   exact Ik h1
  exact PySem.W.ki_setAt ho h0 (by lia) (by rw[Hl,←hl];exact h4) (by rw[hk];exact⟨_,I',q⟩)
 ·have hk:(k+(aA.toArray.size:Int)).toNat=j:=by
   rw[seqIndex_neg (by lia) h3] at h1
   rw[Hl,←hl]
   exact Ik h1
  exact PySem.W.ki_setBack ho (by lia) (by rw[Hl,←hl];exact h3) (by lia) (by rw[hk];exact⟨_,I',q⟩)
theorem oK (lo hi:Option Int) (n:Nat):(sliceBounds lo hi none n).1=((HT.dq n 0 lo:Nat):Int)∧(sliceBounds lo hi none n).2.1=((HT.dq n n hi:Nat):Int)∧(sliceBounds lo hi none n).2.2=1:=by
 refine⟨?_,?_,rfl⟩
 ·cases lo with
  |none=>simp[sliceBounds,HT.dq]
  |some i=>
   simp only[sliceBounds,HT.dq,Option.getD_none,show (1:Int) > 0 by decide,if_true]
   by_cases h:i < 0
   ·simp only[h,if_true]<;>lia
   ·simp only[h,if_false]<;>lia
 ·cases hi with
  |none=>simp[sliceBounds,HT.dq]
  |some i=>
   simp only[sliceBounds,HT.dq,Option.getD_none,show (1:Int) > 0 by decide,if_true]
   by_cases h:i < 0
   ·simp only[h,if_true]<;>lia
   ·simp only[h,if_false]<;>lia
theorem ng (aA:List Value) (lo hi:Option Int):slicePick aA.toArray lo hi none=((aA.drop (HT.dq aA.length 0 lo)).take (HT.dq aA.length aA.length hi - HT.dq aA.length 0 lo)).toArray:=by
 obtain⟨h1,h2,h3⟩:=oK lo hi aA.toArray.size
 unfold slicePick
 rw[h1,h2,h3]
 simp only[sliceRange_one,pick_run,Hl]<;>rfl
noncomputable def DY (K:Frag):V→Option Int→Option Int→Hp→VK→Prop:=fun x lo hi H Q=> ∃ a xs,x= .ref a∧cw K H a xs∧∀ p,H p=none→Q (.ref p) (upd H p (.lst (jK xs lo hi)))
theorem lD:vG X (DY X.K):=by
 intro pZ s σ H x v vl vu lo hi sl Q I rx hs pl pu h
 obtain⟨a,xs,rfl,hx,q⟩:=h
 cases rx
 obtain⟨aA,r,ht,hz⟩:=I.list hx
 have hlen:=r.length
 refine⟨"list",_,slot_list_getitem.lookup,ht.isList.typeIs,?_⟩
 refine wpAny_getItem_list_slice ht.isList hs pl pu .none (by simp) ?_ (by rw[Hl]<;>lia)
 rw[ng,←hlen]
 refine⟨.ref s.heap.objs.size,_,I.laid (t':=s.toks) (o:=.lst (jK xs lo hi)) (fun b ob q=>Hh _ q) (Hn _) ?_,rfl,q _ (I.cm.fresh (Hn _))⟩
 exact⟨HD (kT xs lo hi) hz,_,0,(r.drop (HT.dq xs.length 0 lo)).take (HT.dq xs.length xs.length hi - HT.dq xs.length 0 lo),Hw _ rfl⟩
noncomputable def di:V→Bool
 | .bX=>true
 | .bl _=>true
 | .int _=>true
 | .str _=>true
 |_=>false
noncomputable def nY:V→V→Bool
 | .bX,.bX=>true
 | .bl a,.bl b=>a==b
 | .bl a,.int b=>(if a then 1 else 0)==b
 | .int a,.bl b=>a==(if b then 1 else 0)
 | .int a,.int b=>a==b
 | .str a,.str b=>a==b
 |_,_=>false
theorem yn (ry:RelV y u) (rx:RelV x v) (fy:di y=true) (fx:di x=true):SeqAt.EqAt A s u v (nY y x):=by
 cases y with
 |bX=>
  cases ry
  cases x with
  |bX=>cases rx;exact SeqAt.EqAt.same _
  |bl b=>cases rx;exact SeqAt.EqAt.none_bool b
  |int b=>obtain⟨t,rfl⟩:=rx;exact SeqAt.EqAt.none_int b t
  |str b=>obtain⟨t,rfl⟩:=rx;exact SeqAt.EqAt.none_str b t
  |_=>exact absurd (show false=true from fx) Iq
 |bl a=>
  cases ry
  cases x with
  |bX=>cases rx;exact SeqAt.EqAt.bool_none a
  |bl b=>cases rx;exact SeqAt.EqAt.bool_bool a b
  |int b=>obtain⟨t,rfl⟩:=rx;exact SeqAt.EqAt.bool_int a b t
  |str b=>obtain⟨t,rfl⟩:=rx;exact SeqAt.EqAt.bool_str a b t
  |_=>exact absurd (show false=true from fx) Iq
 |int a=>
  obtain⟨t',rfl⟩:=ry
  cases x with
  |bX=>cases rx;exact SeqAt.EqAt.int_none a t'
  |bl b=>cases rx;exact SeqAt.EqAt.int_bool a t' b
  |int b=>obtain⟨t,rfl⟩:=rx;exact SeqAt.EqAt.int_int a t' b t
  |str b=>obtain⟨t,rfl⟩:=rx;exact SeqAt.EqAt.int_str a t' b t
  |_=>exact absurd (show false=true from fx) Iq
 |str a=>
  obtain⟨t',rfl⟩:=ry
  cases x with
  |bX=>cases rx;exact SeqAt.EqAt.str_none a t'
  |bl b=>cases rx;exact SeqAt.EqAt.str_bool a t' b
  |int b=>obtain⟨t,rfl⟩:=rx;exact SeqAt.EqAt.str_int a t' b t
  |str b=>obtain⟨t,rfl⟩:=rx;exact SeqAt.EqAt.str_str a t' b t
  |_=>exact absurd (show false=true from fx) Iq
 |_=>exact absurd (show false=true from fy) Iq
noncomputable def sT (x:V) (u:Value):Bool:=match u with
 | .none=>nY .bX x
 | .bool b=>nY (.bl b) x
 | .int i _=>nY (.int i) x
 | .str z _=>nY (.str z) x
 |_=>false
theorem yj (r:RelV y u) (f:di y=true):sT x u=nY y x:=by
 cases y with
 |bX=>cases r;rfl
 |bl b=>cases r;rfl
 |int i=>obtain⟨t,rfl⟩:=r;rfl
 |str z=>obtain⟨t,rfl⟩:=r;rfl
 |_=>exact absurd (show false=true from f) Iq
theorem jP: ∀ {xs:List V} {us:List Value},Vals xs us→xs.all di=true→us.any (sT x)=xs.any fun y=>nY y x
 |_,_,.nil,_=>rfl
 |y::xs,u::us,.cons r t,f=>by
  rw[List.all_cons,HU] at f
  rw[List.any_cons,List.any_cons,yj r f.1,jP t f.2]
theorem h9 (rx:RelV x v) (fx:di x=true): ∀ {xs:List V} {us:List Value},Vals xs us→xs.all di=true→∀ u∈us,SeqAt.EqAt A s u v (sT x u)
 |_,_,.nil,_=>fun u hu=>by cases hu
 |y::xs,u::us,.cons r t,f=>fun u' hu=>by
  rw[List.all_cons,HU] at f
  rcases Hr.mp hu with rfl|hu
  ·rw[yj r f.1];exact yn r rx f.1 fx
  ·exact h9 rx fx t f.2 u' hu
noncomputable def Fu (x:V) (xs:List V):Bool:=xs.any fun y=>nY y x
noncomputable def FX (K:Frag) (neg:Bool):R2:=fun x y H Q=> ∃ p xs,y= .ref p∧(cw K H p xs∨dJ K H p xs)∧di x=true∧xs.all di=true∧Q (.bl (if neg then !Fu x xs else Fu x xs)) H
theorem uY:fK X (compareOp .In) (FX X.K false):=by
 intro pZ s σ H x y v u Q I rx ry h
 obtain⟨p,xs,rfl,hq,fx,fs,q⟩:=h
 cases ry
 rcases hq with hq|hq
 ·obtain⟨aA,r,pl,hz⟩:=I.list hq
  refine SeqAt.in_listAt (sT x) pl.isList (fun w hw=>h9 rx fx r fs w (by simpa using hw)) ⟨.bl _,H,I,rfl,?_⟩
  rw[show aA.toArray.any (sT x)=aA.any (sT x) by simp,jP r fs]
  exact q
 ·obtain⟨aA,r,pl,hz⟩:=I.tuple hq
  refine SeqAt.in_tupleAt (sT x) pl (fun w hw=>h9 rx fx r fs w (by simpa using hw)) ⟨.bl _,H,I,rfl,?_⟩
  rw[show aA.toArray.any (sT x)=aA.any (sT x) by simp,jP r fs]
  exact q
theorem oU:fK X (compareOp .NotIn) (FX X.K true):=by
 intro pZ s σ H x y v u Q I rx ry h
 obtain⟨p,xs,rfl,hq,fx,fs,q⟩:=h
 cases ry
 rcases hq with hq|hq
 ·obtain⟨aA,r,pl,hz⟩:=I.list hq
  refine SeqAt.notIn_listAt (sT x) pl.isList (fun w hw=>h9 rx fx r fs w (by simpa using hw)) ⟨.bl _,H,I,rfl,?_⟩
  rw[show aA.toArray.any (sT x)=aA.any (sT x) by simp,jP r fs]
  exact q
 ·obtain⟨aA,r,pl,hz⟩:=I.tuple hq
  refine SeqAt.notIn_tupleAt (sT x) pl (fun w hw=>h9 rx fx r fs w (by simpa using hw)) ⟨.bl _,H,I,rfl,?_⟩
  rw[show aA.toArray.any (sT x)=aA.any (sT x) by simp,jP r fs]
  exact q
theorem oT:fK X (compareOp .NotIn) (fun x y H Q=> ∃ i j,x= .str i∧y= .str j∧Q (.bl (!(!(Builtin.Str.occurrences j i 0 j.length 1).isEmpty))) H):=by
 intro pZ s σ H x y v u Q I rx ry h
 obtain⟨i,j,rfl,rfl,q⟩:=h
 obtain⟨t,rfl⟩:=rx
 obtain⟨t',rfl⟩:=ry
 exact notIn_str ⟨.bl _,H,I,rfl,q⟩
theorem pJ:eR X (.type "list") (fun xs H Q=> ∃ p ys,xs=[.ref p]∧(cw X.K H p ys∨dJ X.K H p ys)∧∀ l,H l=none→Q (.ref l) (upd H l (.lst ys))):=by
 intro pZ s σ H xs us Q I r h
 obtain⟨p,ys,rfl,hq,q⟩:=h
 obtain⟨u,rfl,rx⟩:=vals1 r
 cases rx
 have fin: ∀ (aA:List Value),Vals ys aA→ys.length≤sizeLine→∀ (h':Heap) (c':Nat),(∀ b o',s.heap.get? b=some o'→h'.get? b=some o')→
   h'.get? s.heap.objs.size=some {cls:=.type "list",dict:=none,data:=.seq aA.toArray c',slots:= #[]}→EP X pZ σ Q (.ref s.heap.objs.size) {s with heap:=h'}:=fun aA r' hz h' c' kp e=>
  ⟨.ref s.heap.objs.size,_,I.laid (t':=s.toks) kp (Hn _) (show dk X.prog X.w _ h' _ (.lst ys) from⟨hz,aA,c',r',e⟩),rfl,q _ (I.cm.fresh (Hn _))⟩
 rcases hq with hq|hq
 ·obtain⟨aA,r',pl,hz⟩:=I.list hq
  have hlen:=r'.length
  obtain⟨o,ho,hc,n,hd⟩:=pl.isList
  exact call_list_seq p (.inl rfl) ho hc hd (fun h' c' kp e=>fin aA r' hz h' c' kp e) (by simp only[Hl]<;>lia)
 ·obtain⟨aA,r',pl,hz⟩:=I.tuple hq
  have hlen:=r'.length
  obtain⟨o,ho,hc,n,hd⟩:=pl
  exact call_list_seq p (.inr rfl) ho hc hd (fun h' c' kp e=>fin aA r' hz h' c' kp e) (by simp only[Hl]<;>lia)
theorem dZ:eR X (.type "tuple") (fun xs H Q=> ∃ p ys,xs=[.ref p]∧((cw X.K H p ys∧∀ l,H l=none→Q (.ref l) (upd H l (.tup ys)))∨(dJ X.K H p ys∧Q (.ref p) H))):=by
 intro pZ s σ H xs us Q I r h
 obtain⟨p,ys,rfl,h⟩:=h
 obtain⟨u,rfl,rx⟩:=vals1 r
 cases rx
 rcases h with⟨hq,q⟩|⟨hq,q⟩
 ·obtain⟨aA,r',pl,hz⟩:=I.list hq
  have hlen:=r'.length
  refine call_tuple_list pl.isList (fun h' kp=>?_) (by simp only[Hl]<;>lia)
  have I1:Inv X pZ σ H {s with heap:=h'}:=I.kept (t':=s.toks) kp
  have I2:Inv X pZ σ (upd H h'.objs.size (.tup ys)) {s with heap:=h'.push {cls:=.type "tuple",data:=.seq aA.toArray}}:=
   I1.laid (t':=s.toks) (fun b o e=>Hh _ e) (Hn _) (show dk X.prog X.w _ _ _ (.tup ys) from⟨hz,aA,r',gS.new _ _⟩)
  exact⟨.ref h'.objs.size,_,I2,rfl,q _ (I1.cm.fresh (Hn _))⟩
 ·obtain⟨aA,r',pl,hz⟩:=I.tuple hq
  exact call_tuple_same pl ⟨.ref p,H,I,rfl,q⟩
def FH (K:Frag) (T:String) (x:V) (H:Hp):Prop:=match x with
 | .str _=>T="str"
 | .int _=>T="int"
 | .ref p=>(T="list"∧∃ xs,cw K H p xs)∨(T="tuple"∧∃ o,K.lookup p=some o∧o.cls= .type "tuple"∧o.dict=none)∨
   (T="dict"∧((∃ kvs,Rd H p (.dK kvs))∨∃ kvs,H p=some (.dT kvs)))∨(T="set"∧∃ S n,H p=some (.set S n))
 |_=>False
theorem Bo (I:Inv X pZ σ H s) (r:RelV x v) (ty:FH X.K T x H):
  s.TypeIs v T∧∀ a,v= .ref a→∃ ob,s.heap.get? a=some ob∧ob.dict=none:=by
 cases x with
 |str z=>
  obtain⟨t,rfl⟩:=r
  cases (show T="str" from ty)
  exact⟨typeIs_str s z t,fun _ e=>nomatch e⟩
 |int i=>
  obtain⟨t,rfl⟩:=r
  cases (show T="int" from ty)
  exact⟨typeIs_int s i t,fun _ e=>nomatch e⟩
 |ref p=>
  cases r
  rcases ty with⟨rfl,xs,hq⟩|⟨rfl,o,hk,hc,hd⟩|⟨rfl,hk⟩|⟨rfl,S,n,hk⟩
  ·obtain⟨aA,_,pl,_⟩:=I.list hq
   refine⟨pl.isList.typeIs,fun a e=>?_⟩
   cases e
   obtain⟨o,n,e,c,hd,_⟩:=pl
   exact⟨o,e,hd⟩
  ·refine⟨⟨o,I.DA p o hk,hc⟩,fun a e=>?_⟩
   cases e
   exact⟨o,I.DA _ o hk,hd⟩
  ·have z: ∃ o,s.heap.get? p=some o∧o.ExactDict:=by
    rcases hk with⟨kvs,hk⟩|⟨kvs,hk⟩
    ·obtain⟨_,_,_,_,o,_,_,e,ex,_⟩:=hk.ok I.cm
     exact⟨o,e,ex⟩
    ·obtain⟨_,_,_,_,o,_,_,e,ex,_⟩:=I.cm p _ hk
     exact⟨o,e,ex⟩
   obtain⟨o,e,ex⟩:=z
   refine⟨⟨o,e,ex.1⟩,fun a e2=>?_⟩
   cases e2
   exact⟨o,e,ex.2.1⟩
  ·obtain⟨o,_,_,_,e,ex,_⟩:=I.cm p _ hk
   refine⟨⟨o,e,ex.1⟩,fun a e2=>?_⟩
   cases e2
   exact⟨o,e,ex.2.1⟩
 |_=>exact False.elim ty
noncomputable def Fp (K:Frag) (T:String) (r:V→List V→Hp→VK→Prop) (to:TE) (t:TA):TE:=fun σ H Q=>to σ H fun x H1=>FH K T x H1∧t σ H1 fun xs H2=>r x xs H2 Q
variable {o e:Expr} {es:List Expr} {to:TE} {t:TA} {name:Str} {apos kz:Pos} {T id:String} {r:V→List V→Hp→VK→Prop}
theorem Ei (pa:PlainAttrs T) (slot:Slot T name id) (hty:typeOf (.builtin id)=pure (.type "method_descriptor")) (hm:Gy X id r) (ho:PE X o to) (ha:PA X (e::es) t)
  (hbase:attributeBase o name X.env (eval o X.env)=eval o X.env:=by rfl)
  (hfew:((backTo kz (starEach (e::es) X.env)).all (fun x=>!x.1)&&(backToKw kz (keywordEach [] X.env)).all (fun x=>x.1.isSome)
   &&decide ((e::es).length+([]:List Keyword).length+(if([]:List Keyword).isEmpty then 0 else 1) < 30))=true:=by rfl)
  (hline:(apos.endLine==kz.line)=true:=by rfl) (hs:starEach (e::es) X.env=(false,eval e X.env)::starEach es X.env:=by rfl) (hplain:(backTo kz (starEach es X.env)).any (·.1)=false:=by rfl):
  PE X (.Call (.Attribute o name apos) (e::es) [] kz) (Fp X.K T r to t):=by
 intro pZ s σ H Q I h
 refine wpAny_Call_method_late hbase hfew hline rfl (bF (ho pZ s σ H _ I h) fun v s1 ⟨x,H1,I1,r1,ty,q1⟩=>?_)
 obtain⟨h1,h2⟩:=Bo I1 r1 ty
 refine⟨T,id,pa,slot,hty,h1,h2,?_⟩
 have hA:=ha kz pZ s1 σ H1 _ I1 q1
 rw[hs] at hA ⊢
 refine Calls.callWith_builtin (by show (false||(backTo kz (starEach es X.env)).any (·.1))=false;rw[hplain]<;>rfl) (Calls.evalArgs_plain ?_)
 exact bF hA fun us s2 ⟨vs,H2,I2,r2,q2⟩=>hm pZ s2 σ H2 x vs v us Q I2 r1 r2 q2
end
end L2
namespace L2
open PySem PySem.Spec PyProof.Rows
def Gz (X:Cx) (id:String) (r:V→List V→Hp→VK→Prop):Prop:=
 ∀ (pZ:List (Addr×Obj)) (s:Shared) (σ:St) (H:Hp) (x:V) (xs:List V) (v:Value) (us:List Value) (Q:VK),Inv X pZ σ H s→RelV x v→Vals xs us→r x xs H Q→
  wpAny (model X.prog X.w) X.A (call (.builtin id) (v::us)) (EP X pZ σ Q) X.xe s
theorem Vals.one: ∀ {x:V} {us:List Value},Vals [x] us→∃ u,us=[u]∧RelV x u
 |_,_,.cons r .nil=>⟨_,rfl,r⟩
theorem Vals.rep (h:Vals xs us): ∀ k:Nat,Vals (List.replicate k xs).flatten (List.replicate k us).flatten
 |0=>.nil
 |k+1=>by
  rw[List.replicate_succ,List.replicate_succ,List.flatten_cons,List.flatten_cons]
  exact Vals.append h (Vals.rep h k)
theorem foldl_rep (aA:List Value): ∀ (k:Nat) (acc:List Value),
  List.foldl (fun x1 x2=>x1++x2) acc.toArray (List.replicate k aA.toArray)=(acc++(List.replicate k aA).flatten).toArray
 |0,acc=>by simp
 |k+1,acc=>by
  have e:acc.toArray++aA.toArray=(acc++aA).toArray:=by simp
  have e2:(acc++aA)++(List.replicate k aA).flatten=acc++(List.replicate (k+1) aA).flatten:=by
   rw[List.replicate_succ,List.flatten_cons,List.append_assoc]
  rw[←e2,←foldl_rep aA k (acc++aA),←e,List.replicate_succ,Io]
section
variable {X:Cx} {pZ:List (Addr×Obj)} {σ:St} {H:Hp} {s:Shared} {l b:Addr} {xs ys zs:List V}
theorem Inv.Cv {aA bL:List Value} {f:Array Value→Array Value} {t':Nat} (I:Inv X pZ σ H s) (hH:H l=some (.lst xs))
  (e:s.heap.get? l=some {cls:=.type "list",data:=.seq aA.toArray n}) (hf:f aA.toArray=bL.toArray) (hv:Vals ys bL) (hz:ys.length≤sizeLine):
  Inv X pZ σ (upd H l (.lst ys)) {s with heap:=s.heap.update l (Obj.mapSeq f),toks:=t'}:=by
 have q:=PySem.IsL.update e f
 rw[hf] at q
 refine I.write (x:=l) (e:=l) (by rw[hH];exact trivial) (.inl rfl) (fun b' u hb hu=>(Heap.get?_update_other s.heap (Obj.mapSeq f) (Ne.symm hb)).trans hu) ⟨_,q⟩ ?_
 exact⟨hz,bL,_,hv,q⟩
theorem Inv.xF {t':Nat} (I:Inv X pZ σ H s) (hv:Vals ys aA) (hz:ys.length≤sizeLine):
  Inv X pZ σ (upd H s.heap.objs.size (.lst ys)) {s with heap:=s.heap.push {cls:=.type "list",data:=.seq aA.toArray},toks:=t'}:=
 I.laid (fun _ _ q=>Hh _ q) (Hn _) ⟨hz,aA,0,hv,Hw _ rfl⟩
theorem Inv.fresh (I:Inv X pZ σ H s):H s.heap.objs.size=none:=I.cm.fresh (Hn _)
theorem Inv.sD (I:Inv X pZ σ H s) (hH:H l=some (.lst xs)):xs.length≤sizeLine∧∃ (aA:List Value) (n:Nat),Vals xs aA∧xs.length=aA.length∧s.heap.get? l=some {cls:=.type "list",data:=.seq aA.toArray n}:=by
 obtain⟨z,aA,n,r,e⟩:=I.cm l _ hH
 exact⟨z,aA,n,r,r.length,e⟩
theorem xx (h:n≤sizeLine):Builtin.List.listTooLong n=false:=by
 unfold Builtin.List.listTooLong
 exact HH (by lia)
end
section
variable {X:Cx}
noncomputable def tU:V→List V→Hp→VK→Prop:=fun x vs H Q=> ∃ l xs y,x= .ref l∧vs=[y]∧H l=some (.lst xs)∧xs.length < sizeLine∧Q .bX (upd H l (.lst (xs++[y])))
theorem dG:Gz X "list.append" tU:=by
 intro pZ s σ H x vs v us Q I rx rv h
 obtain⟨l,xs,y,rfl,rfl,hH,hz,q⟩:=h
 cases rx
 obtain⟨u,rfl,ru⟩:=rv.one
 obtain⟨z,aA,n,r,hl,e⟩:=I.sD hH
 refine call_meets F.slot_list_append ⟨_,e,rfl⟩ F.entry_list_append (F.args_list_append_2 _ _) (PySem.list_append l aA.toArray n u (by rw[Hl];lia)) ⟨e,?_⟩
 refine⟨.bX,_,I.Cv (bL:=aA++[u]) hH e (by simp) (r.append (.cons ru .nil)) ?_,rfl,q⟩
 rw[HI,List.length_singleton]
 lia
noncomputable def BV:R2:=fun x y H Q=> ∃ l b xs zs,x= .ref l∧y= .ref b∧H l=some (.lst xs)∧H b=some (.lst zs)∧xs.length+zs.length≤sizeLine∧∀ p,H p=none→Q (.ref p) (upd H p (.lst (xs++zs)))
theorem i6:fK X (binaryOp .Add) BV:=by
 intro pZ s σ H x y v u Q I rx ry h
 obtain⟨l,b,xs,zs,rfl,rfl,hH,hB,hz,q⟩:=h
 cases rx
 cases ry
 obtain⟨z,aA,n,r,hl,e⟩:=I.sD hH
 obtain⟨z2,sJ,n2,r2,hl2,e2⟩:=I.sD hB
 refine PySem.P.add_list e e2 ?_ (by rw[Hl,Hl];lia)
 have ea:aA.toArray++sJ.toArray=(aA++sJ).toArray:=by simp
 rw[ea]
 exact⟨.ref _,_,I.xF (t':=s.toks) (r.append r2) (by rw[HI];lia),rfl,q _ I.fresh⟩
noncomputable def D2:R2:=fun x y H Q=> ∃ l k xs,x= .ref l∧y= .int k∧H l=some (.lst xs)∧-(2 ^ 63)≤k∧k < 2 ^ 63∧xs.length * k.toNat≤sizeLine∧
 ∀ p,H p=none→Q (.ref p) (upd H p (.lst (List.replicate k.toNat xs).flatten))
theorem len_rep (xs:List α) (k:Nat):(List.replicate k xs).flatten.length=k * xs.length:=by
 induction k with
 |zero=>simp
 |succ k ih=>rw[List.replicate_succ,List.flatten_cons,HI,ih,Nat.succ_mul,Nat.add_comm]
theorem Cd:fK X (binaryOp .Mult) D2:=by
 intro pZ s σ H x y v u Q I rx ry h
 obtain⟨l,k,xs,rfl,rfl,hH,h1,h2,hz,q⟩:=h
 cases rx
 obtain⟨t,rfl⟩:=ry
 obtain⟨z,aA,n,r,hl,e⟩:=I.sD hH
 have hlen:aA.toArray.size * k.toNat≤sizeLine:=by rw[Hl,←hl];exact hz
 have hcap: ¬ aA.toArray.size * k.toNat > (2 ^ 63 - 1) / 8:=by
  have:(sizeLine:Nat)≤(2 ^ 63 - 1) / 8:=by decide
  lia
 have hfit: ¬ (!Builtin.List.listFitsIndex k)=true:=by
  rw[fitsIndex_both h1 h2]
  exact Iq
 have hlong: ¬ Builtin.List.listTooLong (aA.toArray.size * k.toNat)=true:=by
  rw[xx hlen]
  exact Iq
 have hnew:List.foldl (fun x1 x2=>x1++x2) #[] (List.replicate (if aA.toArray.isEmpty=true then 0 else k.toNat) aA.toArray)=(List.replicate k.toNat aA).flatten.toArray:=by
  have f0: ∀ m:Nat,List.foldl (fun x1 x2=>x1++x2) #[] (List.replicate m aA.toArray)=(List.replicate m aA).flatten.toArray:=fun m=>by
   have:=foldl_rep aA m []
   rw[List.nil_append] at this
   exact this
  rw[f0]
  cases aA with
  |nil=>simp
  |cons a r'=>rw[Ih (by simp)]
 refine wpAny_binaryOp_repeat_ref (T:="list") (U:="int") (by decide) ⟨_,e,rfl⟩ (fun s'=>typeIs_int s' k t) noFill_list_mul F.fills_int_mul F.slot_int_rmul repeat_list F.slot_int_index.lookup
  (call_meets F.slot_int_rmul (typeIs_int s k t) F.entry_int_rmul (F.args_int_rmul_2 _ _) (int___rmul___int_list k t l aA.toArray n)
   ⟨e,rfl,⟨_,e,rfl⟩,call_meets F.slot_list_mul ⟨_,e,rfl⟩ F.entry_list_mul (F.args_list_mul_2 _ _) (AutoListH.list___mul___list_int_3 l aA.toArray n k t hfit hcap hlong) ⟨e,?_⟩⟩)
 rw[hnew]
 exact⟨.ref _,_,I.xF (t':=s.toks) (r.rep k.toNat) (by rw[len_rep,Nat.mul_comm];exact hz),rfl,q _ I.fresh⟩
end
end L2
namespace Att
open PySem PySem.W PySem.Calls PyProof.Rows
theorem lu: ∀ (ns:List Int) (vs:List Value),WellAll P h vs (ns.map WData.int)→IntsAre vs ns:=by
 intro ns
 induction ns with
 |nil=>
  intro vs w
  rw[List.map_nil] at w
  cases w
  exact .nil
 |cons n ns ih=>
  intro vs w
  rw[Hq] at w
  cases w with
  |cons a b=>
   cases a
   exact .cons _ _ (ih _ b)
theorem uQ {l:OpenLaw} (hn:l.most=some n)
  (hpre:l.row.toRowW.claim.pre args=true) (hwl:WellAll P h vals args):
  ∃ a vs ns,vals=[Value.ref a]∧args=[WData.list (ns.map WData.int)]∧h.get? a=some {cls:=.type "list",data:=.seq vs.toArray}∧IntsAre vs ns∧ns.length≤n:=by
 have hsh:WShape.hasAll [] args [.list .int]=true:=(pre_splitW hpre).1
 have hc:l.pre.holds [] {args:=args}=true:=(pre_splitW hpre).2
 obtain⟨d,r,rfl,h1,h2⟩:=hasAllW_cons hsh
 obtain rfl:=hasAllW_nil h2
 obtain⟨xs,rfl,h3⟩:=hasW_list h1
 obtain⟨ns,rfl⟩:=items_int h3
 have hlen:ns.length≤n:=by
  unfold OpenLaw.pre at hc
  have h4:(WTm.not (.lt (.lit (.int (n:Int))) (.len (.arg 0)))).holds [] {args:=[.list (ns.map .int)]}=true:=by
   have h4:=(holds_andW hc).1
   rw[hn] at h4
   exact h4
  have h5:=condW_of h4 (w_not (w_lt w_lit (w_len_list (w_arg rfl))))
  rw[Hg] at h5
  refine Nat.le_of_not_lt fun q=>?_
  have q':(n:Int) < ((ns.length:Nat):Int):=by lia
  first
   |(rw[Il q'] at h5;exact absurd h5 (by decide))
   |(simp at h5;lia)
 cases hwl with
 |cons w1 w2=>
  cases w2
  cases w1 with
  |list ho hall=>exact⟨_,_,ns,rfl,rfl,ho,lu ns _ hall,hlen⟩
theorem uR (l:OpenLaw) (args:List WData):l.row.toRowW.claim.post args (.bool true) args=true:=
 postW_of (r:=l.row.toRowW) (X:=(true==true))
  (show WShape.has [] (.bool true) .bool=true by first|rfl|decide|simp[WShape.has,WShape.arms,WShape.armsAll])
  (show (WTm.eq .res (.lit (.bool true))).value [] {args:=args,res:=some (.bool true),after:=args}=some (.bool (true==true)) from w_eq_bool (w_res rfl) w_lit) rfl
theorem rh {l:OpenLaw} {YP:World→Heap→Prop} {d:DefRec}
  (hn:l.most=some n) (hdf:d.params.defaults=[])
  (call: ∀ (w:World) (s₀ s₁:Shared) (mg mb:Str→Option Value) (fa:Addr) (o:Obj) (pm cd doc:Value) (a:Addr) (vs:List Value) (ns:List Int),
   Ground q loose [] XP w s₀ mg mb s₁.heap→YP w s₁.heap→
   s₁.heap.get? fa=some o→o.data= .func (docDef d.name d.params d.body d.scope pm cd doc)→s₁.heap.CodeRec cd d.name→mg d.name=some (.ref fa)→
   s₁.heap.get? a=some {cls:=.type "list",data:=.seq vs.toArray}→IntsAre vs ns→ns.length≤n→s₁.gens= #[]→
   codeAny (model l.prog w) callerA (.call (.ref fa) ⟨[.ref a],[]⟩) (fun r s'=>r= .ok (.ret (.bool true))∧OldK s₁.heap s'.heap∧s'.os=s₁.os∧AllBare s'.gens) s₁):
  WalkO q loose XP YP l.row.toRowW d [] (fun f vs=>PySem.call f vs):=by
 intro w s₀ s₁ mg mb G Y fa o pm cd doc dV kV ho hd hcd hD hmg hg args vals as hpre hlay hrd hwl hlo
 obtain rfl:dV= .none:=Dflts.none hD hdf
 obtain rfl:kV= .none:=Dflts.noKw hD
 obtain⟨a,vs,ns,rfl,rfl,hobj,hints,hlen⟩:=uQ hn hpre hwl
 refine enter_call (codeAny_mono (call w s₀ s₁ mg mb fa o pm cd doc a vs ns G Y ho (fd_plain hd) hcd hmg hobj hints hlen hg) fun r s' hq=>?_)
 obtain⟨rfl,h2,h3,h4⟩:=hq
 exact⟨.inl ⟨.bool true,.bool true,[],rfl,fun _=>rfl,.bool true,uR l _,fun _=>⟨List.Pairwise.nil,fun _ hm=>(nomatch hm)⟩⟩,h2,h3,h4⟩
end Att
namespace L2
open PySem PySem.Spec PyProof.Rows
theorem jW: ∀ {vs:List Value} {ns:List Int},IntsAre vs ns→Vals (ns.map V.int) vs
 |_,_,.nil=>.nil
 |_,_,.cons n t h=>.cons ⟨t,rfl⟩ (jW h)
end L2
namespace L2
open PySem PySem.Spec PyProof.Rows
end L2
namespace L2
open PySem PySem.Spec PyProof.Rows
noncomputable def bA (s:Stmt):Arguments:=match s with
 | .FunctionDef _ a _ _ _ _ _ _ _ _=>a
 |_=>{posonlyargs:=[],args:=[],vararg:=none,kwonlyargs:=[],kw_defaults:=[],kwarg:=none,defaults:=[]}
noncomputable def aw (s:Stmt):List Stmt:=match s with
 | .FunctionDef _ _ b _ _ _ _ _ _ _=>b
 |_=>[]
noncomputable def ak (s:Stmt):Scope:=match s with
 | .FunctionDef _ _ _ _ _ _ sc _ _ _=>sc
 |_=>{kind:=.function,names:=[],isGenerator:=false,isCoroutine:=false}
abbrev dF:yT:=fun _ _ _ _ _ _=>False
abbrev E0:XK:=fun _ _ _=>False
theorem aT:Passes dF X E0:=fun _ _ _ _ _ _ _ h=>h.elim
structure jT (K:Frag) (x qual:Str) (st:Stmt) (f:Addr) (fd:FuncData):Prop where
 ex: ∃ (oc:Value) (od:Option Addr) (kV doc pm:Value) (an:Option Addr) (eF ct:Value) (osl:Array (Option Value)),
  fd=fnOf x qual (bA st) (aw st) (ak st) .none kV doc pm an eF ct∧K.lookup f=some ⟨oc,od,.func fd,osl⟩∧codeIn K eF qual=true
 kp:keepIn K (.ref f)=true
section
variable {P:Program} {w:World} {K:Frag} {mg:Str→Option Value} {base:Heap}
theorem jT.ok {x qual:Str} {st:Stmt} {f:Addr} {fd:FuncData} {N ps:List Str} {k:Nat} {sp:Sp} (F:jT K x qual st f fd) (S:ba N ps (ak st)) (len: ∀ vs H Q E,sp vs H Q E→vs.length=ps.length)
  (ig: ∀ (eF:Value) (A:Around) (outer:List Env) (s:Shared) (H:Hp) (vs:List V) (Q:VK) (E:XK),dA k (A.deeper (envOfC qual (ak st) s.heap.objs.size f eF))→sp vs H Q E→
   ∃ t,rG (g9 dF P w K mg base N qual (ak st) f eF A outer s H E).pW (aw st) t∧t {nx:=fun _ H'=>Q .bX H',rt:=Q} (start N vs) H):bu P w K mg base dF (k+1) f fd ps sp:=by
 obtain⟨oc,od,kV,doc,pm,an,eF,ct,osl,rfl,lk,hcd⟩:=F.ex
 refine Ba lk hcd S len fun A outer s H vs Q E hr hsp=>?_
 obtain⟨t,h,q⟩:=ig eF A outer s H vs Q E hr hsp
 exact⟨t,h.pW,q⟩
theorem jT.binds {x qual:Str} {st:Stmt} {f:Addr} {fd:FuncData} {ps:List Str} (F:jT K x qual st f fd)
  (h: ∀ (kV doc pm:Value) (an:Option Addr) (eF ct:Value) (us:List Value),us.length=ps.length→bindArgs (fnOf x qual (bA st) (aw st) (ak st) .none kV doc pm an eF ct) ⟨us,[]⟩=pure (ps.zip us)):Binds K fd ps []:=by
 obtain⟨oc,od,kV,doc,pm,an,eF,ct,osl,rfl,lk,hcd⟩:=F.ex
 exact .all (h kV doc pm an eF ct)
theorem cW {x qual:Str} {st:Stmt} {f:Addr} {oc:Value} {od an:Option Addr} {osl:Array (Option Value)} {kV doc pm eF ct:Value} (l:K.lookup f=some ⟨oc,od,.func (fnOf x qual (bA st) (aw st) (ak st) .none kV doc pm an eF ct),osl⟩)
  (c:codeIn K eF qual=true) (k:keepIn K (.ref f)=true):jT K x qual st f (fnOf x qual (bA st) (aw st) (ak st) .none kV doc pm an eF ct):=⟨⟨oc,od,kV,doc,pm,an,eF,ct,osl,rfl,l,c⟩,k⟩
end
theorem xT (hr:dA k A):A.units+1 < cLine:=Nat.lt_of_le_of_lt (Nat.add_le_add_left (by decide:1≤64) _) hr.units
section
variable {X:Cx}
theorem pv (i:Nat) (hN:X.N[i]?=some x:=by rfl) (hv:Fy X.env.scope x:=by first|exact Or.inl rfl|exact Or.inr (Or.inl rfl)|exact Or.inr (Or.inr rfl)) (hd:(x==("__debug__":Str))=false:=by decide)
  (hcd:(x==("__classdict__":Str))=false:=by decide):PE X (.Name x pos) (nc i):=wY hN hv hd hcd
end
theorem CL {A B:Prop} [Decidable c] (h1:c→A) (h2: ¬ c→B):if c then A else B:=by
 by_cases h:c
 ·rw[Ig h]
  exact h1 h
 ·rw[Ih h]
  exact h2 h
def gv (H H':Hp):Prop:= ∀ b o,H b=some o→H' b=some o
theorem gv.trans (a:gv H H1) (b:gv H1 H2):gv H H2:=fun c o h=>b c o (a c o h)
theorem gv.seq {K:Frag} {H H':Hp} {a:Addr} {xs:List V} (e:gv H H') (h:cw K H a xs):cw K H' a xs:=by
 rcases h with(h|⟨o,h⟩)|h
 ·exact .inl (.inl (e _ _ h))
 ·exact .inl (.inr ⟨o,e _ _ h⟩)
 ·exact .inr h
end L2
end
namespace L2
section
variable {κ:Type} [DecidableEq κ]
noncomputable def jj (kvs:List (κ×V)) (k:κ):Option V:=(kvs.find? fun kv=>decide (kv.1=k)).map (·.2)
noncomputable def putK (kvs:List (κ×V)) (k:κ) (v:V):List (κ×V):=
 if(kvs.any fun kv=>decide (kv.1=k))=true then kvs.map (fun kv=>if kv.1=k then(kv.1,v) else kv) else kvs++[(k,v)]
theorem jh {p:κ×V} {r:List (κ×V)} {k:κ} (e:p.1=k):jj (p::r) k=some p.2:=by simp[jj,ID,e]
theorem ji {p:κ×V} {r:List (κ×V)} {k:κ} (e: ¬ p.1=k):jj (p::r) k=jj r k:=by simp[jj,ID,e]
theorem p5 (k:κ): ∀ kvs:List (κ×V),(kvs.any fun kv=>decide (kv.1=k))=(jj kvs k).isSome
 |[]=>rfl
 |p::r=>by
  rw[List.any_cons]
  by_cases e:p.1=k
  ·simp only[jh e,Il e,Bool.true_or,Option.isSome_some]
  ·rw[ji e,HH e,Bool.false_or];exact p5 k r
theorem fQ (kvs:List (κ×V)) (k:κ) (v:V):(putK kvs k v).length≤kvs.length+1:=by
 unfold putK
 split
 ·rw[Hg];lia
 ·rw[HI,Hv,List.length_nil];lia
theorem vw.kh (r:vw o u):o.isSome=u.isSome:=by
 cases o with
 |none=>cases u with
  |none=>rfl
  |some _=>exact(show False from r).elim
 |some _=>cases u with
  |none=>exact(show False from r).elim
  |some _=>rfl
theorem KV.val (r:KV kvs vs) (k:κ):vw (jj kvs k) (valueAt vs k):=by
 unfold KV at r
 induction r with
 |nil=>exact True.intro
 | @cons p q ps qs h t ih=>
  obtain⟨h1,h2⟩:=h
  by_cases e:p.1=k
  ·have e':q.1=k:=h1.symm.trans e
   have b:valueAt (q::qs) k=some q.2:=by simp[valueAt,ID,e']
   rw[jh e,b];exact h2
  ·have e': ¬ q.1=k:=fun z=>e (h1.trans z)
   have b:valueAt (q::qs) k=valueAt qs k:=by simp[valueAt,ID,e']
   rw[ji e,b];exact ih
theorem KV.any (r:KV kvs vs) (k:κ):(kvs.any fun kv=>decide (kv.1=k))=vs.any fun kv=>decide (kv.1=k):=by
 unfold KV at r
 induction r with
 |nil=>rfl
 |cons h t ih=>rw[List.any_cons,List.any_cons,ih,h.1]
theorem KV.rS (r:KV kvs vs) (k:κ) (ry:RelV y u):
  KV (kvs.map fun kv=>if kv.1=k then(kv.1,y) else kv) (vs.map fun kv=>if kv.1=k then(kv.1,u) else kv):=by
 unfold KV at r ⊢
 induction r with
 |nil=>exact .nil
 | @cons p q ps qs h t ih=>
  rw[Hq,Hq]
  refine .cons ?_ ih
  obtain⟨h1,h2⟩:=h
  by_cases e:p.1=k
  ·rw[Ig e,Ig (h1.symm.trans e)];exact⟨h1,ry⟩
  ·rw[Ih e,Ih (fun z=>e (h1.trans z))];exact⟨h1,h2⟩
theorem KV.put (r:KV kvs vs) (k:κ) (ry:RelV y u):KV (putK kvs k y) (stored vs k u):=by
 unfold putK stored
 rw[r.any k]
 by_cases e:(vs.any fun kv=>decide (kv.1=k))=true
 ·rw[Ig e,Ig e];exact r.rS k ry
 ·rw[Ih e,Ih e];exact Paired.snoc r ⟨rfl,ry⟩
theorem KV.keys {kvs:List (κ×V)} {vs:List (κ×Value)} (r:KV kvs vs):kvs.map (·.1)=vs.map (·.1):=by
 unfold KV at r
 induction r with
 |nil=>rfl
 |cons h t ih=>rw[Hq,Hq,ih,h.1]
theorem KV.length (r:KV kvs vs):kvs.length=vs.length:=Paired.length r
end
theorem ud (r:RelV (kV k) u):(bI P w).is k u=true:=by
 cases k with
 |inl i=>obtain⟨t,e⟩:=(show ∃ t,u=Value.int i t from r);subst e;exact qD P w i t
 |inr x=>obtain⟨t,e⟩:=(show ∃ t,u=Value.str x t from r);subst e;exact qC P w x t
theorem nS: ∀ {ks:List Key} {us:List Value},Vals (ks.map kV) us→ItemsAre (bI P w) ks us
 |[],_,r=>by rw[List.map_nil] at r;cases r;exact .nil
 |k::ks,_,r=>by
  rw[Hq] at r
  cases r with
  |cons h t=>exact .cons (ud h) (nS t)
abbrev KT (H:Hp):List (List Key×V)→List (List Key×Addr×Value)→Prop:=Paired fun p q=>p.1=q.1∧H q.2.1=some (.tup (p.1.map kV))∧RelV p.2 q.2.2
theorem KT.val (r:KT H kvs xs) (k:List Key):vw (jj kvs k) ((atKey xs k).map (·.2)):=by
 induction r with
 |nil=>exact True.intro
 | @cons p q ps qs h t ih=>
  obtain⟨h1,_,h2⟩:=h
  by_cases e:p.1=k
  ·have e':q.1=k:=h1.symm.trans e
   have b:atKey (q::qs) k=some q.2:=by simp[atKey,ID,e']
   rw[jh e,b];exact h2
  ·have e': ¬ q.1=k:=fun z=>e (h1.trans z)
   have b:atKey (q::qs) k=atKey qs k:=by simp[atKey,ID,e']
   rw[ji e,b];exact ih
theorem KT.rS (r:KT H kvs xs) (k:List Key) (ry:RelV y u):
  KT H (kvs.map fun kv=>if kv.1=k then(kv.1,y) else kv) (xs.map (putAt k u)):=by
 induction r with
 |nil=>exact .nil
 | @cons p q ps qs h t ih=>
  rw[Hq,Hq]
  refine .cons ?_ ih
  obtain⟨h1,h2,h3⟩:=h
  unfold putAt
  by_cases e:p.1=k
  ·rw[Ig e,Ig (h1.symm.trans e)];exact⟨h1,h2,ry⟩
  ·rw[Ih e,Ih (fun z=>e (h1.trans z))];exact⟨h1,h2,h3⟩
theorem KT.put (r:KT H kvs xs) (k:List Key) (hb:H b=some (.tup (k.map kV))) (ry:RelV y u):
  KT H (putK kvs k y) (storedH xs k b u):=by
 have e:(kvs.any fun kv=>decide (kv.1=k))=(atKey xs k).isSome:=by
  rw[p5,(r.val k).kh,Option.isSome_map]
 unfold putK storedH
 rw[e]
 by_cases q:(atKey xs k).isSome=true
 ·rw[Ig q,Ig q];exact r.rS k ry
 ·rw[Ih q,Ih q];exact Paired.snoc r ⟨rfl,hb,ry⟩
theorem KT.keeps (r:KT H kvs xs) (ht: ∀ b ys,H b=some (.tup ys)→H' b=some (.tup ys)):KT H' kvs xs:=
 Paired.Cs r fun _ _ z=>⟨z.1,ht _ _ z.2.1,z.2.2⟩
section
variable {P:Program} {w:World} {H:Hp} {h:Heap} {a:Addr}
theorem AS (ok:iU P w H h) (e:Rd H a u):dk P w H h a u:=e.ok ok
theorem yt (ok:iU P w H h) (e:Rd H a (.dK kvs)):kvs.length≤sizeLine∧(a==sysModules)=false∧∃ vs,KV kvs vs∧h.DictOf (bI P w) a vs:=
 show dk P w H h a (.dK kvs) from AS ok e
theorem EO (ok:iU P w H h) (e:H a=some (.dK kvs)):kvs.length≤sizeLine∧(a==sysModules)=false∧∃ vs,KV kvs vs∧h.DictOf (bI P w) a vs:=yt ok (.inl e)
theorem sH (ok:iU P w H h) (e:H a=some (.tup (ks.map kV))):(tupleKind (bI P w)).is h ks a:=by
 obtain⟨_,aA,r,p⟩:=(show dk P w H h a (.tup (ks.map kV)) from ok a _ e)
 obtain⟨o,h1,h2,n,h3⟩:=p.is
 exact⟨o,aA.toArray,n,h1,h2,h3,by simpa using nS r⟩
theorem Bc (ok:iU P w H h) (e:Rd H a (.dT kvs)):kvs.length≤sizeLine∧(a==sysModules)=false∧
  ∃ xs,KT H kvs xs∧h.DictOfH (tupleKind (bI P w)) a xs:=by
 obtain⟨z,y,xs,r,o,es,ep,h1,h2,h3,h4,h5⟩:=(show dk P w H h a (.dT kvs) from AS ok e)
 refine⟨z,y,xs,r,o,es,ep,h1,h2,h3,h4,fun x hx=>?_,h5⟩
 have all: ∀ {l:List (List Key×V)} {m:List (List Key×Addr×Value)},KT H l m→∀ x∈m,(tupleKind (bI P w)).is h x.1 x.2.1:=by
  intro l m q
  induction q with
  |nil=>intro x hx;exact nomatch hx
  | @cons p q ps qs hq t ih=>
   intro x hx
   rcases Hr.mp hx with e|hx
   ·subst e
    exact sH ok (by rw[←hq.1];exact hq.2.1)
   ·exact ih x hx
 exact all r x hx
theorem EN (ok:iU P w H h) (e:H a=some (.dT kvs)):kvs.length≤sizeLine∧(a==sysModules)=false∧
  ∃ xs,KT H kvs xs∧h.DictOfH (tupleKind (bI P w)) a xs:=Bc ok (.inl e)
end
def Dn (H:Hp) (a:Addr) (y:V) (r:Option V):Prop:=
 (∃ kvs k,Rd H a (.dK kvs)∧y=kV k∧r=jj kvs k)∨∃ kvs k b,Rd H a (.dT kvs)∧y= .ref b∧H b=some (.tup (k.map kV))∧r=jj kvs k
def Fh (H:Hp) (a:Addr) (y v:V) (H':Hp):Prop:=
 (∃ kvs k,H a=some (.dK kvs)∧y=kV k∧kvs.length < sizeLine∧H'=upd H a (.dK (putK kvs k v)))∨
 ∃ kvs k b,H a=some (.dT kvs)∧y= .ref b∧H b=some (.tup (k.map kV))∧kvs.length < sizeLine∧H'=upd H a (.dT (putK kvs k v))
section
variable {X:Cx} {pZ:List (Addr×Obj)} {σ:St} {H:Hp} {s:Shared} {a:Addr} {y v:V} {u r:Value} {o:Option V} {A:Around} {E:Value→Shared→Prop}
theorem Inv.big (I:Inv X pZ σ H s):sysModules < s.heap.objs.size:=by
 have h:mainGlobals < s.heap.objs.size:=(I.mod.glob.keeps I.bk).lt
 exact Nat.lt_trans (by decide) h
theorem Gr (hu:A.units+1 < cLine) (I:Inv X pZ σ H s) (g:Dn H a y o) (ry:RelV y u) (h: ∀ s',Inv X pZ σ H s'→Q (.bool o.isSome) s'):
  wpAny (model X.prog X.w) A (compareOp .In u (.ref a)) Q E s:=by
 rcases g with⟨kvs,k,e,ey,l⟩|⟨kvs,k,b,e,ey,eb,l⟩
 ·subst ey
  obtain⟨z,hd,vs,rel,dd⟩:=yt I.cm e
  refine wpAny_in_of (ud ry) hd dd.mapOf ?_
  rw[←(rel.val k).kh,←l]
  exact h _ (I.tok _)
 ·subst ey
  cases (show u=Value.ref b from ry)
  obtain⟨z,hd,xs,rel,dd⟩:=Bc I.cm e
  refine wpAny_in_heap (tupleKind_room_in1 hu) (sH I.cm eb) hd dd ?_
  have q:=(rel.val k).kh
  rw[Option.isSome_map] at q
  rw[←q,←l]
  exact h _ (I.tok _)
theorem uv {t':Nat} (I:Inv X pZ σ H s) (mu:E6 (H a)) (hs:Heap.SameBut a s.heap h') (he: ∃ q,h'.get? a=some q) (new:dk X.prog X.w (upd H a ob) h' a ob):
  Inv X pZ σ (upd H a ob) {s with heap:=h',toks:=t'}:=
 I.write (x:=a) (e:=a) mu (.inl rfl) (fun b q hb z=>(hs.2 b hb).trans z) he new
theorem CW (z:kvs.length≤sizeLine) (hd:(a==sysModules)=false) (rel:KV kvs vs) (dd:h'.DictOf (bI P w) a vs):
  dk P w H' h' a (.dK kvs):=⟨z,hd,vs,rel,dd⟩
theorem vn (hu:A.units+1 < cLine) (I:Inv X pZ σ H s) (g:Fh H a y v H') (ry:RelV y u) (rv:RelV v r) (h: ∀ s',Inv X pZ σ H' s'→Q () s'):
  wpAny (model X.prog X.w) A (setItem (.ref a) u r) Q E s:=by
 rcases g with⟨kvs,k,e,ey,l,eH⟩|⟨kvs,k,b,e,ey,eb,l,eH⟩
 ·subst ey eH
  obtain⟨z,hd,vs,rel,dd⟩:=EO I.cm e
  have hz:vs.length≤sizeLine:=by rw[←rel.length];exact z
  have hl:(putK kvs k v).length≤sizeLine:=by have:=fQ kvs k v;lia
  refine wpAny_setItem_pairs (hsz:=hz) (ud ry) dd fun h' dd' hs=>h _ ?_
  have he: ∃ q,h'.get? a=some q:=let ⟨q,_,_,hq,_⟩:=dd';⟨q,hq⟩
  exact uv I (by rw[e];exact True.intro) hs he (CW hl hd (rel.put k rv) dd')
 ·subst ey eH
  cases (show u=Value.ref b from ry)
  obtain⟨z,hd,xs,rel,dd⟩:=EN I.cm e
  have hz:xs.length≤sizeLine:=by rw[←Paired.length rel];exact z
  have hl:(putK kvs k v).length≤sizeLine:=by have:=fQ kvs k v;lia
  refine wpAny_setItem_heap (hsz:=hz) (tupleKind_room_in1 hu) (sH I.cm eb) dd fun h' dd' hs=>h _ ?_
  obtain⟨q,es,ep,hq,h2,h3,h4,_,h5⟩:=dd'
  refine uv I (by rw[e];exact True.intro) hs ⟨q,hq⟩ ⟨hl,hd,_,(rel.put k eb rv).keeps fun c ys ec=>?_,q,es,ep,hq,h2,h3,h4,h5⟩
  rw[au (xB ec e (fun z=>nomatch z))]
  exact ec
end
section
variable {X:Cx} {pZ:List (Addr×Obj)} {σ:St} {H:Hp} {s:Shared} {a:Addr} {kvs:List (Key×V)} {k:Key} {u:Value} {A:Around} {E:Value→Shared→Prop}
theorem ER (I:Inv X pZ σ H s) (e:Rd H a (.dK kvs)) (h: ∀ t s',Inv X pZ σ H s'→Q (.int kvs.length t) s'):wpAny (model X.prog X.w) A (call (.builtin "len") [.ref a]) Q E s:=by
 obtain⟨z,hd,vs,rel,dd⟩:=yt I.cm e
 refine call_len_dict hd dd (by rw[←rel.length];rw[HW] at z;lia) ?_
 rw[←rel.length]
 exact h _ _ (I.tok _)
end
noncomputable def DN (ty td:TE):TE:=fun σ H Q=>ty σ H fun y H1=>td σ H1 fun x H2=> ∃ a o,x= .ref a∧Dn H2 a y o∧Q (.bl o.isSome) H2
noncomputable def wj (td ty tv:TE):TS:=fun D σ H=>tv σ H fun v H1=>td σ H1 fun x H2=>ty σ H2 fun y H3=> ∃ a H4,x= .ref a∧Fh H3 a y v H4∧D.nx σ H4
section
variable {X:Cx} {o i e value:Expr} {pos pos' tpos:Pos} {td ty tv:TE}
theorem B9 (hu:X.A.units+1 < cLine) (hi:PE X i ty) (ho:PE X o td):PC X .In i o (DN ty td):=by
 intro pZ s σ H Q I h
 refine bF (hi pZ s σ H _ I h) fun iv s1 ⟨y,H1,I1,ry,q1⟩=>bF (ho pZ s1 σ H1 _ I1 q1) fun u s2 ⟨x,H2,I2,rx,a,ov,ex,g,q2⟩=>?_
 subst ex
 obtain rfl:u=Value.ref a:=rx
 exact Gr hu I2 g ry fun s3 I3=>⟨.bl ov.isSome,H2,I3,rfl,q2⟩
theorem zF (hu:X.A.units+1 < cLine) (ho:PE X o td) (hi:PE X i ty) (hv:PE X value tv) (hs:swapsWith value (some (.Subscript o i pos')) pos.line X.env=pure false):
  PS X (.Assign [.Subscript o i pos'] value pos) (wj td ty tv):=by
 intro pZ s σ H D I h
 refine wpAny_Assign_Subscript (bF (hv pZ s σ H _ I h) fun r s1 ⟨v,H1,I1,rv,q1⟩=>bF (ho pZ s1 σ H1 _ I1 q1) fun u s2 ⟨x,H2,I2,rx,q2⟩=>bF (hi pZ s2 σ H2 _ I2 q2) fun iv s3 ⟨y,H3,I3,ry,a,H4,ex,g,q3⟩=>?_) hs
 subst ex
 obtain rfl:u=Value.ref a:=rx
 exact vn hu I3 g ry rv fun s4 I4=>⟨σ,H4,I4,q3⟩
end
theorem yu (h:Heap) (hb:sysModules < h.objs.size):dk P w H (h.push {cls:=.type "dict",data:=.dict #[]}) h.objs.size (.dK []):=
 ⟨HJ _,beq_eq_false_iff_ne.mpr (Ne.symm (HL hb)),[],.nil,Heap.DictOf.new h⟩
noncomputable def ft (cells:List (Str×Addr)) (cs:List (Str×Addr)) (p:Str×NameKind):List (Str×Addr):=
 if p.2== .free then(match cells.lookup p.1 with|some c=>(p.1,c)::cs|none=>cs) else cs
noncomputable def mX (names:List (Str×NameKind)) (cells:List (Str×Addr)):List (Str×Addr):=names.foldl (ft cells) []
theorem jM (env:Env): ∀ (names:List (Str×NameKind)) (cs:List (Str×Addr)),(∀ p∈names,p.2= .free→∃ c,env.cells.lookup p.1=some c)→
  (forIn names cs fun (p:Str×NameKind) r=>(if(p.2== .free)=true then do let a ←cellOf env p.1;pure (ForInStep.yield ((p.1,a)::r)) else pure (ForInStep.yield r):Sem (ForInStep (List (Str×Addr)))))=pure (names.foldl (ft env.cells) cs)
 |[],cs,_=>rfl
 |p::r,cs,h=>by
  have ih:=fun cs'=>jM env r cs' fun q hq=>h q (Hj _ hq)
  rw[List.forIn_cons]
  by_cases hp:(p.2== .free)=true
  ·obtain⟨c,hc⟩:=h p Hf (by simpa using hp)
   have e:ft env.cells cs p=(p.1,c)::cs:=by unfold ft;rw[Ig hp,hc]
   have e2:cellOf env p.1=pure c:=by unfold cellOf;rw[hc]
   rw[Ig hp,e2,Io,e]
   exact ih _
  ·have e:ft env.cells cs p=cs:=by unfold ft;rw[Ih hp]
   rw[Ih hp,Io,e]
   exact ih _
theorem gM (h: ∀ p∈scope.names,p.2= .free→∃ c,env.cells.lookup p.1=some c):closureFor scope env=pure (mX scope.names env.cells):=by
 have q:=jM env scope.names [] h
 unfold closureFor
 show (forIn scope.names [] _ >>= fun cs=>pure cs)=_
 have e: ∀ m:Sem (List (Str×Addr)),(m >>= fun cs=>pure cs)=m:=fun m=>bind_pure m
 rw[e]
 exact q
theorem dX (cells:List (Str×Addr)): ∀ (names:List (Str×NameKind)) (cs:List (Str×Addr)),(∀ x c,cs.lookup x=some c→cells.lookup x=some c)→∀ x c,(names.foldl (ft cells) cs).lookup x=some c→cells.lookup x=some c
 |[],_,h=>h
 |p::r,cs,h=>dX cells r _ (fun x c e=>by
  unfold ft at e
  split at e
  ·split at e
   ·rename_i c' hc'
    rw[List.lookup_cons] at e
    split at e
    ·rename_i hx
     have hx':x=p.1:=by simpa using hx
     cases e;rw[hx'];exact hc'
    ·exact h x c e
   ·exact h x c e
  ·exact h x c e)
theorem qW (cells:List (Str×Addr)): ∀ (names:List (Str×NameKind)) (cs:List (Str×Addr)) (x:Str),(∃ c,cs.lookup x=some c)→∃ c,(names.foldl (ft cells) cs).lookup x=some c
 |[],_,_,h=>h
 |p::r,cs,x,h=>qW cells r _ x (by
  unfold ft
  split
  ·split
   ·rw[List.lookup_cons]
    split
    ·exact⟨_,rfl⟩
    ·exact h
   ·exact h
  ·exact h)
theorem sY (cells:List (Str×Addr)): ∀ (names:List (Str×NameKind)) (cs:List (Str×Addr)) (x:Str),(x,NameKind.free)∈names→(∃ c,cells.lookup x=some c)→∃ c,(names.foldl (ft cells) cs).lookup x=some c
 |[],_,_,h,_=>by simp at h
 |p::r,cs,x,h,hc=>by
  rcases Hr.mp h with e|e
  ·subst e
   refine qW cells r _ x ?_
   obtain⟨c,hc⟩:=hc
   unfold ft
   rw[Ig (by rfl),hc]
   exact⟨c,by rw[List.lookup_cons];simp⟩
  ·exact sY cells r _ x e hc
noncomputable def cY (X:Cx) (scope:Scope) (N:List Str) (s₀:Shared) (H₀:Hp) (ex:List Addr) (pn:List (Addr×Obj)):Cx:=
 {prog:=X.prog,w:=X.w,K:=X.K,mg:=X.mg,base:=X.base,A:=X.A,N:=N,s₀:=s₀,H₀:=H₀,env:=compEnvC scope (mX scope.names X.env.cells) s₀.heap.objs.size X.env,outer:=X.stack,stack:=X.stack,ex:=ex,fn:=fun _=>false,calm:=true,pn:=pn,xe:=fun _ _=>False}
noncomputable def dY (js:List (Option Nat)) (σ:St):St:=js.map fun o=>match o with|some j=>(σ[j]?).getD none|none=>none
def lA (X:Cx) (ifs:List Expr) (t:TT):Prop:=
 ∀ (pZ:List (Addr×Obj)) (s:Shared) (σ:St) (H:Hp) (Q:Bool→Hp→Prop),Inv X pZ σ H s→t σ H Q→
  wpAny (model X.prog X.w) X.A (forIn ifs true fun c r=>if r=true then do let ok ←isTrue c X.env (eval c X.env);pure (ForInStep.yield ok) else pure (ForInStep.yield r)) (TP X pZ σ Q) X.xe s
def DL:TT:=fun _ H Q=>Q true H
theorem zD:lA X [] DL:=fun pZ s σ H Q I h=>wpAny_tests_nil ⟨H,I,h⟩
theorem zC (h:PT X c t):lA X [c] t:=fun pZ s σ H Q I hw=>wpAny_tests_one (h pZ s σ H Q I hw)
theorem vp (I:Nat→Shared→Prop)
  (turn: ∀ n s,I n s→wpAny (model prog w) A (pyNext it) (fun r s₁=>match r with
   |none=>R (.ok .next) s₁
   |some v=>wpAny (model prog w) A (letOwnedTupleGo target it v) (fun _ s₁'=>wpAny (model prog w) A (assign target env v) (fun _ s₂=>
     wpAny (model prog w) A (forIn ifs true fun c r=>if r=true then do let ok ←isTrue c env (eval c env);pure (ForInStep.yield ok) else pure (ForInStep.yield r)) (fun ok s₃=>
      if ok=true then wpAny (model prog w) A (eval elt env) (fun x s₄=>
       wpAny (model prog w) A (call (.builtin "list.append") [acc,x]) (fun _ s₅=> ∃ m,m < n∧I m s₅) (fun _ _=>False) s₄) (fun _ _=>False) s₃
      else ∃ m,m < n∧I m s₃) (fun _ _=>False) s₂) (fun _ _=>False) s₁') (fun _ _=>False) s₁) (fun _ _=>False) s)
  (n:Nat) (h:I n s):
  codeAny (model prog w) A (.compLoop (.ListComp elt [⟨target,iter,ifs,0⟩] scope pos) 0 it acc env) R s:=by
 refine codeAny_loop rfl I (fun n s hI=>?_) n h
 show wpAny _ A ((compTurn (.ListComp elt [⟨target,iter,ifs,0⟩] scope pos) 0 it acc env).onRaise (fun x=>do noteFrame x env;theTreesLotGoes x)) _ _ s
 refine wpAny_noted ?_
 refine wpAny_mono (E:=fun _ _=>False) ?_ (fun _ _ q=>q) fun _ _ q=>q.elim
 rw[compTurn_list]
 refine He (wpAny_standAt (He (bF (turn n s hI) fun r s₁ h₁=>?_)))
 cases r with
 |none=>exact Hk h₁
 |some v=>
  refine He (bF h₁ fun _ s₁' h₁'=>?_)
  refine He (bF h₁' fun _ s₂ h₂=>He (bF h₂ fun ok s₃ h₃=>?_))
  cases ok with
  |false=>exact Hk ⟨rfl,h₃⟩
  |true=>exact He (He (bF h₃ fun x s₄ h₄=>He (bF h₄ fun _ s₅ h₅=>Hk (Hk ⟨rfl,h₅⟩))))
def GW (J:It) (D:Addr) (g:TG) (tt:TT) (te:TE) (Q:VK) (σ0:St) (H1:Hp):Prop:=
 ∃ W:Nat→Nat→St→Hp→Prop,(∃ m,W 0 m σ0 (upd H1 D (.lst [])))∧∀ i m σ' H',W i m σ' H'→
  (J.stop i H'∧Q (.ref D) H')∨(J.go i H'∧∀ x H2,J.oC i H' x H2→g x σ' H2 fun σ2 H3=>tt σ2 H3 fun ok H4=>
   if ok=true then te σ2 H4 fun y H5=> ∃ ys,H5 D=some (.lst ys)∧ys.length < sizeLine∧∃ m',m' < m∧W (i+1) m' σ2 (upd H5 D (.lst (ys++[y])))
   else ∃ m',m' < m∧W (i+1) m' σ2 H4)
noncomputable def By (js:List (Option Nat)) (wi:TI) (g:TG) (tt:TT) (te:TE):TE:=fun σ H Q=>wi σ H fun J H1=> ∀ D,H1 D=none→GW J D g tt te Q (dY js σ) H1
structure aN (X:Cx) (scope:Scope) (N:List Str) (js:List (Option Nat)):Prop where
 kind:scope.kind= .function
 oY: ∀ y∈scope.names,y.2≠.cell
 names: ∀ y∈scope.names,y.2= .local→scope.names.lookup y.1=some .local
 free: ∀ y∈scope.names,y.2= .free→X.env.scope.names.lookup y.1=some .cell∨X.env.scope.names.lookup y.1=some .free
 len:js.length=N.length
 G7: ∀ (i:Nat) (y:Str) (j:Nat),N[i]?=some y→js[i]?=some (some j)→X.N[j]?=some y∧scope.names.lookup y=some .free
noncomputable def i4 (env:Env) (p:Str×NameKind):Str×NameKind:=if(p.2==NameKind.free&&env.scope.kind== .function&&env.kindOf p.1==some .cell) then(p.1,NameKind.cell) else(p.1,p.2)
theorem ql (env:Env) (p:Str×NameKind):(i4 env p).1=p.1:=by unfold i4;split<;>rfl
theorem qj: ∀ {names:List (Str×NameKind)} {x:Str},names.lookup x=some .free→(names.map (i4 env)).lookup x=some .cell∨(names.map (i4 env)).lookup x=some .free
 |[],_,h=>by simp at h
 |p::r,x,h=>by
  rw[Hq,List.lookup_cons,ql]
  rw[List.lookup_cons] at h
  cases hx:x==p.1 with
  |true=>
   rw[hx] at h
   have h':p.2= .free:=by simpa using h
   have e:(i4 env p).2= .cell∨(i4 env p).2= .free:=by
    unfold i4
    split
    ·exact .inl rfl
    ·exact .inr h'
   rcases e with e|e
   ·exact .inl (congrArg some e)
   ·exact .inr (congrArg some e)
  |false=>
   rw[hx] at h
   exact qj (env:=env) h
theorem qk: ∀ {names:List (Str×NameKind)} {x:Str},((names.map (i4 env)).lookup x=some .cell∨(names.map (i4 env)).lookup x=some .free)→(x,NameKind.free)∈names∨(x,NameKind.cell)∈names
 |[],_,h=>by simp at h
 |p::r,x,h=>by
  rw[Hq,List.lookup_cons,ql] at h
  cases hx:x==p.1 with
  |true=>
   rw[hx] at h
   have hx':x=p.1:=by simpa using hx
   have h2:(i4 env p).2= .cell∨(i4 env p).2= .free:=h.elim (fun z=>.inl (Ik z)) fun z=>.inr (Ik z)
   have e:p.2= .free∨p.2= .cell:=by
    by_cases hc:(p.2==NameKind.free&&env.scope.kind== .function&&env.kindOf p.1==some .cell)=true
    ·simp only[HU] at hc
     exact .inl (by simpa using hc.1.1)
    ·have e2:i4 env p=(p.1,p.2):=by unfold i4;rw[Ih hc]
     rw[e2] at h2
     exact h2.symm
   rcases e with e|e
   ·exact .inl (by rw[hx',←e];exact Hf)
   ·exact .inr (by rw[hx',←e];exact Hf)
  |false=>
   rw[hx] at h
   rcases qk h with q|q
   ·exact .inl (Hj _ q)
   ·exact .inr (Hj _ q)
section
variable {X:Cx} {pZ:List (Addr×Obj)} {σ:St} {H:Hp} {s:Shared} {scope:Scope} {N:List Str} {js:List (Option Nat)} {fp:List Addr}
theorem aN.yD (L:aN X scope N js) (ok:X.Ok): ∀ p∈scope.names,p.2= .free→∃ c,X.env.cells.lookup p.1=some c:=fun p hp hf=>ok.has p.1 (L.free p hp hf)
theorem aN.ok (L:aN X scope N js) (I:Inv X pZ σ H s) (hc:X.calm=true) (hf: ∀ b∈fp,cJ X pZ H b) (ho: ∀ b∈fp,∃ o,s.heap.get? b=some o):(cY X scope N s H fp (X.pn++pZ)).Ok where
 mod:=I.ok.mod
 kind:=L.kind
 glob:=I.ok.glob
 blt:=I.ok.blt
 above:=Hn _
 inj:=fun x y c h1 h2=>I.ok.inj x y c (dX _ _ _ (fun _ _ e=>by simp at e) x c h1) (dX _ _ _ (fun _ _ e=>by simp at e) y c h2)
 has:=fun x hx=>by
  have hx':(scope.names.map (i4 X.env)).lookup x=some .cell∨(scope.names.map (i4 X.env)).lookup x=some .free:=hx
  rcases qk hx' with q|q
  ·exact sY _ _ _ x q (L.yD I.ok _ q rfl)
  ·exact absurd rfl (L.oY _ q)
 DD:=fun x c h _=>by cases h
 hd:=fun _=>I.ok.hd hc
 frames:=I.ok.frames
 DP:=.inl rfl
 Gn:=fun b hb=>by
  obtain⟨o,e⟩:=ho b hb
  refine⟨HL (Hz e),fun x c h=>(hf b hb).2.2.2.2.1 x c (dX _ _ _ (fun _ _ e=>by simp at e) x c h)⟩
 bs:=I.bs
 yX:=HD I.ok.yX I.sz
 u5:=fun b o e hb=>by
  rcases(hf b hb).2.2.2.1 with z|z
  ·exact I.ok.u5 b o e z
  ·exact absurd (HF (Hz e) (HD I.ok.yX z)) (Nat.lt_irrefl _)
 yd:=fun b hb z=>by
  rcases Hr.mp (I.iY b z) with e|e
  ·exact(hf b hb).2.1 e
  ·exact(hf b hb).2.2.1 e
 kn:=I.stack
 A8:=I.tM
theorem aN.start (L:aN X scope N js) (I:Inv X pZ σ H s) (hc:X.calm=true) (hf: ∀ b∈fp,cJ X pZ H b) (ho: ∀ b∈fp,∃ o,s.heap.get? b=some o)
  (hn:h'.Ns s.heap.objs.size (fun _=>none)) (hk: ∀ b o,s.heap.get? b=some o→h'.get? b=some o):
  Inv (cY X scope N s H fp (X.pn++pZ)) [] (dY js σ) H {s with heap:=h',toks:=tk}:=by
 refine⟨L.ok I hc hf ho,rfl,I.bare,Un.kept hk,⟨_,hn,fun i y v e1 e2 e3=>?_⟩,fun x c e=>?_,I.cm.fresh (Hn _),fun x c e=>?_,fun p hp=>?_,I.cm.kept hk,?_⟩
 ·unfold dY at e2
  rw[HC] at e2
  cases ej:js[i]? with
  |none=>rw[ej] at e2;cases e2
  |some o=>
   rw[ej] at e2
   cases o with
   |none=>simp at e2
   |some j=>
    simp only[Option.map_some,Option.some.injEq] at e2
    have es:σ[j]?=some (some v):=by
     cases q:σ[j]? with
     |none=>rw[q] at e2;simp at e2
     |some z=>rw[q] at e2;simp at e2;rw[e2]
    obtain⟨en,ef⟩:=L.G7 i y j e1 ej
    have em:(y,NameKind.free)∈scope.names:=PySem.mem_of_lookup ef
    have ek:=L.free _ em rfl
    obtain⟨m,_,hl⟩:=I.loc
    obtain⟨u,r,l⟩:=hl j y v en es (ek.elim (fun z=>.inr (.inl z)) fun z=>.inr (.inr z))
    refine⟨u,r,.inr ⟨qj ef,?_⟩⟩
    rcases l with⟨l,_⟩|⟨_,c,ec,z⟩
    ·have l':X.env.scope.names.lookup y=some .local:=l
     rcases ek with ek|ek<;>(rw[ek] at l';cases l')
    ·obtain⟨c',hc'⟩:=sY X.env.cells scope.names [] y em ⟨c,ec⟩
     have e':=dX X.env.cells scope.names [] (fun _ _ e=>by simp at e) y c' hc'
     rw[ec] at e';cases e'
     obtain⟨o,ho,hd⟩:=z
     exact⟨c,hc',⟨o,hk c o ho,hd⟩⟩
 ·obtain⟨v,o,ho,hd⟩:=I.cell x c (dX _ _ _ (fun _ _ e=>by simp at e) x c e)
  exact⟨v,o,hk c o ho,hd⟩
 ·exact I.iT x c (dX _ _ _ (fun _ _ e=>by simp at e) x c e)
 ·have hp':p∈X.pn++pZ:=by simpa[cY] using hp
  obtain⟨e,n,ne,nf,d⟩:=I.pin p hp'
  refine⟨hk _ _ e,n,HL (Hz e),fun z=>?_,d⟩
  rcases Hr.mp (I.iY _ z) with q|q
  ·exact ne q
  ·exact nf q
 ·unfold dY
  rw[Hg]
  exact L.len
theorem sG (I:Inv X pZ σ H s) (hf: ∀ b∈fp,cJ X pZ H b) (J:Inv (cY X scope N s H fp (X.pn++pZ)) ps σ' H' s'):
  Inv X pZ σ H' s'∧cJ X pZ H' s.heap.objs.size∧∃ m,s'.heap.Ns s.heap.objs.size m:=by
 refine⟨I.ET (ch:=fp) J.os J.base J.cm J.bare fun b hb=>⟨(hf b hb).2.2.2.1,(hf b hb).2.1,(hf b hb).2.2.2.2.1,(hf b hb).2.2.2.2.2⟩,I.pj (Hn _) J.free,?_⟩
 obtain⟨m,hn,_⟩:=J.loc
 exact⟨m,hn⟩
theorem Inv.gone {H':Hp} {s':Shared} {C:Addr} {h':Heap} {m:Str→Option Value} (I:Inv X pZ σ H' s') (f:cJ X pZ H' C) (hs:Heap.SameBut C s'.heap h'):Inv X pZ σ H' {s' with heap:=h'}:=
 I.turned (t':=s'.toks) (it:=C) (fun b o hb e=>(hs.2 b hb).trans e) f.1 f.2.1 f.2.2.2.1 f.2.2.2.2.1 f.2.2.2.2.2
theorem Af {iter:Expr} {Q:VK} {R:Value→Addr→Result→Shared→Prop}
  (L:aN X scope N js) (hc:X.calm=true)
  (hg: ∀ s₀ H₀ ex pn,PG (cY X scope N s₀ H₀ ex pn) target g) (ht: ∀ s₀ H₀ ex pn,lA (cY X scope N s₀ H₀ ex pn) ifs tt) (he: ∀ s₀ H₀ ex pn,PE (cY X scope N s₀ H₀ ex pn) elt te)
  (I:Inv X pZ σ H s) (T:Turn X.prog X.w X.K target J fp it tn) (st:tn 0 s.heap) (hf: ∀ b∈fp,cJ X pZ H b) {h₁:Heap} {tk:Nat} (I3:Inv X pZ σ (upd H D (.lst [])) s3) (hDl: ∀ b o,s.heap.get? b=some o→b≠D) (k3: ∀ b o,s.heap.get? b=some o→s3.heap.get? b=some o)
  (hns₁:h₁.Ns s3.heap.objs.size (fun _=>none)) (kk: ∀ b o,s3.heap.get? b=some o→h₁.get? b=some o)
  (w: ∃ W:Nat→Nat→St→Hp→Prop,(∃ m,W 0 m (dY js σ) (upd H D (.lst [])))∧∀ i m σ' H',W i m σ' H'→
   (J.stop i H'∧Q (.ref D) H')∨(J.go i H'∧∀ x H2,J.oC i H' x H2→g x σ' H2 fun σ2 H3=>tt σ2 H3 fun ok H4=>
    if ok=true then te σ2 H4 fun y H5=> ∃ ys,H5 D=some (.lst ys)∧ys.length < sizeLine∧∃ m',m' < m∧W (i+1) m' σ2 (upd H5 D (.lst (ys++[y])))
    else ∃ m',m' < m∧W (i+1) m' σ2 H4))
  (hR: ∀ C s' H',Inv X pZ σ H' s'→cJ X pZ H' C→(∃ m,s'.heap.Ns C m)→Q (.ref D) H'→R (.ref D) C (.ok .next) s'):
  codeAny (model X.prog X.w) X.A (.compStart (.ListComp elt [⟨target,iter,ifs,0⟩] scope pos) 0 (.ref it) (.ref D) {newEnv scope s3.heap.objs.size X.env.globals (mX scope.names X.env.cells) X.env.qual none .none (some X.env) builtinsNs with scope:=relabel scope X.env}) (R (.ref D) s3.heap.objs.size) {s3 with heap:=h₁,toks:=tk}:=by
 have obj:=T.obj 0 s.heap st
 have ho3: ∀ b∈fp,∃ o,s3.heap.get? b=some o:=fun b hb=>by obtain⟨o,e,_⟩:=obj b hb;exact⟨o,k3 b o e⟩
 have hf3: ∀ b∈fp,cJ X pZ (upd H D (.lst [])) b:=fun b hb=>by
  refine⟨?_,(hf b hb).2⟩
  obtain⟨o,e,_⟩:=obj b hb
  rw[au (hDl b o e)]
  exact(hf b hb).1
 have I4:Inv (cY X scope N s3 (upd H D (.lst [])) fp (X.pn++pZ)) [] (dY js σ) (upd H D (.lst [])) {s3 with heap:=h₁,toks:=tk}:=
  L.start I3 hc hf3 ho3 hns₁ kk
 obtain⟨W,⟨m0,w0⟩,turn⟩:=w
 have st4:tn 0 h₁:=T.keep 0 _ _ st fun b _ o e=>kk b o (k3 b o e)
 generalize hX:cY X scope N s3 (upd H D (.lst [])) fp (X.pn++pZ)=Y at I4
 have fpY: ∀ b∈fp,b≠Y.env.locals∧b∉Y.fs∧(b∈Y.ex∨Y.s₀.heap.objs.size≤b)∧(∀ x c,Y.env.cells.lookup x=some c→c≠b)∧∀ p∈Y.pn++[],p.1≠b:=fun b hb=>by
  rw[←hX]
  obtain⟨o,e⟩:=ho3 b hb
  refine⟨HL (Hz e),fun z=>?_,.inl hb,fun x c h=>(hf b hb).2.2.2.2.1 x c (dX _ _ _ (fun _ _ e=>by simp at e) x c h),fun p hp=>(hf b hb).2.2.2.2.2 p (by simpa[cY] using hp)⟩
  rcases Hr.mp (I3.iY b z) with q|q
  ·exact(hf b hb).2.1 q
  ·exact(hf b hb).2.2.1 q
 have loop:codeAny (model X.prog X.w) X.A (.compLoop (.ListComp elt [⟨target,iter,ifs,0⟩] scope pos) 0 (.ref it) (.ref D) Y.env) (R (.ref D) s3.heap.objs.size) {s3 with heap:=h₁,toks:=tk}:=by
  have pr:Y.prog=X.prog:=by rw[←hX];rfl
  have pw:Y.w=X.w:=by rw[←hX];rfl
  have pK:Y.K=X.K:=by rw[←hX];rfl
  have pA:Y.A=X.A:=by rw[←hX];rfl
  have pc:Y.calm=true:=by rw[←hX];rfl
  have px:Y.xe=fun _ _=>False:=by rw[←hX];rfl
  have gA: ∀ {H':Hp},(∀ b∈fp,H' b=none)→∀ b∈fp,cJ Y [] H' b:=fun hn b hb=>⟨hn b hb,fpY b hb⟩
  refine vp (fun n s'=> ∃ i σ' H',Inv Y [] σ' H' s'∧tn i s'.heap∧(∀ b∈fp,H' b=none)∧W i n σ' H') ?_ m0 ⟨0,_,_,I4,st4,fun b hb=>(hf3 b hb).1,w0⟩
  rintro n s5 ⟨i,σ5,H5,I5,st5,fr5,w5⟩
  have gY:PG Y target g:=by rw[←hX];exact hg _ _ _ _
  have tY:lA Y ifs tt:=by rw[←hX];exact ht _ _ _ _
  have eY:PE Y elt te:=by rw[←hX];exact he _ _ _ _
  unfold PG at gY;unfold lA at tY;unfold PE at eY
  rw[pr,pw,pA,px] at gY tY eY
  have ap:=dG (X:=Y)
  unfold Gz at ap
  rw[pr,pw,pA,px] at ap
  rcases turn i n σ5 H5 w5 with⟨stop,q⟩|⟨go,step⟩
  ·have d:=T.done Y pr pw pK pc i [] s5 σ5 H5 (fun _ _=>False) I5 (gA fr5) st5 stop
   rw[pA] at d
   refine bF d fun r s6 ⟨hr,I6⟩=>?_
   subst hr
   have I6':Inv (cY X scope N s3 (upd H D (.lst [])) fp (X.pn++pZ)) [] σ5 H5 s6:=by rw[hX];exact I6
   obtain⟨a1,a2,a3⟩:=sG I3 hf3 I6'
   exact hR _ s6 H5 a1 a2 a3 q
  ·have d:=T.item Y pr pw pK pc i [] s5 σ5 H5 (fun _ _=>False) I5 (gA fr5) st5 go
   rw[pA] at d
   refine bF d fun r s6 ⟨u,hr,h6⟩=>?_
   subst hr
   refine bF h6 fun _ s7 ⟨x,H7,I7,r7,y7,st7,fr7⟩=>?_
   have I7':=I7.pinned (gA fr7) (T.obj _ _ st7)
   refine bF (gY _ s7 σ5 H7 x u _ I7' r7 (step x H7 y7)) fun _ s8 ⟨σ8,H8,I8,q8⟩=>?_
   have again: ∀ {σ9:St} {H9:Hp} {s9:Shared},Inv Y ([]++h7 fp s7.heap) σ9 H9 s9→(∃ m',m' < n∧W (i+1) m' σ9 H9)→∃ m,m < n∧∃ i σ' H',Inv Y [] σ' H' s9∧tn i s9.heap∧(∀ b∈fp,H' b=none)∧W i m σ' H':=fun {σ9 H9 s9} I9 ⟨m',hm,w9⟩=>by
    refine⟨m',hm,i+1,σ9,H9,I9.fG,T.keep _ _ _ st7 fun b hb o e=>(I9.pin (b,o) (HB _ (HB _ (cF hb e)))).1,fun b hb=>?_,w9⟩
    obtain⟨o,e,d⟩:=T.obj _ _ st7 b hb
    exact(I9.pin (b,o) (HB _ (HB _ (cF hb e)))).2.1
   refine bF (tY _ s8 σ8 H8 _ I8 q8) fun ok s9 ⟨H9,I9,q9⟩=>?_
   cases ok with
   |false=>
    rw[Ih (by decide)] at q9
    rw[Ih (by decide)]
    exact again I9 q9
   |true=>
    rw[Ig rfl] at q9
    rw[Ig rfl]
    refine bF (eY _ s9 σ8 H9 _ I9 q9) fun v s10 ⟨y,H10,I10,r10,ys,eys,lys,q10⟩=>?_
    refine bF (ap _ s10 σ8 H10 (.ref D) [y] (.ref D) [v] (fun _ H'=> ∃ m',m' < n∧W (i+1) m' σ8 H') I10 rfl (.cons r10 .nil) ⟨D,ys,y,rfl,rfl,eys,lys,q10⟩) fun v2 s11 ⟨y2,H11,I11,_,q11⟩=>?_
    exact again I11 q11
 have ee:({newEnv scope s3.heap.objs.size X.env.globals (mX scope.names X.env.cells) X.env.qual none .none (some X.env) builtinsNs with scope:=relabel scope X.env}:Env)=Y.env:=by rw[←hX];rfl
 rw[ee]
 exact codeAny_compStart_list loop (T.self _ 0 _ _ _ st4 loop)
theorem qI {elt target iter:Expr} {ifs:List Expr} {pos:Pos} {g:TG} {tt:TT} {te:TE} {it:Addr} {tn:Nat→Heap→Prop} {J:It} {Q:VK} {E:Value→Shared→Prop} {R:Value→Addr→Result→Shared→Prop}
  (L:aN X scope N js) (hc:X.calm=true)
  (hg: ∀ s₀ H₀ ex pn,PG (cY X scope N s₀ H₀ ex pn) target g) (ht: ∀ s₀ H₀ ex pn,lA (cY X scope N s₀ H₀ ex pn) ifs tt) (he: ∀ s₀ H₀ ex pn,PE (cY X scope N s₀ H₀ ex pn) elt te)
  (I:Inv X pZ σ H s) (T:Turn X.prog X.w X.K target J fp it tn) (st:tn 0 s.heap) (hf: ∀ b∈fp,cJ X pZ H b)
  (w: ∀ D,H D=none→∃ W:Nat→Nat→St→Hp→Prop,(∃ m,W 0 m (dY js σ) (upd H D (.lst [])))∧∀ i m σ' H',W i m σ' H'→
   (J.stop i H'∧Q (.ref D) H')∨(J.go i H'∧∀ x H2,J.oC i H' x H2→g x σ' H2 fun σ2 H3=>tt σ2 H3 fun ok H4=>
    if ok=true then te σ2 H4 fun y H5=> ∃ ys,H5 D=some (.lst ys)∧ys.length < sizeLine∧∃ m',m' < m∧W (i+1) m' σ2 (upd H5 D (.lst (ys++[y])))
    else ∃ m',m' < m∧W (i+1) m' σ2 H4))
  (hR: ∀ D C s' H',Inv X pZ σ H' s'→cJ X pZ H' C→(∃ m,s'.heap.Ns C m)→Q (.ref D) H'→R (.ref D) C (.ok .next) s'):
  wpAny (model X.prog X.w) X.A (newList []) (fun acc s₃=>wpAny (model X.prog X.w) X.A (newFunctionEnv scope X.env.globals (mX scope.names X.env.cells) [] X.env.qual none .none (some X.env)) (fun cenv s₄=>
   codeAny (model X.prog X.w) X.A (.compStart (.ListComp elt [⟨target,iter,ifs,0⟩] scope pos) 0 (.ref it) acc {cenv with scope:=relabel scope X.env}) (R acc cenv.locals) s₄) E s₃) E s:=by
 have I3:=I.xF (t':=s.toks) (ys:=[]) (aA:=[]) .nil (HJ _)
 have hD:=I.fresh
 refine wpAny_newObj_type (wpAny_newFunctionEnv L.oY (by intro y hy;simp at hy) (fun h₁ hns₁ hsb₁=>?_) L.kind)
 dsimp only at hns₁ hsb₁
 exact Af (Q:=Q) (R:=R) (s3:={s with heap:=s.heap.push {cls:=.type "list",data:=.seq ([]:List Value).toArray},toks:=s.toks}) L hc hg ht he I T st hf I3 (fun b o e=>HL (Hz e)) (fun b o e=>Hh _ e) hns₁
  (fun b o e=>hsb₁.extBut b o (HL (Hz e)) (Hh _ e)) (w _ hD) (fun C=>hR _ C)
theorem Eh {elt target iter:Expr} {ifs:List Expr} {pos:Pos} {wi:TI} {g:TG} {tt:TT} {te:TE} (L:aN X scope N js) (hc:X.calm=true) (hi:PI X target iter wi)
  (hg: ∀ s₀ H₀ ex pn,PG (cY X scope N s₀ H₀ ex pn) target g) (ht: ∀ s₀ H₀ ex pn,lA (cY X scope N s₀ H₀ ex pn) ifs tt) (he: ∀ s₀ H₀ ex pn,PE (cY X scope N s₀ H₀ ex pn) elt te)
  (hs: ∀ x,foldedSetIterable iter X.env x=pure x:=by intro _;rfl):PE X (.ListComp elt [⟨target,iter,ifs,0⟩] scope pos) (By js wi g tt te):=by
 intro pZ s σ H Q I h
 rw[eval_ListComp]
 refine wpAny_comprehension_free (use:=none) rfl hs (gM (L.yD I.ok)) L.kind L.names (bF (hi pZ s σ H _ I h) fun v s1 h1=>bF h1 fun itv s2 h2=>?_)
 obtain⟨it,fp,tn,J,H2,e,I2,T,st2,f2,w⟩:=h2
 subst e
 refine qI (Q:=Q) (R:=fun acc C=>compPost (model X.prog X.w) X.A X.xe none (EP X pZ σ Q) acc C) L hc hg ht he I2 T st2 f2 w ?_
 intro D C s' H' I' f' ⟨m,hn⟩ q
 exact⟨m,hn,fun h' hs'=>⟨.ref D,H',I'.gone (m:=m) f' hs',rfl,q⟩⟩
theorem Eb {elt target iter:Expr} {ifs:List Expr} {pos spos py:Pos} {y:Str} {k:Nat} {wi:TI} {g:TG} {tt:TT} {te:TE} (hN:X.N.Nodup) (hk:X.N[k]?=some y) (hy:Loc X.env.scope y) (L:aN X scope N js) (hc:X.calm=true) (hi:PI X target iter wi)
  (hg: ∀ s₀ H₀ ex pn,PG (cY X scope N s₀ H₀ ex pn) target g) (ht: ∀ s₀ H₀ ex pn,lA (cY X scope N s₀ H₀ ex pn) ifs tt) (he: ∀ s₀ H₀ ex pn,PE (cY X scope N s₀ H₀ ex pn) elt te)
  (hsw:swapsWith (.ListComp elt [⟨target,iter,ifs,0⟩] scope pos) (some (.Name y py)) spos.line X.env=pure true:=by rfl)
  (hs: ∀ x,foldedSetIterable iter X.env x=pure x:=by intro _;rfl) (hf:X.fn y=true∨X.env.scope.names.lookup y=some .local:=by first|exact .inl rfl|exact .inr rfl|assumption):
  PS X (.Assign [.Name y py] (.ListComp elt [⟨target,iter,ifs,0⟩] scope pos) spos) (gz (By js wi g tt te) (dW k)):=by
 intro pZ s σ H D I h
 rw[exec_Assign_Name_used _ _ _ _ hsw]
 refine He (wpAny_standAt (He ?_))
 show wpAny _ X.A (do let _ ←comprehension (.ListComp elt [⟨target,iter,ifs,0⟩] scope pos) scope X.env _ (newList []) false (eval iter X.env) (some (assign (.Name y py) X.env))) _ _ s
 refine He (bF (wpAny_comprehension_free (Q:=fun _ s'=>SP X pZ D .next s') rfl hs (gM (L.yD I.ok)) L.kind L.names (bF (hi pZ s σ H _ I h) fun v s1 h1=>bF h1 fun itv s2 h2=>?_)) fun _ s' hq=>Hk (Hk hq))
 obtain⟨it,fp,tn,J,H2,e,I2,T,st2,f2,w⟩:=h2
 subst e
 refine qI (Q:=fun v H1=>D.nx (σ.set k (some v)) H1) (R:=fun acc C=>compPost (model X.prog X.w) X.A X.xe (some (assign (.Name y py) X.env)) (fun _ s'=>SP X pZ D .next s') acc C) L hc hg ht he I2 T st2 f2 w ?_
 intro A C s' H' I' f' ⟨m,hn⟩ q
 show wpAny _ _ (assign (.Name y py) X.env (.ref A)) _ _ s'
 refine wpAny_assign_Name (jX (v:=V.ref A) I' hN hk hy rfl (fun s2 I3 ⟨a,hsb,ha⟩=>?_) hf)
 have hca:C≠a:=by
  rintro rfl
  rcases ha with z|z
  ·exact f'.2.1 z
  ·exact f'.2.2.2.2.1 y _ z rfl
 exact⟨m,hn.sameBut hsb hca,fun h' hs'=>⟨_,H',I3.gone (m:=m) f' hs',q⟩⟩
end
noncomputable def FC (x:Str):It:=⟨fun i _=>i < x.cps.size,fun i H v H'=>H'=H∧∃ c,x.cps[i]?=some c∧v= .str ⟨#[c]⟩,fun i _=>i=x.cps.size⟩
theorem nC {P:Program} {w:World} {K:Frag} {tg:Expr} (it:Addr) (x:Str) (t:Tok) {ty:String}
  (hn:["enumerate","zip","dict_itemiterator","dict_reverseitemiterator","odict_iterator","itertools.zip_longest","itertools.pairwise"].contains ty=false)
  (Wk: ∀ A:Around,A.handled=none→Walks P w A it [it] [it] x.cps.size (SignAt x) (fun i h=>h.IsStrIter it ty x t i))
  (Sf: ∀ (A:Around) i (s:Shared) (Q:Value→Shared→Prop) (E:Value→Shared→Prop),s.heap.IsStrIter it ty x t i→Q (.ref it) s→wpAny (model P w) A (pyIter (.ref it)) Q E s):Turn P w K tg (FC x) [it] it (fun i h=>h.IsStrIter it ty x t i) where
 mem:=by simp
 obj:=fun i h st b hb=>by
  have e:b=it:=by simpa using hb
  subst e
  obtain⟨o,e,c,d⟩:=st
  exact⟨o,e,fun v z=>by rw[d] at z;cases z⟩
 keep:=fun i h h' st k=>by
  obtain⟨o,e,c,d⟩:=st
  exact⟨o,k it (by simp) o e,c,d⟩
 item:=by
  intro X hP hw hK hc i pZ s σ H E I hf st hg
  subst hP hw hK
  obtain⟨f0,f1,f2,f3,f4,f5⟩:=hf it (by simp)
  refine(Wk X.A (I.ok.hd hc)).item i s _ _ hg st fun v h' tk hv st' kk=>?_
  obtain⟨c,u,hcx,rfl⟩:=hv
  have I1:Inv X pZ σ H {s with heap:=h',toks:=tk}:=I.turned (fun b o hb e=>kk b o (by simpa using hb) e) f0 f1 f3 f4 f5
  obtain⟨o,e,oc,d⟩:=id st'
  exact⟨_,rfl,qO (s:={s with heap:=h',toks:=tk}) e oc d hn ⟨.str ⟨#[c]⟩,H,I1,⟨u,rfl⟩,⟨rfl,c,hcx,rfl⟩,st',fun b hb=>(hf b hb).1⟩⟩
 done:=by
  intro X hP hw hK hc i pZ s σ H E I hf st hg
  subst hP hw hK
  have hg':i=x.cps.size:=hg
  subst hg'
  obtain⟨f0,f1,f2,f3,f4,f5⟩:=hf it (by simp)
  exact(Wk X.A (I.ok.hd hc)).done s _ _ st fun h' tk kk=>⟨rfl,I.turned (fun b o hb e=>kk b o (by simpa using hb) e) f0 f1 f3 f4 f5⟩
 self:=fun A i s Q E st h=>Sf A i s Q E st h
section
variable {X:Cx} {tg:Expr}
theorem zS:fK X (binaryOp .Mult) (rI IntMulOk fun i j=>.int (i * j)):=Dx fun _ _ _ _ _ _ _ hc q=>mul_int q hc
theorem jr:fK X (binaryOp .Pow) (rI (fun i j=>0≤j∧(Builtin.Int.intBits i:Int) * j≤2 ^ 27) fun i j=>.int (i ^ j.toNat)):=Dx fun _ _ _ _ _ _ _ hc q=>pow_int hc.1 hc.2 q
noncomputable def FW (K:Frag) (neg:Bool):R2:=fun x y H Q=> ∃ p q xs,x= .ref p∧y= .ref q∧cw K H p xs∧cw K H q []∧Q (.bl (xor neg xs.isEmpty)) H
theorem uW (hu:X.A.units < cLine):fK X (compareOp .NotEq) (FW X.K true):=by
 intro pZ s σ H x y v u Q I rx ry h
 obtain⟨p,q,xs,rfl,rfl,h1,h2,hq⟩:=h
 cases rx;cases ry
 obtain⟨aA,r1,l1,_⟩:=I.list h1
 obtain⟨sJ,r2,l2,_⟩:=I.list h2
 cases r2
 cases xs with
 |nil=>
  cases r1
  exact SeqAt.RcNeAt.lists (e:=fun _=>true) l1.isList l2.isList rfl hu (fun j a _=>by simp at a) _ _ _ _ (mP I hq rfl)
 |cons y ys=>
  have e:=r1.length
  exact SeqAt.RcNeAt.lists_lengths l1.isList l2.isList (by simp;intro z;subst z;simp at e) hu _ _ _ _ (mP I hq rfl)
theorem EW {bs:List Bool} (r:Vals (bs.map V.bl) aA) (i:Nat) (v:Value) (e:aA[i]?=some v): ∃ b,bs[i]?=some b∧v= .bool b:=by
 have hl:=r.length
 rw[Hg] at hl
 have hi:i < bs.length:=by rw[hl];exact(Hm.mp e).1
 obtain⟨u,h1,h2⟩:=r.get (x:=V.bl bs[i]) (by rw[HC,Hd hi];rfl)
 rw[e] at h1;cases h1
 exact⟨bs[i],Hd hi,h2⟩
theorem jl: ∀ {ys:List Str} {us:List Value},Vals (ys.map V.str) us→StrsAre us ys
 |[],us,r=>by rw[List.map_nil] at r;cases r;exact .nil
 |y::ys,us,r=>by
  rw[Hq] at r
  cases r with
  |cons h t=>obtain⟨t',rfl⟩:=h;exact .cons y t' (jl t)
theorem zZ:Gy X "str.join" (fun x xs H Q=> ∃ (sep:Str) (p:Addr) (ys:List Str),x= .str sep∧xs=[.ref p]∧cw X.K H p (ys.map V.str)∧(ys.map (·.length)).sum+ys.length * sep.length≤16777216∧Q (.str (Txt.join sep ys)) H):=by
 intro pZ s σ H x xs v us Q I rx rv h
 obtain⟨sep,p,ys,rfl,rfl,hq,hz,q⟩:=h
 obtain⟨t,rfl⟩:=rx
 obtain⟨u,rfl,ru⟩:=vals1 rv
 cases ru
 obtain⟨aA,r',pl,_⟩:=I.list hq
 exact join_list pl.isList (by simpa using jl r') hz fun t' k=>⟨.str (Txt.join sep ys),H,I.tok _,⟨_,rfl⟩,q⟩
end
noncomputable def Ez (scope es:Scope) (XN N:List Str) (js:List (Option Nat)):Bool:=
 (scope.kind== .function)&&scope.names.all (fun y=>y.2 != .cell&&(y.2 != .local||scope.names.lookup y.1==some .local)&&(y.2 != .free||es.names.lookup y.1==some .cell||es.names.lookup y.1==some .free))&&
 (js.length==N.length)&&(List.range N.length).all (fun i=>match N[i]?,js[i]? with|some y,some (some j)=>XN[j]?==some y&&scope.names.lookup y==some .free|_,_=>true)
theorem aN.pX (es:Scope) (XN:List Str) (h1:X.env.scope=es) (h2:X.N=XN) (h:Ez scope es XN N js=true):aN X scope N js:=by
 unfold Ez at h
 simp only[HU,List.all_eq_true] at h
 obtain⟨⟨⟨ha,hb⟩,hc⟩,hd⟩:=h
 refine⟨by simpa using ha,fun y hy=>?_,fun y hy hl=>?_,fun y hy hl=>?_,by simpa using hc,fun i y j e1 e2=>?_⟩
 ·have:=(hb y hy).1.1
  simpa using this
 ·have:=(hb y hy).1.2
  rw[hl] at this
  simpa using this
 ·have:=(hb y hy).2
  rw[hl] at this
  rw[h1]
  simpa using this
 ·have hi:i < N.length:=(Hm.mp e1).1
  have:=hd i (IF.mpr hi)
  rw[e1,e2] at this
  simp only[HU] at this
  rw[h2]
  exact⟨by simpa using this.1,by simpa using this.2⟩
noncomputable def isStar:Expr→Bool
 | .Starred .. =>true
 |_=>false
theorem DQ (h:isStar e=false):starEach (e::es) env=(false,eval e env)::starEach es env:=by
 cases e<;>first
  |rfl
  |(exfalso;exact Bool.noConfusion h)
theorem Ek (ha:PE X e te) (hr:PA X es t) (h:isStar e=false:=by rfl):PA X (e::es) (lW te t):=eL ha hr (DQ h)
theorem gh (h:H p=none) (o:HO):gv H (upd H p o):=fun b u q=>by rw[au (bh q h)];exact q
section
structure Bx (p:Prop):Prop where
 out:p
abbrev BE (X:Cx) (e:Expr) (t:TE):Prop:=Bx (PE X e t)
abbrev BT (X:Cx) (e:Expr) (t:TT):Prop:=Bx (PT X e t)
abbrev BW (X:Cx) (e:Expr) (t:TT):Prop:=Bx (PW X e t)
abbrev BA (X:Cx) (es:List Expr) (t:TA):Prop:=Bx (PA X es t)
abbrev BS (X:Cx) (st:Stmt) (t:TS):Prop:=Bx (PS X st t)
abbrev y4 (X:Cx) (st:List Stmt) (t:TS):Prop:=Bx (rG X st t)
abbrev BI (X:Cx) (tg iter:Expr) (t:TI):Prop:=Bx (PI X tg iter t)
abbrev BG (X:Cx) (tg:Expr) (t:TG):Prop:=Bx (PG X tg t)
abbrev FG (X:Cx) (ts:List Expr) (t:yZ):Prop:=Bx (E5 X ts t)
abbrev BO (X:Cx) (e:Option Expr) (t:TO):Prop:=Bx (PO X e t)
abbrev y3 (X:Cx) (ifs:List Expr) (t:TT):Prop:=Bx (lA X ifs t)
set_option genInjectivity true in
inductive PV where
 |bX|bl (b:Bool)|int (i:Int)|str (x:Str)|tup (l:List PV)|lst (l:List PV)|iO (kvs:List (Key×PV))|rE (ns:List Int)|bV
set_option genInjectivity true in
inductive M (α:Type) where
 |fail|ret (a:α)|draw (m:Int) (k:Int→M α)
namespace M
variable {α β γ:Type}
noncomputable def bind:M α→(α→M β)→M β
 |fail,_=>fail
 |ret a,f=>f a
 |draw m k,f=>draw m fun d=>(k d).bind f
noncomputable def wp:M α→Nat→(α→Nat→Prop)→Prop
 |fail,_,_=>False
 |ret a,n,Q=>Q a n
 |draw m k,n,Q=>0 < m∧m < 1073741824∧∃ n',n=n'+1∧∀ d,0≤d→d < m→(k d).wp n' Q
theorem wZ (m:M α) (f:α→M β): ∀ (n:Nat) (Q:β→Nat→Prop),(m.bind f).wp n Q=m.wp n fun a n'=>(f a).wp n' Q:=by
 induction m with
 |fail=>intro n Q;rfl
 |ret a=>intro n Q;rfl
 |draw m k ih=>intro n Q;simp only[bind,wp,ih]
theorem wp_mono {m:M α}: ∀ {n:Nat} {Q Q':α→Nat→Prop},m.wp n Q→(∀ a n',Q a n'→Q' a n')→m.wp n Q':=by
 induction m with
 |fail=>intro n Q Q' h _;exact h
 |ret a=>intro n Q Q' h f;exact f _ _ h
 |draw m k ih=>
  intro n Q Q' h f
  obtain⟨h1,h2,n',e,h3⟩:=h
  exact⟨h1,h2,n',e,fun d a b=>ih d (h3 d a b) f⟩
theorem bZ (m:M α) (f:α→M β) (g:β→M γ):(m.bind f).bind g=m.bind fun a=>(f a).bind g:=by
 induction m with
 |fail=>rfl
 |ret a=>rfl
 |draw m k ih=>simp only[bind,ih]
@[simp] theorem rY (a:α) (f:α→M β):(ret a).bind f=f a:=rfl
noncomputable def eV:Option α→M α
 |some a=>ret a
 |none=>fail
end M
theorem rZ (a:α) (f:α→M β):(M.ret a).bind f=f a:=rfl
inductive Rep (B:Addr) (O:Addr→Prop) (H:Hp):PV→V→Prop where
 |bX:Rep B O H .bX .bX
 |bl (b:Bool):Rep B O H (.bl b) (.bl b)
 |int (i:Int):Rep B O H (.int i) (.int i)
 |str (x:Str):Rep B O H (.str x) (.str x)
 |tup {p:Addr} {xs:List V} {l:List PV} (hO: ¬ O p) (h:H p=some (.tup xs)) (hl:l.length=xs.length) (hr: ∀ (i:Nat) (y:PV) (x:V),l[i]?=some y→xs[i]?=some x→Rep B O H y x):Rep B O H (.tup l) (.ref p)
 |lst {p:Addr} {xs:List V} {l:List PV} (hO: ¬ O p) (h:H p=some (.lst xs)) (hl:l.length=xs.length) (hr: ∀ (i:Nat) (y:PV) (x:V),l[i]?=some y→xs[i]?=some x→Rep B O H y x):Rep B O H (.lst l) (.ref p)
 |iO {p:Addr} {ks:List (Key×V)} {l:List (Key×PV)} (hO: ¬ O p) (h:Rd H p (.dK ks)) (hk:l.map (·.1)=ks.map (·.1)) (hr: ∀ (i:Nat) (y:Key×PV) (x:Key×V),l[i]?=some y→ks[i]?=some x→Rep B O H y.2 x.2):Rep B O H (.iO l) (.ref p)
 |rE {p:Addr} {ns:List Int} (hO: ¬ O p) (h: ∃ o,H p=some (.lx o (.lst (ns.map V.int)))):Rep B O H (.rE ns) (.ref p)
 |bV:Rep B O H .bV (.ref B)
def aO (B:Addr) (O:Addr→Prop) (H:Hp) (l:List PV) (xs:List V):Prop:=l.length=xs.length∧∀ (i:Nat) (y:PV) (x:V),l[i]?=some y→xs[i]?=some x→Rep B O H y x
def bp (B:Addr) (O:Addr→Prop) (H:Hp) (l:List (Key×PV)) (ks:List (Key×V)):Prop:=l.map (·.1)=ks.map (·.1)∧∀ (i:Nat) (y:Key×PV) (x:Key×V),l[i]?=some y→ks[i]?=some x→Rep B O H y.2 x.2
noncomputable def fk (H':Hp) (p:Addr):HO→Prop
 | .lV _=> ∃ qs,H' p=some (.lV qs)
 |o=>H' p=some o
theorem fk.of (h:H' p=some o):fk H' p o:=by
 cases o<;>first|exact h|exact⟨_,h⟩
theorem fk.there (h:fk H' p o): ∃ u,H' p=some u:=by
 cases o<;>first|exact⟨_,h⟩|(obtain⟨qs,e⟩:=h;exact⟨_,e⟩)
theorem fk.to (h:fk H' p o) (k: ∀ u,H' p=some u→fk H2 p u):fk H2 p o:=by
 cases o<;>first|exact k _ h|(obtain⟨qs,e⟩:=h;have q:=k (.lV qs) e;exact q)
def Ext (B:Addr) (H H':Hp):Prop:= ∀ p o,p≠B→H p=some o→fk H' p o
theorem Ext.refl (B:Addr) (H:Hp):Ext B H H:=fun _ _ _ h=>.of h
theorem Ext.trans (a:Ext B H H1) (b:Ext B H1 H2):Ext B H H2:=fun p o n h=>(a p o n h).to fun u e=>b p u n e
theorem Ext.new (h:H p=none) (o:HO):Ext B H (upd H p o):=fun q u _ e=>.of (by rw[au (bh e h)];exact e)
section
variable {B:Addr} {O O':Addr→Prop} {H H':Hp} {y:PV} {x:V} {l l':List PV} {xs xs':List V}
theorem Rep.eP (h:Rep B O H y x) (hH: ∀ p o,¬ O p→H p=some o→fk H' p o∧¬ O' p):Rep B O' H' y x:=by
 induction h with
 |bX=>exact .bX
 |bl b=>exact .bl b
 |int i=>exact .int i
 |str x=>exact .str x
 |tup hO h hl hr ih=>exact .tup (hH _ _ hO h).2 (hH _ _ hO h).1 hl ih
 |lst hO h hl hr ih=>exact .lst (hH _ _ hO h).2 (hH _ _ hO h).1 hl ih
 |rE hO h=>
  obtain⟨o,e⟩:=h
  exact .rE (hH _ _ hO e).2 ⟨o,(hH _ _ hO e).1⟩
 |iO hO h hl hr ih=>
  rcases h with h|⟨o,h⟩
  ·exact .iO (hH _ _ hO h).2 (.inl (hH _ _ hO h).1) hl ih
  ·exact .iO (hH _ _ hO h).2 (.inr ⟨o,(hH _ _ hO h).1⟩) hl ih
 |bV=>exact .bV
theorem Rep.keep (h:Rep B O H y x) (hH: ∀ p o,¬ O p→H p=some o→H' p=some o∧¬ O' p):Rep B O' H' y x:=h.eP fun p o n q=>⟨.of (hH p o n q).1,(hH p o n q).2⟩
theorem Rep.ext (h:Rep B O H y x) (hB:O B) (e:Ext B H H'):Rep B O H' y x:=h.eP fun p o n q=>⟨e p o (fun z=>n (z▸hB)) q,n⟩
theorem Rep.less (h:Rep B O H y x) (hO: ∀ p,O' p→O p):Rep B O' H y x:=h.keep fun p o n q=>⟨q,fun z=>n (hO p z)⟩
theorem Rep.grow (h:Rep B O H y x) (hO: ∀ p,O' p→O p∨H p=none):Rep B O' H y x:=h.keep fun p o n q=>⟨q,fun z=>by
 rcases hO p z with w|w
 ·exact n w
 ·rw[w] at q;cases q⟩
theorem aO.eP (h:aO B O H l xs) (hH: ∀ p o,¬ O p→H p=some o→fk H' p o∧¬ O' p):aO B O' H' l xs:=⟨h.1,fun i y x a b=>(h.2 i y x a b).eP hH⟩
theorem aO.keep (h:aO B O H l xs) (hH: ∀ p o,¬ O p→H p=some o→H' p=some o∧¬ O' p):aO B O' H' l xs:=⟨h.1,fun i y x a b=>(h.2 i y x a b).keep hH⟩
theorem aO.ext (h:aO B O H l xs) (hB:O B) (e:Ext B H H'):aO B O H' l xs:=⟨h.1,fun i y x a b=>(h.2 i y x a b).ext hB e⟩
theorem aO.less (h:aO B O H l xs) (hO: ∀ p,O' p→O p):aO B O' H l xs:=⟨h.1,fun i y x a b=>(h.2 i y x a b).less hO⟩
theorem aO.grow (h:aO B O H l xs) (hO: ∀ p,O' p→O p∨H p=none):aO B O' H l xs:=⟨h.1,fun i y x a b=>(h.2 i y x a b).grow hO⟩
theorem aO.nil:aO B O H [] []:=⟨rfl,fun i y x a=>by simp at a⟩
theorem aO.cons (h:Rep B O H y x) (t:aO B O H l xs):aO B O H (y::l) (x::xs):=⟨by simp[t.1],fun i y' x' a b=>by
 cases i with
 |zero=>simp at a b;subst a b;exact h
 |succ i=>simp at a b;exact t.2 i y' x' a b⟩
theorem aO.head (h:aO B O H (y::l) (x::xs)):Rep B O H y x:=h.2 0 y x rfl rfl
theorem aO.tail (h:aO B O H (y::l) (x::xs)):aO B O H l xs:=⟨by simpa using h.1,fun i y' x' a b=>h.2 (i+1) y' x' (by simpa using a) (by simpa using b)⟩
theorem aO.nil_inv (h:aO B O H [] xs):xs=[]:=HV h.1.symm
theorem aO.cons_inv (h:aO B O H (y::l) xs): ∃ x r,xs=x::r∧Rep B O H y x∧aO B O H l r:=by
 cases xs with
 |nil=>have:=h.1;simp at this
 |cons x r=>exact⟨x,r,rfl,h.head,h.tail⟩
theorem aO.at (h:aO B O H l xs) {i:Nat} (e:l[i]?=some y): ∃ x,xs[i]?=some x∧Rep B O H y x:=by
 have hi:i < l.length:=(Hm.mp e).1
 have hx:i < xs.length:=h.1▸hi
 exact⟨xs[i],Hd hx,h.2 i y _ e (Hd hx)⟩
theorem aO.at' (h:aO B O H l xs) {i:Nat} (e:xs[i]?=some x): ∃ y,l[i]?=some y∧Rep B O H y x:=by
 have hi:i < xs.length:=(Hm.mp e).1
 have hx:i < l.length:=h.1▸hi
 exact⟨l[i],Hd hx,h.2 i _ x (Hd hx) e⟩
theorem aO.append: ∀ {l:List PV} {xs:List V},aO B O H l xs→aO B O H l' xs'→aO B O H (l++l') (xs++xs')
 |[],xs,h,t=>by rw[h.nil_inv];exact t
 |y::l,xs,h,t=>by
  obtain⟨x,r,rfl,h1,h2⟩:=h.cons_inv
  exact .cons h1 (aO.append h2 t)
theorem aO.drop: ∀ (k:Nat) {l:List PV} {xs:List V},aO B O H l xs→aO B O H (l.drop k) (xs.drop k)
 |0,_,_,h=>h
 |_+1,[],_,h=>by have e:=h.nil_inv;subst e;simpa using aO.nil
 |k+1,y::l,xs,h=>by
  obtain⟨x,r,rfl,h1,h2⟩:=h.cons_inv
  exact aO.drop k h2
theorem aO.take: ∀ (k:Nat) {l:List PV} {xs:List V},aO B O H l xs→aO B O H (l.take k) (xs.take k)
 |0,_,_,h=>.nil
 |_+1,[],_,h=>by have e:=h.nil_inv;subst e;simpa using aO.nil
 |k+1,y::l,xs,h=>by
  obtain⟨x,r,rfl,h1,h2⟩:=h.cons_inv
  exact .cons h1 (aO.take k h2)
theorem bp.keep {l:List (Key×PV)} {ks:List (Key×V)} (h:bp B O H l ks) (hH: ∀ p o,¬ O p→H p=some o→H' p=some o∧¬ O' p):bp B O' H' l ks:=⟨h.1,fun i y x a b=>(h.2 i y x a b).keep hH⟩
theorem bp.ext {l:List (Key×PV)} {ks:List (Key×V)} (h:bp B O H l ks) (hB:O B) (e:Ext B H H'):bp B O H' l ks:=⟨h.1,fun i y x a b=>(h.2 i y x a b).ext hB e⟩
end
structure du where
 K:Frag
 sp:Sp
 tabs:List (Addr×Str)
noncomputable def Fd:HO→Prop
 | .lx _ (.dK _)=>False
 | .lx _ _=>True
 |_=>False
def TabAt (H:Hp) (e:Addr×Str):Prop:= ∃ ps,H e.1=some (.lV ps)∧TriplesOk ps.toList∧∀ pos cv,codeAmong pos ps.toList=some cv→∃ c oc vs t,cv= .ref c∧H c=some (.lx oc (.own c))∧oc.data= .fields vs∧vs[1]?=some (.str e.2 t)
theorem TabAt.keep (h:TabAt H e) (k1: ∀ ps,H e.1=some (.lV ps)→H' e.1=some (.lV ps)) (k2: ∀ p ob u,H p=some (.lx ob (.own u))→H' p=some (.lx ob (.own u))):TabAt H' e:=by
 obtain⟨ps,h1,h2,h3⟩:=h
 refine⟨ps,k1 _ h1,h2,fun pos cv e1=>?_⟩
 obtain⟨c,oc,vs,t,rfl,g1,g2⟩:=h3 pos cv e1
 exact⟨c,oc,vs,t,rfl,k2 _ _ _ g1,g2⟩
structure Bg (φ:du) where
 B:Addr
 cP:Addr→Prop
 ok:Hp→Nat→Prop
 pB:cP B
 keep: ∀ H H' n,(∀ p o,(cP p∨Fd o)→H p=some o→H' p=some o)→ok H n→ok H' n
 tp: ∀ e∈φ.tabs,cP e.1
 tab: ∀ H n,ok H n→∀ e∈φ.tabs,TabAt H e
 uK: ∀ H H' n,ok H n→(∀ e∈φ.tabs,TabAt H' e)→(∀ p o,p∉φ.tabs.map (·.1)→H p=some o→H' p=some o)→ok H' n
 yr: ∀ H n p,ok H n→cP p→∃ o,H p=some o
 dr: ∀ (H:Hp) (n:Nat) (m:Int) (Q:VK) (E:XK),ok H (n+1)→0 < m→m < 1073741824→(∀ (d:Int) (H':Hp),0≤d→d < m→Ext B H H'→ok H' n→Q (.int d) H')→φ.sp [.ref B,.int m] H Q E
variable {φ:du}
set_option genInjectivity true in
inductive Ent where
 |un|val (y:PV)|own (l:List PV)|d7 (kvs:List (Key×PV))
abbrev ao:=List Ent
noncomputable def kH (G:Bg φ) (O:Addr→Prop) (H:Hp):Ent→Option V→Prop
 | .un,_=>True
 | .val y,o=> ∃ x,o=some x∧Rep G.B O H y x
 | .own l,o=> ∃ p xs,o=some (.ref p)∧O p∧¬ G.cP p∧H p=some (.lst xs)∧aO G.B O H l xs
 | .d7 l,o=> ∃ p ks,o=some (.ref p)∧O p∧¬ G.cP p∧H p=some (.dK ks)∧bp G.B O H l ks
def jg (G:Bg φ) (O:Addr→Prop) (H:Hp) (σ:St) (ρ:ao):Prop:=σ.length=ρ.length∧∀ (i:Nat) (e:Ent),ρ[i]?=some e→kH G O H e ((σ[i]?).getD none)
structure ES (G:Bg φ) (O:Addr→Prop) (H:Hp) (σ:St) (ρ:ao) (n:Nat):Prop where
 er:jg G O H σ ρ
 ok:G.ok H n
 pr: ∀ p,G.cP p→O p
 dm: ∀ p,O p→∃ o,H p=some o
theorem ES.B (s:ES G O H σ ρ n):O G.B:=s.pr _ G.pB
theorem kH.ext (h:kH G O H e o) (hB:O G.B) (x:Ext G.B H H'):kH G O H' e o:=by
 cases e with
 |un=>trivial
 |val y=>obtain⟨v,e,r⟩:=h;exact⟨v,e,r.ext hB x⟩
 |own l=>obtain⟨p,xs,e,hp,np,hl,r⟩:=h;exact⟨p,xs,e,hp,np,x p _ (fun z=>np (z▸G.pB)) hl,r.ext hB x⟩
 |d7 l=>obtain⟨p,xs,e,hp,np,hl,r⟩:=h;exact⟨p,xs,e,hp,np,x p _ (fun z=>np (z▸G.pB)) hl,r.ext hB x⟩
theorem ES.ext (s:ES G O H σ ρ n) (x:Ext G.B H H') (ok:G.ok H' n'):ES G O H' σ ρ n' where
 er:=⟨s.er.1,fun i e h=>(s.er.2 i e h).ext s.B x⟩
 ok:=ok
 pr:=s.pr
 dm:=fun p h=>by
  by_cases e:p=G.B
  ·subst e;exact G.yr _ _ _ ok G.pB
  ·obtain⟨o,q⟩:=s.dm p h;exact(x p o e q).there
theorem Bg.new {G:Bg φ} (ok:G.ok H n) (h:H p=none) (o:HO):G.ok (upd H p o) n:=G.keep _ _ _ (fun q u _ e=>by rw[au (bh e h)];exact e) ok
def kE (G:Bg φ) (O:Addr→Prop) (H:Hp) (R:PV→Nat→Prop) (Q:VK):Prop:= ∀ (y:PV) (x:V) (H':Hp) (n':Nat),Ext G.B H H'→G.ok H' n'→Rep G.B O H' y x→R y n'→Q x H'
noncomputable def lB (φ:du) (m:ao→M PV):TE:=fun σ H Q=> ∃ (G:Bg φ) (O:Addr→Prop) (ρ:ao) (n:Nat) (R:PV→Nat→Prop),ES G O H σ ρ n∧(m ρ).wp n R∧kE G O H R Q
def EV (φ:du) (X:Cx) (e:Expr) (m:ao→M PV):Prop:=BE X e (lB φ m)
theorem BE.mono (h:BE X e t) (f: ∀ σ H Q,t' σ H Q→t σ H Q):BE X e t':=⟨fun pZ s σ H Q I q=>h.out pZ s σ H Q I (f σ H Q q)⟩
inductive cI (G:Bg φ) (O:Addr→Prop) (H:Hp):PV→V→Prop where
 |full {y:PV} {x:V} (h:Rep G.B O H y x):cI G O H y x
 |top {p:Addr} {xs:List V} {l:List PV} (np: ¬ G.cP p) (h:H p=some (.lst xs)) (r:aO G.B O H l xs):cI G O H (.lst l) (.ref p)
 |uL {p:Addr} {ks:List (Key×V)} {l:List (Key×PV)} (np: ¬ G.cP p) (h:H p=some (.dK ks)) (r:bp G.B O H l ks):cI G O H (.iO l) (.ref p)
theorem cI.ext (h:cI G O H y x) (hB:O G.B) (e:Ext G.B H H'):cI G O H' y x:=by
 cases h with
 |full h=>exact .full (h.ext hB e)
 | @top p xs l np h r=>exact .top np (e p (.lst xs) (fun z=>np (z▸G.pB)) h) (r.ext hB e)
 | @uL p ks l np h r=>exact .uL np (e p (.dK ks) (fun z=>np (z▸G.pB)) h) (r.ext hB e)
def EZ (G:Bg φ) (O:Addr→Prop) (H:Hp) (R:PV→Nat→Prop) (Q:VK):Prop:= ∀ (y:PV) (x:V) (H':Hp) (n':Nat),Ext G.B H H'→G.ok H' n'→cI G O H' y x→R y n'→Q x H'
noncomputable def vC (φ:du) (m:ao→M PV):TE:=fun σ H Q=> ∃ (G:Bg φ) (O:Addr→Prop) (ρ:ao) (n:Nat) (R:PV→Nat→Prop),ES G O H σ ρ n∧(m ρ).wp n R∧EZ G O H R Q
def EB (φ:du) (X:Cx) (e:Expr) (m:ao→M PV):Prop:=BE X e (vC φ m)
theorem EV.b (h:EV φ X e m):EB φ X e m:=BE.mono h fun σ H Q ⟨G,O,ρ,n,R,s,w,q⟩=>⟨G,O,ρ,n,R,s,w,fun y x H' n' a b c d=>q y x H' n' a b (.full c) d⟩
def EX (G:Bg φ) (H:Hp) (R:Bool→Nat→Prop) (Q:Bool→Hp→Prop):Prop:= ∀ (b:Bool) (H':Hp) (n':Nat),Ext G.B H H'→G.ok H' n'→R b n'→Q b H'
noncomputable def oE (φ:du) (m:ao→M Bool):TT:=fun σ H Q=> ∃ (G:Bg φ) (O:Addr→Prop) (ρ:ao) (n:Nat) (R:Bool→Nat→Prop),ES G O H σ ρ n∧(m ρ).wp n R∧EX G H R Q
def TV (φ:du) (X:Cx) (e:Expr) (m:ao→M Bool):Prop:=BT X e (oE φ m)
def WV (φ:du) (X:Cx) (e:Expr) (m:ao→M Bool):Prop:=BW X e (oE φ m)
def E1 (G:Bg φ) (O:Addr→Prop) (H:Hp) (R:List PV→Nat→Prop) (Q:List V→Hp→Prop):Prop:= ∀ (l:List PV) (xs:List V) (H':Hp) (n':Nat),Ext G.B H H'→G.ok H' n'→aO G.B O H' l xs→R l n'→Q xs H'
noncomputable def Fn (φ:du) (m:ao→M (List PV)):TA:=fun σ H Q=> ∃ (G:Bg φ) (O:Addr→Prop) (ρ:ao) (n:Nat) (R:List PV→Nat→Prop),ES G O H σ ρ n∧(m ρ).wp n R∧E1 G O H R Q
def AV (φ:du) (X:Cx) (es:List Expr) (m:ao→M (List PV)):Prop:=BA X es (Fn φ m)
def eQ (G:Bg φ) (O:Addr→Prop) (H:Hp) (l:List PV) (xs:List V):Prop:=l.length=xs.length∧∀ (i:Nat) (y:PV) (x:V),l[i]?=some y→xs[i]?=some x→cI G O H y x
def Dk (G:Bg φ) (O:Addr→Prop) (H:Hp) (R:List PV→Nat→Prop) (Q:List V→Hp→Prop):Prop:= ∀ (l:List PV) (xs:List V) (H':Hp) (n':Nat),Ext G.B H H'→G.ok H' n'→eQ G O H' l xs→R l n'→Q xs H'
noncomputable def Dr (φ:du) (m:ao→M (List PV)):TA:=fun σ H Q=> ∃ (G:Bg φ) (O:Addr→Prop) (ρ:ao) (n:Nat) (R:List PV→Nat→Prop),ES G O H σ ρ n∧(m ρ).wp n R∧Dk G O H R Q
def AB (φ:du) (X:Cx) (es:List Expr) (m:ao→M (List PV)):Prop:=BA X es (Dr φ m)
def rq (G:Bg φ) (O:Addr→Prop) (H:Hp) (R:List PV→Nat→Prop) (Q:VK):Prop:= ∀ (l:List PV) (p:Addr) (xs:List V) (H':Hp) (n':Nat),Ext G.B H H'→G.ok H' n'→H p=none→H' p=some (.lst xs)→aO G.B (fun q=>O q∨q=p) H' l xs→R l n'→Q (.ref p) H'
noncomputable def Dq (φ:du) (m:ao→M (List PV)):TE:=fun σ H Q=> ∃ (G:Bg φ) (O:Addr→Prop) (ρ:ao) (n:Nat) (R:List PV→Nat→Prop),ES G O H σ ρ n∧(m ρ).wp n R∧rq G O H R Q
def EF (φ:du) (X:Cx) (e:Expr) (m:ao→M (List PV)):Prop:=BE X e (Dq φ m)
theorem EF.v (h:EF φ X e m):EV φ X e (fun ρ=>(m ρ).bind fun l=>.ret (.lst l)):=BE.mono h fun σ H Q cy=>by
 obtain⟨G,O,ρ,n,R,s,w,q⟩:=cy
 rw[M.wZ] at w
 refine⟨G,O,ρ,n,_,s,w,fun l p xs H' n' a b c d e f=>q (.lst l) _ H' n' a b (.lst (fun z=>?_) d e.1 (e.less fun q z=>.inl z).2) f⟩
 obtain⟨o,g⟩:=s.dm p z
 rw[c] at g;cases g
end
open Ent (val un)
section
variable {φ:du}
theorem fu:100000≤sizeLine:=by rw[HW];decide
section
variable {G:Bg φ} {O:Addr→Prop} {H:Hp} {n:Nat} {R:PV→Nat→Prop} {Q:VK} {x x':V}
theorem kE.sc (w:kE G O H R Q) (ok:G.ok H n) (r:Rep G.B O H y x) (h:R y n):Q x H:=w y x H n (Ext.refl _ _) ok r h
theorem kE.tup (w:kE G O H R Q) (ok:G.ok H n) (dm: ∀ p,O p→∃ o,H p=some o) {p:Addr} (hp:H p=none) {l:List PV} {xs:List V} (hB:O G.B) (r:aO G.B O H l xs) (h:R (.tup l) n):Q (.ref p) (upd H p (.tup xs)):=by
 have e:=Ext.new (B:=G.B) hp (.tup xs)
 refine w (.tup l) _ _ n e (Bg.new ok hp _) (.tup (fun z=>?_) ay r.1 (r.ext hB e).2) h
 obtain⟨o,g⟩:=dm p z
 rw[hp] at g;cases g
theorem kE.lst (w:kE G O H R Q) (ok:G.ok H n) (dm: ∀ p,O p→∃ o,H p=some o) {p:Addr} (hp:H p=none) {l:List PV} {xs:List V} (hB:O G.B) (r:aO G.B O H l xs) (h:R (.lst l) n):Q (.ref p) (upd H p (.lst xs)):=by
 have e:=Ext.new (B:=G.B) hp (.lst xs)
 refine w (.lst l) _ _ n e (Bg.new ok hp _) (.lst (fun z=>?_) ay r.1 (r.ext hB e).2) h
 obtain⟨o,g⟩:=dm p z
 rw[hp] at g;cases g
theorem rq.mk {R:List PV→Nat→Prop} (w:rq G O H R Q) (ok:G.ok H n) {p:Addr} (hp:H p=none) {l:List PV} {xs:List V} (hB:O G.B) (r:aO G.B O H l xs) (h:R l n):Q (.ref p) (upd H p (.lst xs)):=by
 have e:=Ext.new (B:=G.B) hp (.lst xs)
 refine w l p xs _ n e (Bg.new ok hp _) hp ay ((r.grow fun q z=>?_).ext (.inl hB) e) h
 rcases z with z|z
 ·exact .inl z
 ·subst z;exact .inr hp
theorem BP (h:Rd H p (.dK a)) (g:Rd H p (.dK b)):a=b:=by
 rcases h with h|⟨o,h⟩<;>rcases g with g|⟨o',g⟩<;>(rw[h] at g;cases g)<;>rfl
theorem cI.Gu (h:cI G O H (.bl b) x):x= .bl b:=by cases h with|full h=>cases h;rfl
theorem cI.da (h:cI G O H (.int i) x):x= .int i:=by cases h with|full h=>cases h;rfl
theorem cI.gV (h:cI G O H (.str z) x):x= .str z:=by cases h with|full h=>cases h;rfl
theorem cI.gf (h:cI G O H (.tup l) x): ∃ p xs,x= .ref p∧H p=some (.tup xs)∧aO G.B O H l xs:=by cases h with|full h=>cases h with|tup a b c d=>exact⟨_,_,rfl,b,c,d⟩
theorem cI.fi (h:cI G O H (.lst l) x): ∃ p xs,x= .ref p∧H p=some (.lst xs)∧aO G.B O H l xs:=by
 cases h with
 |full h=>cases h with|lst a b c d=>exact⟨_,_,rfl,b,c,d⟩
 |top a b c=>exact⟨_,_,rfl,b,c⟩
theorem cI.uu (h:cI G O H (.iO l) x): ∃ p ks,x= .ref p∧Rd H p (.dK ks)∧bp G.B O H l ks:=by
 cases h with
 |full h=>cases h with|iO a b c d=>exact⟨_,_,rfl,b,c,d⟩
 |uL a b c=>exact⟨_,_,rfl,.inl b,c⟩
theorem cI.DS (h:cI G O H (.rE ns) x): ∃ p o,x= .ref p∧H p=some (.lx o (.lst (ns.map V.int))):=by cases h with|full h=>cases h with|rE a b=>obtain⟨o,b⟩:=b;exact⟨_,o,rfl,b⟩
theorem cI.low (h:cI G O H y x) (pr: ∀ p,G.cP p→O p):Rep G.B G.cP H y x:=by
 cases h with
 |full h=>exact h.less pr
 |top np h r=>exact .lst np h r.1 (r.less pr).2
 |uL np h r=>exact .iO np (.inl h) r.1 fun i y x a b=>(r.2 i y x a b).less pr
end
noncomputable def ag (ρ:ao) (i:Nat):M PV:=match ρ[i]? with|some (.val y)=>.ret y|_=>.fail
noncomputable def cQ (ρ:ao) (i:Nat):M PV:=match ρ[i]? with|some (.val y)=>.ret y|some (.own l)=>.ret (.lst l)|some (.d7 l)=>.ret (.iO l)|_=>.fail
section
variable {X:Cx} {a b c:Expr} {pos:Pos} {ma mb mc:ao→M PV}
theorem yf (h:BE X e (tC v)) (r: ∀ B O H,Rep B O H y v):EV φ X e (fun _=>.ret y):=BE.mono h fun σ H Q ⟨G,O,ρ,n,R,s,w,q⟩=>q.sc s.ok (r _ _ _) w
theorem aq:EV φ X (.Constant (.int i) j pos) (fun _=>.ret (.int i)):=yf ⟨aX⟩ fun _ _ _=>.int i
theorem yg:EV φ X (.Constant (.bool i) j pos) (fun _=>.ret (.bl i)):=yf ⟨Ej⟩ fun _ _ _=>.bl i
theorem bG:EV φ X (.Constant (.str x) j pos) (fun _=>.ret (.str x)):=yf ⟨B5⟩ fun _ _ _=>.str x
theorem fq {i:Nat} (h:jg G O H σ ρ) (he:ρ[i]?=some e) (hx:(σ[i]?).getD none=some x):σ[i]?=some (some x):=by
 cases q:σ[i]? with
 |none=>rw[q] at hx;cases hx
 |some o=>rw[q] at hx;cases o with
  |none=>cases hx
  |some z=>simp at hx;rw[hx]
theorem ae (i:Nat) (h:BE X (.Name x pos) (nc i)):EV φ X (.Name x pos) (fun ρ=>ag ρ i):=BE.mono h fun σ H Q cy=>by
 obtain⟨G,O,ρ,n,R,s,w,q⟩:=cy
 replace w:(ag ρ i).wp n R:=w
 unfold ag at w
 cases e:ρ[i]? with
 |none=>rw[e] at w;exact w.elim
 |some t=>
  rw[e] at w
  cases t with
  |val y=>
   obtain⟨x,hx,r⟩:=s.er.2 i _ e
   exact⟨x,fq s.er e hx,q.sc s.ok r w⟩
  |_=>exact w.elim
theorem eN (i:Nat) (h:BE X (.Name x pos) (nc i)):EB φ X (.Name x pos) (fun ρ=>cQ ρ i):=BE.mono h fun σ H Q cy=>by
 obtain⟨G,O,ρ,n,R,s,w,q⟩:=cy
 replace w:(cQ ρ i).wp n R:=w
 unfold cQ at w
 cases e:ρ[i]? with
 |none=>rw[e] at w;exact w.elim
 |some t=>
  rw[e] at w
  cases t with
  |val y=>
   obtain⟨x,hx,r⟩:=s.er.2 i _ e
   exact⟨x,fq s.er e hx,q _ _ _ _ (Ext.refl _ _) s.ok (.full r) w⟩
  |own l=>
   obtain⟨p,xs,hx,_,np,hl,r⟩:=s.er.2 i _ e
   exact⟨_,fq s.er e hx,q _ _ _ _ (Ext.refl _ _) s.ok (.top np hl r) w⟩
  |d7 l=>
   obtain⟨p,xs,hx,_,np,hl,r⟩:=s.er.2 i _ e
   exact⟨_,fq s.er e hx,q _ _ _ _ (Ext.refl _ _) s.ok (.uL np hl r) w⟩
  |un=>exact w.elim
def oB (r:R2) (op:PV→PV→M PV):Prop:= ∀ (φ:du) (G:Bg φ) (O:Addr→Prop) (H:Hp) (n:Nat) (R:PV→Nat→Prop) (Q:VK) (y y':PV) (x x':V),
 (∀ p,G.cP p→O p)→(∀ p,O p→∃ o,H p=some o)→G.ok H n→cI G O H y x→cI G O H y' x'→(op y y').wp n R→kE G O H R Q→r x x' H Q
noncomputable def ah (op:PV→PV→M PV) (ma mb:ao→M PV):ao→M PV:=fun ρ=>(ma ρ).bind fun x=>(mb ρ).bind fun y=>op x y
theorem two (hv:oB r op): ∀ σ H Q,lB φ (ah op ma mb) σ H Q→ze r (vC φ ma) (vC φ mb) σ H Q:=fun σ H Q cy=>by
 obtain⟨G,O,ρ,n,R,s,w,q⟩:=cy
 unfold ah at w
 rw[M.wZ] at w
 refine⟨G,O,ρ,n,_,s,w,fun y x H1 n1 e1 bS r1 w1=>?_⟩
 rw[M.wZ] at w1
 refine⟨G,O,ρ,n1,_,s.ext e1 bS,w1,fun y' x' H2 n2 e2 pV r2 w2=>?_⟩
 exact hv φ G O H2 n2 R Q y y' x x' s.pr (s.ext (e1.trans e2) pV).dm pV (r1.ext s.B e2) r2 w2 fun y x H' n' e o r h=>q y x H' n' (e1.trans (e2.trans e)) o r h
theorem bD (ho:fK X (binaryOp o) r) (hv:oB r op) (ha:EB φ X a ma) (hb:EB φ X b mb):EV φ X (.BinOp a o b pos) (ah op ma mb):=
 BE.mono ⟨cf ho ha.out hb.out⟩ (two hv)
theorem ij (ho:fK X (compareOp o) r) (hv:oB r op) (ha:EB φ X a ma) (hb:EB φ X b mb) (hm:behindInMarks o b=false):EV φ X (.Compare a [o] [b] pos) (ah op ma mb):=
 BE.mono ⟨zJ ho ha.out hb.out hm⟩ (two hv)
theorem aG (hr:y0 X r) (hv:oB r op) (ha:EB φ X a ma) (hb:EB φ X b mb) (hs:uF b):EV φ X (.Subscript a b pos) (ah op ma mb):=
 BE.mono ⟨h8 hr ha.out hb.out hs⟩ (two hv)
noncomputable def bO (m:ao→M PV):ao→M Bool:=fun ρ=>(m ρ).bind fun y=>match y with| .bl b=>.ret b|_=>.fail
theorem tG {t:TE} (f: ∀ σ H Q,lB φ m σ H Q→t σ H Q): ∀ σ H Q,oE φ (bO m) σ H Q→t σ H (fun x H1=> ∃ k,x= .bl k∧Q k H1):=fun σ H Q cy=>by
 obtain⟨G,O,ρ,n,R,s,w,q⟩:=cy
 unfold bO at w
 rw[M.wZ] at w
 refine f σ H _ ⟨G,O,ρ,n,_,s,w,fun y x H1 n1 e1 bS r1 w1=>?_⟩
 cases y with
 |bl k=>cases r1;exact⟨k,rfl,q k H1 n1 e1 bS w1⟩
 |_=>exact w1.elim
theorem BT.mono (h:BT X e t) (f: ∀ σ H Q,t' σ H Q→t σ H Q):BT X e t':=⟨fun pZ s σ H Q I q=>h.out pZ s σ H Q I (f σ H Q q)⟩
theorem BW.mono (h:BW X e t) (f: ∀ σ H Q,t' σ H Q→t σ H Q):BW X e t':=⟨fun w pZ s σ H Q I q=>h.out w pZ s σ H Q I (f σ H Q q)⟩
theorem bC (ho:fK X (compareOp o) r) (hv:oB r op) (ha:EB φ X a ma) (hb:EB φ X b mb) (hm:behindInMarks o b=false):TV φ X (.Compare a [o] [b] pos) (bO (ah op ma mb)):=
 BT.mono ⟨lF ho ha.out hb.out hm⟩ (tG (two hv))
theorem Bq (h:EV φ X e m) (he: ∀ whole,isTrue e X.env whole=(do let v ←whole;standAt e.pos;holding [v] (truthy v)):=by intro _;rfl):TV φ X e (bO m):=
 BT.mono ⟨BZ h.out he⟩ (tG fun _ _ _ h=>h)
noncomputable def iP (ma mb:ao→M Bool):ao→M Bool:=fun ρ=>(ma ρ).bind fun b=>if b=true then mb ρ else .ret false
noncomputable def Dw (ma mb:ao→M Bool):ao→M Bool:=fun ρ=>(ma ρ).bind fun b=>if b=true then .ret true else mb ρ
theorem WV.t (h:WV φ X e m):TV φ X e m:=⟨PW.pt h.out⟩
theorem iA (h:TV φ X a m):WV φ X (.BoolOp .And [a] pos) m:=⟨tV h.out⟩
theorem Bl (h:TV φ X a m):WV φ X (.BoolOp .Or [a] pos) m:=⟨BX h.out⟩
theorem iV {rest:List Expr} (h:TV φ X a m) (h':WV φ X (.BoolOp .And (b::rest) pos) m'):WV φ X (.BoolOp .And (a::b::rest) pos) (iP m m'):=BW.mono ⟨wK h.out h'.out⟩ fun σ H Q cy=>by
 obtain⟨G,O,ρ,n,R,s,w,q⟩:=cy
 unfold iP at w
 rw[M.wZ] at w
 refine⟨G,O,ρ,n,_,s,w,fun b H1 n1 e1 bS w1=>?_⟩
 cases b with
 |true=>exact⟨G,O,ρ,n1,R,s.ext e1 bS,w1,fun b H' n' e o h=>q b H' n' (e1.trans e) o h⟩
 |false=>exact q false H1 n1 e1 bS w1
theorem DG {rest:List Expr} (h:TV φ X a m) (h':WV φ X (.BoolOp .Or (b::rest) pos) m'):WV φ X (.BoolOp .Or (a::b::rest) pos) (Dw m m'):=BW.mono ⟨Ea h.out h'.out⟩ fun σ H Q cy=>by
 obtain⟨G,O,ρ,n,R,s,w,q⟩:=cy
 unfold Dw at w
 rw[M.wZ] at w
 refine⟨G,O,ρ,n,_,s,w,fun b H1 n1 e1 bS w1=>?_⟩
 cases b with
 |true=>exact q true H1 n1 e1 bS w1
 |false=>exact⟨G,O,ρ,n1,R,s.ext e1 bS,w1,fun b H' n' e o h=>q b H' n' (e1.trans e) o h⟩
noncomputable def rm (ma mb:ao→M PV):ao→M PV:=fun ρ=>(bO ma ρ).bind fun b=>if b=true then mb ρ else .ret (.bl false)
theorem Dh {m:ao→M PV} {f:Bool→M PV} {σ:St} {H:Hp} {Q:VK} {G:Bg φ} {O:Addr→Prop} {ρ:ao} {n:Nat} {R:PV→Nat→Prop} {T:V→Hp→Prop} (s:ES G O H σ ρ n) (w:((bO m ρ).bind f).wp n R)
  (k: ∀ (b:Bool) (H1:Hp) (n1:Nat),Ext G.B H H1→G.ok H1 n1→(f b).wp n1 R→T (.bl b) H1):lB φ m σ H T:=by
 rw[M.wZ] at w
 unfold bO at w
 rw[M.wZ] at w
 refine⟨G,O,ρ,n,_,s,w,fun y x H1 n1 e1 bS r1 w1=>?_⟩
 cases y with
 |bl b=>cases r1;exact k b H1 n1 e1 bS w1
 |_=>exact w1.elim
theorem ye (ha:EV φ X a ma):EV φ X (.BoolOp op [a] pos) ma:=⟨B6 ha.out⟩
theorem yh {rest:List Expr} (ha:EV φ X a ma) (hb:EV φ X (.BoolOp .And (b::rest) pos) mb):EV φ X (.BoolOp .And (a::b::rest) pos) (rm ma mb):=BE.mono ⟨B8 ha.out hb.out⟩ fun σ H Q ⟨G,O,ρ,n,R,s,w,q⟩=>
 Dh (Q:=Q) s w fun b H1 n1 e1 bS w1=>⟨b,rfl,by
  cases b with
  |true=>exact⟨G,O,ρ,n1,R,s.ext e1 bS,w1,fun y x H' n' e o r h=>q y x H' n' (e1.trans e) o r h⟩
  |false=>exact q _ _ _ _ e1 bS (.bl _) w1⟩
end
end
section
variable {φ:du}
noncomputable def toV:PV→V
 | .bX=>.bX
 | .bl b=>.bl b
 | .int i=>.int i
 | .str x=>.str x
 |_=>.ty ""
def bb (y:PV):Bool:=di (toV y)
theorem fH (h:Rep B O H y x) (f:bb y=true):x=toV y:=by
 cases h<;>first|rfl|(exact absurd f (by decide))|(simp[bb,toV,di] at f)
theorem nX (h:cI G O H y x) (f:bb y=true):x=toV y:=by
 cases h with
 |full h=>exact fH h f
 |_=>simp[bb,toV,di] at f
noncomputable def eqs (f:PV→PV→Option Bool):List PV→List PV→Option Bool
 |[],[]=>some true
 |[],_::_=>some false
 |_::_,[]=>some false
 |a::r,b::t=>(f a b).bind fun x=>(eqs f r t).bind fun y=>some (x&&y)
noncomputable def kr:Nat→PV→PV→Option Bool
 |k+1,.lst a,.lst b=>eqs (kr k) a b
 |k+1,.tup a,.tup b=>eqs (kr k) a b
 |_+1,.lst _,.tup _=>some false
 |_+1,.tup _,.lst _=>some false
 |_+1,.lst _,y=>if bb y then some false else none
 |_+1,.tup _,y=>if bb y then some false else none
 |_+1,y,.lst _=>if bb y then some false else none
 |_+1,y,.tup _=>if bb y then some false else none
 |_,y,z=>if bb y&&bb z then some (nY (toV y) (toV z)) else none
theorem mS: ∀ {a b:List PV} {c:Bool},eqs f a b=some c→∃ e:Nat→Bool,(∀ j y z,a[j]?=some y→b[j]?=some z→f y z=some (e j))∧c=((List.range (min a.length b.length)).all e&&a.length==b.length)
 |[],[],c,h=>⟨fun _=>true,fun j y z e=>by simp at e,by simp[eqs] at h;simp[h]⟩
 |[],_::_,c,h=>⟨fun _=>true,fun j y z e=>by simp at e,by simp[eqs] at h;simp[h]⟩
 |_::_,[],c,h=>⟨fun _=>true,fun j y z _ e=>by simp at e,by simp[eqs] at h;simp[h]⟩
 |y::r,z::t,c,h=>by
  simp only[eqs] at h
  cases h1:f y z with
  |none=>rw[h1] at h;simp at h
  |some x=>
   rw[h1] at h
   simp only[Option.bind_some] at h
   cases h2:eqs f r t with
   |none=>rw[h2] at h;simp at h
   |some w=>
    rw[h2] at h
    simp only[Option.bind_some,Option.some.injEq] at h
    obtain⟨e,he,hw⟩:=mS h2
    refine⟨fun j=>match j with|0=>x|j+1=>e j,fun j y' z' a b=>?_,?_⟩
    ·cases j with
     |zero=>simp at a b;subst a b;exact h1
     |succ j=>simp at a b;exact he j y' z' a b
    ·have e0:min (y::r).length (z::t).length=min r.length t.length+1:=by simp only[Hv];lia
     rw[e0,List.range_succ_eq_map,List.all_cons,List.all_map,←h,hw]
     simp only[Hv,Function.comp_def,Bool.and_assoc]
     congr 2
     rw[Bool.eq_iff_iff];simp
theorem pz {α β:Type} {l l':List α} {xs:List β} (h1:l.length=xs.length) (h2:l'.length=xs.length) (hh: ∀ (i:Nat) (y y':α) (x:β),l[i]?=some y→l'[i]?=some y'→xs[i]?=some x→y=y'):l=l':=by
 apply List.ext_getElem (h1.trans h2.symm)
 intro i a b
 exact hh i _ _ _ (Hd a) (Hd b) (Hd (h1▸a))
theorem uf: ∀ {a b:List Int},a.map V.int=b.map V.int→a=b
 |[],[],_=>rfl
 |[],_::_,h=>by simp at h
 |_::_,[],h=>by simp at h
 |x::a,y::b,h=>by
  simp only[Hq,List.cons.injEq,V.int.injEq] at h
  rw[h.1,uf h.2]
theorem Rep.uniq {O:Addr→Prop} (hB:O B) (h:Rep B O H y x): ∀ {y':PV},Rep B O H y' x→y=y':=by
 induction h with
 |bX=>intro y' h;cases h;rfl
 |bl b=>intro y' h;cases h;rfl
 |int i=>intro y' h;cases h;rfl
 |str x=>intro y' h;cases h;rfl
 |tup hO h hl hr ih=>
  intro y' g
  cases g with
  |tup gO g gl gr=>
   rw[h] at g;cases g
   congr 1
   exact pz hl gl fun i y y' x a b c=>ih i y x a c (gr i y' x b c)
  |lst gO g gl gr=>rw[h] at g;cases g
  |iO gO g gl gr=>rcases g with g|⟨o',g⟩<;>(rw[h] at g;cases g)
  |rE gO g=>obtain⟨o,g⟩:=g;rw[h] at g;cases g
  |bV=>exact absurd hB hO
 |lst hO h hl hr ih=>
  intro y' g
  cases g with
  |lst gO g gl gr=>
   rw[h] at g;cases g
   congr 1
   exact pz hl gl fun i y y' x a b c=>ih i y x a c (gr i y' x b c)
  |tup gO g gl gr=>rw[h] at g;cases g
  |iO gO g gl gr=>rcases g with g|⟨o',g⟩<;>(rw[h] at g;cases g)
  |rE gO g=>obtain⟨o,g⟩:=g;rw[h] at g;cases g
  |bV=>exact absurd hB hO
 |iO hO h hl hr ih=>
  intro y' g
  cases g with
  |iO gO g gl gr=>
   obtain rfl:=BP h g
   congr 1
   refine pz (by simpa using congrArg List.length hl) (by simpa using congrArg List.length gl) fun i y y' x a b c=>?_
   have k1:y.1=x.1:=by
    have:=congrArg (·[i]?) hl
    simp only[HC,a,c] at this
    simpa using this
   have k2:y'.1=x.1:=by
    have:=congrArg (·[i]?) gl
    simp only[HC,b,c] at this
    simpa using this
   exact Prod.ext (k1.trans k2.symm) (ih i y x a c (gr i y' x b c))
  |tup gO g gl gr=>rcases h with h|⟨o',h⟩<;>(rw[h] at g;cases g)
  |lst gO g gl gr=>rcases h with h|⟨o',h⟩<;>(rw[h] at g;cases g)
  |rE gO g=>obtain⟨o,g⟩:=g;rcases h with h|⟨o',h⟩<;>(rw[h] at g;cases g)
  |bV=>exact absurd hB hO
 |rE hO h=>
  intro y' g
  obtain⟨o,h⟩:=h
  cases g with
  |rE gO g=>
   obtain⟨o',g⟩:=g
   rw[h] at g
   injection g with g;injection g with g1 g2;injection g2 with g2
   congr 1
   exact uf g2
  |tup gO g gl gr=>rw[h] at g;cases g
  |lst gO g gl gr=>rw[h] at g;cases g
  |iO gO g gl gr=>rcases g with g|⟨o',g⟩<;>(rw[h] at g;cases g)
  |bV=>exact absurd hB hO
 |bV=>
  intro y' g
  cases g with
  |bV=>rfl
  |tup gO g gl gr=>exact absurd hB gO
  |lst gO g gl gr=>exact absurd hB gO
  |iO gO g gl gr=>exact absurd hB gO
  |rE gO g=>exact absurd hB gO
theorem mR (hf: ∀ y c,f y y=some c→c=true): ∀ {a:List PV} {c:Bool},eqs f a a=some c→c=true
 |[],c,h=>by simp[eqs] at h;exact h
 |y::r,c,h=>by
  simp only[eqs] at h
  cases h1:f y y with
  |none=>rw[h1] at h;simp at h
  |some x=>
   rw[h1] at h
   simp only[Option.bind_some] at h
   cases h2:eqs f r r with
   |none=>rw[h2] at h;simp at h
   |some w=>
    rw[h2] at h
    simp only[Option.bind_some,Option.some.injEq] at h
    rw[←h,hf _ _ h1,mR hf h2];rfl
theorem jC (h1:bb y=true) (h2:bb z=true):kr k y z=some (nY (toV y) (toV z)):=by
 cases k<;>cases y<;>cases z<;>first|rfl|(simp[bb,toV,di] at h1;done)|(simp[bb,toV,di] at h2;done)
theorem qQ: ∀ (k:Nat) (y:PV) (c:Bool),kr k y y=some c→c=true:=by
 intro k
 induction k with
 |zero=>
  intro y c h
  cases y<;>simp[kr,bb,toV,di,nY] at h<;>(try exact h)<;>(try exact h.symm)
 |succ k ih=>
  intro y c h
  cases y with
  |lst a=>exact mR ih h
  |tup a=>exact mR ih h
  |_=>simp[kr,bb,toV,di,nY] at h<;>(try exact h)<;>(try exact h.symm)
section
variable {X:Cx} {pZ:List (Addr×Obj)} {σ:St} {H:Hp} {s:Shared} {B:Addr} {O:Addr→Prop}
theorem nZ (h1:bb y=true) (h2:bb z=true) (r1:Rep B O H y x) (r2:Rep B O H z x') (q1:RelV x u) (q2:RelV x' v):SeqAt.EqAt A s u v (nY (toV y) (toV z)):=by
 rw[fH r1 h1] at q1
 rw[fH r2 h2] at q2
 exact yn q1 q2 h1 h2
theorem yi (I:Inv X pZ σ H s) (hB:O B): ∀ (k:Nat) (A:Around) (y z:PV) (x x':V) (u v:Value) (c:Bool),Rep B O H y x→Rep B O H z x'→RelV x u→RelV x' v→kr k y z=some c→A.units+k < cLine→SeqAt.EqAt A s u v c:=by
 intro k
 induction k with
 |zero=>
  intro A y z x x' u v c r1 r2 q1 q2 e hu
  have f:bb y=true∧bb z=true:=by
   unfold kr at e
   by_cases h:(bb y&&bb z)=true
   ·simpa using h
   ·cases y<;>cases z<;>simp_all [bb,toV,di]
  rw[jC f.1 f.2] at e
  cases e
  exact nZ f.1 f.2 r1 r2 q1 q2
 |succ k ih=>
  intro A y z x x' u v c r1 r2 q1 q2 e hu
  have dQ:A.units < cLine:=by lia
  have hu1:A.in1.units+k < cLine:=by show A.units+1+k < cLine;lia
  by_cases f:bb y=true∧bb z=true
  ·rw[jC f.1 f.2] at e
   cases e
   exact nZ f.1 f.2 r1 r2 q1 q2
  cases r1 with
  | @lst p xs l hO h hl hr=>
   cases q1
   obtain⟨aA,v1,p1,_⟩:=I.list (cw.of (K:=X.K) h)
   cases r2 with
   | @lst p' xs' l' hO' h' hl' hr'=>
    cases q2
    by_cases pe:p=p'
    ·subst pe
     have e1:=Rep.uniq hB (.lst hO h hl hr) (.lst hO' h' hl' hr')
     rw[e1] at e
     rw[qQ _ _ _ e]
     exact .same _
    ·obtain⟨bL,v2,p2,_⟩:=I.list (cw.of (K:=X.K) h')
     obtain⟨g,hg,hc⟩:=mS e
     refine .of_refs pe ?_
     have e1:aA.toArray.size=l.length:=by rw[Hl,←v1.length,hl]
     have e2:bL.toArray.size=l'.length:=by rw[Hl,←v2.length,hl']
     by_cases hs:l.length=l'.length
     ·have hh:=SeqAt.RcAt.lists (A:=A) (e:=g) p1.isList p2.isList (by rw[e1,e2,hs]) dQ (fun j h1 h2=>?_)
      ·rw[hc,←hs,Nat.min_self,Iu,Bool.and_true,←e1];exact hh
      ·have j1:j < l.length:=e1▸h1
       have j2:j < l'.length:=e2▸h2
       obtain⟨u1,a1,a2⟩:=v1.get (i:=j) (x:=xs[j]) (Hd _)
       obtain⟨u2,b1,b2⟩:=v2.get (i:=j) (x:=xs'[j]) (Hd _)
       have a3:aA.toArray[j]=u1:=by
        have:=(Hm.mp a1).2
        simpa using this
       have b3:bL.toArray[j]=u2:=by
        have:=(Hm.mp b1).2
        simpa using this
       rw[a3,b3]
       exact ih A.in1 l[j] l'[j] _ _ _ _ _ (hr j _ _ (Hd j1) (Hd _)) (hr' j _ _ (Hd j2) (Hd _)) a2 b2 (hg j _ _ (Hd j1) (Hd j2)) hu1
     ·have:c=false:=by rw[hc];simp[hs]
      rw[this]
      exact SeqAt.RcAt.lists_lengths p1.isList p2.isList (by rw[e1,e2];simpa using hs) dQ
   | @tup p' xs' l' hO' h' hl' hr'=>
    cases q2
    obtain⟨bL,v2,p2,_⟩:=I.tuple (dJ.of (K:=X.K) h')
    cases e
    exact .list_tuple p1.isList p2 dQ
   |bX=>cases q2;cases e;exact .list_none p1.isList dQ
   |bl b=>cases q2;cases e;exact .list_bool b p1.isList dQ
   |int b=>obtain⟨t,rfl⟩:=q2;cases e;exact .list_int b t p1.isList dQ
   |str b=>obtain⟨t,rfl⟩:=q2;cases e;exact .list_str b t p1.isList dQ
   |_=>cases e
  | @tup p xs l hO h hl hr=>
   cases q1
   obtain⟨aA,v1,p1,_⟩:=I.tuple (dJ.of (K:=X.K) h)
   cases r2 with
   | @tup p' xs' l' hO' h' hl' hr'=>
    cases q2
    by_cases pe:p=p'
    ·subst pe
     have e1:=Rep.uniq hB (.tup hO h hl hr) (.tup hO' h' hl' hr')
     rw[e1] at e
     rw[qQ _ _ _ e]
     exact .same _
    ·obtain⟨bL,v2,p2,_⟩:=I.tuple (dJ.of (K:=X.K) h')
     obtain⟨g,hg,hc⟩:=mS e
     refine .of_refs pe ?_
     have e1:aA.toArray.size=l.length:=by rw[Hl,←v1.length,hl]
     have e2:bL.toArray.size=l'.length:=by rw[Hl,←v2.length,hl']
     have hh:=SeqAt.RcAt.tuples (A:=A) (e:=g) p1 p2 dQ (fun j h1 h2=>?_)
     ·rw[hc,←e1,←e2];exact hh
     ·have j1:j < l.length:=e1▸h1
      have j2:j < l'.length:=e2▸h2
      obtain⟨u1,a1,a2⟩:=v1.get (i:=j) (x:=xs[j]) (Hd _)
      obtain⟨u2,b1,b2⟩:=v2.get (i:=j) (x:=xs'[j]) (Hd _)
      have a3:aA.toArray[j]=u1:=by
       have:=(Hm.mp a1).2
       simpa using this
      have b3:bL.toArray[j]=u2:=by
       have:=(Hm.mp b1).2
       simpa using this
      rw[a3,b3]
      exact ih A.in1 l[j] l'[j] _ _ _ _ _ (hr j _ _ (Hd j1) (Hd _)) (hr' j _ _ (Hd j2) (Hd _)) a2 b2 (hg j _ _ (Hd j1) (Hd j2)) hu1
   | @lst p' xs' l' hO' h' hl' hr'=>
    cases q2
    obtain⟨bL,v2,p2,_⟩:=I.list (cw.of (K:=X.K) h')
    cases e
    exact .tuple_list p1 p2.isList dQ
   |bX=>cases q2;cases e;exact .tuple_none p1 dQ
   |bl b=>cases q2;cases e;exact .tuple_bool b p1 dQ
   |int b=>obtain⟨t,rfl⟩:=q2;cases e;exact .tuple_int b t p1 dQ
   |str b=>obtain⟨t,rfl⟩:=q2;cases e;exact .tuple_str b t p1 dQ
   |_=>cases e
  |bX=>
   cases r2 with
   |lst a h' b c=>cases q1;cases q2;obtain⟨bL,v2,p2,_⟩:=I.list (cw.of (K:=X.K) h');cases e;exact .none_list p2.isList dQ
   |tup a h' b c=>cases q1;cases q2;obtain⟨bL,v2,p2,_⟩:=I.tuple (dJ.of (K:=X.K) h');cases e;exact .none_tuple p2 dQ
   |_=>first|exact absurd ⟨rfl,rfl⟩ f|cases e
  |bl b=>
   cases r2 with
   |lst a h' _ c=>cases q1;cases q2;obtain⟨bL,v2,p2,_⟩:=I.list (cw.of (K:=X.K) h');cases e;exact .bool_list b p2.isList dQ
   |tup a h' _ c=>cases q1;cases q2;obtain⟨bL,v2,p2,_⟩:=I.tuple (dJ.of (K:=X.K) h');cases e;exact .bool_tuple b p2 dQ
   |_=>first|exact absurd ⟨rfl,rfl⟩ f|cases e
  |int b=>
   cases r2 with
   |lst a h' _ c=>obtain⟨t,rfl⟩:=q1;cases q2;obtain⟨bL,v2,p2,_⟩:=I.list (cw.of (K:=X.K) h');cases e;exact .int_list b t p2.isList dQ
   |tup a h' _ c=>obtain⟨t,rfl⟩:=q1;cases q2;obtain⟨bL,v2,p2,_⟩:=I.tuple (dJ.of (K:=X.K) h');cases e;exact .int_tuple b t p2 dQ
   |_=>first|exact absurd ⟨rfl,rfl⟩ f|cases e
  |str b=>
   cases r2 with
   |lst a h' _ c=>obtain⟨t,rfl⟩:=q1;cases q2;obtain⟨bL,v2,p2,_⟩:=I.list (cw.of (K:=X.K) h');cases e;exact .str_list b t p2.isList dQ
   |tup a h' _ c=>obtain⟨t,rfl⟩:=q1;cases q2;obtain⟨bL,v2,p2,_⟩:=I.tuple (dJ.of (K:=X.K) h');cases e;exact .str_tuple b t p2 dQ
   |_=>first|exact absurd ⟨rfl,rfl⟩ f|cases e
  |_=>cases z<;>cases e
end
end
section
variable {φ:du}
section
variable {X:Cx}
theorem zA (f1:di y=true) (f2:di z=true) (q1:RelV y u) (q2:RelV z v):SeqAt.RcAt A s u v (nY y z)∧SeqAt.RcNeAt A s u v (!nY y z):=by
 cases y with
 |bX=>
  cases q1
  cases z with
  |bX=>cases q2;exact⟨.none_none,.none_none⟩
  |bl b=>cases q2;exact⟨.none_bool b,.none_bool b⟩
  |int b=>obtain⟨t,rfl⟩:=q2;exact⟨.none_int b t,.none_int b t⟩
  |str b=>obtain⟨t,rfl⟩:=q2;exact⟨.none_str b t,.none_str b t⟩
  |_=>cases f2
 |bl a=>
  cases q1
  cases z with
  |bX=>cases q2;exact⟨.bool_none a,.bool_none a⟩
  |bl b=>cases q2;exact⟨.bool_bool a b,.bool_bool a b⟩
  |int b=>obtain⟨t,rfl⟩:=q2;exact⟨.bool_int a b t,.bool_int a b t⟩
  |str b=>obtain⟨t,rfl⟩:=q2;exact⟨.bool_str a b t,.bool_str a b t⟩
  |_=>cases f2
 |int a=>
  obtain⟨t',rfl⟩:=q1
  cases z with
  |bX=>cases q2;exact⟨.int_none a t',.int_none a t'⟩
  |bl b=>cases q2;exact⟨.int_bool a t' b,.int_bool a t' b⟩
  |int b=>obtain⟨t,rfl⟩:=q2;exact⟨.int_int a t' b t,.int_int a t' b t⟩
  |str b=>obtain⟨t,rfl⟩:=q2;exact⟨.int_str a t' b t,.int_str a t' b t⟩
  |_=>cases f2
 |str a=>
  obtain⟨t',rfl⟩:=q1
  cases z with
  |bX=>cases q2;exact⟨.str_none a t',.str_none a t'⟩
  |bl b=>cases q2;exact⟨.str_bool a t' b,.str_bool a t' b⟩
  |int b=>obtain⟨t,rfl⟩:=q2;exact⟨.str_int a t' b t,.str_int a t' b t⟩
  |str b=>obtain⟨t,rfl⟩:=q2;exact⟨.str_str a t' b t,.str_str a t' b t⟩
  |_=>cases f2
 |_=>cases f1
theorem AU (I:Inv X pZ σ H s) (hB:O B) (k:Nat) (A:Around) (y z:PV) (x x':V) (u v:Value) (c:Bool)
  (r1:Rep B O H y x) (r2:Rep B O H z x') (q1:RelV x u) (q2:RelV x' v) (e:kr (k+1) y z=some c) (hu:A.units+(k+1) < cLine):SeqAt.RcAt A s u v c∧SeqAt.RcNeAt A s u v (!c):=by
 have dQ:A.units < cLine:=by lia
 have hu1:A.in1.units+k < cLine:=by show A.units+1+k < cLine;lia
 by_cases f:bb y=true∧bb z=true
 ·rw[jC f.1 f.2] at e
  cases e
  rw[fH r1 f.1] at q1
  rw[fH r2 f.2] at q2
  exact zA f.1 f.2 q1 q2
 cases r1 with
 | @lst p xs l hO h hl hr=>
  cases q1
  obtain⟨aA,v1,p1,_⟩:=I.list (cw.of (K:=X.K) h)
  cases r2 with
  | @lst p' xs' l' hO' h' hl' hr'=>
   cases q2
   obtain⟨bL,v2,p2,_⟩:=I.list (cw.of (K:=X.K) h')
   obtain⟨g,hg,hc⟩:=mS e
   have e1:aA.toArray.size=l.length:=by rw[Hl,←v1.length,hl]
   have e2:bL.toArray.size=l'.length:=by rw[Hl,←v2.length,hl']
   by_cases hs:l.length=l'.length
   ·have he: ∀ j (h1:j < aA.toArray.size) (h2:j < bL.toArray.size),SeqAt.EqAt A.in1 s aA.toArray[j] bL.toArray[j] (g j):=fun j h1 h2=>by
     have j1:j < l.length:=e1▸h1
     have j2:j < l'.length:=e2▸h2
     obtain⟨u1,a1,a2⟩:=v1.get (i:=j) (x:=xs[j]) (Hd _)
     obtain⟨u2,b1,b2⟩:=v2.get (i:=j) (x:=xs'[j]) (Hd _)
     have a3:aA.toArray[j]=u1:=by
      have:=(Hm.mp a1).2
      simpa using this
     have b3:bL.toArray[j]=u2:=by
      have:=(Hm.mp b1).2
      simpa using this
     rw[a3,b3]
     exact yi I hB k A.in1 l[j] l'[j] _ _ _ _ _ (hr j _ _ (Hd j1) (Hd _)) (hr' j _ _ (Hd j2) (Hd _)) a2 b2 (hg j _ _ (Hd j1) (Hd j2)) hu1
    have h1:=SeqAt.RcAt.lists (A:=A) (e:=g) p1.isList p2.isList (by rw[e1,e2,hs]) dQ he
    have h2:=SeqAt.RcNeAt.lists (A:=A) (e:=g) p1.isList p2.isList (by rw[e1,e2,hs]) dQ he
    rw[hc,←hs,Nat.min_self,Iu,Bool.and_true,←e1];exact⟨h1,h2⟩
   ·have:c=false:=by rw[hc];simp[hs]
    rw[this]
    exact⟨SeqAt.RcAt.lists_lengths p1.isList p2.isList (by rw[e1,e2];simpa using hs) dQ,SeqAt.RcNeAt.lists_lengths p1.isList p2.isList (by rw[e1,e2];simpa using hs) dQ⟩
  | @tup p' xs' l' hO' h' hl' hr'=>
   cases q2
   obtain⟨bL,v2,p2,_⟩:=I.tuple (dJ.of (K:=X.K) h')
   cases e
   exact⟨.list_tuple p1.isList p2 dQ,.list_tuple p1.isList p2 dQ⟩
  |bX=>cases q2;cases e;exact⟨.list_none p1.isList dQ,.list_none p1.isList dQ⟩
  |bl b=>cases q2;cases e;exact⟨.list_bool b p1.isList dQ,.list_bool b p1.isList dQ⟩
  |int b=>obtain⟨t,rfl⟩:=q2;cases e;exact⟨.list_int b t p1.isList dQ,.list_int b t p1.isList dQ⟩
  |str b=>obtain⟨t,rfl⟩:=q2;cases e;exact⟨.list_str b t p1.isList dQ,.list_str b t p1.isList dQ⟩
  |_=>cases e
 | @tup p xs l hO h hl hr=>
  cases q1
  obtain⟨aA,v1,p1,_⟩:=I.tuple (dJ.of (K:=X.K) h)
  cases r2 with
  | @tup p' xs' l' hO' h' hl' hr'=>
   cases q2
   obtain⟨bL,v2,p2,_⟩:=I.tuple (dJ.of (K:=X.K) h')
   obtain⟨g,hg,hc⟩:=mS e
   have e1:aA.toArray.size=l.length:=by rw[Hl,←v1.length,hl]
   have e2:bL.toArray.size=l'.length:=by rw[Hl,←v2.length,hl']
   have he: ∀ j (h1:j < aA.toArray.size) (h2:j < bL.toArray.size),SeqAt.EqAt A.in1 s aA.toArray[j] bL.toArray[j] (g j):=fun j h1 h2=>by
    have j1:j < l.length:=e1▸h1
    have j2:j < l'.length:=e2▸h2
    obtain⟨u1,a1,a2⟩:=v1.get (i:=j) (x:=xs[j]) (Hd _)
    obtain⟨u2,b1,b2⟩:=v2.get (i:=j) (x:=xs'[j]) (Hd _)
    have a3:aA.toArray[j]=u1:=by
     have:=(Hm.mp a1).2
     simpa using this
    have b3:bL.toArray[j]=u2:=by
     have:=(Hm.mp b1).2
     simpa using this
    rw[a3,b3]
    exact yi I hB k A.in1 l[j] l'[j] _ _ _ _ _ (hr j _ _ (Hd j1) (Hd _)) (hr' j _ _ (Hd j2) (Hd _)) a2 b2 (hg j _ _ (Hd j1) (Hd j2)) hu1
   have h1:=SeqAt.RcAt.tuples (A:=A) (e:=g) p1 p2 dQ he
   have h2:=SeqAt.RcNeAt.tuples (A:=A) (e:=g) p1 p2 dQ he
   rw[hc,←e1,←e2];exact⟨h1,h2⟩
  | @lst p' xs' l' hO' h' hl' hr'=>
   cases q2
   obtain⟨bL,v2,p2,_⟩:=I.list (cw.of (K:=X.K) h')
   cases e
   exact⟨.tuple_list p1 p2.isList dQ,.tuple_list p1 p2.isList dQ⟩
  |bX=>cases q2;cases e;exact⟨.tuple_none p1 dQ,.tuple_none p1 dQ⟩
  |bl b=>cases q2;cases e;exact⟨.tuple_bool b p1 dQ,.tuple_bool b p1 dQ⟩
  |int b=>obtain⟨t,rfl⟩:=q2;cases e;exact⟨.tuple_int b t p1 dQ,.tuple_int b t p1 dQ⟩
  |str b=>obtain⟨t,rfl⟩:=q2;cases e;exact⟨.tuple_str b t p1 dQ,.tuple_str b t p1 dQ⟩
  |_=>cases e
 |bX=>
  cases r2 with
  |lst a h' b c=>cases q1;cases q2;obtain⟨bL,v2,p2,_⟩:=I.list (cw.of (K:=X.K) h');cases e;exact⟨.none_list p2.isList dQ,.none_list p2.isList dQ⟩
  |tup a h' b c=>cases q1;cases q2;obtain⟨bL,v2,p2,_⟩:=I.tuple (dJ.of (K:=X.K) h');cases e;exact⟨.none_tuple p2 dQ,.none_tuple p2 dQ⟩
  |_=>first|exact absurd ⟨rfl,rfl⟩ f|cases e
 |bl b=>
  cases r2 with
  |lst a h' _ c=>cases q1;cases q2;obtain⟨bL,v2,p2,_⟩:=I.list (cw.of (K:=X.K) h');cases e;exact⟨.bool_list b p2.isList dQ,.bool_list b p2.isList dQ⟩
  |tup a h' _ c=>cases q1;cases q2;obtain⟨bL,v2,p2,_⟩:=I.tuple (dJ.of (K:=X.K) h');cases e;exact⟨.bool_tuple b p2 dQ,.bool_tuple b p2 dQ⟩
  |_=>first|exact absurd ⟨rfl,rfl⟩ f|cases e
 |int b=>
  cases r2 with
  |lst a h' _ c=>obtain⟨t,rfl⟩:=q1;cases q2;obtain⟨bL,v2,p2,_⟩:=I.list (cw.of (K:=X.K) h');cases e;exact⟨.int_list b t p2.isList dQ,.int_list b t p2.isList dQ⟩
  |tup a h' _ c=>obtain⟨t,rfl⟩:=q1;cases q2;obtain⟨bL,v2,p2,_⟩:=I.tuple (dJ.of (K:=X.K) h');cases e;exact⟨.int_tuple b t p2 dQ,.int_tuple b t p2 dQ⟩
  |_=>first|exact absurd ⟨rfl,rfl⟩ f|cases e
 |str b=>
  cases r2 with
  |lst a h' _ c=>obtain⟨t,rfl⟩:=q1;cases q2;obtain⟨bL,v2,p2,_⟩:=I.list (cw.of (K:=X.K) h');cases e;exact⟨.str_list b t p2.isList dQ,.str_list b t p2.isList dQ⟩
  |tup a h' _ c=>obtain⟨t,rfl⟩:=q1;cases q2;obtain⟨bL,v2,p2,_⟩:=I.tuple (dJ.of (K:=X.K) h');cases e;exact⟨.str_tuple b t p2 dQ,.str_tuple b t p2 dQ⟩
  |_=>first|exact absurd ⟨rfl,rfl⟩ f|cases e
 |_=>cases z<;>cases e
noncomputable def BU (neg:Bool):R2:=fun x y H Q=> ∃ (B:Addr) (O:Addr→Prop) (a b:PV) (c:Bool),O B∧Rep B O H a x∧Rep B O H b y∧kr 20 a b=some c∧Q (.bl (xor neg c)) H
theorem cN (hU:X.A.units+64 < cLine):fK X (compareOp .Eq) (BU false):=by
 intro pZ s σ H x y v u Q I rx ry h
 obtain⟨B,O,a,b,c,hB,r1,r2,e,q⟩:=h
 exact(AU I hB 19 X.A a b x y v u c r1 r2 rx ry e (by lia)).1 _ _ _ _ (mP I q (by cases c<;>rfl))
theorem Cg (hU:X.A.units+64 < cLine):fK X (compareOp .NotEq) (BU true):=by
 intro pZ s σ H x y v u Q I rx ry h
 obtain⟨B,O,a,b,c,hB,r1,r2,e,q⟩:=h
 exact(AU I hB 19 X.A a b x y v u c r1 r2 rx ry e (by lia)).2 _ _ _ _ (mP I q (by cases c<;>rfl))
end
noncomputable def eE (neg:Bool) (y z:PV):M PV:=(M.eV (kr 20 y z)).bind fun c=>.ret (.bl (xor neg c))
theorem dU (neg:Bool):oB (BU neg) (eE neg):=fun φ G O H n R Q y z x x' pr dm ok r1 r2 w q=>by
 unfold eE at w
 cases e:kr 20 y z with
 |none=>rw[e] at w;exact w.elim
 |some c=>rw[e] at w;exact⟨G.B,G.cP,y,z,c,G.pB,r1.low pr,r2.low pr,e,q.sc ok (.bl _) w⟩
noncomputable def su (C:Int→Int→Prop) [∀ i j,Decidable (C i j)] (f:Int→Int→PV):PV→PV→M PV
 | .int i,.int j=>if C i j then .ret (f i j) else .fail
 |_,_=>.fail
theorem xh [∀ i j,Decidable (C i j)] (hf: ∀ B O H i j,Rep B O H (f i j) (g i j)):oB (rI C g) (su C f):=fun φ G O H n R Q y z x x' pr dm ok r1 r2 w q=>by
 cases y<;>cases z<;>first|exact w.elim|skip
 rename_i i j
 rw[r1.da,r2.da]
 unfold su at w
 dsimp only at w
 by_cases hc:C i j
 ·rw[Ig hc] at w;exact⟨i,j,rfl,rfl,hc,q.sc ok (hf _ _ _ _ _) w⟩
 ·rw[Ih hc] at w;exact w.elim
noncomputable def u4 (f:Int→Int→Bool):PV→PV→M PV
 | .int i,.int j=>.ret (.bl (f i j))
 |_,_=>.fail
theorem t7:oB (vD fun i j=>.bl (f i j)) (u4 f):=fun φ G O H n R Q y z x x' pr dm ok r1 r2 w q=>by
 cases y<;>cases z<;>first|exact w.elim|skip
 rename_i i j
 rw[r1.da,r2.da]
 exact⟨i,j,rfl,rfl,q.sc ok (.bl _) w⟩
def o5:=u4 fun i j=>decide (i < j)
def Ap:=u4 fun i j=>decide (j < i)
theorem mx:oB (vD fun i j=>.bl (decide (i < j))) o5:=t7
theorem A2:oB (vD fun i j=>.bl (decide (j < i))) Ap:=t7
noncomputable def uM:PV→PV→M PV
 | .int i,.int j=>.ret (.int (i - j))
 |_,_=>.fail
theorem r9:oB (vD fun i j=>.int (i - j)) uM:=fun φ G O H n R Q y z x x' pr dm ok r1 r2 w q=>by
 cases y<;>cases z<;>first|exact w.elim|skip
 rename_i i j
 rw[r1.da,r2.da]
 exact⟨i,j,rfl,rfl,q.sc ok (.int _) w⟩
instance (i j:Int):Decidable (kI i j):=by unfold kI;infer_instance
instance (i j:Int):Decidable (yU i j):=by unfold yU;infer_instance
instance (i j:Int):Decidable (Dp i j):=by unfold Dp;infer_instance
noncomputable def qA:=su (fun _ j=>0 < j) fun i j=>.int (i % j)
noncomputable def wO:=su yU fun i j=>.int (i ^ j.toNat)
theorem xi:oB (rI (fun _ j=>0 < j) fun i j=>.int (i % j)) qA:=xh fun _ _ _ _ _=>.int _
theorem Cb:oB (rI yU fun i j=>.int (i ^ j.toNat)) wO:=xh fun _ _ _ _ _=>.int _
noncomputable def A1 (K:Frag):R2:=fun x y H Q=>(vD fun i j=>.int (i+j)) x y H Q∨(∃ i j,x= .str i∧y= .str j∧i.length+j.length≤sizeLine∧Q (.str (i++j)) H)∨BV x y H Q∨A0 K x y H Q∨
 (∃ a b ys,x= .ref a∧y= .ref b∧H a=some (.tup [])∧H b=some (.tup ys)∧Q (.ref b) H)
theorem xr:fK X (binaryOp .Add) (fun x y H Q=> ∃ a b ys,x= .ref a∧y= .ref b∧H a=some (.tup [])∧H b=some (.tup ys)∧Q (.ref b) H):=by
 intro pZ s σ H x y v u Q I rx ry h
 obtain⟨a,b,ys,rfl,rfl,ha,hb,q⟩:=h
 cases rx
 cases ry
 obtain⟨aA,r1,p1,_⟩:=I.tuple (dJ.of (K:=X.K) ha)
 obtain⟨sJ,r2,p2,_⟩:=I.tuple (dJ.of (K:=X.K) hb)
 cases r1
 obtain⟨⟨cls,dd,data,sl⟩,ho,hc,n,hd⟩:=id p1
 obtain⟨⟨cls2,dd2,data2,sl2⟩,ho2,hc2,n2,hd2⟩:=id p2
 simp only at hc hd hc2 hd2
 subst hc hd hc2 hd2
 exact concat_meets ⟨_,ho,rfl⟩ ⟨_,ho2,rfl⟩ noFill_tuple_add seq_tuple_add PySem.F.slot_tuple_add PySem.F.entry_tuple_add (PySem.F.args_tuple_add_2 _ _)
   (tuple_addW0 a b _ sJ.toArray n n2 dd dd2 sl sl2 rfl) ⟨ho,ho2,⟨.ref b,H,I,rfl,q⟩⟩
theorem cK:fK X (binaryOp .Add) (A1 X.K):=gG.or (sf.or (i6.or (zT.or xr)))
noncomputable def df:PV→PV→M PV
 | .int i,.int j=>.ret (.int (i+j))
 | .str i,.str j=>if i.length+j.length≤100000 then .ret (.str (i++j)) else .fail
 | .lst a,.lst b=>if a.length+b.length≤100000 then .ret (.lst (a++b)) else .fail
 | .tup a,.tup b=>if a.length+b.length≤100000 then .ret (.tup (a++b)) else .fail
 |_,_=>.fail
theorem dP {K:Frag}:oB (A1 K) df:=fun φ G O H n R Q y z x x' pr dm ok r1 r2 w q=>by
 have hB:O G.B:=pr _ G.pB
 cases y<;>cases z<;>first|exact w.elim|skip
 ·rename_i i j
  rw[r1.da,r2.da]
  exact .inl ⟨i,j,rfl,rfl,q.sc ok (.int _) w⟩
 ·rename_i i j
  rw[r1.gV,r2.gV]
  unfold df at w
  dsimp only at w
  by_cases hc:i.length+j.length≤100000
  ·rw[Ig hc] at w;exact .inr (.inl ⟨i,j,rfl,rfl,HD hc fu,q.sc ok (.str _) w⟩)
  ·rw[Ih hc] at w;exact w.elim
 ·rename_i i j
  obtain⟨a,xs,rfl,h1,e1⟩:=r1.gf
  obtain⟨b,ys,rfl,h2,e2⟩:=r2.gf
  unfold df at w
  dsimp only at w
  by_cases hc:i.length+j.length≤100000
  ·rw[Ig hc] at w
   by_cases hn:i=[]
   ·subst hn
    rw[e1.nil_inv] at h1
    cases r2 with
    |full r2=>exact .inr (.inr (.inr (.inr ⟨a,b,ys,rfl,rfl,h1,h2,q.sc ok r2 w⟩)))
   ·refine .inr (.inr (.inr (.inl ⟨a,b,xs,ys,rfl,rfl,dJ.of h1,dJ.of h2,fun z=>hn ?_,HD (by rw[←e1.1,←e2.1];exact hc) fu,fun hz=>?_,fun _ p hp=>q.tup ok dm hp hB (e1.append e2) w⟩)))
    ·subst z;exact HV e1.1
    ·subst hz
     have:j=[]:=HV e2.1
     subst this
     rw[IE] at w
     cases r1 with
     |full r1=>exact q.sc ok r1 w
  ·rw[Ih hc] at w;exact w.elim
 ·rename_i i j
  obtain⟨a,xs,rfl,h1,e1⟩:=r1.fi
  obtain⟨b,ys,rfl,h2,e2⟩:=r2.fi
  unfold df at w
  dsimp only at w
  by_cases hc:i.length+j.length≤100000
  ·rw[Ig hc] at w
   exact .inr (.inr (.inl ⟨a,b,xs,ys,rfl,rfl,h1,h2,HD (by rw[←e1.1,←e2.1];exact hc) fu,fun p hp=>q.lst ok dm hp hB (e1.append e2) w⟩))
  ·rw[Ih hc] at w;exact w.elim
noncomputable def j0 (i:Str) (k:Int):Str:=⟨(List.replicate k.toNat i.cps).foldl (· ++ ·) #[]⟩
noncomputable def AX:R2:=fun x y H Q=> ∃ i k,x= .str i∧y= .int k∧(1 < k∧k < 1000∧0 < i.length∧i.length < 1000∧(j0 i k).length≤100000)∧Q (.str (j0 i k)) H
noncomputable def wJ:R2:=fun x y H Q=>rI kI (fun i j=>.int (i * j)) x y H Q∨AX x y H Q∨D2 x y H Q
theorem zQ:fK X (binaryOp .Mult) AX:=by
 intro pZ s σ H x y v u Q I rx ry h
 obtain⟨i,k,rfl,rfl,⟨h1,h2,h3,h4,h5⟩,q⟩:=h
 obtain⟨t,rfl⟩:=rx
 obtain⟨t',rfl⟩:=ry
 have e1: ¬ k < -(2 ^ 63:Int):=by
  have:(2:Int) ^ 63=9223372036854775808:=by decide
  lia
 have e2: ¬ k ≥ 2 ^ 63:=by
  have:(2:Int) ^ 63=9223372036854775808:=by decide
  lia
 have hz:(i.length * k.toNat)≤1000000:=HD (Nat.mul_le_mul (Nat.le_of_lt h4) (by lia:k.toNat≤1000)) (by decide)
 have dz:(k==1||i.length==0)=false:=by
  simp only[Bool.or_eq_false_iff,beq_eq_false_iff_ne]
  exact⟨by lia,by lia⟩
 refine PySem.P.mul_str (by rw[HH e1,HH e2];rfl) (fun _ _ hgt=>?_) (fun _ _=>?_) ?_
 ·have:(i.length:Int)≤(2 ^ 63 - 1) / k:=by
   rw[Int.le_ediv_iff_mul_le (by lia)]
   have:(i.length:Int) * k≤1000 * 1000:=Int.mul_le_mul (by lia) (by lia) (by lia) (by lia)
   have e:(2:Int) ^ 63 - 1=9223372036854775807:=by decide
   lia
  lia
 ·have hs:sizeLine=16777216:=HW
  show decide (i.length * k.toNat > sizeLine)=false
  exact HH (by lia)
 ·rw[Ih (by lia),Ih (by rw[dz];simp)]
  exact⟨HD h5 fu,⟨.str (j0 i k),H,I.tok _,⟨_,rfl⟩,q⟩⟩
theorem zR:fK X (binaryOp .Mult) wJ:=j8.or (zQ.or Cd)
noncomputable def sx:PV→PV→M PV
 | .int i,.int j=>if kI i j then .ret (.int (i * j)) else .fail
 | .str i,.int k=>if 1 < k∧k < 1000∧0 < i.length∧i.length < 1000∧(j0 i k).length≤100000 then .ret (.str (j0 i k)) else .fail
 | .lst l,.int k=>if -1000 < k∧k < 1000∧l.length * k.toNat≤100000 then .ret (.lst (List.replicate k.toNat l).flatten) else .fail
 |_,_=>.fail
theorem aO.rep (h:aO B O H l xs): ∀ k:Nat,aO B O H (List.replicate k l).flatten (List.replicate k xs).flatten
 |0=>.nil
 |k+1=>by rw[List.replicate_succ,List.replicate_succ,List.flatten_cons,List.flatten_cons];exact h.append (aO.rep h k)
theorem Cc:oB wJ sx:=fun φ G O H n R Q y z x x' pr dm ok r1 r2 w q=>by
 have hB:O G.B:=pr _ G.pB
 cases y<;>cases z<;>first|exact w.elim|skip
 ·rename_i i j
  rw[r1.da,r2.da]
  unfold sx at w
  dsimp only at w
  by_cases hc:kI i j
  ·rw[Ig hc] at w;exact .inl ⟨i,j,rfl,rfl,hc,q.sc ok (.int _) w⟩
  ·rw[Ih hc] at w;exact w.elim
 ·rename_i i k
  rw[r1.gV,r2.da]
  unfold sx at w
  dsimp only at w
  by_cases hc:1 < k∧k < 1000∧0 < i.length∧i.length < 1000∧(j0 i k).length≤100000
  ·rw[Ig hc] at w;exact .inr (.inl ⟨i,k,rfl,rfl,hc,q.sc ok (.str _) w⟩)
  ·rw[Ih hc] at w;exact w.elim
 ·rename_i l k
  obtain⟨a,xs,rfl,h1,e1⟩:=r1.fi
  rw[r2.da]
  unfold sx at w
  dsimp only at w
  by_cases hc: -1000 < k∧k < 1000∧l.length * k.toNat≤100000
  ·rw[Ig hc] at w
   have e:(2:Int) ^ 63=9223372036854775808:=by decide
   exact .inr (.inr ⟨a,k,xs,rfl,rfl,h1,by lia,by lia,HD (by rw[←e1.1];exact hc.2.2) fu,fun p hp=>q.lst ok dm hp hB (e1.rep _) w⟩)
  ·rw[Ih hc] at w;exact w.elim
theorem cI.mN {G:Bg φ}: ∀ {l:List PV} {xs:List V},aO G.B O H l xs→l.all bb=true→xs=l.map toV
 |[],xs,h,_=>h.nil_inv
 |y::l,xs,h,f=>by
  obtain⟨x,r,rfl,h1,h2⟩:=h.cons_inv
  rw[List.all_cons,HU] at f
  rw[Hq,fH h1 f.1,cI.mN h2 f.2]
noncomputable def BR (K:Frag) (neg:Bool):R2:=fun x y H Q=>FX K neg x y H Q∨∃ i j,x= .str i∧y= .str j∧Q (.bl (xor neg (!(Builtin.Str.occurrences j i 0 j.length 1).isEmpty))) H
theorem xo:fK X (compareOp .In) (BR X.K false):=by
 intro pZ s σ H x y v u Q I rx ry h
 rcases h with h|⟨i,j,h1,h2,q⟩
 ·exact uY pZ s σ H x y v u Q I rx ry h
 ·exact uX pZ s σ H x y v u Q I rx ry ⟨i,j,h1,h2,by simpa using q⟩
theorem j7:fK X (compareOp .NotIn) (BR X.K true):=by
 intro pZ s σ H x y v u Q I rx ry h
 rcases h with h|⟨i,j,h1,h2,q⟩
 ·exact oU pZ s σ H x y v u Q I rx ry h
 ·exact oT pZ s σ H x y v u Q I rx ry ⟨i,j,h1,h2,by simpa using q⟩
noncomputable def ll (y:PV) (l:List PV):Bool:=l.any fun z=>nY (toV z) (toV y)
noncomputable def pY (neg:Bool):PV→PV→M PV
 | .str i,.str j=>.ret (.bl (xor neg (!(Builtin.Str.occurrences j i 0 j.length 1).isEmpty)))
 |y,.lst l=>if bb y&&l.all bb then .ret (.bl (xor neg (ll y l))) else .fail
 |y,.tup l=>if bb y&&l.all bb then .ret (.bl (xor neg (ll y l))) else .fail
 |_,_=>.fail
theorem uj (y:PV) (l:List PV):Fu (toV y) (l.map toV)=ll y l:=by unfold Fu ll;rw[List.any_map];rfl
theorem qt {K:Frag} (neg:Bool):oB (BR K neg) (pY neg):=fun φ G O H n R Q y z x x' pr dm ok r1 r2 w q=>by
 cases z with
 |lst l=>
  have w':(if(bb y&&l.all bb)=true then M.ret (.bl (xor neg (ll y l))) else M.fail:M PV).wp n R:=by cases y<;>exact w
  by_cases hc:(bb y&&l.all bb)=true
  ·rw[Ig hc] at w'
   rw[HU] at hc
   obtain⟨p,xs,rfl,h1,e1⟩:=r2.fi
   have e2:=cI.mN e1 hc.2
   rw[nX r1 hc.1]
   refine .inl ⟨p,xs,rfl,.inl (cw.of h1),hc.1,?_,?_⟩
   ·rw[e2,List.all_map];exact hc.2
   ·rw[e2,uj];cases neg<;>simpa using q.sc ok (.bl _) w'
  ·rw[Ih hc] at w';exact w'.elim
 |tup l=>
  have w':(if(bb y&&l.all bb)=true then M.ret (.bl (xor neg (ll y l))) else M.fail:M PV).wp n R:=by cases y<;>exact w
  by_cases hc:(bb y&&l.all bb)=true
  ·rw[Ig hc] at w'
   rw[HU] at hc
   obtain⟨p,xs,rfl,h1,e1⟩:=r2.gf
   have e2:=cI.mN e1 hc.2
   rw[nX r1 hc.1]
   refine .inl ⟨p,xs,rfl,.inr (dJ.of h1),hc.1,?_,?_⟩
   ·rw[e2,List.all_map];exact hc.2
   ·rw[e2,uj];cases neg<;>simpa using q.sc ok (.bl _) w'
  ·rw[Ih hc] at w';exact w'.elim
 |str j=>
  cases y<;>first|exact w.elim|skip
  rename_i i
  rw[r1.gV,r2.gV]
  exact .inr ⟨i,j,rfl,rfl,q.sc ok (.bl _) w⟩
 |_=>cases y<;>exact w.elim
theorem rj (h:aO B O H l xs) (e:ja l i=some y): ∃ x,ja xs i=some x∧Rep B O H y x:=by
 unfold ja at e ⊢
 rw[←h.1]
 cases q:xP l.length i with
 |none=>rw[q] at e;cases e
 |some j=>rw[q] at e;exact h.at e
noncomputable def aK:PV→PV→M PV
 | .lst l,.int i=>.eV (ja l i)
 | .tup l,.int i=>.eV (ja l i)
 | .str z,.int i=>if z.length≤100000 then(M.eV (ja z.cps.toList i)).bind fun c=>.ret (.str ⟨#[c]⟩) else .fail
 |_,_=>.fail
theorem aF {K:Frag}:oB (GH K) aK:=fun φ G O H n R Q y z x x' pr dm ok r1 r2 w q=>by
 cases y<;>cases z<;>first|exact w.elim|skip
 ·rename_i s i
  rw[r1.gV,r2.da]
  unfold aK at w
  dsimp only at w
  by_cases hc:s.length≤100000
  ·rw[Ig hc] at w
   cases e:ja s.cps.toList i with
   |none=>rw[e] at w;exact w.elim
   |some c=>rw[e] at w;exact .inr (.inr ⟨s,i,c,rfl,rfl,HD hc fu,e,q.sc ok (.str _) w⟩)
  ·rw[Ih hc] at w;exact w.elim
 ·rename_i l i
  obtain⟨p,xs,rfl,h1,e1⟩:=r1.gf
  rw[r2.da]
  unfold aK at w
  dsimp only at w
  cases e:ja l i with
  |none=>rw[e] at w;exact w.elim
  |some y=>
   rw[e] at w
   obtain⟨v,a,b⟩:=rj e1 e
   exact .inr (.inl ⟨p,xs,i,v,rfl,rfl,dJ.of h1,a,q.sc ok b w⟩)
 ·rename_i l i
  obtain⟨p,xs,rfl,h1,e1⟩:=r1.fi
  rw[r2.da]
  unfold aK at w
  dsimp only at w
  cases e:ja l i with
  |none=>rw[e] at w;exact w.elim
  |some y=>
   rw[e] at w
   obtain⟨v,a,b⟩:=rj e1 e
   exact .inl ⟨p,xs,i,v,rfl,rfl,cw.of h1,a,q.sc ok b w⟩
end
section
variable {φ:du}
section
variable {X:Cx} {e:Expr} {es:List Expr} {me:ao→M PV} {ml:ao→M (List PV)}
theorem BA.mono (h:BA X es t) (f: ∀ σ H Q,t' σ H Q→t σ H Q):BA X es t':=⟨fun pos pZ s σ H Q I q=>h.out pos pZ s σ H Q I (f σ H Q q)⟩
noncomputable def aa (me:ao→M PV) (ml:ao→M (List PV)):ao→M (List PV):=fun ρ=>(me ρ).bind fun y=>(ml ρ).bind fun l=>.ret (y::l)
theorem ar:AV φ X [] (fun _=>.ret []):=BA.mono ⟨fZ⟩ fun σ H Q ⟨G,O,ρ,n,R,s,w,q⟩=>q [] [] H n (Ext.refl _ _) s.ok .nil w
theorem ab (h:EV φ X e me) (t:AV φ X es ml) (hs:isStar e=false:=by rfl):AV φ X (e::es) (aa me ml):=BA.mono ⟨Ek h.out t.out hs⟩ fun σ H Q cy=>by
 obtain⟨G,O,ρ,n,R,s,w,q⟩:=cy
 unfold aa at w
 rw[M.wZ] at w
 refine⟨G,O,ρ,n,_,s,w,fun y x H1 n1 e1 bS r1 w1=>?_⟩
 rw[M.wZ] at w1
 exact⟨G,O,ρ,n1,_,s.ext e1 bS,w1,fun l xs H2 n2 e2 pV r2 w2=>q (y::l) (x::xs) H2 n2 (e1.trans e2) pV (.cons (r1.ext s.B e2) r2) w2⟩
theorem eQ.nil:eQ G O H [] []:=⟨rfl,fun i y x a=>by simp at a⟩
theorem eQ.cons {G:Bg φ} {O:Addr→Prop} {H:Hp} {y:PV} {x:V} {l:List PV} {xs:List V} (h:cI G O H y x) (t:eQ G O H l xs):eQ G O H (y::l) (x::xs):=⟨by simp[t.1],fun i y' x' a b=>by
 cases i with
 |zero=>simp at a b;subst a b;exact h
 |succ i=>simp at a b;exact t.2 i y' x' a b⟩
theorem eQ.nil_inv (h:eQ G O H [] xs):xs=[]:=HV h.1.symm
theorem eQ.cons_inv (h:eQ G O H (y::l) xs): ∃ x r,xs=x::r∧cI G O H y x∧eQ G O H l r:=by
 cases xs with
 |nil=>have:=h.1;simp at this
 |cons x r=>exact⟨x,r,rfl,h.2 0 y x rfl rfl,by simpa using h.1,fun i y' x' a b=>h.2 (i+1) y' x' (by simpa using a) (by simpa using b)⟩
theorem eQ.one (h:eQ G O H [y] xs): ∃ x,xs=[x]∧cI G O H y x:=by
 obtain⟨x,r,rfl,a,b⟩:=h.cons_inv
 rw[b.nil_inv];exact⟨x,rfl,a⟩
theorem eQ.two (h:eQ G O H [y,z] xs): ∃ x x',xs=[x,x']∧cI G O H y x∧cI G O H z x':=by
 obtain⟨x,r,rfl,a,b⟩:=h.cons_inv
 obtain⟨x',rfl,c⟩:=b.one
 exact⟨x,x',rfl,a,c⟩
theorem a9:AB φ X [] (fun _=>.ret []):=BA.mono ⟨fZ⟩ fun σ H Q ⟨G,O,ρ,n,R,s,w,q⟩=>q [] [] H n (Ext.refl _ _) s.ok .nil w
theorem aH (h:EB φ X e me) (t:AB φ X es ml) (hs:isStar e=false:=by rfl):AB φ X (e::es) (aa me ml):=BA.mono ⟨Ek h.out t.out hs⟩ fun σ H Q cy=>by
 obtain⟨G,O,ρ,n,R,s,w,q⟩:=cy
 unfold aa at w
 rw[M.wZ] at w
 refine⟨G,O,ρ,n,_,s,w,fun y x H1 n1 e1 bS r1 w1=>?_⟩
 rw[M.wZ] at w1
 exact⟨G,O,ρ,n1,_,s.ext e1 bS,w1,fun l xs H2 n2 e2 pV r2 w2=>q (y::l) (x::xs) H2 n2 (e1.trans e2) pV (.cons (r1.ext s.B e2) r2) w2⟩
noncomputable def aI (l:List PV):M PV:=if l.length≤100000 then .ret (.tup l) else .fail
noncomputable def aQ (l:List PV):M (List PV):=if l.length≤100000 then .ret l else .fail
theorem bN (h:AV φ X es ml):EV φ X (.Tuple es k pos) (fun ρ=>(ml ρ).bind aI):=BE.mono ⟨xb h.out⟩ fun σ H Q cy=>by
 obtain⟨G,O,ρ,n,R,s,w,q⟩:=cy
 rw[M.wZ] at w
 refine⟨G,O,ρ,n,_,s,w,fun l xs H1 n1 e1 bS r1 w1=>?_⟩
 unfold aI at w1
 by_cases hc:l.length≤100000
 ·rw[Ig hc] at w1
  refine⟨HD (by rw[←r1.1];exact hc) fu,fun p hp=>?_⟩
  have q':kE G O H1 R Q:=fun y x H' n' e o r h=>q y x H' n' (e1.trans e) o r h
  exact q'.tup bS (s.ext e1 bS).dm hp s.B r1 w1
 ·rw[Ih hc] at w1;exact w1.elim
theorem cz (h:AV φ X es ml):EF φ X (.List es pos) (fun ρ=>(ml ρ).bind aQ):=BE.mono ⟨r8 h.out⟩ fun σ H Q cy=>by
 obtain⟨G,O,ρ,n,R,s,w,q⟩:=cy
 rw[M.wZ] at w
 refine⟨G,O,ρ,n,_,s,w,fun l xs H1 n1 e1 bS r1 w1=>?_⟩
 unfold aQ at w1
 by_cases hc:l.length≤100000
 ·rw[Ig hc] at w1
  refine⟨HD (by rw[←r1.1];exact hc) fu,fun p hp=>?_⟩
  have e2:=Ext.new (B:=G.B) hp (.lst xs)
  refine q l p xs _ n1 (e1.trans e2) (Bg.new bS hp _) ?_ ay ((r1.grow fun q z=>by
   rcases z with z|z
   ·exact .inl z
   ·subst z;exact .inr hp).ext (.inl s.B) e2) w1
  cases hh:H p with
  |none=>rfl
  |some o=>
   by_cases pb:p=G.B
   ·subst pb;obtain⟨o',g⟩:=G.yr _ _ _ bS G.pB;rw[hp] at g;cases g
   ·obtain⟨_,this⟩:=(e1 p o pb hh).there;rw[hp] at this;cases this
 ·rw[Ih hc] at w1;exact w1.elim
theorem eW {G:Bg φ} (e1:Ext G.B H H1) (bS:G.ok H1 n) (hp:H1 p=none):H p=none:=by
 cases hh:H p with
 |none=>rfl
 |some o=>
  by_cases pb:p=G.B
  ·subst pb;obtain⟨o',g⟩:=G.yr _ _ _ bS G.pB;rw[hp] at g;cases g
  ·obtain⟨_,this⟩:=(e1 p o pb hh).there;rw[hp] at this;cases this
def kY (r:List V→Hp→VK→Prop) (op:List PV→M PV):Prop:= ∀ (φ:du) (G:Bg φ) (O:Addr→Prop) (H:Hp) (n:Nat) (R:PV→Nat→Prop) (Q:VK) (l:List PV) (xs:List V),
 (∀ p,G.cP p→O p)→(∀ p,O p→∃ o,H p=some o)→G.ok H n→eQ G O H l xs→(op l).wp n R→kE G O H R Q→r xs H Q
theorem aY (h:BE X e (Ds r (Dr φ ml))) (hv:kY r op):EV φ X e (fun ρ=>(ml ρ).bind op):=BE.mono h fun σ H Q cy=>by
 obtain⟨G,O,ρ,n,R,s,w,q⟩:=cy
 rw[M.wZ] at w
 exact⟨G,O,ρ,n,_,s,w,fun l xs H1 n1 e1 bS r1 w1=>hv φ G O H1 n1 R Q l xs s.pr (s.ext e1 bS).dm bS r1 w1 fun y x H' n' e o r h=>q y x H' n' (e1.trans e) o r h⟩
def rC (r:List V→Hp→VK→Prop) (op:List PV→M (List PV)):Prop:= ∀ (φ:du) (G:Bg φ) (O:Addr→Prop) (H:Hp) (n:Nat) (R:List PV→Nat→Prop) (Q:VK) (l:List PV) (xs:List V),
 (∀ p,G.cP p→O p)→(∀ p,O p→∃ o,H p=some o)→G.ok H n→eQ G O H l xs→(op l).wp n R→rq G O H R Q→r xs H Q
theorem jF (h:BE X e (Ds r (Dr φ ml))) (hv:rC r op):EF φ X e (fun ρ=>(ml ρ).bind op):=BE.mono h fun σ H Q cy=>by
 obtain⟨G,O,ρ,n,R,s,w,q⟩:=cy
 rw[M.wZ] at w
 exact⟨G,O,ρ,n,_,s,w,fun l xs H1 n1 e1 bS r1 w1=>hv φ G O H1 n1 R Q l xs s.pr (s.ext e1 bS).dm bS r1 w1 fun z p ys H' n' e o hp a b h=>q z p ys H' n' (e1.trans e) o (eW e1 bS hp) a b h⟩
noncomputable def eM:List PV→M PV
 |[.str z]=>if z.length≤100000 then .ret (.int z.length) else .fail
 |[.lst l]=>.ret (.int l.length)
 |[.tup l]=>.ret (.int l.length)
 |[.rE l]=>.ret (.int l.length)
 |[.iO l]=>.ret (.int l.length)
 |_=>.fail
noncomputable def AZ (K:Frag):List V→Hp→VK→Prop:=fun xs H Q=>(∃ x n,xs=[x]∧E9 K x H n∧Q (.int n) H)∨∃ a kvs,xs=[.ref a]∧Rd H a (.dK kvs)∧Q (.int kvs.length) H
theorem cG:eR X (.builtin "len") (AZ X.K):=by
 intro pZ s σ H xs us Q I r h
 rcases h with h|⟨a,kvs,rfl,h,q⟩
 ·exact yF pZ s σ H xs us Q I r h
 ·obtain⟨u,rfl,rx⟩:=vals1 r
  cases rx
  exact ER I h fun t s' I'=>⟨.int kvs.length,H,I',⟨_,rfl⟩,q⟩
theorem f7 {K:Frag}:kY (AZ K) eM:=fun φ G O H n R Q l xs pr dm ok r w q=>by
 match l,r,w with
 |[.str z],r,w=>
  obtain⟨x,ex,r1⟩:=r.one;subst ex;clear r;have r:=r1;clear r1
  rw[r.gV]
  unfold eM at w
  dsimp only at w
  by_cases hc:z.length≤100000
  ·rw[Ig hc] at w;exact .inl ⟨_,_,rfl,⟨HD hc fu,rfl⟩,q.sc ok (.int _) w⟩
  ·rw[Ih hc] at w;exact w.elim
 |[.lst z],r,w=>
  obtain⟨x,ex,r1⟩:=r.one;subst ex;clear r;have r:=r1;clear r1
  obtain⟨p,xs,rfl,h,e⟩:=r.fi
  exact .inl ⟨_,_,rfl,.inl ⟨xs,cw.of h,rfl⟩,q.sc ok (y:=.int z.length) (by rw[e.1];exact .int _) w⟩
 |[.tup z],r,w=>
  obtain⟨x,ex,r1⟩:=r.one;subst ex;clear r;have r:=r1;clear r1
  obtain⟨p,xs,rfl,h,e⟩:=r.gf
  exact .inl ⟨_,_,rfl,.inr ⟨xs,dJ.of h,rfl⟩,q.sc ok (y:=.int z.length) (by rw[e.1];exact .int _) w⟩
 |[.rE z],r,w=>
  obtain⟨x,ex,r1⟩:=r.one;subst ex;clear r;have r:=r1;clear r1
  obtain⟨p,o,rfl,h⟩:=r.DS
  exact .inl ⟨_,_,rfl,.inl ⟨_,.inl (.inr ⟨o,h⟩),rfl⟩,q.sc ok (y:=.int z.length) (by rw[Hg];exact .int _) w⟩
 |[.iO z],r,w=>
  obtain⟨x,ex,r1⟩:=r.one;subst ex;clear r;have r:=r1;clear r1
  obtain⟨p,ks,rfl,h,e⟩:=r.uu
  have e1:z.length=ks.length:=by simpa using congrArg List.length e.1
  exact .inr ⟨p,ks,rfl,h,q.sc ok (y:=.int z.length) (by rw[e1];exact .int _) w⟩
noncomputable def kU:List PV→Option (List Bool)
 |[]=>some []
 | .bl b::r=>(kU r).map (b:: ·)
 |_=>none
theorem uz: ∀ {l:List PV} {xs:List V} {bs:List Bool},aO B O H l xs→kU l=some bs→xs=bs.map V.bl
 |[],xs,bs,h,e=>by simp[kU] at e;subst e;exact h.nil_inv
 |y::l,xs,bs,h,e=>by
  cases y<;>simp[kU] at e
  obtain⟨bs',e1,rfl⟩:=e
  obtain⟨x,r,rfl,h1,h2⟩:=h.cons_inv
  cases h1
  rw[Hq,uz h2 e1]
noncomputable def yP:List PV→M PV
 |[.lst l]=>(M.eV (kU l)).bind fun bs=>.ret (.bl (bs.any id))
 |_=>.fail
theorem rT (bs:List Bool):((List.range bs.length).any fun i=>(bs[i]?).getD false)=bs.any id:=by
 rw[Bool.eq_iff_iff,List.any_eq_true,List.any_eq_true]
 constructor
 ·rintro⟨i,hi,e⟩
  have hi':=IF.mp hi
  rw[Hd hi'] at e
  exact⟨_,HZ hi',e⟩
 ·rintro⟨b,hb,e⟩
  obtain⟨i,hi,e1⟩:=List.getElem_of_mem hb
  exact⟨i,IF.mpr hi,by rw[Hd hi,e1];exact e⟩
theorem yG (hc:X.calm=true):eR X (.builtin "any") (fun xs H Q=> ∃ (p:Addr) (bs:List Bool),xs=[.ref p]∧cw X.K H p (bs.map V.bl)∧Q (.bl (bs.any id)) H):=by
 intro pZ s σ H xs us Q I r h
 obtain⟨p,bs,rfl,hq,q⟩:=h
 obtain⟨u,rfl,rx⟩:=vals1 r
 cases rx
 obtain⟨aA,r',pl,hz⟩:=I.list hq
 have hl:=pl.isList
 have fR:p < s.heap.objs.size:=by obtain⟨_,e,_⟩:=hl;exact Hz e
 have hlen:=r'.length
 rw[Hg] at hlen
 refine call_any_walk (wpAny_pyIter_list hl ?_)
 refine⟨s.heap.objs.size,[s.heap.objs.size,p],[s.heap.objs.size],aA.toArray.size,_,_,fun i=>(bs[i]?).getD false,rfl,Walks.list (A:=X.A.in1) (I.ok.hd hc) _ p (HL fR) aA.toArray,
  ⟨⟨_,Hw _ rfl,rfl,rfl⟩,hl.push _⟩,fun i v s' Q' E' hP hQ=>?_,fun h' tk hk=>?_⟩
 ·obtain⟨b,e,rfl⟩:=EW r' i v (by simpa using hP)
  simp only[e,Ir] at hQ
  exact wpAny_truthy_bool hQ
 ·refine⟨.bl (bs.any id),H,I.kept (fun b o e=>hk b o (fun hm=>?_) (Hh _ e)),?_,q⟩
  ·rw[HK.mp hm] at e;exact Nat.lt_irrefl _ (Hz e)
  ·show Value.bool _=Value.bool _
   rw[Hl,←hlen,rT]
theorem C1 {K:Frag}:kY (fun xs H Q=> ∃ (p:Addr) (bs:List Bool),xs=[.ref p]∧cw K H p (bs.map V.bl)∧Q (.bl (bs.any id)) H) yP:=fun φ G O H n R Q l xs pr dm ok r w q=>by
 match l,r,w with
 |[.lst z],r,w=>
  obtain⟨x,ex,r1⟩:=r.one;subst ex;clear r;have r:=r1;clear r1
  obtain⟨p,xs,rfl,h,e⟩:=r.fi
  unfold yP at w
  dsimp only at w
  cases eb:kU z with
  |none=>rw[eb] at w;exact w.elim
  |some bs=>rw[eb] at w;rw[uz e eb] at h;exact⟨p,bs,rfl,cw.of h,q.sc ok (.bl _) w⟩
noncomputable def nM:List PV→M PV
 |[.int i,.int j]=>.ret (.int (if j > i then j else i))
 |_=>.fail
noncomputable def qE:List PV→M PV
 |[.int i,.int j]=>.ret (.int (if j < i then j else i))
 |_=>.fail
theorem pF:kY (fun xs H Q=> ∃ i j,xs=[.int i,.int j]∧Q (.int (if j > i then j else i)) H) nM:=fun φ G O H n R Q l xs pr dm ok r w q=>by
 match l,r,w with
 |[.int i,.int j],r,w=>obtain⟨x,x',ex,r1,r'⟩:=r.two;subst ex;clear r;have r:=r1;clear r1;rw[r.da,r'.da];exact⟨i,j,rfl,q.sc ok (.int _) w⟩
theorem uw:kY (fun xs H Q=> ∃ i j,xs=[.int i,.int j]∧Q (.int (if j < i then j else i)) H) qE:=fun φ G O H n R Q l xs pr dm ok r w q=>by
 match l,r,w with
 |[.int i,.int j],r,w=>obtain⟨x,x',ex,r1,r'⟩:=r.two;subst ex;clear r;have r:=r1;clear r1;rw[r.da,r'.da];exact⟨i,j,rfl,q.sc ok (.int _) w⟩
noncomputable def sL:List PV→M PV
 |[.int i]=>.ret (.int i)
 |[.bl k]=>.ret (.int (if k then 1 else 0))
 |_=>.fail
theorem yy:kY (fun xs H Q=>(∃ i,xs=[.int i]∧Q (.int i) H)∨∃ k,xs=[.bl k]∧Q (.int (if k then 1 else 0)) H) sL:=fun φ G O H n R Q l xs pr dm ok r w q=>by
 match l,r,w with
 |[.int i],r,w=>obtain⟨x,ex,r1⟩:=r.one;subst ex;clear r;have r:=r1;clear r1;rw[r.da];exact .inl ⟨i,rfl,q.sc ok (.int _) w⟩
 |[.bl i],r,w=>obtain⟨x,ex,r1⟩:=r.one;subst ex;clear r;have r:=r1;clear r1;rw[r.Gu];exact .inr ⟨i,rfl,q.sc ok (.int _) w⟩
noncomputable def lb:List PV→M PV
 |[.lst l]=>.ret (.tup l)
 |[.tup l]=>.ret (.tup l)
 |_=>.fail
theorem mW {K:Frag}:kY (fun xs H Q=> ∃ p ys,xs=[.ref p]∧((cw K H p ys∧∀ l,H l=none→Q (.ref l) (upd H l (.tup ys)))∨(dJ K H p ys∧Q (.ref p) H))) lb:=fun φ G O H n R Q l xs pr dm ok r w q=>by
 match l,r,w with
 |[.lst z],r,w=>
  obtain⟨x,ex,r1⟩:=r.one;subst ex;clear r;have r:=r1;clear r1
  obtain⟨p,xs,rfl,h,e⟩:=r.fi
  exact⟨p,xs,rfl,.inl ⟨cw.of h,fun l hl=>q.tup ok dm hl (pr _ G.pB) e w⟩⟩
 |[.tup z],r,w=>
  obtain⟨x,ex,r1⟩:=r.one;subst ex;clear r;have r:=r1;clear r1
  obtain⟨p,xs,rfl,h,e⟩:=r.gf
  cases r with
  |full r=>exact⟨p,xs,rfl,.inr ⟨dJ.of h,q.sc ok r w⟩⟩
noncomputable def Ab:List PV→M (List PV)
 |[.lst l]=>.ret l
 |[.tup l]=>.ret l
 |_=>.fail
theorem C4 {K:Frag}:rC (fun xs H Q=> ∃ p ys,xs=[.ref p]∧(cw K H p ys∨dJ K H p ys)∧∀ l,H l=none→Q (.ref l) (upd H l (.lst ys))) Ab:=fun φ G O H n R Q l xs pr dm ok r w q=>by
 match l,r,w with
 |[.lst z],r,w=>
  obtain⟨x,ex,r1⟩:=r.one;subst ex;clear r;have r:=r1;clear r1
  obtain⟨p,xs,rfl,h,e⟩:=r.fi
  exact⟨p,xs,rfl,.inl (cw.of h),fun l hl=>q.mk ok hl (pr _ G.pB) e w⟩
 |[.tup z],r,w=>
  obtain⟨x,ex,r1⟩:=r.one;subst ex;clear r;have r:=r1;clear r1
  obtain⟨p,xs,rfl,h,e⟩:=r.gf
  exact⟨p,xs,rfl,.inr (dJ.of h),fun l hl=>q.mk ok hl (pr _ G.pB) e w⟩
end
end
section
variable {φ:du}
noncomputable def fo (φ:du) (f:List PV→M PV):Sp:=fun vs H Q _=> ∃ (G:Bg φ) (O:Addr→Prop) (l:List PV) (n:Nat) (R:PV→Nat→Prop),(∀ p,G.cP p→O p)∧(∀ p,O p→∃ o,H p=some o)∧G.ok H n∧aO G.B O H l vs∧(f l).wp n R∧kE G O H R Q
section
variable {X:Cx} {e:Expr} {es:List Expr} {ml:ao→M (List PV)} {f:List PV→M PV}
theorem aE (h:BE X e (p8 (fo φ f) [] E0 (Fn φ ml))):EV φ X e (fun ρ=>(ml ρ).bind f):=BE.mono h fun σ H Q cy=>by
 obtain⟨G,O,ρ,n,R,s,w,q⟩:=cy
 rw[M.wZ] at w
 refine⟨G,O,ρ,n,_,s,w,fun l xs H1 n1 e1 bS r1 w1=>?_⟩
 show fo φ f (xs++[]) H1 Q E0
 rw[IE]
 exact⟨G,O,l,n1,R,s.pr,(s.ext e1 bS).dm,bS,r1,w1,fun y x H' n' e o r h=>q y x H' n' (e1.trans e) o r h⟩
noncomputable def mO (y:PV):M PV:=if bb y=true then .ret y else .fail
theorem qP (h:BE X e (p8 (fo φ f) [] E0 (Dr φ ml))):EV φ X e (fun ρ=>(ml ρ).bind fun l=>(f l).bind mO):=BE.mono h fun σ H Q cy=>by
 obtain⟨G,O,ρ,n,R,s,w,q⟩:=cy
 rw[M.wZ] at w
 refine⟨G,O,ρ,n,_,s,w,fun l xs H1 n1 e1 bS r1 w1=>?_⟩
 show fo φ f (xs++[]) H1 Q E0
 rw[IE]
 rw[M.wZ] at w1
 refine⟨G,G.cP,l,n1,_,fun p h=>h,fun p h=>G.yr _ _ _ bS h,bS,⟨r1.1,fun i y x a b=>(r1.2 i y x a b).low s.pr⟩,w1,fun y x H' n' e o r h=>?_⟩
 unfold mO at h
 by_cases hf:bb y=true
 ·rw[Ig hf] at h
  refine q y x H' n' (e1.trans e) o ?_ h
  rw[fH r hf]
  cases y<;>first|exact .bX|exact .bl _|exact .int _|exact .str _|(simp[bb,toV,di] at hf)
 ·rw[Ih hf] at h;exact h.elim
def GQ (r:V→Option Int→Option Int→Hp→VK→Prop) (op:PV→Option Int→Option Int→M PV):Prop:= ∀ (φ:du) (G:Bg φ) (O:Addr→Prop) (H:Hp) (n:Nat) (R:PV→Nat→Prop) (Q:VK) (y:PV) (lo hi:Option Int) (x:V),
 (∀ p,G.cP p→O p)→(∀ p,O p→∃ o,H p=some o)→G.ok H n→cI G O H y x→(op y lo hi).wp n R→kE G O H R Q→r x lo hi H Q
def EY (G:Bg φ) (H:Hp) (R:Option Int→Nat→Prop) (Q:Option Int→Hp→Prop):Prop:= ∀ (o:Option Int) (H':Hp) (n':Nat),Ext G.B H H'→G.ok H' n'→R o n'→Q o H'
noncomputable def FI (φ:du) (m:ao→M (Option Int)):TO:=fun σ H Q=> ∃ (G:Bg φ) (O:Addr→Prop) (ρ:ao) (n:Nat) (R:Option Int→Nat→Prop),ES G O H σ ρ n∧(m ρ).wp n R∧EY G H R Q
def OV (φ:du) (X:Cx) (e:Option Expr) (m:ao→M (Option Int)):Prop:=BO X e (FI φ m)
theorem BO.mono {e:Option Expr} {t t':TO} (h:BO X e t) (f: ∀ σ H Q,t' σ H Q→t σ H Q):BO X e t':=⟨fun pZ s σ H Q I q=>h.out pZ s σ H Q I (f σ H Q q)⟩
theorem lL:OV φ X none (fun _=>.ret none):=BO.mono ⟨lH⟩ fun σ H Q ⟨G,O,ρ,n,R,s,w,q⟩=>q none H n (Ext.refl _ _) s.ok w
noncomputable def ki:PV→M Int
 | .int i=>.ret i
 |_=>.fail
theorem lK (h:EB φ X e m):OV φ X (some e) (fun ρ=>(m ρ).bind fun y=>(ki y).bind fun i=>.ret (some i)):=BO.mono ⟨lG h.out⟩ fun σ H Q cy=>by
 obtain⟨G,O,ρ,n,R,s,w,q⟩:=cy
 rw[M.wZ] at w
 refine⟨G,O,ρ,n,_,s,w,fun y x H1 n1 e1 bS r1 w1=>?_⟩
 cases y<;>first|exact w1.elim|skip
 rename_i i
 rw[r1.da]
 exact⟨i,rfl,q _ _ _ e1 bS w1⟩
noncomputable def rD (op:PV→Option Int→Option Int→M PV) (me:ao→M PV) (ml mh:ao→M (Option Int)):ao→M PV:=fun ρ=>(me ρ).bind fun y=>(ml ρ).bind fun lo=>(mh ρ).bind fun hi=>op y lo hi
theorem jB {r:V→Option Int→Option Int→Hp→VK→Prop} {op:PV→Option Int→Option Int→M PV} {me:ao→M PV} {ml mh:ao→M (Option Int)} (h:BE X e (FL r (vC φ me) (FI φ ml) (FI φ mh))) (hv:GQ r op):EV φ X e (rD op me ml mh):=BE.mono h fun σ H Q cy=>by
 obtain⟨G,O,ρ,n,R,s,w,q⟩:=cy
 unfold rD at w
 rw[M.wZ] at w
 refine⟨G,O,ρ,n,_,s,w,fun y x H1 n1 e1 bS r1 w1=>?_⟩
 rw[M.wZ] at w1
 refine⟨G,O,ρ,n1,_,s.ext e1 bS,w1,fun lo H2 n2 e2 pV w2=>?_⟩
 rw[M.wZ] at w2
 refine⟨G,O,ρ,n2,_,s.ext (e1.trans e2) pV,w2,fun hi H3 n3 e3 ok3 w3=>?_⟩
 exact hv φ G O H3 n3 R Q y lo hi x s.pr (s.ext (e1.trans (e2.trans e3)) ok3).dm ok3 (r1.ext s.B (e2.trans e3)) w3 fun y x H' n' e o r h=>q y x H' n' (e1.trans (e2.trans (e3.trans e))) o r h
noncomputable def jL (l:List PV) (lo hi:Option Int):List PV:=(l.drop (HT.dq l.length 0 lo)).take (HT.dq l.length l.length hi - HT.dq l.length 0 lo)
theorem qV (h:aO B O H l xs) (lo hi:Option Int):aO B O H (jL l lo hi) (jK xs lo hi):=by
 unfold jL jK
 rw[←h.1]
 exact(h.drop _).take _
theorem sW (l:List PV) (lo hi:Option Int) (h:HT.dq l.length 0 lo=0∧HT.dq l.length l.length hi=l.length):jL l lo hi=l:=by
 unfold jL
 rw[h.1,h.2]
 simp
noncomputable def D0 (K:Frag):V→Option Int→Option Int→Hp→VK→Prop:=fun x lo hi H Q=>DY K x lo hi H Q∨DW K x lo hi H Q
theorem FQ:vG X (D0 X.K):=lD.or BJ
noncomputable def fW (x:Str):List PV:=x.cps.toList.map fun c=>.str ⟨#[c]⟩
noncomputable def cT (lo:Int) (n:Nat):List PV:=(List.range n).map fun i=>.int (lo+(i:Nat))
inductive fL (K:Frag) (G:Bg φ) (O:Addr→Prop) (c:Bool) (H:Hp):List PV→It→Prop where
 |lst {p:Addr} {xs:List V} {l:List PV} (np: ¬ G.cP p) (hp:c=true→¬ O p) (h:H p=some (.lst xs)) (r:aO G.B O H l xs):fL K G O c H l (FF K p)
 |tup {p:Addr} {xs:List V} {l:List PV} (hp: ¬ O p) (h:H p=some (.tup xs)) (r:aO G.B O H l xs):fL K G O c H l (FD K p)
 |txt (x:Str):fL K G O c H (fW x) (FC x)
 |qg (lo:Int) (n:Nat):fL K G O c H (cT lo n) (FE lo n)
theorem CK {K:Frag} {H:Hp} {p:Addr} {xs:List V} (h:H p=some (.lst xs)) {i:Nat} (hi:i < xs.length):(FF K p).go i H:=⟨xs,xs[i],cw.of h,by simp[hi]⟩
theorem CJ {K:Frag} {H:Hp} {p:Addr} {xs:List V} (h:H p=some (.tup xs)) {i:Nat} (hi:i < xs.length):(FD K p).go i H:=⟨xs,xs[i],dJ.of h,by simp[hi]⟩
theorem fL.go {K:Frag} {G:Bg φ} {O:Addr→Prop} {c:Bool} {H:Hp} {l:List PV} {J:It} (t:fL K G O c H l J) {i:Nat} {y:PV} (hi:l[i]?=some y):J.go i H∧∀ x H2,J.oC i H x H2→H2=H∧Rep G.B O H y x:=by
 have hl:i < l.length:=(Hm.mp hi).1
 cases t with
 |lst np hp h r=>
  refine⟨CK h (r.1▸hl),fun x H2 z=>?_⟩
  obtain⟨e,z⟩:=z
  exact⟨e,r.2 i y x hi (z _ (cw.of h))⟩
 |tup hp h r=>
  refine⟨CJ h (r.1▸hl),fun x H2 z=>?_⟩
  obtain⟨e,z⟩:=z
  exact⟨e,r.2 i y x hi (z _ (dJ.of h))⟩
 |txt z=>
  unfold fW at hi hl
  refine⟨by show i < z.cps.size;simpa using hl,fun x H2 q=>?_⟩
  obtain⟨e,c',hc,rfl⟩:=q
  refine⟨e,?_⟩
  rw[HC] at hi
  have:z.cps.toList[i]?=some c':=by simpa using hc
  rw[this] at hi
  cases hi
  exact .str _
 |qg lo n=>
  unfold cT at hi hl
  have hn:i < n:=by simpa using hl
  refine⟨hn,fun x H2 q=>?_⟩
  obtain⟨e,rfl⟩:=q
  refine⟨e,?_⟩
  rw[HC,List.getElem?_range hn] at hi
  cases hi
  exact .int _
theorem fL.stop {K:Frag} {G:Bg φ} {O:Addr→Prop} {c:Bool} {H:Hp} {l:List PV} {J:It} (t:fL K G O c H l J):J.stop l.length H:=by
 cases t with
 |lst np hp h r=>exact⟨_,cw.of h,Nat.le_of_eq r.1.symm⟩
 |tup hp h r=>exact⟨_,dJ.of h,Nat.le_of_eq r.1.symm⟩
 |txt z=>show (fW z).length=z.cps.size;simp[fW]
 |qg lo n=>show n≤(cT lo n).length;simp[cT]
theorem fL.eP {K:Frag} {G:Bg φ} {O O':Addr→Prop} {c:Bool} {H H':Hp} {l:List PV} {J:It} (t:fL K G O c H l J) (k: ∀ p o,¬ O p→H p=some o→fk H' p o∧¬ O' p) (k2:c=true∨∀ p xs,¬ G.cP p→H p=some (.lst xs)→H' p=some (.lst xs)) (hc: ∀ p,c=true→¬ O p→¬ O' p):fL K G O' c H' l J:=by
 cases t with
 |lst np hp h r=>
  refine .lst np (fun z=>hc _ z (hp z)) ?_ (r.eP k)
  rcases k2 with z|z
  ·exact(k _ _ (hp z) h).1
  ·exact z _ _ np h
 |tup hp h r=>exact .tup (k _ _ hp h).2 (k _ _ hp h).1 (r.eP k)
 |txt z=>exact .txt z
 |qg lo n=>exact .qg lo n
theorem fL.keep {K:Frag} {G:Bg φ} {O O':Addr→Prop} {c:Bool} {H H':Hp} {l:List PV} {J:It} (t:fL K G O c H l J) (k: ∀ p o,¬ O p→H p=some o→H' p=some o∧¬ O' p) (k2:c=true∨∀ p xs,¬ G.cP p→H p=some (.lst xs)→H' p=some (.lst xs)) (hc: ∀ p,c=true→¬ O p→¬ O' p):fL K G O' c H' l J:=t.eP (fun p o n q=>⟨.of (k p o n q).1,(k p o n q).2⟩) k2 hc
noncomputable def vB (φ:du) (K:Frag) (c:Bool) (m:ao→M (List PV)):TI:=fun σ H Q=> ∃ (G:Bg φ) (O:Addr→Prop) (ρ:ao) (n:Nat) (R:List PV→Nat→Prop),ES G O H σ ρ n∧(m ρ).wp n R∧
 ∀ (l:List PV) (J:It) (H':Hp) (n':Nat),Ext G.B H H'→G.ok H' n'→fL K G O c H' l J→R l n'→Q J H'
def IV (φ:du) (X:Cx) (c:Bool) (tg iter:Expr) (m:ao→M (List PV)):Prop:=BI X tg iter (vB φ X.K c m)
noncomputable def bf:PV→M (List PV)
 | .lst l=>.ret l
 | .tup l=>.ret l
 | .str x=>.ret (fW x)
 |_=>.fail
theorem wR (hl:PE X l tl):PI X tg l (fun σ H R=>tl σ H fun x H1=>(∃ a,x= .ref a∧(∃ xs,cw X.K H1 a xs)∧R (FF X.K a) H1)∨(∃ a,x= .ref a∧(∃ xs,dJ X.K H1 a xs)∧R (FD X.K a) H1)∨∃ z,x= .str z∧R (FC z) H1):=by
 intro pZ s σ H R I h
 refine bF (hl pZ s σ H _ I h) fun v s1 ⟨x,H1,I1,r1,q1⟩=>?_
 rcases q1 with⟨a,e,⟨xs,hq⟩,q⟩|⟨a,e,⟨xs,hq⟩,q⟩|⟨z,e,q⟩
 ·subst e
  cases r1
  obtain⟨aA,rv,p,hz⟩:=I1.list hq
  refine wpAny_pyIter_list p.isList ?_
  refine⟨s1.heap.objs.size,[s1.heap.objs.size],_,_,H1,rfl,I1.kept (t':=s1.toks) fun b o e=>Hh _ e,uH a _,⟨_,Hw _ rfl,rfl,rfl⟩,fun b hb=>?_,q⟩
  have e:b=s1.heap.objs.size:=by simpa using hb
  subst e
  exact I1.pj (Hn _) (I1.cm.fresh (Hn _))
 ·subst e
  cases r1
  obtain⟨aA,rv,p,hz⟩:=I1.tuple hq
  refine wpAny_pyIter_tuple (show s1.heap.IsTuple a aA.toArray from p) ?_
  refine⟨s1.heap.objs.size,[s1.heap.objs.size],_,_,H1,rfl,I1.kept (t':=s1.toks) fun b o e=>Hh _ e,rH a _,⟨_,Hw _ rfl,rfl,rfl⟩,fun b hb=>?_,q⟩
  have e:b=s1.heap.objs.size:=by simpa using hb
  subst e
  exact I1.pj (Hn _) (I1.cm.fresh (Hn _))
 ·subst e
  obtain⟨t,rfl⟩:=r1
  have fin: ∀ (o:Obj) (ty:String),o.cls= .type ty→o.data= .fields #[.str z t,.int (0:Nat) 0]→Turn X.prog X.w X.K tg (FC z) [s1.heap.objs.size] s1.heap.objs.size (fun i h=>h.IsStrIter s1.heap.objs.size ty z t i)→o.isFreed=false→
    FA X pZ σ tg R (.ref s1.heap.objs.size) {s1 with heap:=s1.heap.push o}:=fun o ty h1 h2 T hfr=>by
   refine⟨s1.heap.objs.size,[s1.heap.objs.size],_,_,H1,rfl,I1.kept (t':=s1.toks) fun b o e=>Hh _ e,T,⟨_,Hw _ hfr,h1,h2⟩,fun b hb=>?_,q⟩
   have e:b=s1.heap.objs.size:=by simpa using hb
   subst e
   exact I1.pj (Hn _) (I1.cm.fresh (Hn _))
  cases ha:z.cps.all (· < 128)
  ·exact wpAny_pyIter_wide ha (fin _ _ rfl rfl (nC _ z t (by decide) (fun A hA=>Walks.strWide hA _ z t) fun _ _ _ _ _ st h=>wpAny_pyIter_striter_wide st h) rfl)
  ·exact wpAny_pyIter_ascii ha (fin _ _ rfl rfl (nC _ z t (by decide) (fun A hA=>Walks.strAscii hA _ z t) fun _ _ _ _ _ st h=>wpAny_pyIter_striter_ascii st h) rfl)
theorem BI.mono {tg iter:Expr} {t t':TI} (h:BI X tg iter t) (f: ∀ σ H Q,t' σ H Q→t σ H Q):BI X tg iter t':=⟨fun pZ s σ H Q I q=>h.out pZ s σ H Q I (f σ H Q q)⟩
theorem i7 (h:EB φ X e m):IV φ X false tg e (fun ρ=>(m ρ).bind bf):=BI.mono ⟨wR h.out⟩ fun σ H Q cy=>by
 obtain⟨G,O,ρ,n,R,s,w,q⟩:=cy
 rw[M.wZ] at w
 refine⟨G,O,ρ,n,_,s,w,fun y x H1 n1 e1 bS r1 w1=>?_⟩
 cases y<;>first|exact w1.elim|skip
 ·rw[r1.gV]
  exact .inr (.inr ⟨_,rfl,q _ _ _ _ e1 bS (.txt _) w1⟩)
 ·cases r1 with
  |full r1=>cases r1 with
   |tup a b c d=>exact .inr (.inl ⟨_,rfl,⟨_,dJ.of b⟩,q _ _ _ _ e1 bS (.tup a b ⟨c,d⟩) w1⟩)
 ·cases r1 with
  |full r1=>cases r1 with
   |lst a b c d=>exact .inl ⟨_,rfl,⟨_,cw.of b⟩,q _ _ _ _ e1 bS (.lst (fun z=>a (s.pr _ z)) (fun z=>by cases z) b ⟨c,d⟩) w1⟩
  |top a b c=>exact .inl ⟨_,rfl,⟨_,cw.of b⟩,q _ _ _ _ e1 bS (.lst a (fun z=>by cases z) b c) w1⟩
theorem xQ (h:EV φ X e m):IV φ X true tg e (fun ρ=>(m ρ).bind bf):=BI.mono ⟨wR h.out⟩ fun σ H Q cy=>by
 obtain⟨G,O,ρ,n,R,s,w,q⟩:=cy
 rw[M.wZ] at w
 refine⟨G,O,ρ,n,_,s,w,fun y x H1 n1 e1 bS r1 w1=>?_⟩
 cases r1 with
 |str z=>exact .inr (.inr ⟨_,rfl,q _ _ _ _ e1 bS (.txt _) w1⟩)
 |tup a b c d=>exact .inr (.inl ⟨_,rfl,⟨_,dJ.of b⟩,q _ _ _ _ e1 bS (.tup a b ⟨c,d⟩) w1⟩)
 |lst a b c d=>exact .inl ⟨_,rfl,⟨_,cw.of b⟩,q _ _ _ _ e1 bS (.lst (fun z=>a (s.pr _ z)) (fun _=>a) b ⟨c,d⟩) w1⟩
 |_=>exact w1.elim
noncomputable def dO:List PV→M (List PV)
 |[.int j]=>if -1000000≤j∧j≤100000 then .ret (cT 0 j.toNat) else .fail
 |_=>.fail
theorem iH (h:BI X tg e (xS (Dr φ ml))):IV φ X c tg e (fun ρ=>(ml ρ).bind dO):=BI.mono h fun σ H Q cy=>by
 obtain⟨G,O,ρ,n,R,s,w,q⟩:=cy
 rw[M.wZ] at w
 refine⟨G,O,ρ,n,_,s,w,fun l xs H1 n1 e1 bS r1 w1=>?_⟩
 match l,r1,w1 with
 |[.int j],r1,w1=>
  obtain⟨x,rfl,r2⟩:=r1.one
  rw[r2.da]
  unfold dO at w1
  dsimp only at w1
  by_cases hc: -1000000≤j∧j≤100000
  ·rw[Ig hc] at w1
   have e62:(2:Int) ^ 62=4611686018427387904:=by decide
   exact⟨j,rfl,by lia,by lia,q _ _ _ _ e1 bS (.qg 0 j.toNat) w1⟩
  ·rw[Ih hc] at w1;exact w1.elim
noncomputable def tL (φ:du) (b:PV→ao→M ao):TG:=fun v σ H Q=> ∃ (G:Bg φ) (O:Addr→Prop) (ρ:ao) (n:Nat) (R:ao→Nat→Prop) (y:PV),ES G O H σ ρ n∧Rep G.B O H y v∧(b y ρ).wp n R∧
 ∀ (σ':St) (ρ':ao) (n':Nat),ES G O H σ' ρ' n'→R ρ' n'→Q σ' H
def GV (φ:du) (X:Cx) (tg:Expr) (b:PV→ao→M ao):Prop:=BG X tg (tL φ b)
theorem jg.set (h:jg G O H σ ρ) (k:Nat) (r:kH G O H t (some x)):jg G O H (σ.set k (some x)) (ρ.set k t):=by
 refine⟨by simp[h.1],fun i e he=>?_⟩
 by_cases hk:k=i
 ·subst hk
  have hl:k < ρ.length:=by have:=(Hm.mp he).1;simpa using this
  rw[Ii hl] at he
  cases he
  rw[Ii (h.1▸hl)]
  exact r
 ·rw[HP hk] at he ⊢
  exact h.2 i e he
theorem ES.set (s:ES G O H σ ρ n) (k:Nat) (r:kH G O H t (some x)):ES G O H (σ.set k (some x)) (ρ.set k t) n:=⟨s.er.set k r,s.ok,s.pr,s.dm⟩
noncomputable def aP (k:Nat) (y:PV) (ρ:ao):M ao:=.ret (ρ.set k (.val y))
theorem BG.mono {tg:Expr} {t t':TG} (h:BG X tg t) (f: ∀ v σ H Q,t' v σ H Q→t v σ H Q):BG X tg t':=⟨fun pZ s σ H v u Q I r q=>h.out pZ s σ H v u Q I r (f v σ H Q q)⟩
theorem cL (h:BG X tg (dW k)):GV φ X tg (aP k):=BG.mono h fun v σ H Q ⟨G,O,ρ,n,R,y,s,r,w,q⟩=>q _ _ n (s.set k (t:=.val y) ⟨v,rfl,r⟩) w
noncomputable def pL:List Nat→List PV→ao→ao
 |k::ks,y::l,ρ=>pL ks l (ρ.set k (.val y))
 |_,_,ρ=>ρ
noncomputable def fj (ks:List Nat) (y:PV) (ρ:ao):M ao:=match y with
 | .tup l=>if l.length=ks.length then .ret (pL ks l ρ) else .fail
 |_=>.fail
noncomputable def i9:List Nat→yZ
 |[]=>CQ
 |k::ks=>xZ (dW k) (i9 ks)
theorem nW {G:Bg φ}: ∀ (ks:List Nat) (l:List PV) (xs:List V) (σ:St) (ρ:ao) (Q:St→Hp→Prop),l.length=ks.length→aO G.B O H l xs→ES G O H σ ρ n→(∀ σ',ES G O H σ' (pL ks l ρ) n→Q σ' H)→i9 ks xs σ H Q
 |[],l,xs,σ,ρ,Q,hl,r,s,q=>by
  have e:l=[]:=HV hl
  subst e
  rw[r.nil_inv]
  exact⟨rfl,q σ s⟩
 |k::ks,l,xs,σ,ρ,Q,hl,r,s,q=>by
  cases l with
  |nil=>simp at hl
  |cons y l=>
   obtain⟨x,t,rfl,r1,r2⟩:=r.cons_inv
   exact⟨x,t,rfl,nW ks l t _ _ Q (by simpa using hl) r2 (s.set k (t:=.val y) ⟨x,rfl,r1⟩) q⟩
theorem sN {ks:List Nat} (h:BG X tg (vj X.K ks.length (i9 ks))):GV φ X tg (fj ks):=BG.mono h fun v σ H Q cy=>by
 obtain⟨G,O,ρ,n,R,y,s,r,w,q⟩:=cy
 unfold fj at w
 cases r with
 | @tup p xs l a b c d=>
  dsimp only at w
  by_cases hc:l.length=ks.length
  ·rw[Ig hc] at w
   exact⟨p,xs,rfl,dJ.of b,by rw[←c];exact hc,nW ks l xs σ ρ Q hc ⟨c,d⟩ s fun σ' s'=>q σ' _ n s' w⟩
  ·rw[Ih hc] at w;exact w.elim
 |_=>exact w.elim
noncomputable def jS (bd:PV→ao→M ao) (tt:ao→M Bool) (te:ao→M PV):List PV→ao→M (List PV)
 |[],_=>.ret []
 |y::r,ρ=>(bd y ρ).bind fun ρ1=>(tt ρ1).bind fun ok=>if ok=true then(te ρ1).bind fun z=>(jS bd tt te r ρ1).bind fun l=>.ret (z::l) else jS bd tt te r ρ1
noncomputable def gN (js:List (Option Nat)) (ρ:ao):ao:=js.map fun o=>match o with|some j=>(ρ[j]?).getD .un|none=>.un
theorem mY (h:jg G O H σ ρ) (js:List (Option Nat)):jg G O H (dY js σ) (gN js ρ):=by
 refine⟨by simp[dY,gN],fun i e he=>?_⟩
 unfold gN at he
 unfold dY
 rw[HC] at he ⊢
 cases q:js[i]? with
 |none=>rw[q] at he;cases he
 |some o=>
  rw[q] at he
  simp only[Option.map_some,Option.some.injEq] at he ⊢
  subst he
  cases o with
  |none=>trivial
  |some j=>
   dsimp only
   cases q2:ρ[j]? with
   |none=>rw[Option.getD_none];trivial
   |some t=>
    have:=h.2 j t q2
    rw[Ir]
    simpa using this
def cU:ao→M Bool:=fun _=>.ret true
theorem y3.mono {ifs:List Expr} {t t':TT} (h:y3 X ifs t) (f: ∀ σ H Q,t' σ H Q→t σ H Q):y3 X ifs t':=⟨fun pZ s σ H Q I q=>h.out pZ s σ H Q I (f σ H Q q)⟩
def GP (φ:du) (X:Cx) (ifs:List Expr) (m:ao→M Bool):Prop:=y3 X ifs (oE φ m)
theorem fV:GP φ X [] cU:=y3.mono ⟨zD⟩ fun σ H Q ⟨G,O,ρ,n,R,s,w,q⟩=>q true H n (Ext.refl _ _) s.ok w
theorem gy (h:TV φ X c m):GP φ X [c] m:=⟨zC h.out⟩
noncomputable def bW (js:List (Option Nat)) (mi:ao→M (List PV)) (bd:PV→ao→M ao) (tt:ao→M Bool) (te:ao→M PV):ao→M (List PV):=fun ρ=>(mi ρ).bind fun l=>if l.length≤100000 then jS bd tt te l (gN js ρ) else .fail
noncomputable def Bg.with (G:Bg φ) (D:Addr) (hD:D≠G.B):Bg φ where
 B:=G.B
 cP:=fun p=>G.cP p∨p=D
 ok:=fun H n=>G.ok H n∧∃ ys,H D=some (.lst ys)
 pB:=.inl G.pB
 keep:=fun H H' n k h=>⟨G.keep H H' n (fun p o z=>k p o (z.imp .inl id)) h.1,by obtain⟨ys,e⟩:=h.2;exact⟨ys,k D _ (.inl (.inr rfl)) e⟩⟩
 tp:=fun e he=>.inl (G.tp e he)
 tab:=fun H n h=>G.tab H n h.1
 uK:=fun H H' n h h1 h2=>⟨G.uK H H' n h.1 h1 h2,by
  obtain⟨ys,e⟩:=h.2
  refine⟨ys,h2 D _ (fun z=>?_) e⟩
  obtain⟨q,hq,rfl⟩:=Hu.mp z
  obtain⟨ps,e2,_⟩:=G.tab H n h.1 q hq
  rw[e] at e2;cases e2⟩
 yr:=fun H n p h z=>by
  rcases z with z|z
  ·exact G.yr H n p h.1 z
  ·subst z;obtain⟨ys,e⟩:=h.2;exact⟨_,e⟩
 dr:=fun H n m Q E h h0 h1 q=>G.dr H n m Q E h.1 h0 h1 fun d H' d0 d1 e o=>q d H' d0 d1 e ⟨o,by
  obtain⟨ys,e2⟩:=h.2
  exact⟨ys,e D _ hD e2⟩⟩
theorem ES.nB (s:ES G O H σ ρ n) (hD:H D=none): ¬ O D∧D≠G.B:=by
 have nD: ¬ O D:=fun z=>by obtain⟨o,g⟩:=s.dm D z;rw[hD] at g;cases g
 exact⟨nD,fun z=>nD (s.pr _ (z▸G.pB))⟩
theorem Cw {js:List (Option Nat)} {bd:PV→ao→M ao} {tt:ao→M Bool} {te:ao→M PV} {G:Bg φ} {O:Addr→Prop} {ρ:ao} {n1:Nat} {R:List PV→Nat→Prop} {l:List PV} {J:It} {H1:Hp} {σ:St} {D:Addr} {Q:VK} (hD:H1 D=none) (s1:ES G O H1 σ ρ n1) (hBD:D≠G.B) (IT:Hp→Prop)
  (it0:(∀ p o,¬ O p→H1 p=some o→upd H1 D (HO.lst []) p=some o∧¬ (O p∨p=D))→(∀ p o,H1 p=some o→p≠D)→IT (upd H1 D (.lst [])))
  (st: ∀ H2 H3,IT H2→(∀ p o,p≠G.B→p≠D→H2 p=some o→fk H3 p o)→IT H3)
  (go: ∀ H2 i y,IT H2→l[i]?=some y→J.go i H2∧∀ x H3,J.oC i H2 x H3→(H3=H2∧Rep G.B (fun p=>O p∨p=D) H2 y x)∨∃ T us vs,x= .ref T∧H2 T=none∧H3=upd H2 T (.tup vs)∧y= .tup us∧aO G.B (fun p=>O p∨p=D) H2 us vs)
  (iQ: ∀ H2,IT H2→J.stop l.length H2) (hl:l.length≤100000) (w1:(jS bd tt te l (gN js ρ)).wp n1 R)
  (q: ∀ zs ys H' n',Ext G.B H1 H'→G.ok H' n'→H' D=some (.lst ys)→aO G.B (fun p=>O p∨p=D) H' zs ys→R zs n'→Q (.ref D) H'):GW J D (tL φ bd) (oE φ tt) (lB φ te) Q (dY js σ) H1:=by
 have nD:=(s1.nB hD).1
 have pD: ¬ G.cP D:=fun z=>nD (s1.pr _ z)
 have dz: ∀ p o,H1 p=some o→p≠D:=fun p o hp z=>by subst z;rw[hD] at hp;cases hp
 let O':Addr→Prop:=fun p=>O p∨p=D
 let G':Bg φ:=G.with D hBD
 have k0: ∀ p o,¬ O p→H1 p=some o→upd H1 D (HO.lst []) p=some o∧¬ O' p:=fun p o np hp=>⟨by rw[au (dz p o hp)];exact hp,fun z=>by
  rcases z with z|z
  ·exact np z
  ·exact dz p o hp z⟩
 have kD: ∀ (H5:Hp) (o:HO) p u,¬ O' p→H5 p=some u→upd H5 D o p=some u∧¬ O' p:=fun H5 o p u np hp=>⟨by rw[au (fun z=>np (.inr z))];exact hp,np⟩
 refine⟨fun i m σ' H'=>m=l.length - i∧i≤l.length∧∃ (ys:List V) (zs:List PV) (ρ':ao) (n':Nat),ys.length≤i∧H' D=some (.lst ys)∧aO G.B O' H' zs ys∧ES G' O' H' σ' ρ' n'∧Ext G.B H1 H'∧IT H'∧
  (jS bd tt te (l.drop i) ρ').wp n' (fun t k=>R (zs++t) k),⟨l.length,by simp,HJ _,[],[],gN js ρ,n1,Hn _,ay,.nil,?_,Ext.new hD _,it0 k0 dz,?_⟩,?_⟩
 ·have er:=mY s1.er js
  refine⟨⟨er.1,fun i e he=>?_⟩,⟨Bg.new s1.ok hD _,[],ay⟩,fun p z=>?_,fun p z=>?_⟩
  ·have r1:=er.2 i e he
   cases e with
   |un=>trivial
   |val y=>obtain⟨x,hx,rr⟩:=r1;exact⟨x,hx,rr.keep k0⟩
   |own t=>
    obtain⟨p,xs,hx,hp,np,hh,rr⟩:=r1
    exact⟨p,xs,hx,.inl hp,fun z=>by
     rcases z with z|z
     ·exact np z
     ·exact dz p _ hh z,by rw[au (dz p _ hh)];exact hh,rr.keep k0⟩
   |d7 t=>
    obtain⟨p,xs,hx,hp,np,hh,rr⟩:=r1
    exact⟨p,xs,hx,.inl hp,fun z=>by
     rcases z with z|z
     ·exact np z
     ·exact dz p _ hh z,by rw[au (dz p _ hh)];exact hh,rr.keep k0⟩
  ·rcases z with z|z
   ·exact .inl (s1.pr p z)
   ·exact .inr z
  ·rcases z with z|z
   ·obtain⟨o,g⟩:=s1.dm p z;exact⟨o,by rw[au (dz p o g)];exact g⟩
   ·subst z;exact⟨_,ay⟩
 ·simpa using w1
 ·rintro i m σ' H' ⟨rfl,hi,ys,zs,ρ',n',hy,hDy,rz,s',ex,it',w'⟩
  by_cases fR:i < l.length
  ·have hget:l[i]?=some l[i]:=Hd fR
   have jy:l.drop i=l[i]::l.drop (i+1):=List.drop_eq_getElem_cons fR
   rw[jy] at w'
   unfold jS at w'
   obtain⟨g1,g2⟩:=go H' i _ it' hget
   refine .inr ⟨g1,fun x H2 yl=>?_⟩
   obtain⟨e0,ok0,rx⟩:Ext G.B H' H2∧G'.ok H2 n'∧Rep G'.B O' H2 l[i] x:=by
    rcases g2 x H2 yl with⟨rfl,rx⟩|⟨T,us,vs,rfl,hT,rfl,ey,rr⟩
    ·exact⟨fun p o _ h=>.of h,s'.ok,rx⟩
    ·have e0:Ext G.B H' (upd H' T (.tup vs)):=Ext.new hT _
     refine⟨e0,Bg.new s'.ok hT _,?_⟩
     rw[ey]
     exact .tup (fun z=>by obtain⟨o,g⟩:=s'.dm T z;rw[hT] at g;cases g) ay rr.1 (rr.ext s'.B e0).2
   have DT:H2 D=some (.lst ys):=e0 D _ hBD hDy
   have s'':=s'.ext e0 ok0
   rw[M.wZ] at w'
   refine⟨G',O',ρ',n',_,l[i],s'',rx,w',fun σ2 ρ2 n2 s2 w2=>?_⟩
   rw[M.wZ] at w2
   refine⟨G',O',ρ2,n2,_,s2,w2,fun ok H4 n4 e4 ok4 w4=>?_⟩
   have D4:H4 D=some (.lst ys):=e4 D _ hBD DT
   have e04:=e0.trans e4
   have it4:IT H4:=st H' H4 it' fun p o np _ hp=>e04 p o np hp
   cases ok with
   |true=>
    simp only[if_true] at w4 ⊢
    rw[M.wZ] at w4
    refine⟨G',O',ρ2,n4,_,s2.ext e4 ok4,w4,fun z x5 H5 n5 e5 ok5 r5 w5=>?_⟩
    have D5:H5 D=some (.lst ys):=e5 D _ hBD D4
    rw[M.wZ] at w5
    have s5:=s2.ext (e4.trans e5) ok5
    refine⟨ys,D5,by rw[HW];lia,l.length - (i+1),by lia,rfl,fR,ys++[x5],zs++[z],ρ2,n5,by simp;lia,ay,?_,?_,?_,st H4 _ it4 fun p o np nd hp=>(e5 p o np hp).to fun u e=>.of (by rw[au nd];exact e),?_⟩
    ·exact((rz.ext (.inl s1.B) (e04.trans e5)).append (.cons r5 .nil)).keep (kD H5 _)
    ·refine⟨⟨s5.er.1,fun j e he=>?_⟩,⟨G.keep H5 _ _ (fun p o hp hpo=>by
      have hpd:p≠D:=fun z=>by
       rcases hp with hp|hp
       ·exact pD (z▸hp)
       ·rw[z,D5] at hpo;cases hpo;exact hp
      rw[au hpd];exact hpo) ok5.1,_,ay⟩,s5.pr,fun p hp=>?_⟩
     ·have r1:=s5.er.2 j e he
      cases e with
      |un=>trivial
      |val y=>obtain⟨x,hx,rr⟩:=r1;exact⟨x,hx,rr.keep (kD H5 _)⟩
      |own t=>
       obtain⟨p,xs,hx,hp,np,hh,rr⟩:=r1
       exact⟨p,xs,hx,hp,np,by rw[au (fun z=>np (.inr z))];exact hh,rr.keep (kD H5 _)⟩
      |d7 t=>
       obtain⟨p,xs,hx,hp,np,hh,rr⟩:=r1
       exact⟨p,xs,hx,hp,np,by rw[au (fun z=>np (.inr z))];exact hh,rr.keep (kD H5 _)⟩
     ·by_cases hpd:p=D
      ·subst hpd;exact⟨_,ay⟩
      ·obtain⟨o,g⟩:=s5.dm p hp;exact⟨o,by rw[au hpd];exact g⟩
    ·intro p o np hp
     exact((ex.trans (e04.trans e5)) p o np hp).to fun u e=>.of (by rw[au (dz p o hp)];exact e)
    ·refine M.wp_mono w5 fun t k' hk=>?_
     have hk':R (zs++z::t) k':=hk
     simpa using hk'
   |false=>
    exact⟨l.length - (i+1),by lia,rfl,fR,ys,zs,ρ2,n4,by lia,D4,rz.ext (.inl s1.B) e04,s2.ext e4 ok4,ex.trans e04,it4,w4⟩
  ·have e:i=l.length:=by lia
   subst e
   refine .inl ⟨iQ H' it',?_⟩
   rw[List.drop_length] at w'
   have w2:R (zs++[]) n':=w'
   rw[IE] at w2
   exact q zs ys H' n' ex s'.ok.1 hDy rz w2
theorem A5 {K:Frag} {js:List (Option Nat)} {mi:ao→M (List PV)} {bd:PV→ao→M ao} {tt:ao→M Bool} {te:ao→M PV}: ∀ σ H Q,Dq φ (bW js mi bd tt te) σ H Q→By js (vB φ K false mi) (tL φ bd) (oE φ tt) (lB φ te) σ H Q:=fun σ H Q cy=>by
 obtain⟨G,O,ρ,n,R,s,w,q⟩:=cy
 unfold bW at w
 rw[M.wZ] at w
 refine⟨G,O,ρ,n,_,s,w,fun l J H1 n1 e1 bS it w1=>fun D hD=>?_⟩
 by_cases hl:l.length≤100000
 case neg=>rw[Ih hl] at w1;exact w1.elim
 rw[Ig hl] at w1
 have s1:=s.ext e1 bS
 have hBD:=(s1.nB hD).2
 refine Cw hD s1 hBD (fun H=>fL K (G.with D hBD) (fun p=>O p∨p=D) false H l J) (fun k0 dz=>?_) (fun H2 H3 it k=>it.eP (fun p o np hp=>⟨k p o (fun z=>np (.inl (z▸s.B))) (fun z=>np (.inr z)) hp,np⟩) (.inr fun p xs np hp=>k p _ (fun z=>np (z▸(G.with D hBD).pB)) (fun z=>np (.inr z)) hp) fun p z=>by cases z) (fun H2 i y it hi=>⟨(it.go hi).1,fun x H3 yl=>.inl ((it.go hi).2 x H3 yl)⟩) (fun H2 it=>it.stop) hl w1 fun zs ys H' n' ex ok' hDy rz w2=>q zs D ys H' n' (e1.trans ex) ok' (eW e1 bS hD) hDy rz w2
 cases it with
 |lst np hp h r=>
  exact .lst (fun z=>by
   rcases z with z|z
   ·exact np z
   ·exact dz _ _ h z) (fun z=>by cases z) (by rw[au (dz _ _ h)];exact h) (r.keep k0)
 |tup hp h r=>exact .tup (k0 _ _ hp h).2 (k0 _ _ hp h).1 (r.keep k0)
 |txt z=>exact .txt z
 |qg lo n=>exact .qg lo n
theorem jE (h:BE X e (By js (vB φ X.K false mi) (tL φ bd) (oE φ tt) (lB φ te))):EF φ X e (bW js mi bd tt te):=BE.mono h A5
end
end
section
variable {φ:du}
set_option genInjectivity true in
inductive Fl where
 |nx (ρ:ao)|rt (y:PV)|bk (ρ:ao)|ct (ρ:ao)
noncomputable def Ent.A6:Ent→Bool
 | .own _=>true
 | .d7 _=>true
 |_=>false
noncomputable def Ent.freeze:Ent→Ent
 | .own l=>.val (.lst l)
 | .d7 l=>.val (.iO l)
 |e=>e
def eO (ρ:ao) (σ:St) (i:Nat) (p:Addr):Prop:= ∃ t,ρ[i]?=some t∧t.A6=true∧σ[i]?=some (some (.ref p))
structure SI (G:Bg φ) (O0:Addr→Prop) (H0:Hp) (O:Addr→Prop) (H:Hp) (σ:St) (ρ:ao) (n:Nat):Prop where
 es:ES G O H σ ρ n
 p0: ∀ p,G.cP p→O0 p
 sub: ∀ p,O0 p→O p
 ext:Ext G.B H0 H
 gr: ∀ p,O p→O0 p∨H0 p=none
 d0: ∀ p,O0 p→∃ o,H0 p=some o
 fr: ∀ i p,eO ρ σ i p→H0 p=none
 dj: ∀ i j p,eO ρ σ i p→eO ρ σ j p→i=j
section
variable {G:Bg φ} {O0 O:Addr→Prop} {H0 H H':Hp} {σ:St} {ρ:ao} {n n':Nat}
theorem SI.to (s:SI G O0 H0 O H σ ρ n) (x:Ext G.B H H') (ok:G.ok H' n'):SI G O0 H0 O H' σ ρ n':=⟨s.es.ext x ok,s.p0,s.sub,s.ext.trans x,s.gr,s.d0,s.fr,s.dj⟩
theorem oS (ht:t.A6=false) (h:eO (ρ.set k t) (σ.set k o) i p):eO ρ σ i p:=by
 obtain⟨e,h1,h2,h3⟩:=h
 by_cases hk:k=i
 ·subst hk
  rw[List.getElem?_set] at h1
  split at h1
  ·split at h1
   ·cases h1;rw[ht] at h2;cases h2
   ·cases h1
  ·exact⟨e,h1,h2,by rw[HP (by lia)] at h3;exact h3⟩
 ·rw[HP hk] at h1 h3
  exact⟨e,h1,h2,h3⟩
theorem SI.wc (s:SI G O0 H0 O H σ ρ n) (k:Nat) (r:Rep G.B O H y x):SI G O0 H0 O H (σ.set k (some x)) (ρ.set k (.val y)) n:=
 ⟨s.es.set k (t:=.val y) ⟨x,rfl,r⟩,s.p0,s.sub,s.ext,s.gr,s.d0,fun i p h=>s.fr i p (oS rfl h),fun i j p h h'=>s.dj i j p (oS rfl h) (oS rfl h')⟩
theorem fP (s:ES G O H σ ρ n) (h:eO ρ σ i p):O p∧¬ G.cP p∧∃ o,H p=some o:=by
 obtain⟨t,h1,h2,h3⟩:=h
 have r:=s.er.2 i t h1
 rw[h3] at r
 cases t with
 |own l=>obtain⟨q,xs,e,a,b,c,_⟩:=r;cases e;exact⟨a,b,_,c⟩
 |d7 l=>obtain⟨q,xs,e,a,b,c,_⟩:=r;cases e;exact⟨a,b,_,c⟩
 |_=>cases h2
theorem qr (s:ES G O H σ ρ n) (h:eO ρ σ i p) (e:H p=some o): ¬ Fd o:=by
 obtain⟨t,h1,h2,h3⟩:=h
 have r:=s.er.2 i t h1
 rw[h3] at r
 cases t with
 |own l=>obtain⟨q,xs,e',a,b,c,_⟩:=r;cases e';rw[c] at e;cases e;exact id
 |d7 l=>obtain⟨q,xs,e',a,b,c,_⟩:=r;cases e';rw[c] at e;cases e;exact id
 |_=>cases h2
theorem SI.FR (s:SI G O0 H0 O H σ ρ n) (k:Nat) (x:Ext G.B H H') (ok:G.ok H' n') (hp:H p=none) (hp':H' p=some (.lst xs)) (r:aO G.B (fun q=>O q∨q=p) H' l xs):
  SI G O0 H0 (fun q=>O q∨q=p) H' (σ.set k (some (.ref p))) (ρ.set k (.own l)) n':=by
 have nO: ¬ O p:=fun z=>by obtain⟨o,g⟩:=s.es.dm p z;rw[hp] at g;cases g
 have np: ¬ G.cP p:=fun z=>nO (s.es.pr p z)
 have h0:H0 p=none:=by
  cases e:H0 p with
  |none=>rfl
  |some o=>obtain⟨_,this⟩:=(s.ext p o (fun z=>np (z▸G.pB)) e).there;rw[hp] at this;cases this
 have hB:O G.B:=s.es.B
 have gw: ∀ q,(O q∨q=p)→O q∨H q=none:=fun q z=>by
  rcases z with z|z
  ·exact .inl z
  ·subst z;exact .inr hp
 have s':=s.es.ext x ok
 have es:ES G (fun q=>O q∨q=p) H' σ ρ n':=by
  refine⟨⟨s.es.er.1,fun i e he=>?_⟩,ok,fun q z=>.inl (s.es.pr q z),fun q z=>?_⟩
  ·have r1:=s.es.er.2 i e he
   cases e with
   |un=>trivial
   |val y=>obtain⟨v,hv,rr⟩:=r1;exact⟨v,hv,(rr.grow gw).ext (.inl hB) x⟩
   |own t=>
    obtain⟨q,ys,hv,hq,nq,hh,rr⟩:=r1
    exact⟨q,ys,hv,.inl hq,nq,x q _ (fun z=>nq (z▸G.pB)) hh,(rr.grow gw).ext (.inl hB) x⟩
   |d7 t=>
    obtain⟨q,ys,hv,hq,nq,hh,rr⟩:=r1
    exact⟨q,ys,hv,.inl hq,nq,x q _ (fun z=>nq (z▸G.pB)) hh,⟨rr.1,fun i a b c d=>((rr.2 i a b c d).grow gw).ext (.inl hB) x⟩⟩
  ·rcases z with z|z
   ·exact s'.dm q z
   ·subst z;exact⟨_,hp'⟩
 have ow: ∀ i q,eO (ρ.set k (.own l)) (σ.set k (some (.ref p))) i q→(i=k∧q=p)∨(i≠k∧eO ρ σ i q):=fun i q h=>by
  obtain⟨t,h1,h2,h3⟩:=h
  by_cases hk:k=i
  ·subst hk
   rw[List.getElem?_set] at h3
   split at h3
   ·split at h3
    ·cases h3;exact .inl ⟨rfl,rfl⟩
    ·cases h3
   ·rename_i hh;exact absurd rfl hh
  ·rw[HP hk] at h1 h3
   exact .inr ⟨fun z=>hk z.symm,t,h1,h2,h3⟩
 refine⟨es.set k (t:=.own l) ⟨p,xs,rfl,.inr rfl,np,hp',r⟩,s.p0,fun q z=>.inl (s.sub q z),s.ext.trans x,fun q z=>?_,s.d0,fun i q h=>?_,fun i j q h h'=>?_⟩
 ·rcases z with z|z
  ·exact s.gr q z
  ·subst z;exact .inr h0
 ·rcases ow i q h with⟨_,rfl⟩|⟨_,h⟩
  ·exact h0
  ·exact s.fr i q h
 ·rcases ow i q h with⟨rfl,rfl⟩|⟨n1,h1⟩
  ·rcases ow j q h' with⟨rfl,_⟩|⟨n2,h2⟩
   ·rfl
   ·obtain⟨_,_,o,g⟩:=fP s.es h2;rw[hp] at g;cases g
  ·rcases ow j q h' with⟨rfl,rfl⟩|⟨n2,h2⟩
   ·obtain⟨_,_,o,g⟩:=fP s.es h1;rw[hp] at g;cases g
   ·exact s.dj i j q h1 h2
theorem SI.put (s:SI G O0 H0 O H σ ρ n) (hk:ρ[k]?=some (.own l)) (hp:σ[k]?=some (some (.ref p))) (r:aO G.B O H l' xs'):SI G O0 H0 O (upd H p (.lst xs')) σ (ρ.set k (.own l')) n:=by
 have ho:eO ρ σ k p:=⟨_,hk,rfl,hp⟩
 obtain⟨hO,np,o,hh⟩:=fP s.es ho
 have nfz:=qr s.es ho hh
 have kp: ∀ q u,¬ O q→H q=some u→upd H p (.lst xs') q=some u∧¬ O q:=fun q u nq hq=>⟨by
  have dz:q≠p:=fun z=>nq (z▸hO)
  rw[au dz];exact hq,nq⟩
 have ow: ∀ i q,eO (ρ.set k (.own l')) σ i q→eO ρ σ i q:=fun i q h=>by
  obtain⟨t,h1,h2,h3⟩:=h
  by_cases e:k=i
  ·subst e;exact⟨_,hk,rfl,h3⟩
  ·rw[HP e] at h1;exact⟨t,h1,h2,h3⟩
 refine⟨⟨⟨by simp[s.es.er.1],fun i e he=>?_⟩,G.keep H _ _ (fun q u hq hu=>by
   have dz:q≠p:=fun z=>by
    rcases hq with hq|hq
    ·exact np (z▸hq)
    ·rw[z,hh] at hu;cases hu;exact nfz hq
   rw[au dz];exact hu) s.es.ok,s.es.pr,fun q hq=>?_⟩,s.p0,s.sub,fun q u nb hq=>?_,s.gr,s.d0,fun i q h=>s.fr i q (ow i q h),fun i j q h h'=>s.dj i j q (ow i q h) (ow j q h')⟩
 ·by_cases e1:k=i
  ·subst e1
   have hl:k < ρ.length:=(Hm.mp hk).1
   rw[Ii hl] at he
   cases he
   rw[hp]
   exact⟨p,xs',rfl,hO,np,ay,r.keep kp⟩
  ·rw[HP e1] at he
   have r1:=s.es.er.2 i e he
   cases e with
   |un=>trivial
   |val y=>obtain⟨v,hv,rr⟩:=r1;exact⟨v,hv,rr.keep kp⟩
   |own t=>
    obtain⟨q,ys,hv,hq,nq,hh',rr⟩:=r1
    have dz:q≠p:=fun z=>by
     subst z
     exact e1 (s.dj k i q ho ⟨_,he,rfl,fq s.es.er he hv⟩)
    exact⟨q,ys,hv,hq,nq,by rw[au dz];exact hh',rr.keep kp⟩
   |d7 t=>
    obtain⟨q,ys,hv,hq,nq,hh',rr⟩:=r1
    have dz:q≠p:=fun z=>by
     subst z
     exact e1 (s.dj k i q ho ⟨_,he,rfl,fq s.es.er he hv⟩)
    exact⟨q,ys,hv,hq,nq,by rw[au dz];exact hh',rr.keep kp⟩
 ·by_cases e1:q=p
  ·subst e1;exact⟨_,ay⟩
  ·obtain⟨u,g⟩:=s.es.dm q hq;exact⟨u,by rw[au e1];exact g⟩
 ·have dz:q≠p:=fun z=>by subst z;rw[s.fr k q ho] at hq;cases hq
  exact(s.ext q u nb hq).to fun v e=>.of (by rw[au dz];exact e)
theorem SI.frozen (s:SI G O0 H0 O H σ ρ n):ES G O0 H σ (ρ.map Ent.freeze) n:=by
 refine⟨⟨by simp[s.es.er.1],fun i e he=>?_⟩,s.es.ok,s.p0,fun p h=>s.es.dm p (s.sub p h)⟩
 rw[HC] at he
 cases q:ρ[i]? with
 |none=>rw[q] at he;cases he
 |some t=>
  rw[q] at he
  cases he
  have r1:=s.es.er.2 i t q
  cases t with
  |un=>trivial
  |val y=>obtain⟨v,hv,rr⟩:=r1;exact⟨v,hv,rr.less s.sub⟩
  |own t=>
   obtain⟨p,ys,hv,hq,nq,hh',rr⟩:=r1
   have h0:=s.fr i p ⟨_,q,rfl,fq s.es.er q hv⟩
   exact⟨_,hv,.lst (fun z=>by obtain⟨o,g⟩:=s.d0 p z;rw[h0] at g;cases g) hh' rr.1 (rr.less s.sub).2⟩
  |d7 t=>
   obtain⟨p,ys,hv,hq,nq,hh',rr⟩:=r1
   have h0:=s.fr i p ⟨_,q,rfl,fq s.es.er q hv⟩
   exact⟨_,hv,.iO (fun z=>by obtain⟨o,g⟩:=s.d0 p z;rw[h0] at g;cases g) (.inl hh') rr.1 fun i a b c d=>(rr.2 i a b c d).less s.sub⟩
theorem SI.lx (s:SI G O0 H0 O H σ ρ n):SI G O0 H0 O0 H σ (ρ.map Ent.freeze) n:=by
 have no: ∀ i p,¬ eO (ρ.map Ent.freeze) σ i p:=fun i p h=>by
  obtain⟨t,h1,h2,_⟩:=h
  rw[HC] at h1
  cases q:ρ[i]? with
  |none=>rw[q] at h1;cases h1
  |some e=>rw[q] at h1;cases h1;cases e<;>cases h2
 exact⟨s.frozen,s.p0,fun p h=>h,s.ext,fun p h=>.inl h,s.d0,fun i p h=>(no i p h).elim,fun i j p h=>(no i p h).elim⟩
noncomputable def hide (O0 O:Addr→Prop) (H:Hp):Hp:=fun p=>by
 classical exact if O p∧¬ O0 p then none else H p
theorem o8 (h:O p) (h': ¬ O0 p):hide O0 O H p=none:=by unfold hide;rw[Ig ⟨h,h'⟩]
theorem ie (h: ¬ (O p∧¬ O0 p)):hide O0 O H p=H p:=by unfold hide;rw[Ih h]
theorem SI.now (s:SI G O0 H0 O H σ ρ n):SI G O0 (hide O0 O H) O H σ ρ n:=by
 refine⟨s.es,s.p0,s.sub,fun p o nb h=>?_,fun p h=>?_,fun p h=>?_,fun i p h=>?_,s.dj⟩
 ·by_cases c:O p∧¬ O0 p
  ·rw[o8 c.1 c.2] at h;cases h
  ·rw[ie c] at h;exact .of h
 ·by_cases c:O0 p
  ·exact .inl c
  ·exact .inr (o8 h c)
 ·rw[ie (fun z=>z.2 h)];exact s.es.dm p (s.sub p h)
 ·have h1:=fP s.es h
  have h0:=s.fr i p h
  exact o8 h1.1 (fun z=>by obtain⟨o,g⟩:=s.d0 p z;rw[h0] at g;cases g)
theorem SI.base (s:SI G O0 H0 O H σ ρ n):Ext G.B H0 (hide O0 O H):=fun p o nb h=>by
 have c: ¬ (O p∧¬ O0 p):=fun z=>by
  rcases s.gr p z.1 with w|w
  ·exact z.2 w
  ·rw[w] at h;cases h
 exact(s.ext p o nb h).to fun v e=>.of (by rw[ie c];exact e)
theorem SI.back (s:SI G O0 H0 O H σ ρ n) (x:SI G O0 (hide O0 O H) O' H1 σ' ρ' n'):SI G O0 H0 O' H1 σ' ρ' n':=by
 have none0: ∀ p,¬ G.cP p→hide O0 O H p=none→H0 p=none:=fun p np h=>by
  cases e:H0 p with
  |none=>rfl
  |some o=>obtain⟨_,this⟩:=(s.base p o (fun z=>np (z▸G.pB)) e).there;rw[h] at this;cases this
 refine⟨x.es,x.p0,x.sub,s.base.trans x.ext,fun p h=>?_,s.d0,fun i p h=>none0 p (fP x.es h).2.1 (x.fr i p h),x.dj⟩
 by_cases c:O0 p
 ·exact .inl c
 ·rcases x.gr p h with w|w
  ·exact .inl w
  ·exact .inr (none0 p (fun z=>c (s.p0 p z)) w)
theorem SI.walk {K:Frag} {H1:Hp} {O':Addr→Prop} {σ':St} {ρ':ao} {l:List PV} {J:It} (s:SI G O0 H0 O H σ ρ n) (x:SI G O0 (hide O0 O H) O' H1 σ' ρ' n') (it:fL K G O true H l J):fL K G O' true H1 l J:=by
 have k: ∀ p o,¬ O p→H p=some o→fk H1 p o∧¬ O' p:=fun p o np hp=>by
  have e:hide O0 O H p=some o:=by rw[ie (fun z=>np z.1)];exact hp
  refine⟨x.ext p o (fun z=>np (z▸s.es.B)) e,fun z=>?_⟩
  rcases x.gr p z with w|w
  ·exact np (s.sub p w)
  ·rw[w] at e;cases e
 cases it with
 |lst np hp h r=>exact .lst np (fun _=>(k _ _ (hp rfl) h).2) (k _ _ (hp rfl) h).1 (r.eP k)
 |tup hp h r=>exact .tup (k _ _ hp h).2 (k _ _ hp h).1 (r.eP k)
 |txt z=>exact .txt z
 |qg lo n=>exact .qg lo n
end
noncomputable def tJ (G:Bg φ) (O0:Addr→Prop) (H0:Hp) (D:Ends) (n:Nat):Fl→Prop
 | .nx ρ=> ∀ O σ H,SI G O0 H0 O H σ ρ n→D.nx σ H
 | .bk ρ=> ∀ O σ H,SI G O0 H0 O H σ ρ n→D.bk σ H
 | .ct ρ=> ∀ O σ H,SI G O0 H0 O H σ ρ n→D.ct σ H
 | .rt y=> ∀ x H,Ext G.B H0 H→G.ok H n→Rep G.B O0 H y x→D.rt x H
noncomputable def Bt (φ:du) (m:ao→M Fl):TS:=fun D σ H=> ∃ (G:Bg φ) (O0:Addr→Prop) (H0:Hp) (O:Addr→Prop) (ρ:ao) (n:Nat),SI G O0 H0 O H σ ρ n∧(m ρ).wp n fun f n'=>tJ G O0 H0 D n' f
def SV (φ:du) (X:Cx) (st:Stmt) (m:ao→M Fl):Prop:=BS X st (Bt φ m)
def AL (φ:du) (X:Cx) (sts:List Stmt) (m:ao→M Fl):Prop:=y4 X sts (Bt φ m)
section
variable {X:Cx} {st:Stmt} {sts:List Stmt}
theorem BS.mono (h:BS X st t) (f: ∀ D σ H,t' D σ H→t D σ H):BS X st t':=⟨fun pZ s σ H D I q=>h.out pZ s σ H D I (f D σ H q)⟩
theorem y4.mono (h:y4 X sts t) (f: ∀ D σ H,t' D σ H→t D σ H):y4 X sts t':=⟨fun pZ s σ H D I q=>h.out pZ s σ H D I (f D σ H q)⟩
noncomputable def aJ (m1 m2:ao→M Fl):ao→M Fl:=fun ρ=>(m1 ρ).bind fun f=>match f with| .nx ρ'=>m2 ρ'|o=>.ret o
theorem fm:AL φ X [] (fun ρ=>.ret (.nx ρ)):=y4.mono ⟨oO⟩ fun D σ H ⟨G,O0,H0,O,ρ,n,s,w⟩=>w O σ H s
theorem aR (h:SV φ X st m):AL φ X [st] m:=⟨gF h.out⟩
theorem az (h:SV φ X st m1) (h':AL φ X sts m2):AL φ X (st::sts) (aJ m1 m2):=y4.mono ⟨cZ h.out h'.out⟩ fun D σ H cy=>by
 obtain⟨G,O0,H0,O,ρ,n,s,w⟩:=cy
 unfold aJ at w
 rw[M.wZ] at w
 refine⟨G,O0,H0,O,ρ,n,s,M.wp_mono w fun f n' h=>?_⟩
 cases f with
 |nx ρ'=>exact fun O' σ' H' s'=>⟨G,O0,H0,O',ρ',n',s',h⟩
 |rt y=>exact h
 |bk ρ'=>exact h
 |ct ρ'=>exact h
noncomputable def aU (k:Nat) (m:ao→M PV):ao→M Fl:=fun ρ=>(m ρ).bind fun y=>.ret (.nx (ρ.set k (.val y)))
theorem bg (h:BS X st (gz (lB φ m) (dW k))):SV φ X st (aU k m):=BS.mono h fun D σ H cy=>by
 obtain⟨G,O0,H0,O,ρ,n,s,w⟩:=cy
 unfold aU at w
 rw[M.wZ] at w
 exact⟨G,O,ρ,n,_,s.es,w,fun y x H1 n1 e1 bS r1 w1=>w1 O _ _ ((s.to e1 bS).wc k r1)⟩
noncomputable def lg (k:Nat) (m:ao→M (List PV)):ao→M Fl:=fun ρ=>(m ρ).bind fun l=>.ret (.nx (ρ.set k (.own l)))
theorem lX (h:BS X st (gz (Dq φ m) (dW k))):SV φ X st (lg k m):=BS.mono h fun D σ H cy=>by
 obtain⟨G,O0,H0,O,ρ,n,s,w⟩:=cy
 unfold lg at w
 rw[M.wZ] at w
 exact⟨G,O,ρ,n,_,s.es,w,fun l p xs H1 n1 e1 bS hp hp' r1 w1=>w1 _ _ _ (s.FR k e1 bS hp hp' r1)⟩
theorem jb (h:BS X st (gz (By js (vB φ X.K false mi) (tL φ bd) (oE φ tt) (lB φ te)) (dW k))):BS X st (gz (Dq φ (bW js mi bd tt te)) (dW k)):=
 BS.mono h fun D σ H q=>A5 σ H _ q
noncomputable def aM (m:ao→M (List PV)):ao→M PV:=fun ρ=>(m ρ).bind fun l=>.ret (.lst l)
theorem oz (h:BS X st (gz (Dq φ m) (dW k))):BS X st (gz (lB φ (aM m)) (dW k)):=BS.mono h fun D σ H cy=>by
 obtain⟨G,O,ρ,n,R,s,w,q⟩:=cy
 unfold aM at w
 rw[M.wZ] at w
 refine⟨G,O,ρ,n,_,s,w,fun l p xs H' n' a b c d e f=>q (.lst l) _ H' n' a b (.lst (fun z=>?_) d e.1 (e.less fun q z=>.inl z).2) f⟩
 obtain⟨o,g⟩:=s.dm p z
 rw[c] at g;cases g
noncomputable def y9 (ks:List Nat) (m:ao→M PV):ao→M Fl:=fun ρ=>(m ρ).bind fun y=>(fj ks y ρ).bind fun ρ'=>.ret (.nx ρ')
theorem nV {G:Bg φ}: ∀ (ks:List Nat) (l:List PV) (xs:List V) (σ:St) (ρ:ao) (Q:St→Hp→Prop),l.length=ks.length→aO G.B O H l xs→SI G O0 H0 O H σ ρ n→(∀ σ',SI G O0 H0 O H σ' (pL ks l ρ) n→Q σ' H)→i9 ks xs σ H Q
 |[],l,xs,σ,ρ,Q,hl,r,s,q=>by
  have e:l=[]:=HV hl
  subst e
  rw[r.nil_inv]
  exact⟨rfl,q σ s⟩
 |k::ks,l,xs,σ,ρ,Q,hl,r,s,q=>by
  cases l with
  |nil=>simp at hl
  |cons y l=>
   obtain⟨x,t,rfl,r1,r2⟩:=r.cons_inv
   exact⟨x,t,rfl,nV ks l t _ _ Q (by simpa using hl) r2 (s.wc k r1) q⟩
theorem vQ {K:Frag} {G:Bg φ} {O0 O:Addr→Prop} {H0 H:Hp} {n:Nat} {ks:List Nat} {y:PV} {x:V} {σ:St} {ρ:ao} {R:ao→Nat→Prop} {Q:St→Hp→Prop} (s:SI G O0 H0 O H σ ρ n) (r:Rep G.B O H y x) (w:(fj ks y ρ).wp n R) (q: ∀ σ' ρ',SI G O0 H0 O H σ' ρ' n→R ρ' n→Q σ' H):vj K ks.length (i9 ks) x σ H Q:=by
 unfold fj at w
 cases r with
 | @tup p xs l a b c d=>
  dsimp only at w
  by_cases hc:l.length=ks.length
  ·rw[Ig hc] at w
   exact⟨p,xs,rfl,dJ.of b,by rw[←c];exact hc,nV ks l xs σ ρ Q hc ⟨c,d⟩ s fun σ' s'=>q σ' _ s' w⟩
  ·rw[Ih hc] at w;exact w.elim
 |_=>exact w.elim
theorem BB (h:BS X st (gz (lB φ m) (vj X.K ks.length (i9 ks)))):SV φ X st (y9 ks m):=BS.mono h fun D σ H cy=>by
 obtain⟨G,O0,H0,O,ρ,n,s,w⟩:=cy
 unfold y9 at w
 rw[M.wZ] at w
 refine⟨G,O,ρ,n,_,s.es,w,fun y x H1 n1 e1 bS r1 w1=>?_⟩
 rw[M.wZ] at w1
 exact vQ (s.to e1 bS) r1 w1 fun σ' ρ' s' h=>h O σ' H1 s'
noncomputable def zL (i j:Nat) (m:ao→M (List PV)):ao→M Fl:=fun ρ=>(m ρ).bind fun l=>match l with|[y,z]=>.ret (.nx ((ρ.set i (.val y)).set j (.val z)))|_=>.fail
theorem BC (h:BS X st (Bw i j (Fn φ m))):SV φ X st (zL i j m):=BS.mono h fun D σ H cy=>by
 obtain⟨G,O0,H0,O,ρ,n,s,w⟩:=cy
 unfold zL at w
 rw[M.wZ] at w
 refine⟨G,O,ρ,n,_,s.es,w,fun l xs H1 n1 e1 bS r1 w1=>?_⟩
 match l,r1,w1 with
 |[y,z],r1,w1=>
  obtain⟨x,t,rfl,h1,h2⟩:=r1.cons_inv
  obtain⟨x',t',rfl,h3,h4⟩:=h2.cons_inv
  rw[h4.nil_inv]
  exact⟨x,x',rfl,w1 O _ _ (((s.to e1 bS).wc i h1).wc j h3)⟩
noncomputable def cD (m:ao→M PV):ao→M Fl:=fun ρ=>(m (ρ.map Ent.freeze)).bind fun y=>.ret (.rt y)
theorem bQ (h:BS X st (Bv (lB φ m))):SV φ X st (cD m):=BS.mono h fun D σ H cy=>by
 obtain⟨G,O0,H0,O,ρ,n,s,w⟩:=cy
 unfold cD at w
 rw[M.wZ] at w
 exact⟨G,O0,_,n,_,s.frozen,w,fun y x H1 n1 e1 bS r1 w1=>w1 x H1 (s.ext.trans e1) bS r1⟩
noncomputable def i8 (mc:ao→M Bool) (ma mb:ao→M Fl):ao→M Fl:=fun ρ=>(mc ρ).bind fun b=>if b=true then ma ρ else mb ρ
theorem fM (h:BS X st (Bz (oE φ mc) (Bt φ ma) (Bt φ mb))):SV φ X st (i8 mc ma mb):=BS.mono h fun D σ H cy=>by
 obtain⟨G,O0,H0,O,ρ,n,s,w⟩:=cy
 unfold i8 at w
 rw[M.wZ] at w
 refine⟨G,O,ρ,n,_,s.es,w,fun b H1 n1 e1 bS w1=>?_⟩
 cases b with
 |true=>exact⟨G,O0,H0,O,ρ,n1,s.to e1 bS,w1⟩
 |false=>exact⟨G,O0,H0,O,ρ,n1,s.to e1 bS,w1⟩
noncomputable def f9 (k:Nat) (m:ao→M PV):ao→M Fl:=fun ρ=>match ρ[k]? with|some (.own l)=>(m ρ).bind fun y=>if l.length < 100000 then .ret (.nx (ρ.set k (.own (l++[y])))) else .fail|_=>.fail
theorem iX (h:BS X st (vV (Fp X.K "list" tU (nc k) (lW (lB φ m) vU)))):SV φ X st (f9 k m):=BS.mono h fun D σ H cy=>by
 obtain⟨G,O0,H0,O,ρ,n,s,w⟩:=cy
 unfold f9 at w
 cases hk:ρ[k]? with
 |none=>simp only[hk] at w;exact w.elim
 |some t=>
  cases t with
  |own l=>
   simp only[hk] at w
   obtain⟨p,xs,hx,hO,np,hh,rr⟩:=s.es.er.2 k _ hk
   have hs:=fq s.es.er hk hx
   have npB:p≠G.B:=fun z=>np (z▸G.pB)
   rw[M.wZ] at w
   refine⟨_,hs,.inl ⟨rfl,xs,cw.of hh⟩,G,O,ρ,n,_,s.es,w,fun y x H1 n1 e1 bS r1 w1=>?_⟩
   by_cases hc:l.length < 100000
   ·rw[Ig hc] at w1
    have s1:=s.to e1 bS
    have big:=fu
    refine⟨p,xs,x,rfl,rfl,e1 p _ npB hh,by rw[←rr.1];lia,w1 O _ _ (s1.put hk hs ((rr.ext s.es.B e1).append (.cons r1 .nil)))⟩
   ·rw[Ih hc] at w1;exact w1.elim
  |_=>simp only[hk] at w;exact w.elim
noncomputable def CS (m:ao→M Fl):ao→M Fl:=fun ρ=>m (ρ.map Ent.freeze)
theorem BD (h:SV φ X st m):SV φ X st (CS m):=BS.mono h fun D σ H ⟨G,O0,H0,O,ρ,n,s,w⟩=>⟨G,O0,H0,O0,_,n,s.lx,w⟩
noncomputable def FJ (φ:du) (b:PV→ao→M ao):TG:=fun v σ H Q=> ∃ (G:Bg φ) (O0:Addr→Prop) (H0:Hp) (O:Addr→Prop) (ρ:ao) (n:Nat) (R:ao→Nat→Prop) (y:PV),SI G O0 H0 O H σ ρ n∧Rep G.B O H y v∧(b y ρ).wp n R∧
 ∀ (σ':St) (ρ':ao) (n':Nat),SI G O0 H0 O H σ' ρ' n'→R ρ' n'→Q σ' H
def GS (φ:du) (X:Cx) (tg:Expr) (b:PV→ao→M ao):Prop:=BG X tg (FJ φ b)
theorem iK (h:BG X tg (dW k)):GS φ X tg (aP k):=BG.mono h fun v σ H Q ⟨G,O0,H0,O,ρ,n,R,y,s,r,w,q⟩=>q _ _ n (s.wc k r) w
theorem xU (h:BG X tg (vj X.K ks.length (i9 ks))):GS φ X tg (fj ks):=BG.mono h fun v σ H Q ⟨G,O0,H0,O,ρ,n,R,y,s,r,w,q⟩=>vQ s r w fun σ' ρ' s' h=>q σ' ρ' n s' h
noncomputable def eD (bd:PV→ao→M ao) (mb:ao→M Fl):List PV→ao→M Fl
 |[],ρ=>.ret (.nx ρ)
 |y::r,ρ=>(bd y ρ).bind fun ρ1=>(mb ρ1).bind fun f=>match f with
  | .nx ρ2=>eD bd mb r ρ2
  | .ct ρ2=>eD bd mb r ρ2
  | .bk ρ2=>.ret (.nx ρ2)
  | .rt v=>.ret (.rt v)
noncomputable def el (mi:ao→M (List PV)) (bd:PV→ao→M ao) (mb:ao→M Fl):ao→M Fl:=fun ρ=>(mi ρ).bind fun l=>eD bd mb l ρ
theorem iW {mi:ao→M (List PV)} {bd:PV→ao→M ao} {mb:ao→M Fl} (h:BS X st (zh (vB φ X.K true mi) (FJ φ bd) (Bt φ mb))):SV φ X st (el mi bd mb):=BS.mono h fun D σ H cy=>by
 obtain⟨G,O0,H0,O,ρ,n,s,w⟩:=cy
 unfold el at w
 rw[M.wZ] at w
 refine⟨G,O,ρ,n,_,s.es,w,fun l J H1 n1 e1 bS it w1=>?_⟩
 have s1:=s.to e1 bS
 refine⟨fun i m σ' H'=>m=l.length - i∧i≤l.length∧∃ (O':Addr→Prop) (ρ':ao) (n':Nat),SI G O0 (hide O0 O H1) O' H' σ' ρ' n'∧(eD bd mb (l.drop i) ρ').wp n' (fun f n'=>tJ G O0 H0 D n' f),
  ⟨l.length,by simp,HJ _,O,ρ,n1,s1.now,by simpa using w1⟩,?_⟩
 rintro i m σ' H' ⟨rfl,hi,O',ρ',n',s',w'⟩
 have it':=s1.walk s' it
 by_cases fR:i < l.length
 ·have hget:l[i]?=some l[i]:=Hd fR
  have jy:l.drop i=l[i]::l.drop (i+1):=List.drop_eq_getElem_cons fR
  rw[jy] at w'
  unfold eD at w'
  obtain⟨g1,g2⟩:=it'.go hget
  refine .inr ⟨g1,fun σ2 H2=> ∃ (O':Addr→Prop) (ρ':ao) (n':Nat),SI G O0 (hide O0 O H1) O' H2 σ2 ρ' n'∧(eD bd mb (l.drop (i+1)) ρ').wp n' (fun f n'=>tJ G O0 H0 D n' f),fun σ2 H2 hh=>⟨l.length - (i+1),by lia,rfl,fR,hh⟩,fun x H2 yl=>?_⟩
  obtain⟨eH,rx⟩:=g2 x H2 yl
  subst eH
  rw[M.wZ] at w'
  refine⟨G,O0,_,O',ρ',n',_,l[i],s',rx,w',fun σ2 ρ2 n2 s2 w2=>?_⟩
  rw[M.wZ] at w2
  refine⟨G,O0,_,O',ρ2,n2,s2,M.wp_mono w2 fun f n3 w3=>?_⟩
  cases f with
  |nx ρ3=>exact fun O3 σ3 H3 s3=>⟨O3,ρ3,n3,s3,w3⟩
  |ct ρ3=>exact fun O3 σ3 H3 s3=>⟨O3,ρ3,n3,s3,w3⟩
  |bk ρ3=>exact fun O3 σ3 H3 s3=>w3 O3 σ3 H3 (s1.back s3)
  |rt y=>exact fun x3 H3 e3 ok3 r3=>w3 x3 H3 (s1.base.trans e3) ok3 r3
 ·have e:i=l.length:=by lia
  subst e
  rw[List.drop_length] at w'
  exact .inl ⟨it'.stop,w' O' σ' H' (s1.back s')⟩
noncomputable def vA (mt:ao→M Bool) (mb:ao→M Fl):Nat→ao→M Fl
 |0,_=>.fail
 |k+1,ρ=>(mt ρ).bind fun b=>if b=true then(mb ρ).bind fun f=>(match f with
  | .nx ρ2=>vA mt mb k ρ2
  | .ct ρ2=>vA mt mb k ρ2
  | .bk ρ2=>.ret (.nx ρ2)
  | .rt v=>.ret (.rt v)) else .ret (.nx ρ)
theorem p9 {mt:ao→M Bool} {mb:ao→M Fl} (fuel:Nat) (h:BS X st (rL (oE φ mt) (Bt φ mb))):SV φ X st (vA mt mb fuel):=BS.mono h fun D σ H cy=>by
 obtain⟨G,O0,H0,O,ρ,n,s,w⟩:=cy
 refine⟨fun m σ' H'=> ∃ (O':Addr→Prop) (ρ':ao) (n':Nat),SI G O0 H0 O' H' σ' ρ' n'∧(vA mt mb m ρ').wp n' (fun f n'=>tJ G O0 H0 D n' f),⟨fuel,O,ρ,n,s,w⟩,?_⟩
 rintro m σ' H' ⟨O',ρ',n',s',w'⟩
 cases m with
 |zero=>exact w'.elim
 |succ k=>
  unfold vA at w'
  rw[M.wZ] at w'
  refine⟨G,O',ρ',n',_,s'.es,w',fun b H1 n1 e1 bS w1=>?_⟩
  cases b with
  |true=>
   simp only[if_true] at w1 ⊢
   rw[M.wZ] at w1
   refine⟨fun σ2 H2=> ∃ (O':Addr→Prop) (ρ':ao) (n':Nat),SI G O0 H0 O' H2 σ2 ρ' n'∧(vA mt mb k ρ').wp n' (fun f n'=>tJ G O0 H0 D n' f),fun σ2 H2 hh=>⟨k,by lia,hh⟩,G,O0,H0,O',ρ',n1,s'.to e1 bS,M.wp_mono w1 fun f n3 w3=>?_⟩
   cases f with
   |nx ρ3=>exact fun O3 σ3 H3 s3=>⟨O3,ρ3,n3,s3,w3⟩
   |ct ρ3=>exact fun O3 σ3 H3 s3=>⟨O3,ρ3,n3,s3,w3⟩
   |bk ρ3=>exact fun O3 σ3 H3 s3=>w3 O3 σ3 H3 s3
   |rt y=>exact fun x3 H3 e3 ok3 r3=>w3 x3 H3 e3 ok3 r3
  |false=>
   simp only[HY,if_false] at w1 ⊢
   exact w1 O' σ' H1 (s'.to e1 bS)
end
noncomputable def ff:Fl→M PV
 | .nx _=>.ret .bX
 | .rt y=>.ret y
 |_=>.fail
noncomputable def gB (k:Nat) (l:List PV):ao:=l.map val++List.replicate (k - l.length) .un
noncomputable def lQ (a k:Nat) (m:ao→M Fl) (l:List PV):M PV:=if l.length=a then(m (gB k l)).bind ff else .fail
theorem iB {vs:List V} {i:Nat} (h:vs[i]?=some x):(start N vs)[i]?=some (some x):=by
 unfold start
 have hi:i < vs.length:=(Hm.mp h).1
 rw[HX (by simpa using hi),HC,h]
 rfl
section
variable {P:Program} {w:World} {K:Frag} {mg:Str→Option Value} {base:Heap}
theorem EH {x qual:Str} {st:Stmt} {f:Addr} {fd:FuncData} {N ps:List Str} {k:Nat} {m:ao→M Fl} (F:jT K x qual st f fd) (S:ba N ps (ak st)) (hN:ps.length≤N.length)
  (hb: ∀ (eF:Value) (A:Around) (outer:List Env) (s:Shared) (H:Hp) (E:XK),dA k (A.deeper (envOfC qual (ak st) s.heap.objs.size f eF))→AL φ (g9 dF P w K mg base N qual (ak st) f eF A outer s H E).pW (aw st) m):
  bu P w K mg base dF (k+1) f fd ps (fo φ (lQ ps.length N.length m)):=by
 refine F.ok S (fun vs H Q E h=>?_) (fun eF A outer s H vs Q E hr h=>⟨_,(hb eF A outer s H E hr).out,?_⟩)
 ·obtain⟨G,O,l,n,R,_,_,_,r,w,_⟩:=h
  unfold lQ at w
  by_cases hc:l.length=ps.length
  ·rw[←r.1,hc]
  ·rw[Ih hc] at w;exact w.elim
 ·obtain⟨G,O,l,n,R,pr,dm,ok,r,w,q⟩:=h
  unfold lQ at w
  by_cases hc:l.length=ps.length
  ·rw[Ig hc,M.wZ] at w
   refine⟨G,O,H,O,gB N.length l,n,⟨⟨⟨?_,fun i e he=>?_⟩,ok,pr,dm⟩,pr,fun p h=>h,Ext.refl _ _,fun p h=>.inl h,dm,fun i p h=>?_,fun i j p h=>?_⟩,M.wp_mono w fun f n' h=>?_⟩
   ·unfold start gB;simp[r.1]
   ·unfold gB at he
    by_cases hi:i < l.length
    ·rw[HX (by simpa using hi),HC,Hd hi] at he
     cases he
     obtain⟨x,hx,rr⟩:=r.at (Hd hi)
     exact⟨x,by rw[iB hx];rfl,rr⟩
    ·rw[List.getElem?_append_right (by simpa using hi),IB] at he
     split at he
     ·cases he;trivial
     ·cases he
   all_goals try (
    obtain⟨t,h1,h2,_⟩:=h
    exfalso
    unfold gB at h1
    by_cases hi:i < l.length
    ·rw[HX (by simpa using hi),HC,Hd hi] at h1
     cases h1;cases h2
    ·rw[List.getElem?_append_right (by simpa using hi),IB] at h1
     split at h1
     ·cases h1;cases h2
     ·cases h1)
   cases f with
   |nx ρ=>exact fun O' σ' H' s'=>q .bX .bX H' n' s'.ext s'.es.ok .bX h
   |rt y=>exact fun x' H' e' ok' r'=>q y x' H' n' e' ok' r' h
   |bk ρ=>exact h.elim
   |ct ρ=>exact h.elim
  ·rw[Ih hc] at w;exact w.elim
end
end
section
variable {φ:du}
section
variable {X:Cx} {e a b:Expr} {ma mb:ao→M PV}
def GU (K:Frag) (T:String) (r:V→List V→Hp→VK→Prop) (op:PV→List PV→M PV):Prop:= ∀ (φ:du) (G:Bg φ) (O:Addr→Prop) (H0 H:Hp) (n:Nat) (R:PV→Nat→Prop) (Q:VK) (y:PV) (x:V) (l:List PV) (xs:List V),
 (∀ p,G.cP p→O p)→(∀ p,O p→∃ o,H p=some o)→G.ok H n→cI G O H y x→eQ G O H l xs→(op y l).wp n R→kE G O H R Q→r x xs H Q
noncomputable def tyP:PV→String
 | .str _=>"str"
 | .lst _=>"list"
 | .iO _=>"dict"
 |_=>""
noncomputable def Fx (T:String) (op:PV→List PV→M PV) (mo:ao→M PV) (ml:ao→M (List PV)):ao→M PV:=fun ρ=>(mo ρ).bind fun y=>if tyP y=T then(ml ρ).bind fun l=>op y l else .fail
theorem EJ (h:BE X e (Fp X.K T r (vC φ mo) (Dr φ ml))) (hv:GU X.K T r op) (hT:T≠"":=by decide):EV φ X e (Fx T op mo ml):=BE.mono h fun σ H Q cy=>by
 obtain⟨G,O,ρ,n,R,s,w,q⟩:=cy
 unfold Fx at w
 rw[M.wZ] at w
 refine⟨G,O,ρ,n,_,s,w,fun y x H1 n1 e1 bS r1 w1=>?_⟩
 by_cases hc:tyP y=T
 ·rw[Ig hc] at w1
  have ty:FH X.K T x H1:=by
   subst hc
   cases y<;>first|exact absurd rfl hT|skip
   ·rw[r1.gV];rfl
   ·obtain⟨p,xs,rfl,hh,_⟩:=r1.fi;exact .inl ⟨rfl,xs,cw.of hh⟩
   ·obtain⟨p,ks,rfl,hh,_⟩:=r1.uu;exact .inr (.inr (.inl ⟨rfl,.inl ⟨ks,hh⟩⟩))
  refine⟨ty,?_⟩
  rw[M.wZ] at w1
  refine⟨G,O,ρ,n1,_,s.ext e1 bS,w1,fun l xs H2 n2 e2 pV r2 w2=>?_⟩
  exact hv φ G O H1 H2 n2 R Q y x l xs s.pr (s.ext (e1.trans e2) pV).dm pV (r1.ext s.B e2) r2 w2 fun y x H' n' e o r h=>q y x H' n' (e1.trans (e2.trans e)) o r h
 ·rw[Ih hc] at w1;exact w1.elim
noncomputable def strsOf:List PV→Option (List Str)
 |[]=>some []
 | .str b::r=>(strsOf r).map (b:: ·)
 |_=>none
theorem lY: ∀ {l:List PV} {xs:List V} {bs:List Str},aO B O H l xs→strsOf l=some bs→xs=bs.map V.str
 |[],xs,bs,h,e=>by simp[strsOf] at e;subst e;exact h.nil_inv
 |y::l,xs,bs,h,e=>by
  cases y<;>simp[strsOf] at e
  obtain⟨bs',e1,rfl⟩:=e
  obtain⟨x,r,rfl,h1,h2⟩:=h.cons_inv
  cases h1
  rw[Hq,lY h2 e1]
noncomputable def nR:PV→List PV→M PV
 | .str sep,[.lst l]=>(M.eV (strsOf l)).bind fun ys=>if(ys.map (·.length)).sum+ys.length * sep.length≤16777216 then .ret (.str (Txt.join sep ys)) else .fail
 |_,_=>.fail
theorem ve (w:(nR y l).wp n R): ∃ sep m,y= .str sep∧l=[.lst m]:=by
 unfold nR at w
 split at w
 ·exact⟨_,_,rfl,rfl⟩
 ·exact w.elim
theorem zY {K:Frag}:GU K "str" (fun x xs H Q=> ∃ (sep:Str) (p:Addr) (ys:List Str),x= .str sep∧xs=[.ref p]∧cw K H p (ys.map V.str)∧(ys.map (·.length)).sum+ys.length * sep.length≤16777216∧Q (.str (Txt.join sep ys)) H) nR:=fun φ G O H0 H n R Q y x l xs pr dm ok r1 r2 w q=>by
 obtain⟨sep,l,rfl,rfl⟩:=ve w
 ·rw[r1.gV]
  obtain⟨x2,ex,r3⟩:=r2.one
  subst ex
  obtain⟨p,xs,ep,hh,rr⟩:=r3.fi
  subst ep
  unfold nR at w
  dsimp only at w
  cases es:strsOf l with
  |none=>rw[es] at w;exact w.elim
  |some ys=>
   rw[es] at w
   replace w:(if(ys.map (·.length)).sum+ys.length * sep.length≤16777216 then M.ret (.str (Txt.join sep ys)) else .fail:M PV).wp n R:=w
   by_cases hc:(ys.map (·.length)).sum+ys.length * sep.length≤16777216
   ·rw[Ig hc] at w
    rw[lY rr es] at hh
    exact⟨sep,p,ys,rfl,rfl,cw.of hh,hc,q.sc ok (.str _) w⟩
   ·rw[Ih hc] at w;exact w.elim
noncomputable def mD:PV→M PV
 | .int i=>.ret (.int (-i))
 |_=>.fail
theorem mQ (h:BE X e (FK (rU fun i=>.int (-i)) (vC φ ma))):EV φ X e (fun ρ=>(ma ρ).bind mD):=BE.mono h fun σ H Q cy=>by
 obtain⟨G,O,ρ,n,R,s,w,q⟩:=cy
 rw[M.wZ] at w
 refine⟨G,O,ρ,n,_,s,w,fun y x H1 n1 e1 bS r1 w1=>?_⟩
 cases y<;>first|exact w1.elim|skip
 rw[r1.da]
 exact⟨_,rfl,q _ _ _ _ e1 bS (.int _) w1⟩
noncomputable def gs (ma mb:ao→M PV):ao→M (List PV):=fun ρ=>(ma ρ).bind fun x=>(mb ρ).bind fun y=>match x,y with| .lst a,.lst b=>if a.length+b.length≤100000 then .ret (a++b) else .fail|_,_=>.fail
theorem ku (h:BE X e (ze BV (vC φ ma) (vC φ mb))):EF φ X e (gs ma mb):=BE.mono h fun σ H Q cy=>by
 obtain⟨G,O,ρ,n,R,s,w,q⟩:=cy
 unfold gs at w
 rw[M.wZ] at w
 refine⟨G,O,ρ,n,_,s,w,fun y x H1 n1 e1 bS r1 w1=>?_⟩
 rw[M.wZ] at w1
 refine⟨G,O,ρ,n1,_,s.ext e1 bS,w1,fun y' x' H2 n2 e2 pV r2 w2=>?_⟩
 replace r1:=r1.ext s.B e2
 cases y<;>cases y'<;>first|exact w2.elim|skip
 rename_i i j
 obtain⟨a,xs,rfl,h1,q1⟩:=r1.fi
 obtain⟨b,ys,rfl,h2,q2⟩:=r2.fi
 dsimp only at w2
 by_cases hc:i.length+j.length≤100000
 ·rw[Ig hc] at w2
  have q':rq G O H2 R Q:=fun l p xs H' n' e o hp a b h=>q l p xs H' n' (e1.trans (e2.trans e)) o (eW (e1.trans e2) pV hp) a b h
  exact⟨a,b,xs,ys,rfl,rfl,h1,h2,HD (by rw[←q1.1,←q2.1];exact hc) fu,fun p hp=>q'.mk pV hp s.B (q1.append q2) w2⟩
 ·rw[Ih hc] at w2;exact w2.elim
end
end
section
variable {φ:du}
section
variable {X:Cx} {e a b o:Expr} {es:List Expr} {pos p:Pos} {x:Str} {id T:String} {r:List V→Hp→VK→Prop} {t:TA} {st:Stmt}
theorem bv (i:Nat) (hN:X.N[i]?=some x:=by rfl) (hv:Fy X.env.scope x:=by first|exact Or.inl rfl|exact Or.inr (Or.inl rfl)|exact Or.inr (Or.inr rfl)) (hd:(x==("__debug__":Str))=false:=by decide)
  (hcd:(x==("__classdict__":Str))=false:=by decide):BE X (.Name x pos) (nc i):=⟨wY hN hv hd hcd⟩
theorem bt (hc:eR X (.builtin id) r) (hg:Gl X x) (hm:X.mg x=none) (hv:bootBuiltins x=some (.builtin id)) (ha:BA X (e::es) t) (hn:x≠"__name__":=by decide) (pd:(x==("__debug__":Str))=false:=by decide)
  (he:starEach (e::es) X.env=(false,eval e X.env)::starEach es X.env:=by rfl) (kO:(backTo pos (starEach es X.env)).any (·.1)=false:=by rfl):BE X (.Call (.Name x p) (e::es) [] pos) (Ds r t):=⟨qo hc hg hm hv ha.out hn pd he kO⟩
theorem eB (hc:eR X (.type T) r) (hg:Gl X x) (hm:X.mg x=none) (hv:bootBuiltins x=some (.type T)) (ha:BA X (e::es) t) (hn:x≠"__name__":=by decide) (pd:(x==("__debug__":Str))=false:=by decide)
  (he:starEach (e::es) X.env=(false,eval e X.env)::starEach es X.env:=by rfl) (kO:(backTo pos (starEach es X.env)).any (·.1)=false:=by rfl):BE X (.Call (.Name x p) (e::es) [] pos) (Ds r t):=⟨uT hc hg hm hv ha.out hn pd he kO⟩
theorem aB (F:bu X.prog X.w X.K X.mg X.base CX k f fd ps sp) (hr:dA k X.A) (hg:Gl X x) (hm:X.mg x=some (.ref f)) (hk:keepIn X.K (.ref f)=true) (hb:Binds X.K fd ps ds) (hd:Vals dvs ds) (hx:Passes CX X E)
  (ha:BA X (e::es) t) (pd:(x==("__debug__":Str))=false:=by decide) (he:starEach (e::es) X.env=(false,eval e X.env)::starEach es X.env:=by rfl) (kO:(backTo pos (starEach es X.env)).any (·.1)=false:=by rfl):
  BE X (.Call (.Name x p) (e::es) [] pos) (p8 sp dvs E t):=⟨zK F hr hg hm hk hb hd hx ha.out pd he kO⟩
theorem iq:BA X [] vU:=⟨fZ⟩
theorem fT (ha:BE X e te) (hr:BA X es t) (hs:starEach (e::es) X.env=(false,eval e X.env)::starEach es X.env:=by rfl):BA X (e::es) (lW te t):=⟨eL ha.out hr.out hs⟩
theorem kW {apos kz:Pos} {name:Str} {to:TE} {r:V→List V→Hp→VK→Prop} (pa:PlainAttrs T) (slot:Slot T name id) (hty:typeOf (.builtin id)=pure (.type "method_descriptor")) (hm:Gy X id r) (ho:BE X o to) (ha:BA X (e::es) t)
  (hbase:attributeBase o name X.env (eval o X.env)=eval o X.env:=by rfl)
  (hfew:((backTo kz (starEach (e::es) X.env)).all (fun x=>!x.1)&&(backToKw kz (keywordEach [] X.env)).all (fun x=>x.1.isSome)
   &&decide ((e::es).length+([]:List Keyword).length+(if([]:List Keyword).isEmpty then 0 else 1) < 30))=true:=by rfl)
  (hline:(apos.endLine==kz.line)=true:=by rfl) (hs:starEach (e::es) X.env=(false,eval e X.env)::starEach es X.env:=by rfl) (hplain:(backTo kz (starEach es X.env)).any (·.1)=false:=by rfl):
  BE X (.Call (.Attribute o name apos) (e::es) [] kz) (Fp X.K T r to t):=⟨Ei pa slot hty hm ho.out ha.out hbase hfew hline hs hplain⟩
theorem jO (L:aN X scope N js) (hc:X.calm=true) (hi:BI X target iter wi)
  (hg: ∀ s₀ H₀ ex pn,BG (cY X scope N s₀ H₀ ex pn) target g) (ht: ∀ s₀ H₀ ex pn,y3 (cY X scope N s₀ H₀ ex pn) ifs tt) (he: ∀ s₀ H₀ ex pn,BE (cY X scope N s₀ H₀ ex pn) elt te)
  (hs: ∀ x,foldedSetIterable iter X.env x=pure x:=by intro _;rfl):BE X (.ListComp elt [⟨target,iter,ifs,0⟩] scope pos) (By js wi g tt te):=⟨Eh L hc hi.out (fun a b c d=>(hg a b c d).out) (fun a b c d=>(ht a b c d).out) (fun a b c d=>(he a b c d).out) hs⟩
theorem mZ (hN:X.N.Nodup) (hk:X.N[k]?=some y) (hy:Loc X.env.scope y) (L:aN X scope N js) (hc:X.calm=true) (hi:BI X target iter wi)
  (hg: ∀ s₀ H₀ ex pn,BG (cY X scope N s₀ H₀ ex pn) target g) (ht: ∀ s₀ H₀ ex pn,y3 (cY X scope N s₀ H₀ ex pn) ifs tt) (he: ∀ s₀ H₀ ex pn,BE (cY X scope N s₀ H₀ ex pn) elt te)
  (hsw:swapsWith (.ListComp elt [⟨target,iter,ifs,0⟩] scope pos) (some (.Name y py)) spos.line X.env=pure true:=by rfl)
  (hs: ∀ x,foldedSetIterable iter X.env x=pure x:=by intro _;rfl) (hf:X.fn y=true∨X.env.scope.names.lookup y=some .local:=by first|exact .inl rfl|exact .inr rfl|assumption):
  BS X (.Assign [.Name y py] (.ListComp elt [⟨target,iter,ifs,0⟩] scope pos) spos) (gz (By js wi g tt te) (dW k)):=⟨Eb hN hk hy L hc hi.out (fun a b c d=>(hg a b c d).out) (fun a b c d=>(ht a b c d).out) (fun a b c d=>(he a b c d).out) hsw hs hf⟩
theorem bo (hN:X.N.Nodup) (hi:X.N[i]?=some x) (hx:Loc X.env.scope x) (he:BE X e te) (hs:swapsWith e (some (.Name x pos')) pos.line X.env=pure false:=by rfl) (hf:X.fn x=true∨X.env.scope.names.lookup x=some .local:=by first|exact .inl rfl|exact .inr rfl|assumption):
  BS X (.Assign [.Name x pos'] e pos) (gz te (dW i)):=⟨hZ hN hi hx he.out hs hf⟩
theorem C9 (he:BE X e te) (hg:BG X tg g) (hs:swapsWithSole [tg] e pos.line X.env=pure false:=by rfl) (hw:swappedStores [tg] e X.env=pure none:=by rfl)
  (h1:(assignEach [tg] X.env).map (·.2)=[assign tg X.env]:=by rfl):BS X (.Assign [tg] e pos) (gz te g):=⟨rX he.out hg.out hs hw h1⟩
theorem C8 {kt k2 pt2} (hc:X.calm=true) (hN:X.N.Nodup) (hi:X.N[i]?=some x) (hj:X.N[j]?=some y) (hij:i≠j)
  (hx:X.env.scope.names.lookup x=some .local) (hy:X.env.scope.names.lookup y=some .local) (ha:BA X [a,b] ta)
  (hw:swappedStores [.Tuple [.Name x px,.Name y py] kt pt] (.Tuple [a,b] k2 pt2) X.env=pure (some [x,y]))
  (hs:swapsWithSole [.Tuple [.Name x px,.Name y py] kt pt] (.Tuple [a,b] k2 pt2) pos.line X.env=pure false:=by rfl):
  BS X (.Assign [.Tuple [.Name x px,.Name y py] kt pt] (.Tuple [a,b] k2 pt2) pos) (Bw i j ta):=⟨B1 hc hN hi hj hij hx hy ha.out hw hs⟩
theorem bR (he:BE X e te):BS X (.Return (some e) pos) (Bv te):=⟨oP he.out⟩
theorem fS {c:Expr} {ss tt:List Stmt} {tc:TT} {t u:TS} (hc:BT X c tc) (ha:y4 X ss t) (hb:y4 X tt u):BS X (.If c ss tt pos) (Bz tc t u):=⟨wN hc.out ha.out hb.out⟩
theorem ip (hp:PassesOwn (model X.prog X.w) X.A X.env X.xe) (hc:X.calm=true) (hi:BI X tg iter wi) (hg:BG X tg g) (hb:y4 X body tb)
  (hs: ∀ x,foldedSetIterable iter X.env x=pure x:=by intro _;rfl):BS X (.For tg iter body [] pos) (zh wi g tb):=⟨rW hp hc hi.out hg.out hb.out hs⟩
theorem qZ (hp:PassesOwn (model X.prog X.w) X.A X.env X.xe) (hc:BT X c tc) (hb:y4 X body tb):BS X (.While c body [] pos) (rL tc tb):=⟨wM hp hc.out hb.out⟩
theorem gR (he:BE X e te) (hs:swapsWith e none pos.line X.env=pure false:=by rfl):BS X (.Expr e pos) (vV te):=⟨zE he.out hs⟩
theorem fF (hg:Gl X "range") (hm:X.mg "range"=none) (ha:BA X [a] ta) (hs:starEach [a] X.env=[(false,eval a X.env)]:=by rfl):BI X tg (.Call (.Name "range" p) [a] [] pos) (xS ta):=⟨uS hg hm ha.out hs⟩
theorem jN {r:V→Option Int→Option Int→Hp→VK→Prop} {te:TE} {tl th:TO} {lo hi:Option Expr} {p2:Pos} (hr:vG X r) (he:BE X e te) (hl:BO X lo tl) (hu:BO X hi th):BE X (.Subscript e (.Slice lo hi none p2) pos) (FL r te tl th):=⟨jq hr he.out hl.out hu.out⟩
theorem q5 {op:UnaryOp} {r:V→Hp→VK→Prop} {ta:TE} (ho:Fz X (unaryOp op) r) (ha:BE X a ta):BE X (.UnaryOp op a pos) (FK r ta):=⟨Eg ho ha.out⟩
theorem ot {op:Operator} {r:R2} {ta tb:TE} (ho:fK X (binaryOp op) r) (ha:BE X a ta) (hb:BE X b tb):BE X (.BinOp a op b pos) (ze r ta tb):=⟨cf ho ha.out hb.out⟩
theorem aS (hN:X.N.Nodup) (hi:X.N[i]?=some x) (hx:Loc X.env.scope x) (hf:X.fn x=true∨X.env.scope.names.lookup x=some .local:=by first|exact .inl rfl|exact .inr rfl|assumption):BG X (.Name x pos) (dW i):=⟨lI hN hi hx hf⟩
theorem iL:FG X [] CQ:=⟨t4⟩
theorem de {t:TG} {u:yZ} (h1:BG X e t) (h2:FG X es u)
  (hs:(assignEach (e::es) X.env).map (·.2)=assign e X.env::(assignEach es X.env).map (·.2):=by rfl):FG X (e::es) (xZ t u):=⟨mw h1.out h2.out hs⟩
theorem kC {k:Nat} {t:yZ} {n:Nat} (hc:X.calm=true) (h:FG X es t)
  (hn:(assignEach es X.env).length=n:=by rfl) (hst:(assignEach es X.env).findIdx? (·.1)=none:=by rfl):BG X (.Tuple es k pos) (vj X.K n t):=⟨wV hc h.out hn hst⟩
end
section
variable {P:Program} {w:World} {K:Frag} {mg:Str→Option Value} {base:Heap}
theorem d8 {x qual:Str} {st:Stmt} {f:Addr} {fd:FuncData} {N ps:List Str} {k:Nat} {m:ao→M Fl} {body:List Stmt} {sc:Scope} {Ff:List PV→M PV} (hF:Ff=lQ ps.length N.length m) (F:jT K x qual st f fd) (S:ba N ps (ak st)) (hN:ps.length≤N.length) (eb:aw st=body) (es:ak st=sc)
  (hb: ∀ (eF:Value) (A:Around) (outer:List Env) (s:Shared) (H:Hp) (E:XK),dA k (A.deeper (envOfC qual sc s.heap.objs.size f eF))→AL φ (g9 dF P w K mg base N qual sc f eF A outer s H E).pW body m):
  bu P w K mg base dF (k+1) f fd ps (fo φ Ff):=by
 subst hF eb es
 exact EH F S hN hb
end
end
section
open PySem.AutoSeq1 (wpAny_loadPart')
theorem ka:fillsNumberSlot (.type "tuple") "mul"=pure false:=
 PySem.fillsNumberSlot_seq (id:="tuple.__mul__") (r:=some (.builtin "tuple.__rmul__")) F.slot_tuple_mul.lookup (by decide +kernel) F.slot_tuple_rmul.lookup (by decide +kernel)
theorem oM:seqRepeat? (.type "tuple")=pure (some (.builtin "tuple.__mul__")):=by
 unfold seqRepeat?
 rw[PySem.seqSlot_of (T:="tuple") (name:="__mul__") (id:="tuple.__mul__") F.slot_tuple_mul.lookup (by decide +kernel),PySem.seqSlot_of (T:="tuple") (name:="__rmul__") (id:="tuple.__rmul__") F.slot_tuple_rmul.lookup (by decide +kernel)]
 rfl
theorem mL (a:Int) (t:Tok) (l:Addr) (items:Array Value) (n:Nat) (dd:Option Addr) (sl:Array (Option Value)):
  Meets (Builtin.«int.__rmul__» ⟨[.int a t,.ref l],[]⟩) (fun _ R s=>s.heap.get? l=some {cls:=.type "tuple",dict:=dd,data:=.seq items n,slots:=sl}∧R (.ok (.ret Value.notImplemented)) s):=
 .of_wp fun prog w A R s h=>by obtain⟨hp,g,d,tk,os⟩:=s;obtain⟨hl,h⟩:=h;wp_walk using wpAny_loadPart' hl;exact⟨_,rfl,h⟩
theorem rK (l:Addr) (items:Array Value) (n:Nat) (dd:Option Addr) (sl:Array (Option Value)) (x:Int) (u:Tok) (hc0: ¬(decide (x < -(2 ^ 63))||decide (x ≥ 2 ^ 63))=true) (hc1: ¬(items.isEmpty||x==1)=true) (hc2: ¬(decide (x≤0)||items.isEmpty)=true) (hc3: ¬((items.size:Int) * x > (2 ^ 63 - 1) / 8)) (hc4: ¬Builtin.Tuple.tupleTooMany (items.size * x)=true) (hc5: ¬ (List.foldl (fun x1 x2=>x1++x2) #[] (List.replicate x.toNat items)).size > sizeLine):
  Meets (Builtin.«tuple.__mul__» ⟨[.ref l,.int x u],[]⟩) (fun _ R s=>s.heap.get? l=some {cls:=.type "tuple",dict:=dd,data:=.seq items n,slots:=sl}∧R (.ok (.ret (Value.ref s.heap.objs.size))) {s with heap:=s.heap.push {cls:=Value.type "tuple",data:=Data.seq ((List.replicate x.toNat items).foldl (· ++ ·) #[])},toks:=s.toks}):=
 .of_wp fun prog w A R s h=>by
  obtain⟨hp,g,d,tk,os⟩:=s;obtain⟨hl,h⟩:=h
  have f1:=AutoSeq1.idx_int
  wp_walk using wpAny_loadPart' hl
  refine wpAny_ite_false (HH hc0) ?_
  wp_walk using wpAny_loadPart' hl
  refine wpAny_ite_false (HH hc3) ?_
  wp_walk using wpAny_loadPart' hl
  exact⟨_,rfl,h⟩
noncomputable def AW:R2:=fun x y H Q=> ∃ l k xs,x= .ref l∧y= .int k∧H l=some (.tup xs)∧xs≠[]∧1 < k∧k < 1000∧xs.length * k.toNat≤100000∧∀ p,H p=none→Q (.ref p) (upd H p (.tup (List.replicate k.toNat xs).flatten))
theorem zP:fK X (binaryOp .Mult) AW:=by
 intro pZ s σ H x y v u Q I rx ry h
 obtain⟨l,k,xs,rfl,rfl,hH,dz,h1,h2,hz,q⟩:=h
 cases rx
 obtain⟨t,rfl⟩:=ry
 obtain⟨aA,r,p,_⟩:=I.tuple (dJ.of (K:=X.K) hH)
 obtain⟨⟨cls,dd,data,sl⟩,ho,hc,n,hd⟩:=id p
 simp only at hc hd
 subst hc hd
 have hlen:=r.length
 have hie:aA≠[]:=fun z=>dz (r.lM.mp z)
 have hnew:List.foldl (fun x1 x2=>x1++x2) #[] (List.replicate k.toNat aA.toArray)=(List.replicate k.toNat aA).flatten.toArray:=by
  have:=foldl_rep aA k.toNat []
  rw[List.nil_append] at this
  exact this
 have e63:(2:Int) ^ 63=9223372036854775808:=by decide
 have hsz:(aA.length:Int) * k≤100000:=by
  have e:(k.toNat:Int)=k:=by lia
  have:((aA.length * k.toNat:Nat):Int)≤100000:=by
   rw[←hlen]
   exact Int.ofNat_le.mpr hz
  rw[Int.natCast_mul,e] at this
  exact this
 have hs:sizeLine=16777216:=HW
 have hfl:(List.replicate k.toNat xs).flatten.length≤sizeLine:=by rw[len_rep,Nat.mul_comm];lia
 refine wpAny_binaryOp_repeat_ref (T:="tuple") (U:="int") (by decide) ⟨_,ho,rfl⟩ (fun s'=>typeIs_int s' k t) ka F.fills_int_mul F.slot_int_rmul oM F.slot_int_index.lookup
  (call_meets F.slot_int_rmul (typeIs_int s k t) F.entry_int_rmul (F.args_int_rmul_2 _ _) (mL k t l aA.toArray n dd sl)
   ⟨ho,rfl,⟨_,ho,rfl⟩,call_meets F.slot_tuple_mul ⟨_,ho,rfl⟩ F.entry_tuple_mul (F.args_tuple_mul_2 _ _) (rK l aA.toArray n dd sl k t ?_ ?_ ?_ ?_ ?_ ?_) ⟨ho,?_⟩⟩)
 ·simp;lia
 ·simp[hie];lia
 ·simp[hie];lia
 ·simp only[Hl];lia
 ·unfold Builtin.Tuple.tupleTooMany;simp only[Hl,IA];lia
 ·rw[hnew,Hl,len_rep,Nat.mul_comm,←hlen];lia
 ·rw[hnew]
  refine⟨.ref s.heap.objs.size,_,I.laid (t':=s.toks) (o:=.tup (List.replicate k.toNat xs).flatten) (fun b ob q=>Hh _ q) (Hn _) ?_,rfl,q _ (I.cm.fresh (Hn _))⟩
  exact⟨hfl,_,r.rep k.toNat,gS.new _ _⟩
noncomputable def AY:R2:=fun x y H Q=>wJ x y H Q∨AW x y H Q
theorem fA:fK X (binaryOp .Mult) AY:=zR.or zP
noncomputable def g8 (y z:PV):M PV:=match y,z with
 | .tup l,.int k=>if 0 < l.length∧1 < k∧k < 1000∧l.length * k.toNat≤100000 then .ret (.tup (List.replicate k.toNat l).flatten) else .fail
 |y,z=>sx y z
theorem fz:oB AY g8:=fun φ G O H n R Q y z x x' pr dm ok r1 r2 w q=>by
 have hB:O G.B:=pr _ G.pB
 cases y with
 |tup l=>
  cases z<;>first|exact w.elim|skip
  rename_i k
  obtain⟨a,xs,rfl,h1,e1⟩:=r1.gf
  rw[r2.da]
  unfold g8 at w
  dsimp only at w
  by_cases hc:0 < l.length∧1 < k∧k < 1000∧l.length * k.toNat≤100000
  ·rw[Ig hc] at w
   refine .inr ⟨a,k,xs,rfl,rfl,h1,fun z=>?_,hc.2.1,hc.2.2.1,by rw[←e1.1];exact hc.2.2.2,fun p hp=>q.tup ok dm hp hB (e1.rep _) w⟩
   subst z
   have:=e1.1
   simp at this
   have:=hc.1
   simp_all
  ·rw[Ih hc] at w;exact w.elim
 |_=>exact .inl (Cc φ G O H n R Q _ z x x' pr dm ok r1 r2 w q)
end
noncomputable def jG:List PV→M PV:=fun l=>match l with|[.bV,.int m]=>.draw m fun d=>.ret (.int d)|_=>.fail
theorem vm {φ:du} {P:Program} {w:World} {K:Frag} {mg:Str→Option Value} {base:Heap} {k:Nat} {f:Addr} {fd:FuncData} {ps:List Str} (F:bu P w K mg base dF k f fd ps φ.sp):bu P w K mg base dF k f fd ps (fo φ jG):=by
 refine F.imp fun vs H Q E h=>?_
 obtain⟨G,O,l,n,R,pr,dm,ok,r,w,q⟩:=h
 match l,r,w with
 |[.bV,.int m],r,w=>
  obtain⟨x,t,rfl,r1,r2⟩:=r.cons_inv
  obtain⟨x',t',rfl,r3,r4⟩:=r2.cons_inv
  rw[r4.nil_inv]
  cases r1
  cases r3
  obtain⟨h0,h1,n',rfl,h⟩:=w
  exact G.dr H n' m Q E ok h0 h1 fun d H' d0 d1 e o=>q (.int d) _ H' n' e o (.int d) (h d d0 d1)
structure Gen {α:Type} (m:M α) (c:Nat) (Pr:α→Prop):Prop where
 h: ∀ n,c≤n→m.wp n fun y n'=>n≤n'+c∧Pr y
theorem Gen.ret (h:Pr y):Gen (.ret y) 0 Pr:=⟨fun n _=>⟨Hn _,h⟩⟩
theorem Gen.bind (h:Gen m c Pr) (k: ∀ y,Pr y→Gen (f y) d Rr):Gen (m.bind f) (c+d) Rr:=⟨fun n hn=>by
 rw[M.wZ]
 refine M.wp_mono (h.h n (by lia)) fun y n1 ⟨h1,h2⟩=>?_
 exact M.wp_mono ((k y h2).h n1 (by lia)) fun z n2 ⟨h3,h4⟩=>⟨by lia,h4⟩⟩
theorem Gen.mono (h:Gen m c Pr) (hc:c≤d) (k: ∀ y,Pr y→Rr y):Gen m d Rr:=⟨fun n hn=>M.wp_mono (h.h n (by lia)) fun y n1 ⟨h1,h2⟩=>⟨by lia,k y h2⟩⟩
theorem Gen.le (h:Gen m c Pr) (hc:c≤d):Gen m d Pr:=h.mono hc fun _ z=>z
theorem Gen.draw (h0:0 < m) (h1:m < 1073741824):Gen (jG [.bV,.int m]) 1 fun y=> ∃ d,y= .int d∧0≤d∧d < m:=⟨fun n hn=>by
 obtain⟨n',rfl⟩: ∃ n',n=n'+1:=⟨n - 1,by lia⟩
 exact⟨h0,h1,n',rfl,fun d d0 d1=>⟨Hn _,d,rfl,d0,d1⟩⟩⟩
theorem Gen.eq (e:m= .ret y) (h:Pr y):Gen m 0 Pr:=e▸Gen.ret h
theorem Gen.lc {te:ao→M PV} {ρ:ao}: ∀ (l:List PV) (ρ':ao),(∀ e,ρ'.set k e=ρ.set k e)→(∀ y∈l,Gen (te (ρ.set k (.val y))) c Pr)→Gen (jS (aP k) cU te l ρ') (l.length * c) (fun zs=>zs.length=l.length∧∀ z∈zs,Pr z)
 |[],ρ',_,_=>Gen.le (Gen.ret ⟨rfl,fun z hz=>by simp at hz⟩) (by simp)
 |y::l,ρ',hρ,h=>by
  unfold jS
  simp only[aP,cU,rZ,if_true]
  rw[hρ]
  refine Gen.le (Gen.bind (h y Hf) fun z hz=>Gen.bind (Gen.lc (ρ:=ρ) l _ (fun e=>by rw[List.set_set]) fun y' hy=>h y' (Hj _ hy)) fun zs hzs=>Gen.ret ?_) (Nat.le_of_eq ?_)
  ·refine⟨by simp[hzs.1],fun u hu=>?_⟩
   rcases Hr.mp hu with rfl|hu
   ·exact hz
   ·exact hzs.2 u hu
  ·simp only[Hv,Nat.succ_mul]
   lia
theorem o6 {te:ao→M PV} {f:PV→PV} {ρ:ao}: ∀ (l:List PV) (ρ':ao),(∀ e,ρ'.set k e=ρ.set k e)→(∀ y∈l,te (ρ.set k (.val y))= .ret (f y))→jS (aP k) cU te l ρ'= .ret (l.map f)
 |[],ρ',_,_=>rfl
 |y::l,ρ',hρ,h=>by
  unfold jS
  simp only[aP,cU,rZ,if_true]
  rw[hρ,h y Hf,o6 (f:=f) (ρ:=ρ) l _ (fun e=>by rw[List.set_set]) fun y' hy=>h y' (Hj _ hy)]
  rfl
theorem gJ {tt:ao→M Bool} {te:ao→M PV} {p:PV→Bool} {f:PV→PV} {ρ:ao}: ∀ (l:List PV) (ρ':ao),(∀ e,ρ'.set k e=ρ.set k e)→(∀ y∈l,tt (ρ.set k (.val y))= .ret (p y))→(∀ y∈l,p y=true→te (ρ.set k (.val y))= .ret (f y))→jS (aP k) tt te l ρ'= .ret ((l.filter p).map f)
 |[],ρ',_,_,_=>rfl
 |y::l,ρ',hρ,h,h'=>by
  unfold jS
  simp only[aP,rZ]
  have ih:=gJ (p:=p) (f:=f) (ρ:=ρ) l (ρ.set k (.val y)) (fun e=>by rw[List.set_set]) (fun y' hy=>h y' (Hj _ hy)) (fun y' hy=>h' y' (Hj _ hy))
  rw[hρ,h y Hf,rZ]
  cases hp:p y with
  |true=>
   simp only[if_true]
   rw[h' y Hf hp,rZ,ih,List.filter_cons_of_pos hp]
   rfl
  |false=>
   simp only[HY,if_false]
   rw[ih,List.filter_cons_of_neg (by simp[hp])]
section
variable {φ:du}
noncomputable def DX:V→Option Int→Option Int→Hp→VK→Prop:=fun x lo hi H Q=> ∃ z,x= .str z∧z.length≤100000∧Q (.str (Txt.slice z lo hi)) H
theorem part_of (p:IsPart v o): ∃ l:Option (Int×Tok),v=PySem.partValue l∧l.map (·.1)=o:=by
 cases p with
 |none=>exact⟨none,rfl,rfl⟩
 |int i t=>exact⟨some (i,t),rfl,rfl⟩
theorem BK:vG X DX:=by
 intro pZ s σ H x v vl vu lo hi sl Q I rx hs pl pu h
 obtain⟨z,rfl,hz,q⟩:=h
 obtain⟨t,rfl⟩:=rx
 obtain⟨l,rfl,hl⟩:=part_of pl
 obtain⟨u,rfl,hu⟩:=part_of pu
 refine⟨"str",_,F.slot_str_getitem.lookup,typeIs_str _ _ _,wpAny_getItem_str_slice (l:=l) (u:=u) (st:=none) hs rfl ?_⟩
 subst hl hu
 exact(post_val_or_str ⟨HD (Txt.slice_le z _ _) (HD hz fu),fun t' k=>⟨.str (Txt.slice z _ _),H,I.tok _,⟨_,rfl⟩,q⟩⟩)
section
open HT
variable {prog:Program} {w:World} {A:Around} {E:Value→Shared→Prop} {s:Shared}
theorem iN {t sl:Addr} {items:Array Value} {vl vu:Value} {lo hi:Option Int} {Q:Value→Shared→Prop} (ht:IsTup s.heap t items) (hs:s.heap.IsSliceOf sl vl vu .none) (pl:IsPart vl lo) (pu:IsPart vu hi)
  (hw:dq items.size 0 lo=0∧dq items.size items.size hi=items.size) (h:Q (.ref t) s):wpAny (model prog w) A (getItem (.ref t) (.ref sl)) Q E s:=by
 obtain⟨os,hos,hcs,hds⟩:=id hs
 have hTs:s.TypeIs (.ref sl) "slice":=⟨os,hos,hcs⟩
 unfold getItem
 try with_reducible refine wpAny_holding ?_
 first|refine He (Hk ?_)|skip
 refine He (wpAny_sequenceKey ht.typeIs (by decide) ?_)
 refine He (wpAny_callSpecial?_slot (name:=Str.ofString "__getitem__") ht.typeIs PyProof.Rows.slot_tuple_getitem
  (wpAny_call_entry PyProof.Rows.slot_tuple_getitem ht.typeIs entry_tuple_getitem ?_ (args_tuple_getitem _ _)))
 show wpAny _ _ (Builtin.Tuple.tupleItemsOf (.ref t) >>= _) _ _ s
 refine He (tupleItemsOf_ ht ?_)
 refine He (wpAny_typeOf hTs ?_)
 rw[Ig (by decide)]
 refine He (gg hs pl pu ?_)
 have hyes:((((dq items.size 0 lo:Nat):Int)==0&&(1:Int)==1&&(dq items.size items.size hi - dq items.size 0 lo)==items.size)=true):=by
  rw[hw.1,hw.2];simp
 show wpAny _ _ (if(((dq items.size 0 lo:Nat):Int)==0&&(1:Int)==1&&(dq items.size items.size hi - dq items.size 0 lo)==items.size)=true then _ else _) _ _ s
 rw[Ig hyes]
 refine He (m:=Builtin.Tuple.tupleIsExact _) (He (wpAny_typeOf ht.typeIs (Hk ?_)))
 rw[Ig (by decide)]
 refine He (wpAny_rule ?_)
 exact Hk ⟨_,rfl,Hk h⟩
end
noncomputable def DV:V→Option Int→Option Int→Hp→VK→Prop:=fun x lo hi H Q=> ∃ a xs,x= .ref a∧H a=some (.tup xs)∧(HT.dq xs.length 0 lo=0∧HT.dq xs.length xs.length hi=xs.length)∧Q (.ref a) H
theorem zt:vG X DV:=by
 intro pZ s σ H x v vl vu lo hi sl Q I rx hs pl pu h
 obtain⟨a,xs,rfl,hx,hw,q⟩:=h
 cases rx
 obtain⟨aA,r,ht,hz⟩:=I.tuple (dJ.of (K:=X.K) hx)
 have hlen:aA.toArray.size=xs.length:=by rw[Hl];exact r.length.symm
 exact⟨"tuple",_,PyProof.Rows.slot_tuple_getitem.lookup,ht.typeIs,iN ht hs pl pu (by rw[hlen];exact hw) ⟨.ref a,H,I,rfl,q⟩⟩
noncomputable def DZ (K:Frag):V→Option Int→Option Int→Hp→VK→Prop:=fun x lo hi H Q=>D0 K x lo hi H Q∨DV x lo hi H Q∨DX x lo hi H Q
theorem zu:vG X (DZ X.K):=FQ.or (zt.or BK)
noncomputable def qe:PV→Option Int→Option Int→M PV
 | .lst l,lo,hi=>.ret (.lst (jL l lo hi))
 | .tup l,lo,hi=>.ret (.tup (jL l lo hi))
 | .str z,lo,hi=>if z.length≤100000 then .ret (.str (Txt.slice z lo hi)) else .fail
 |_,_,_=>.fail
theorem zk {K:Frag}:GQ (DZ K) qe:=fun φ G O H n R Q y lo hi x pr dm ok r w q=>by
 cases y<;>first|exact w.elim|skip
 ·rename_i z
  rw[r.gV]
  unfold qe at w
  dsimp only at w
  by_cases hc:z.length≤100000
  ·rw[Ig hc] at w;exact .inr (.inr ⟨z,rfl,hc,q.sc ok (.str _) w⟩)
  ·rw[Ih hc] at w;exact w.elim
 ·rename_i l
  obtain⟨p,xs,rfl,h,e⟩:=r.gf
  replace w:R (.tup (jL l lo hi)) n:=w
  by_cases hc:HT.dq l.length 0 lo=0∧HT.dq l.length l.length hi=l.length
  ·rw[sW l lo hi hc] at w
   cases r with
   |full r=>exact .inr (.inl ⟨p,xs,rfl,h,by rw[←e.1];exact hc,q.sc ok r w⟩)
  ·exact .inl (.inr ⟨p,xs,rfl,dJ.of h,by rw[←e.1];exact hc,fun p' hp=>q.tup ok dm hp (pr _ G.pB) (qV e lo hi) w⟩)
 ·rename_i l
  obtain⟨p,xs,rfl,h,e⟩:=r.fi
  exact .inl (.inl ⟨p,xs,rfl,cw.of h,fun p' hp=>q.lst ok dm hp (pr _ G.pB) (qV e lo hi) w⟩)
end
section
variable {φ:du}
section
variable {X:Cx} {e:Expr} {pos:Pos}
noncomputable def EA:PV→M PV
 | .int i=>.ret (.int i)
 | .str x=>.ret (.str x)
 |_=>.fail
noncomputable def Bg.vJ (G:Bg φ) (D:Addr) (hD:D≠G.B):Bg φ where
 B:=G.B
 cP:=fun p=>G.cP p∨p=D
 ok:=fun H n=>G.ok H n∧∃ o,H D=some o
 pB:=.inl G.pB
 keep:=fun H H' n k h=>⟨G.keep H H' n (fun p o z=>k p o (z.imp .inl id)) h.1,by obtain⟨o,e⟩:=h.2;exact⟨o,k D _ (.inl (.inr rfl)) e⟩⟩
 tp:=fun e he=>.inl (G.tp e he)
 tab:=fun H n h=>G.tab H n h.1
 uK:=fun H H' n h h1 h2=>⟨G.uK H H' n h.1 h1 h2,by
  obtain⟨o,e⟩:=h.2
  by_cases z:D∈φ.tabs.map (·.1)
  ·obtain⟨q,hq,e3⟩:=Hu.mp z
   obtain⟨ps,e2,_⟩:=h1 q hq
   exact⟨_,e3▸e2⟩
  ·exact⟨o,h2 D _ z e⟩⟩
 yr:=fun H n p h z=>by
  rcases z with z|z
  ·exact G.yr H n p h.1 z
  ·subst z;exact h.2
 dr:=fun H n m Q E h h0 h1 q=>G.dr H n m Q E h.1 h0 h1 fun d H' d0 d1 e o=>q d H' d0 d1 e ⟨o,by
  obtain⟨u,e2⟩:=h.2
  exact(e D u hD e2).there⟩
end
end
section
variable {X:Cx} {pZ:List (Addr×Obj)} {σ:St} {H:Hp} {s:Shared} {h':Heap}
theorem Inv.za {t':Nat} {wr:List Addr} {T:Addr} (I:Inv X pZ σ H s) (hf: ∀ b∈wr,cJ X pZ H b) (k: ∀ b u,b∉wr→s.heap.get? b=some u→h'.get? b=some u) (hT:s.heap.objs.size≤T)
  (new:dk X.prog X.w (upd H T o) h' T o):Inv X pZ σ (upd H T o) {s with heap:=h',toks:=t'}:=by
 have nT:H T=none:=I.cm.fresh hT
 have neT: ∀ b u,s.heap.get? b=some u→b≠T:=fun b u e z=>absurd (HF (Hz e) (z▸hT)) (Nat.lt_irrefl _)
 have neH: ∀ b u,H b=some u→b≠T:=fun b u e z=>by rw[z,nT] at e;cases e
 have nw: ∀ b u,H b=some u→b∉wr:=fun b u e z=>by rw[(hf b z).1] at e;cases e
 refine I.step (g':=s.gens) (d':=s.drawn) (ch:=wr) (fun b hb=>⟨(hf b hb).2.2.2.1,(hf b hb).2.1,(hf b hb).2.2.2.2.1,(hf b hb).2.2.2.2.2⟩) (fun b u _ _ hc e _=>k b u hc e) (fun b u _ _ hc e _=>⟨u.slots,k b u hc e⟩)
  (fun b u _ e n=>by rw[au (neT b u e)];exact n) (fun b u hc e=>⟨u,k b u hc e⟩) (fun b xs e=>by rw[au (neH b _ e)];exact e) (fun b ob u e=>by rw[au (neH b _ e)];exact e) (fun b ps e=>⟨#[],by rw[au (neH b _ e),e];simp⟩) (fun m hm=>?_) (fun b u e=>?_) I.bare
 ·obtain⟨ob,es,ep,ho,r⟩:=hm
  exact⟨ob,es,ep,k _ ob (fun z=>(hf _ z).2.1 rfl) ho,r⟩
 ·by_cases hb:b=T
  ·subst hb;rw[ay] at e;cases e;exact new
  ·rw[au hb] at e
   refine(I.cm b u e).oG (fun c v hc q=>k c v ?_ q) (fun c q=>by rw[au (neH c _ q)];exact q) fun c xs q=>by rw[au (neH c _ q)];exact q
   rcases hc with z|z
   ·rw[z];exact nw b u e
   ·exact nw c _ z
theorem Inv.zb {t':Nat} {wr:List Addr} (I:Inv X pZ σ H s) (hf: ∀ b∈wr,cJ X pZ H b) (k: ∀ b u,b∉wr→s.heap.get? b=some u→h'.get? b=some u):Inv X pZ σ H {s with heap:=h',toks:=t'}:=by
 have nw: ∀ b u,H b=some u→b∉wr:=fun b u e z=>by rw[(hf b z).1] at e;cases e
 refine I.step (g':=s.gens) (d':=s.drawn) (ch:=wr) (fun b hb=>⟨(hf b hb).2.2.2.1,(hf b hb).2.1,(hf b hb).2.2.2.2.1,(hf b hb).2.2.2.2.2⟩) (fun b u _ _ hc e _=>k b u hc e) (fun b u _ _ hc e _=>⟨u.slots,k b u hc e⟩)
  (fun b u _ e n=>n) (fun b u hc e=>⟨u,k b u hc e⟩) (fun b xs e=>e) (fun b ob u e=>e) (fun b ps e=>⟨#[],by rw[e];simp⟩) (fun m hm=>?_) (fun b u e=>?_) I.bare
 ·obtain⟨ob,es,ep,ho,r⟩:=hm
  exact⟨ob,es,ep,k _ ob (fun z=>(hf _ z).2.1 rfl) ho,r⟩
 ·refine(I.cm b u e).oG (fun c v hc q=>k c v ?_ q) (fun c q=>q) fun c xs q=>q
  rcases hc with z|z
  ·rw[z];exact nw b u e
  ·exact nw c _ z
end
noncomputable def Bi (K:Frag) (a:Addr):It:=
 ⟨fun i H=> ∃ xs x,cw K H a xs∧xs[i]?=some x,fun i H y H'=> ∃ T,y= .ref T∧H T=none∧∀ xs x,cw K H a xs→xs[i]?=some x→H'=upd H T (.tup [.int i,x]),fun i H=> ∃ xs,cw K H a xs∧xs.length≤i⟩
theorem zM (hT:h.get? T=some {cls:=.type "tuple",data:=.seq #[u,v]}) (ru:RelV x u) (rv:RelV y v):dk P w H h T (.tup [x,y]):=
 ⟨by show 2≤sizeLine;decide,[u,v],.cons ru (.cons rv .nil),_,hT⟩
theorem uI {P:Program} {w:World} {K:Frag} {elts:List Expr} {kk:Nat} {pos:Pos} (a e it:Addr) (dz:e≠it):Turn P w K (.Tuple elts kk pos) (Bi K a) [e,it] e (fun i h=>(∃ old,IsEnum h e it i old)∧h.IsListIter it a i) where
 mem:=by simp
 obj:=fun i h st b hb=>by
  obtain⟨⟨old,he⟩,o,ho,hc,hd⟩:=st
  have hb':b=e∨b=it:=by simpa using hb
  rcases hb' with rfl|rfl
  ·exact⟨_,he,fun v z=>by cases z⟩
  ·exact⟨o,ho,fun v z=>by rw[hd] at z;cases z⟩
 keep:=fun i h h' st k=>by
  obtain⟨⟨old,he⟩,o,ho,hc,hd⟩:=st
  exact⟨⟨old,k e (by simp) _ he⟩,o,k it (by simp) _ ho,hc,hd⟩
 item:=by
  intro X hP hw hK hc i pZ s σ H E I hf st hg
  subst hP hw hK
  obtain⟨xs,x,hq,hx⟩:=hg
  obtain⟨aA,rv,p,hz⟩:=I.list hq
  obtain⟨u,hu,ru⟩:=rv.get hx
  obtain⟨⟨old,he⟩,hit⟩:=st
  refine wpAny_pyNext_enum_item he hit p.isList (x:=u) (by simpa using hu) dz fun h1 ho hit1 hT hsz k1=>?_
  refine⟨_,rfl,wpAny_letOwnedTupleGo_enum (s:={s with heap:=h1,toks:=s.toks+1}) ho fun h2 he2 s2=>?_⟩
  have lt: ∀ b o,s.heap.get? b=some o→b≠s.heap.objs.size:=fun b o q=>HL (Hz q)
  have neT:s.heap.objs.size≠e:=fun z=>lt e _ he z.symm
  have hT2:h2.get? s.heap.objs.size=some {cls:=.type "tuple",data:=.seq #[.int i s.toks,u]}:=(s2.2 _ neT).trans hT
  have I2:=I.za (t':=s.toks+1) (h':=h2) (wr:=[e,it]) (T:=s.heap.objs.size) (o:=.tup [.int i,x]) hf (fun b o hb q=>by
   have hb':b≠e∧b≠it:=by simpa using hb
   exact(s2.2 b hb'.1).trans (k1 b o hb'.1 hb'.2 q)) (Hn _) (zM hT2 ⟨_,rfl⟩ ru)
  refine⟨.ref s.heap.objs.size,_,I2,rfl,⟨_,rfl,I.cm.fresh (Hn _),fun ys y hy hyx=>?_⟩,⟨⟨_,by simpa using he2⟩,hit1.at fun o q=>(s2.2 it dz.symm).trans q⟩,fun b hb=>?_⟩
  ·rw[I.qH hy hq,hx] at hyx
   cases hyx
   rfl
  ·have fR:b≠s.heap.objs.size:=by
    have hb':b=e∨b=it:=by simpa using hb
    rcases hb' with rfl|rfl
    ·exact fun z=>neT z.symm
    ·obtain⟨o,ho',_⟩:=hit
     exact lt _ _ ho'
   rw[au fR]
   exact(hf b hb).1
 done:=by
  intro X hP hw hK hc i pZ s σ H E I hf st hg
  subst hP hw hK
  obtain⟨xs,hq,hx⟩:=hg
  obtain⟨aA,rv,p,hz⟩:=I.list hq
  have hl:=rv.length
  obtain⟨⟨old,he⟩,hit⟩:=st
  refine wpAny_pyNext_enum_end (I.ok.hd hc) he hit p.isList (by simp;lia) fun h1 k1=>⟨rfl,I.zb (t':=s.toks) hf fun b o hb q=>k1 b o (fun z=>hb (by simp[z])) q⟩
 self:=fun _ _ _ _ _ st h=>by
  obtain⟨⟨old,he⟩,_⟩:=st
  exact wpAny_pyIter_enum he h
noncomputable def G9 (a b:Addr):It:=
 ⟨fun i H=> ∃ xs ys x y,H a=some (.tup xs)∧H b=some (.tup ys)∧xs[i]?=some x∧ys[i]?=some y,fun i H r H'=> ∃ T,r= .ref T∧H T=none∧∀ xs ys x y,H a=some (.tup xs)→H b=some (.tup ys)→xs[i]?=some x→ys[i]?=some y→H'=upd H T (.tup [x,y]),fun i H=> ∃ xs ys,H a=some (.tup xs)∧H b=some (.tup ys)∧(xs.length≤i∨ys.length≤i)⟩
section
variable {X:Cx} {e e2:Expr} {t1 t2:TE} {elts:List Expr} {kk:Nat} {tpos pos p:Pos} {x:Str}
noncomputable def uk (K:Frag) (ta:TA):TI:=fun σ H R=>ta σ H fun vs H1=> ∃ a xs,vs=[.ref a]∧cw K H1 a xs∧R (Bi K a) H1
theorem Au {pZ:List (Addr×Obj)} {σ:St} {H:Hp} {s:Shared} {R:It→Hp→Prop} {a:Addr} {xs:List V} (I:Inv X pZ σ H s) (ha:cw X.K H a xs) (q:R (Bi X.K a) H):
  wpAny (model X.prog X.w) X.A (call (.type "enumerate") [.ref a]) (fun v s1=>wpAny (model X.prog X.w) X.A (pyIter v) (FA X pZ σ (.Tuple elts kk tpos) R) X.xe s1) X.xe s:=by
 obtain⟨aA,rv,p1,hz⟩:=I.list ha
 refine call_enumerate_list p1.isList fun h1 he hit hsz k1=>?_
 have I1:Inv X pZ σ H {s with heap:=h1}:=I.kept (t':=s.toks) k1
 refine wpAny_pyIter_enum (s:={s with heap:=h1}) he ?_
 refine⟨_,[s.heap.objs.size+1,s.heap.objs.size],_,Bi X.K a,H,rfl,I1,uI a _ _ (Nat.succ_ne_self _),⟨⟨_,he⟩,hit⟩,fun c hc=>?_,q⟩
 have hle:s.heap.objs.size≤c:=by
  rcases Hr.mp hc with h|hc
  ·rw[h];exact Nat.le_succ _
  ·rw[HK.mp hc];exact Hn _
 exact I.pj hle (I.cm.fresh hle)
theorem tZ (hg:Gl X x) (hm:X.mg x=none) (hv:bootBuiltins x=some (.type "enumerate")) (ha:PA X [e] ta) (hn:x≠"__name__":=by decide) (pd:(x==("__debug__":Str))=false:=by decide)
  (he:starEach [e] X.env=(false,eval e X.env)::starEach [] X.env:=by rfl) (kO:(backTo pos (starEach [] X.env)).any (·.1)=false:=by rfl):PI X (.Tuple elts kk tpos) (.Call (.Name x p) [e] [] pos) (uk X.K ta):=by
 intro pZ s σ H R I h
 refine wpAny_Call_Name_kw (ke I hg hm hv ?_ hn pd)
 refine PyProof.Rows.callWith_type1 (bF (ha pos pZ s σ H _ I h) fun us s1 ⟨vs,H1,I1,r1,q1⟩=>?_) he kO
 obtain⟨a,xs,rfl,h1,q⟩:=q1
 obtain⟨u,rfl,ru⟩:=r1.one
 cases ru
 exact Au I1 h1 q
end
section
variable {φ:du}
noncomputable def y6 (l1 l2:List PV):List PV:=List.zipWith (fun x y=>PV.tup [x,y]) l1 l2
inductive Hb (G:Bg φ) (O:Addr→Prop) (H:Hp):List PV→It→Prop where
 |zip {a b:Addr} {xs ys:List V} {l1 l2:List PV} (na: ¬ O a) (ha:H a=some (.tup xs)) (ra:aO G.B O H l1 xs) (nb: ¬ O b) (hb:H b=some (.tup ys)) (rb:aO G.B O H l2 ys):Hb G O H (y6 l1 l2) (G9 a b)
end
noncomputable def GA (a b:Addr):It:=
 ⟨fun i H=> ∃ xs ys x y,H a=some (.lst xs)∧H b=some (.lst ys)∧xs[i]?=some x∧ys[i]?=some y,fun i H r H'=> ∃ T,r= .ref T∧H T=none∧∀ xs ys x y,H a=some (.lst xs)→H b=some (.lst ys)→xs[i]?=some x→ys[i]?=some y→H'=upd H T (.tup [x,y]),fun i H=> ∃ xs ys,H a=some (.lst xs)∧H b=some (.lst ys)∧(xs.length≤i∨ys.length≤i)⟩
abbrev lit (a:Addr):Obj:={cls:=.type "list_iterator",data:=.fields #[.ref a,.int 0 0]}
section
variable {φ:du}
section
variable {X:Cx} {e:Expr}
def v9 (a b c:Int):Prop:=0 < c∧c < 1000000000∧-1000000000000 < a∧a < 1000000000000∧-1000000000000 < b∧b < 1000000000000
end
end
section
variable {φ:du}
instance (a b c:Int):Decidable (v9 a b c):=by unfold v9;infer_instance
end
theorem kc (h0:0≤j) (h1:j < 2 ^ 63):kI i j:=by
 have e:(2:Int) ^ 63=9223372036854775808:=by decide
 have e2:(2:Int) ^ 64=18446744073709551616:=by decide
 rw[e] at h1
 exact .inr ⟨by rw[e2];lia,by rw[e2];lia⟩
theorem gH (h0:0≤i) (h1:i < 2 ^ 63):kI i j:=by
 have e:(2:Int) ^ 63=9223372036854775808:=by decide
 have e2:(2:Int) ^ 64=18446744073709551616:=by decide
 rw[e] at h1
 exact .inl ⟨by rw[e2];lia,by rw[e2];lia⟩
theorem vF (x:Int) (ns:List Int):ja ((x::ns).map V.int) 0=some (.int x):=(pQ (j:=0) rfl:ja ((x::ns).map V.int) ((0:Nat):Int)=some (.int x))
theorem yB (ns:List Int):jK (ns.map V.int) none (some 63)=(ns.take 63).map V.int:=by
 unfold jK
 rw[HT.hW]
 have e:HT.dq (ns.map V.int).length (ns.map V.int).length (some 63)=min 63 (ns.map V.int).length:=HT.jn _ _ 63
 rw[e,List.drop_zero,Nat.sub_zero,Hg,←List.map_take]
 congr 1
 rw[List.take_eq_take_iff]
 lia
theorem yb {K:Frag} {a:Addr} {xs:List V} {g:TG} {tb:TS} {D:Ends} {σ:St} {H:Hp} (Pv:Nat→L2.St→Hp→Prop) (h0:Pv 0 σ H) (hl: ∀ i σ H,i≤xs.length→Pv i σ H→cw K H a xs)
  (hs: ∀ i x σ H T,xs[i]?=some x→H T=none→Pv i σ H→g (.ref T) σ (upd H T (.tup [.int i,x])) fun σ2 H2=>tb {D with nx:=Pv (i+1),ct:=Pv (i+1),bk:=D.nx} σ2 H2) (hd: ∀ σ H,Pv xs.length σ H→D.nx σ H):
  ∃ W:Nat→Nat→L2.St→Hp→Prop,(∃ m,W 0 m σ H)∧∀ i m σ H,W i m σ H→
   ((Bi K a).stop i H∧D.nx σ H)∨((Bi K a).go i H∧∃ N:L2.St→Hp→Prop,(∀ σ' H',N σ' H'→∃ m',m' < m∧W (i+1) m' σ' H')∧∀ x H',(Bi K a).oC i H x H'→g x σ H' fun σ2 H2=>tb {D with nx:=N,ct:=N,bk:=D.nx} σ2 H2):=by
 refine⟨fun i m σ H=>m=xs.length - i∧i≤xs.length∧Pv i σ H,⟨xs.length,by simp,HJ _,h0⟩,?_⟩
 rintro i m σ H ⟨rfl,hi,p⟩
 have q:=hl i σ H hi p
 by_cases fR:i < xs.length
 ·refine .inr ⟨⟨xs,xs[i],q,by simp[fR]⟩,Pv (i+1),fun σ' H' p'=>⟨xs.length - (i+1),by lia,rfl,fR,p'⟩,fun x H' y=>?_⟩
  obtain⟨T,rfl,hT,y⟩:=y
  rw[y xs xs[i] q (by simp[fR])]
  exact hs i _ σ H T (by simp[fR]) hT p
 ·have e:i=xs.length:=by lia
  subst e
  exact .inl ⟨⟨xs,q,Hn _⟩,hd σ H p⟩
section
variable {X:Cx} {x:Str} {p pos tpos:Pos} {e:Expr} {elts:List Expr} {kk:Nat}
theorem wU (hg:Gl X x) (hm:X.mg x=none) (hv:bootBuiltins x=some (.type "enumerate")) (ha:PA X [e] ta) (hn:x≠"__name__":=by decide) (pd:(x==("__debug__":Str))=false:=by decide)
  (he:starEach [e] X.env=(false,eval e X.env)::starEach [] X.env:=by rfl) (kO:(backTo pos (starEach [] X.env)).any (·.1)=false:=by rfl):PI X (.Tuple elts kk tpos) (.Call (.Name x p) [e] [] pos) (uk X.K ta):=tZ hg hm hv ha hn pd he kO
end
mutual
def toD:PV→Option PyData
 | .bX=>some .none
 | .bl b=>some (.bool b)
 | .int i=>some (.int i)
 | .str x=>some (.str x)
 | .tup l=>(m9 l).map .tuple
 | .lst l=>(m9 l).map .list
 |_=>none
def m9:List PV→Option (List PyData)
 |[]=>some []
 |y::l=>(toD y).bind fun d=>(m9 l).map (d:: ·)
end
theorem j3: ∀ (l:List PV) (xs:List V) (aA:List Value) (ds:List PyData),l.length=xs.length→(∀ (i:Nat) (y:PV) (x:V),l[i]?=some y→xs[i]?=some x→∀ v d,RelV x v→toD y=some d→∃ as,Reads h v d as)→Vals xs aA→m9 l=some ds→∃ as,ReadsAll h aA ds as
 |[],[],_,ds,_,_,.nil,e=>by
  simp only[m9] at e
  cases e
  exact⟨_,.nil⟩
 |y::l,x::xs,_,ds,hl,ih,.cons r rs,e=>by
  simp only[m9] at e
  cases e1:toD y with
  |none=>rw[e1] at e;cases e
  |some d=>
   rw[e1] at e
   cases e2:m9 l with
   |none=>rw[e2] at e;cases e
   |some dl=>
    rw[e2] at e
    cases e
    obtain⟨as,r1⟩:=ih 0 y x rfl rfl _ d r e1
    obtain⟨bs,r2⟩:=j3 l xs _ dl (by simpa using hl) (fun i y' x' hy hx=>ih (i+1) y' x' hy hx) rs e2
    exact⟨_,.cons r1 r2⟩
 |[],_::_,_,_,hl,_,_,_=>by cases hl
 |_::_,[],_,_,hl,_,_,_=>by cases hl
theorem wB (ok:iU P w H h) (r:Rep B O H y x): ∀ v d,RelV x v→toD y=some d→∃ as,Reads h v d as:=by
 induction r with
 |bX=>
  intro v d rv e
  simp only[toD] at e
  cases e
  cases rv
  exact⟨_,.none⟩
 |bl b=>
  intro v d rv e
  simp only[toD] at e
  cases e
  cases rv
  exact⟨_,.bool b⟩
 |int i=>
  intro v d rv e
  simp only[toD] at e
  cases e
  obtain⟨t,rfl⟩:=rv
  exact⟨_,.int i t⟩
 |str z=>
  intro v d rv e
  simp only[toD] at e
  cases e
  obtain⟨t,rfl⟩:=rv
  exact⟨_,.str z t⟩
 |tup hO hp hl hr ih=>
  intro v d rv e
  simp only[toD] at e
  obtain⟨ds,e1,rfl⟩:=HG.mp e
  cases rv
  obtain⟨_,aA,rs,pT⟩:=ok _ _ hp
  obtain⟨o,ho,hc,n,hd⟩:=pT.is
  obtain⟨as,ra⟩:=j3 _ _ aA ds hl ih rs e1
  exact⟨_,.tuple ho hc hd (by simpa using ra)⟩
 |lst hO hp hl hr ih=>
  intro v d rv e
  simp only[toD] at e
  obtain⟨ds,e1,rfl⟩:=HG.mp e
  cases rv
  obtain⟨_,aA,n,rs,ho⟩:=ok _ _ hp
  obtain⟨as,ra⟩:=j3 _ _ aA ds hl ih rs e1
  exact⟨_,.list ho rfl rfl (by simpa using ra)⟩
 |iO hO hp hk hr ih=>
  intro v d rv e
  simp only[toD] at e
  cases e
 |rE hO hp=>
  intro v d rv e
  simp only[toD] at e
  cases e
 |bV=>
  intro v d rv e
  simp only[toD] at e
  cases e
section
variable {X:Cx}
def hM (d:PyData):Prop:=d.showable=true∧d.hasDict=false∧d.shown.length≤1000000∧d.depth≤40
noncomputable def BQ:List V→Hp→VK→Prop:=fun xs H Q=> ∃ (B:Addr) (O:Addr→Prop) (l:List PV) (x:V) (d:PyData),xs=[x]∧Rep B O H (.tup l) x∧toD (.tup l)=some d∧hM d∧Q (.str d.shown) H
theorem tj (hg:X.A.guards=some []) (hu:X.A.units+64 < cLine):eR X (.builtin "repr") BQ:=by
 intro pZ s σ H xs us Q I r h
 obtain⟨B,O,l,x,d,rfl,rp,hd,⟨h1,h2,h3,h4⟩,q⟩:=h
 obtain⟨u,rfl,rx⟩:=vals1 r
 obtain⟨as,rd⟩:=wB I.cm rp u d rx hd
 simp only[toD] at hd
 obtain⟨ds,e1,rfl⟩:=HG.mp hd
 have hz:(PyData.tuple ds).shown.length≤sizeLine:=by rw[HW];lia
 have rd0:=rd
 cases rd with
 |tuple g1 g2 g3 g4=>
  rename_i a o vs n
  have hz':(tupleText (PyData.shownAll ds)).length≤sizeLine:=by simpa only[PyData.shown] using hz
  obtain⟨bs,hb,hk⟩:=ReprAllK.of_readsAll (prog:=X.prog) (w:=X.w) g4 (by simpa[PyData.showable] using h1) (fun hx=>absurd hx (by simpa[PyData.hasDict] using h2)) (fun t ht=>HD (tupleText_mem_le ht) hz')
  have hna:a∉bs:=not_mem_of_deeper rd0 (by simp only[PyData.depth];lia) hb
  simp only[PyData.depth] at h4
  refine call_repr_slot (by lia) ⟨o,g1,g2⟩ PySem.F.slot_tuple_repr ?_
  refine call_tuple_reprK (h₀:=s.heap) g1 g2 g3 hna hk (g:=[]) (by first|exact hg|simpa[Around.in1] using hg) (fun b _=>Clear.nil b) (by show X.A.units+1+_ < cLine;lia) (fun _ _ e=>e) (fun h' u tk k=>⟨_,_,rfl,?_⟩) hz'
  exact⟨.str _,H,I.kept k,⟨_,rfl⟩,by simpa only[PyData.shown] using q⟩
end
instance (d:PyData):Decidable (hM d):=by unfold hM;infer_instance
section
variable {X:Cx} {φ:du} {st:Stmt}
noncomputable def intsOf:List PV→Option (List Int)
 |[]=>some []
 | .int b::r=>(intsOf r).map (b:: ·)
 |_=>none
theorem ints_rep: ∀ {l:List PV} {xs:List V} {bs:List Int},aO B O H l xs→intsOf l=some bs→xs=bs.map V.int
 |[],xs,bs,h,e=>by simp[intsOf] at e;subst e;exact h.nil_inv
 |y::l,xs,bs,h,e=>by
  cases y<;>simp[intsOf] at e
  rename_i i
  obtain⟨bs',e1,rfl⟩:=e
  obtain⟨x,t,rfl,h1,h2⟩:=h.cons_inv
  cases h1
  rw[Hq,ints_rep h2 e1]
end
section
open PySem.W (KasT kas_rev kas_asc kas_desc kas_tail3 kas_descPart kas_count kas_place kas_bin kas_sort)
section
variable (r:Nat→Int)
noncomputable def runK {α:Type}:KasT α→α
 | .ret a=>a
 | .ask i j k=>runK (k (decide (r i < r j)))
theorem run_bind (f:α→KasT β): ∀ t:KasT α,runK r (t.bind f)=runK r (f (runK r t))
 | .ret a=>rfl
 | .ask i j k=>run_bind f (k (decide (r i < r j)))
theorem lE [Decidable c] (a b:KasT α):runK r (if c then a else b)=if c then runK r a else runK r b:=by split<;>rfl
noncomputable def kg (p:Array Nat) (k:Nat):Int:=r (p.getD k 0)
def rF (p:Array Nat) (m:Nat):Prop:= ∀ i j,i < j→j < m→kg r p i < kg r p j
def yY (p:Array Nat):Prop:= ∀ i j,i < p.size→j < p.size→i≠j→kg r p i≠kg r p j
variable {r}
theorem vL (h1:1≤n) (h:rF r p n) (h':kg r p (n - 1) < kg r p n):rF r p (n+1):=fun i j hij hj=>by
 by_cases e:j=n
 ·subst e
  by_cases e2:i=j - 1
  ·subst e2;exact h'
  ·exact Int.lt_trans (h i (j - 1) (by lia) (by lia)) h'
 ·exact h i j hij (by lia)
theorem tD (u:yY r p): ∀ (f n:Nat),1≤n→n+f≤p.size→rF r p n→∃ m,runK r (kas_asc p f n)=m∧n≤m∧m≤n+f∧rF r p m∧(m < n+f→kg r p m < kg r p (m - 1))
 |0,n,h1,hz,h=>⟨n,rfl,by lia,by lia,h,fun z=>by lia⟩
 |f+1,n,h1,hz,h=>by
  unfold kas_asc
  show ∃ m,runK r (if decide (r (p.getD n 0) < r (p.getD (n - 1) 0))=true then KasT.ret n else kas_asc p f (n+1))=m∧_
  by_cases c:r (p.getD n 0) < r (p.getD (n - 1) 0)
  ·rw[Ig (by simpa using c)]
   exact⟨n,rfl,by lia,by lia,h,fun _=>c⟩
  ·rw[Ih (by simpa using c)]
   have ne:=u (n - 1) n (by lia) (by lia) (by lia)
   have lt:kg r p (n - 1) < kg r p n:=by
    have: ¬ kg r p n < kg r p (n - 1):=c
    lia
   obtain⟨m,e,a1,a2,a3,a4⟩:=tD u f (n+1) (by lia) (by lia) (vL h1 h lt)
   exact⟨m,e,by lia,by lia,a3,fun z=>a4 (by lia)⟩
def Fg (r:Nat→Int) (p:Array Nat) (m:Nat):Prop:= ∀ i j,i < j→j < m→kg r p j < kg r p i
theorem qT (h1:1≤n) (h:Fg r p n) (h':kg r p n < kg r p (n - 1)):Fg r p (n+1):=fun i j hij hj=>by
 by_cases e:j=n
 ·subst e
  by_cases e2:i=j - 1
  ·subst e2;exact h'
  ·exact Int.lt_trans h' (h i (j - 1) (by lia) (by lia))
 ·exact h i j hij (by lia)
theorem ur (u:yY r p): ∀ (f n:Nat),1≤n→n+f≤p.size→Fg r p n→∃ m,runK r (kas_desc f p n 0)=(p,m,0)∧n≤m∧m≤n+f∧Fg r p m
 |0,n,h1,hz,h=>⟨n,rfl,by lia,by lia,h⟩
 |f+1,n,h1,hz,h=>by
  unfold kas_desc
  by_cases c:r (p.getD n 0) < r (p.getD (n - 1) 0)
  ·obtain⟨m,e,a1,a2,a3⟩:=ur u f (n+1) (by lia) (by lia) (qT h1 h c)
   refine⟨m,?_,by lia,by lia,a3⟩
   show runK r (if decide (r (p.getD n 0) < r (p.getD (n - 1) 0))=true then _ else _)=_
   rw[Ig (by simpa using c),Ih (by lia)]
   exact e
  ·have ne:=u (n - 1) n (by lia) (by lia) (by lia)
   have lt:r (p.getD (n - 1) 0) < r (p.getD n 0):=by
    have n1: ¬ kg r p n < kg r p (n - 1):=c
    have n2:kg r p (n - 1) < kg r p n:=by lia
    exact n2
   refine⟨n,?_,by lia,by lia,h⟩
   show runK r (if decide (r (p.getD n 0) < r (p.getD (n - 1) 0))=true then _ else _)=_
   rw[Ih (by simpa using c)]
   show runK r (if decide (r (p.getD (n - 1) 0) < r (p.getD n 0))=true then _ else _)=_
   rw[Ig (by simpa using lt)]
   rfl
theorem BN (hm:m≤p.size):(kas_rev p 0 m).getD k 0=if k < m then p.getD (m - 1 - k) 0 else p.getD k 0:=by
 have e:=getElem?_mirror_all (xs:=p) (i:=0) (j:=m) hm k
 unfold kas_rev
 rw[HE,e]
 by_cases c:k < m
 ·rw[Ig ⟨HJ _,c⟩,Ig c,HE]
  congr 2
  lia
 ·rw[Ih (fun z=>c z.2),Ih c,HE]
theorem jZ (hm:m≤p.size) (k:Nat):kg r (kas_rev p 0 m) k=if k < m then kg r p (m - 1 - k) else kg r p k:=by
 unfold kg
 rw[BN hm]
 by_cases c:k < m
 ·rw[Ig c,Ig c]
 ·rw[Ih c,Ih c]
theorem tS (hm:m≤p.size) (u:yY r p):yY r (kas_rev p 0 m):=fun i j hi hj ne=>by
 have hz:(kas_rev p 0 m).size=p.size:=mirror_size _ _ _ _
 rw[hz] at hi hj
 rw[jZ hm,jZ hm]
 split<;>split
 ·exact u _ _ (by lia) (by lia) (by lia)
 ·exact u _ _ (by lia) (by lia) (by lia)
 ·exact u _ _ (by lia) (by lia) (by lia)
 ·exact u _ _ hi hj ne
theorem zy (hm:m≤p.size) (h:Fg r p m):rF r (kas_rev p 0 m) m:=fun i j hij hj=>by
 rw[jZ hm,jZ hm,Ig (by lia),Ig hj]
 exact h (m - 1 - j) (m - 1 - i) (by lia) (by lia)
theorem count_is (u:yY r p) (h2:1≤p.size): ∃ m p',runK r (kas_count p.size p)=(m,p')∧1≤m∧m≤p.size∧p'.size=p.size∧p'.Perm p∧yY r p'∧rF r p' m:=by
 unfold kas_count
 rw[run_bind]
 obtain⟨n,e,a1,a2,a3,a4⟩:=tD u (p.size - 1) 1 (by lia) (by lia) (fun i j hij hj=>by lia)
 rw[e]
 by_cases c1:n=p.size
 ·rw[Ig (by simpa using c1)]
  exact⟨n,p,rfl,a1,by lia,rfl,.refl _,u,a3⟩
 ·rw[Ih (by simpa using c1)]
  by_cases c2:n > 1
  ·rw[Ig c2]
   have lt:r (p.getD 0 0) < r (p.getD (n - 1) 0):=a3 0 (n - 1) (by lia) (by lia)
   refine⟨n,p,?_,a1,by lia,rfl,.refl _,u,a3⟩
   show runK r (if decide (r (p.getD 0 0) < r (p.getD (n - 1) 0))=true then _ else _)=_
   rw[Ig (by simpa using lt)]
   rfl
  ·rw[Ih c2]
   have en:n=1:=by lia
   subst en
   have lt:=a4 (by lia)
   unfold kas_descPart
   rw[run_bind]
   obtain⟨m,e2,b1,b2,b3⟩:=ur u (p.size - (1+1)) (1+1) (by lia) (by lia) (qT (Hn 1) (fun i j hij hj=>by lia) lt)
   rw[e2]
   rw[Ih (by show ¬ (0 > 0);lia)]
   unfold kas_tail3
   rw[run_bind]
   have hz:(kas_rev p 0 m).size=p.size:=mirror_size _ _ _ _
   obtain⟨m',e3,d1,d2,d3,d4⟩:=tD (tS (m:=m) (by lia) u) (p.size - m) m (by lia) (by rw[hz];lia) (zy (by lia) b3)
   rw[e3]
   exact⟨m',kas_rev p 0 m,rfl,by lia,by lia,hz,mirror_perm _ _ _ _,tS (by lia) u,d3⟩
theorem mq (u:yY r p) (hk:k < p.size) (h:rF r p k): ∀ (f l q:Nat),q≤l+f→q≤k→l≤q→(∀ i,i < l→kg r p i < kg r p k)→(∀ i,q≤i→i < k→kg r p k < kg r p i)→∃ m,runK r (kas_place p k f l q)=m∧m≤k∧(∀ i,i < m→kg r p i < kg r p k)∧∀ i,m≤i→i < k→kg r p k < kg r p i
 |0,l,q,hf,hq,hl,lo,hi=>⟨l,rfl,by lia,lo,fun i h1 h2=>hi i (by lia) h2⟩
 |f+1,l,q,hf,hq,hl,lo,hi=>by
  unfold kas_place
  rw[lE]
  by_cases c:l ≥ q
  ·rw[Ig c]
   exact⟨l,rfl,by lia,lo,fun i h1 h2=>hi i (by lia) h2⟩
  ·rw[Ih c]
   show ∃ m,runK r (if decide (r (p.getD k 0) < r (p.getD ((l+q) / 2) 0))=true then _ else _)=m∧_
   have hmid:(l+q) / 2 < q:=by lia
   by_cases d:r (p.getD k 0) < r (p.getD ((l+q) / 2) 0)
   ·rw[Ig (by simpa using d)]
    refine mq u hk h f l ((l+q) / 2) (by lia) (by lia) (by lia) lo fun i h1 h2=>?_
    by_cases e:i=(l+q) / 2
    ·subst e;exact d
    ·exact Int.lt_trans d (h _ i (by lia) h2)
   ·rw[Ih (by simpa using d)]
    have ne:=u ((l+q) / 2) k (by lia) hk (by lia)
    have lt:kg r p ((l+q) / 2) < kg r p k:=by
     have d': ¬ kg r p k < kg r p ((l+q) / 2):=d
     lia
    refine mq u hk h f ((l+q) / 2+1) q (by lia) hq (by lia) (fun i h1=>?_) hi
    by_cases e:i=(l+q) / 2
    ·subst e;exact lt
    ·exact Int.lt_trans (h i _ (by lia) (by lia)) lt
theorem yI (hk:k < p.size) (hl:l≤k):kg r (bubble p k (k - l)) i=if i=l then kg r p k else if l < i∧i≤k then kg r p (i - 1) else kg r p i:=by
 have e:=getElem?_bubble (xs:=p) hk (k - l) (by lia) i
 unfold kg
 rw[HE,e,show k - (k - l)=l by lia]
 by_cases c1:i=l
 ·rw[Ig c1,Ig c1,HE]
 ·rw[Ih c1,Ih c1]
  by_cases c2:l < i∧i≤k
  ·rw[Ig c2,Ig c2,HE]
  ·rw[Ih c2,Ih c2,HE]
theorem yK: ∀ (f:Nat) (p:Array Nat) (k:Nat),k+f=p.size→yY r p→rF r p k→∃ p',runK r (kas_bin f p k)=p'∧p'.size=p.size∧p'.Perm p∧rF r p' p.size
 |0,p,k,hz,u,h=>⟨p,rfl,rfl,.refl _,by rw[←hz];exact h⟩
 |f+1,p,k,hz,u,h=>by
  unfold kas_bin
  rw[run_bind]
  obtain⟨l,e,a1,a2,a3⟩:=mq u (show k < p.size by lia) h k 0 k (by lia) (Hn _) (HJ _) (fun i hi=>by lia) (fun i h1 h2=>by lia)
  rw[e]
  have hb:(bubble p k (k - l)).size=p.size:=bubble_size _ _ _
  have at_:=fun i=>yI (r:=r) (p:=p) (k:=k) (l:=l) (i:=i) (by lia) a1
  have u':yY r (bubble p k (k - l)):=fun i j hi hj ne=>by
   rw[hb] at hi hj
   rw[at_ i,at_ j]
   repeat' split
   all_goals first|(exfalso;lia)|exact u _ _ (by lia) (by lia) (by lia)
  have h':rF r (bubble p k (k - l)) (k+1):=fun i j hij hj=>by
   rw[at_ i,at_ j]
   repeat' split
   all_goals first|(exfalso;lia)|exact a2 _ (by lia)|exact a3 _ (by lia) (by lia)|exact h _ _ (by lia) (by lia)
  obtain⟨p',e',b1,b2,b3⟩:=yK f (bubble p k (k - l)) (k+1) (by rw[hb];lia) u' h'
  exact⟨p',e',b1.trans hb,b2.trans (bubble_perm _ _ _),by rw[hb] at b3;exact b3⟩
theorem zp (hn:1≤n) (u: ∀ i j,i < n→j < n→i≠j→r i≠r j): ∃ p,runK r (kas_sort n)=p∧p.size=n∧p.Perm (List.toArray (List.range n))∧rF r p n:=by
 have hz:(List.toArray (List.range n)).size=n:=by simp
 have u0:yY r (List.toArray (List.range n)):=fun i j hi hj ne=>by
  rw[hz] at hi hj
  unfold kg
  have e: ∀ k,k < n→(List.toArray (List.range n)).getD k 0=k:=fun k hk=>by
   rw[HE]
   simp[hk]
  rw[e i hi,e j hj]
  exact u i j hi hj ne
 unfold kas_sort
 rw[run_bind]
 obtain⟨m,p',e,a1,a2,a3,a4,a5,a6⟩:=count_is u0 (by rw[hz];exact hn)
 rw[hz] at e a2 a3
 rw[e]
 dsimp only
 rw[lE]
 by_cases c:m < n
 ·rw[Ig c,Nat.max_eq_left a1]
  obtain⟨p2,e2,b1,b2,b3⟩:=yK (n - m) p' m (by lia) a5 a6
  rw[a3] at b1 b3
  exact⟨p2,e2,b1,b2.trans a4,b3⟩
 ·rw[Ih c]
  have:m=n:=by lia
  subst this
  exact⟨p',rfl,a3,a4,a6⟩
end
end
def AM (h:Heap) (mg:Str→Option Value):Prop:= ∃ bm ob,mg "__builtins__"=some (.ref bm)∧bm≠builtinsNs∧h.get? bm=some ob∧ob.cls= .type "module"∧ob.dict=some builtinsNs∧ob.data= .plain
abbrev qS:Obj:={cls:=.none,data:=.fields #[]}
theorem vh {K:Frag} {a:Addr} {tbs:List Addr} {x:Str} {s:Shared} {vs:List Value}
  (KX:K.In s.heap) (hns:s.heap.Ns mainGlobals mg) (hbn:s.heap.Ns builtinsNs mb) (hbb: ∀ x:Str,x≠"__name__"→mb x=bootBuiltins x) (hlim:s.heap.NoLimit) (hbm:AM s.heap mg) (hg:s.gens= #[])
  (ha:s.heap.get? a=some {cls:=.type "list",data:=.seq vs.toArray}) (hi:IntsAre vs ns) (hl:ns.length≤sizeLine) (hr:dA k callerA)
  (ht: ∀ tb∈tbs,isCodeTable s.heap tb∧s.heap.get? tb=some qS∧K.lookup tb=none)
  (F: ∀ base:Heap,K.In base→base.Ns mainGlobals mg→AM base mg→bu P w K mg base CX k fa fd [x] sp) (hbind: ∀ (s:Shared) (u:Value),BindsTo s fd ⟨[u],[]⟩ [(x,u)])
  (hsp: ∀ H:Hp,(∀ tb∈tbs,H tb=some (.lV #[]))→cw K H a (ns.map V.int)→sp [.ref a] H (fun v _=>v= .bl true) fun _ _ _=>False)
  (hCX: ∀ H e s',CX [] H s (fun _ _ _=>False) e s'→False):
  codeAny (model P w) callerA (.call (.ref fa) ⟨[.ref a],[]⟩) (fun r s'=>r= .ok (.ret (.bool true))∧OldK s.heap s'.heap∧s'.os=s.os∧AllBare s'.gens) s:=by
 have hta:a∉tbs:=fun z=>by
  have gt:=(ht a z).2.1
  rw[ha] at gt
  cases gt
 let so:HO:=.lx {cls:=.type "list",data:=.seq vs.toArray} (.lst (ns.map V.int))
 let H:Hp:=fun b=>if b∈tbs then some (.lV #[]) else if b=a∧K.lookup a=none then some so else none
 have Ht: ∀ tb∈tbs,H tb=some (.lV #[]):=fun tb z=>Ig z
 have cases_: ∀ b u,H b=some u→(b∈tbs∧u= .lV #[])∨(b=a∧K.lookup a=none∧u=so):=fun b u e=>by
  by_cases c1:b∈tbs
  ·rw[Ht b c1] at e
   cases e
   exact .inl ⟨c1,rfl⟩
  ·by_cases c2:b=a∧K.lookup a=none
   ·rw[show H b=some so from(Ih c1).trans (Ig c2)] at e
    cases e
    exact .inr ⟨c2.1,c2.2,rfl⟩
   ·rw[show H b=none from(Ih c1).trans (Ih c2)] at e
    cases e
 have cm:iU P w H s.heap:=fun b u e=>by
  rcases cases_ b u e with⟨z,rfl⟩|⟨rfl,_,rfl⟩
  ·exact(ht b z).2.1
  ·exact⟨ha,by rw[Hg];exact hl,vs,_,jW hi,ha⟩
 have free': ∀ {b:Addr} {o:Obj},s.heap.get? b=some o→o≠qS→o≠{cls:=.type "list",data:=.seq vs.toArray}→H b=none:=fun {b o} e n1 n2=>by
  cases q:H b with
  |none=>rfl
  |some u=>
   rcases cases_ b u q with⟨z,_⟩|⟨rfl,_,_⟩
   ·rw[(ht b z).2.1] at e;cases e;exact(n1 rfl).elim
   ·rw[ha] at e;cases e;exact(n2 rfl).elim
 have free: ∀ {b:Addr} {o:Obj} {es:Array DictEntry} {ep:Nat},s.heap.get? b=some o→o.data= .dict es ep→H b=none:=fun {b o es ep} e d=>free' e (fun z=>by rw[z] at d;cases d) (fun z=>by rw[z] at d;cases d)
 have nsK: ∀ {b:Addr} {m:Str→Option Value},s.heap.Ns b m→(o9 s.heap H).Ns b m:=fun {b m} ⟨o,es,ep,e,d,r⟩=>⟨o,es,ep,mM e (free e d),d,r⟩
 have hKb:K.In (o9 s.heap H):=fun b o e=>mM (KX b o e) (by
  cases q:H b with
  |none=>rfl
  |some u=>
   rcases cases_ b u q with⟨z,_⟩|⟨rfl,hk,_⟩
   ·rw[(ht b z).2.2] at e;cases e
   ·rw[hk] at e;cases e)
 have hBI:AM (o9 s.heap H) mg:=by
  obtain⟨bm,ob,b1,b2,b3,b4,b5,b6⟩:=hbm
  exact⟨bm,ob,b1,b2,mM b3 (free' b3 (fun z=>by rw[z] at b6;cases b6) (fun z=>by rw[z] at b6;cases b6)),b4,b5,b6⟩
 have md:Mod K mg (o9 s.heap H):=⟨hKb,nsK hns,⟨mb,nsK hbn,hbb⟩,let ⟨mc,h1,h2⟩:=hlim;⟨mc,nsK h1,h2⟩⟩
 have e0:vy P w K mg (o9 s.heap H) callerA [] s H:=⟨rfl,md,fun b o e=>zV e,Nat.le_of_eq (vg _ _),trivial,fun b hb=>(nomatch (show b∈([]:List Addr) from hb)),cm,.of_eq hg⟩
 have sq:cw K H a (ns.map V.int):=by
  cases hk:K.lookup a with
  |some o=>
   have e:=KX a o hk
   rw[ha] at e
   cases e
   exact .inr ⟨_,vs.toArray,_,hk,rfl,rfl,rfl,by rw[Hl,hi.length];exact hl,by simpa using jW hi⟩
  |none=>exact .inl (.inr ⟨_,(Ih hta).trans (Ig ⟨rfl,hk⟩)⟩)
 refine codeAny_mono ((F _ hKb (nsK hns) hBI).run callerA [] s H ⟨[.ref a],[]⟩ [.ref a] [.ref a] _ _ hr e0 (hbind s (.ref a)) (.cons rfl .nil) (hsp H Ht sq)) fun r s' h=>?_
 match r,h with
 | .error e,h=>exact(hCX H e s' h).elim
 | .ok (.ret u),h=>
  obtain⟨v,H',os,bare,un,hok',r',q⟩:=h
  obtain rfl:v= .bl true:=q
  obtain rfl:u=Value.bool true:=r'
  have kept: ∀ b o,b∉tbs→s.heap.get? b=some o→s'.heap.get? b=some o:=fun b o nb e=>by
   cases qb:H b with
   |none=>exact un.keep b o e qb (fun z=>nomatch (show b∈([]:List Addr) from z)) (fun z=>nomatch z)
   |some u=>
    rcases cases_ b u qb with⟨z,_⟩|⟨rfl,_,rfl⟩
    ·exact absurd z nb
    ·obtain⟨e1,_⟩:=cm b _ qb
     obtain⟨e2,_⟩:=hok' b _ (un.ph b _ _ qb)
     rw[e] at e1
     cases e1
     exact e2
  have grown: ∀ b∈tbs,∃ more,s'.heap.get? b=some {cls:=.none,data:=.fields (#[]++more)}:=fun b z=>by
   obtain⟨more,et⟩:=un.oF b #[] (Ht b z)
   exact⟨more,hok' b _ et⟩
  refine⟨rfl,⟨fun b o e=>?_,fun b o e=>?_⟩,os,bare⟩
  ·by_cases nb:b∈tbs
   ·obtain⟨more,gt'⟩:=grown b nb
    rw[(ht b nb).2.1] at e
    cases e
    exact .inr (.inl ⟨(ht b nb).1,rfl,#[],more,rfl,gt'⟩)
   ·exact .inl (kept b o nb e)
  ·by_cases nb:b∈tbs
   ·obtain⟨more,gt'⟩:=grown b nb
    exact⟨_,gt'⟩
   ·exact⟨o,kept b o nb e⟩
theorem uG {l:PySem.W.OpenLaw} {YP:World→Heap→Prop} {d:DefRec} {K:Params→Frag} {CX:World→yT} {sp:World→List Addr→Sp} {x:Str}
  (hn:l.most=some n) (hn2:n≤sizeLine) (hdf:d.params.defaults=[]) (hr:dA k callerA)
  (hY: ∀ (w:World) (h:Heap),YP w h→(K w.params).In h)
  (F: ∀ (w:World) (mg:Str→Option Value) (fa:Addr) (h:Heap),(K w.params).In h→h.Ns mainGlobals mg→mg d.name=some (.ref fa)→
   ∃ (fd:FuncData) (ts:List (Str×Addr×Addr)),(∀ e∈ts,PySem.W.tabIn (K w.params) e.1=some e.2∧(K w.params).lookup e.2.2=none∧((recsOf q).find? fun r=>r.name==e.1).isSome=true)∧
    (∀ (s:Shared) (u:Value),BindsTo s fd ⟨[u],[]⟩ [(x,u)])∧
    ∀ base:Heap,(K w.params).In base→base.Ns mainGlobals mg→AM base mg→bu l.prog w (K w.params) mg base (CX w) k fa fd [x] (sp w (ts.map (·.2.2))))
  (hsp: ∀ (w:World) (H:Hp) (a:Addr) (ns:List Int) (tbs:List Addr),ns.length≤n→(∀ tb∈tbs,H tb=some (.lV #[]))→cw (K w.params) H a (ns.map V.int)→sp w tbs [.ref a] H (fun v _=>v= .bl true) fun _ _ _=>False)
  (hCX: ∀ (w:World) (H:Hp) (s:Shared) (e:Value) (s':Shared),CX w [] H s (fun _ _ _=>False) e s'→False):
  PySem.W.WalkO q loose XP YP l.row.toRowW d [] (fun f vs=>PySem.call f vs):=by
 refine Att.rh hn hdf fun w s₀ s₁ mg mb fa o pm cd doc a vs ns G Y ho hd hcd hmg hobj hints hlen hg=>?_
 have KX:=hY w _ Y
 obtain⟨fd,ts,hts,hb,hF⟩:=F w mg fa _ KX G.T.g hmg
 refine vh (tbs:=ts.map (·.2.2)) KX G.T.g G.T.b G.T.builtins G.T.nolimit ?_ hg hobj hints (HD hlen hn2) hr (fun tb z=>?_) hF hb (fun H hO hS=>hsp w H a ns _ hlen hO hS) fun H e s'=>hCX w H s₁ e s'
 ·obtain⟨bm,ob,b1,b2,b3,b4,b5,b6⟩:=G.T.bmain
  exact⟨bm,ob,b1,b2,b3,b4,b5,b6⟩
 ·obtain⟨e,he,rfl⟩:=Hu.mp z
  obtain⟨h1,h2,h3⟩:=hts e he
  obtain⟨d',h3⟩:=Option.isSome_iff_exists.mp h3
  obtain⟨g1,g2⟩:=PySem.W.tab_of G.T KX h3 h1
  exact⟨(g1.tab g2).isCodeTable,g2,h2⟩
section
open PySem.W (KasT kas_rev kas_asc kas_desc kas_tail3 kas_descPart kas_count kas_place kas_bin kas_sort)
noncomputable def eG (N:Nat) {α:Type} (V:α→Prop):KasT α→Prop
 | .ret a=>V a
 | .ask i j k=>i < N∧j < N∧∀ b,eG N V (k b)
theorem eG.bind {N:Nat} {α β:Type} {V:α→Prop} {W:β→Prop} {f:α→KasT β}: ∀ {t:KasT α},eG N V t→(∀ a,V a→eG N W (f a))→eG N W (t.bind f)
 | .ret a,h,k=>k a h
 | .ask i j g,h,k=>⟨h.1,h.2.1,fun b=>eG.bind (h.2.2 b) k⟩
theorem eG.ite {N:Nat} {α:Type} {V:α→Prop} {c:Prop} [Decidable c] {a b:KasT α} (h1:eG N V a) (h2:eG N V b):eG N V (if c then a else b):=by
 by_cases h:c
 ·rw[Ig h];exact h1
 ·rw[Ih h];exact h2
def Bd (N:Nat) (p:Array Nat):Prop:=0 < N∧∀ x∈p.toList,x < N
theorem Bd.at (h:Bd N p) (k:Nat):p.getD k 0 < N:=by
 rw[HE]
 cases e:p[k]? with
 |none=>exact h.1
 |some x=>exact h.2 x (Array.mem_toList_iff.mpr (Array.mem_of_getElem? e))
theorem Bd.perm (h:Bd N p) (pm:q.Perm p):Bd N q:=⟨h.1,fun x hx=>h.2 x ((Array.perm_iff_toList_perm.mp pm).mem_iff.mp hx)⟩
theorem Bd.rev (h:Bd N p) (i j:Nat):Bd N (kas_rev p i j):=h.perm (mirror_perm _ _ _ _)
section
variable {N:Nat}
theorem tF (h:Bd N p): ∀ f n,eG N (fun _=>True) (kas_asc p f n)
 |0,_=>trivial
 |f+1,n=>⟨h.at _,h.at _,fun b=>eG.ite trivial (tF h f (n+1))⟩
theorem lR: ∀ (f:Nat) {p:Array Nat} (n q:Nat),Bd N p→eG N (fun r=>Bd N r.1) (kas_desc f p n q)
 |0,_,_,_,h=>h
 |f+1,p,n,q,h=>⟨h.at _,h.at _,fun b=>eG.ite (eG.ite (lR f _ _ (h.rev _ _)) (lR f _ _ h)) ⟨h.at _,h.at _,fun d=>eG.ite h (lR f _ _ h)⟩⟩
theorem p7 (h:Bd N p) (n m:Nat):eG N (fun r=>Bd N r.2) (kas_tail3 n m p):=eG.bind (tF (h.rev _ _) _ _) fun a _=>h.rev _ _
theorem kR (h:Bd N p) (n m:Nat):eG N (fun r=>Bd N r.2) (kas_descPart n m p):=eG.bind (lR _ _ _ h) fun r hr=>eG.ite (p7 (hr.rev _ _) _ _) (p7 hr _ _)
theorem yC (h:Bd N p) (m:Nat):eG N (fun r=>Bd N r.2) (kas_count m p):=
 eG.bind (tF h _ _) fun n _=>eG.ite h (eG.ite ⟨h.at _,h.at _,fun c=>eG.ite h (kR (h.rev _ _) _ _)⟩ (kR h _ _))
theorem mr {p:Array Nat} (h:Bd N p) (k:Nat): ∀ f l r,eG N (fun _=>True) (kas_place p k f l r)
 |0,_,_=>trivial
 |f+1,l,r=>by
  unfold kas_place
  exact eG.ite trivial ⟨h.at _,h.at _,fun c=>eG.ite (mr h k f _ _) (mr h k f _ _)⟩
theorem yL: ∀ (f:Nat) {p:Array Nat} (k:Nat),Bd N p→eG N (Bd N) (kas_bin f p k)
 |0,_,_,h=>h
 |f+1,p,k,h=>eG.bind (mr h _ _ _ _) fun l _=>yL f (k+1) (h.perm (bubble_perm _ _ _))
theorem tN (hN:0 < N):eG N (Bd N) (kas_sort N):=by
 have h:Bd N (List.toArray (List.range N)):=⟨hN,fun x hx=>by simpa using hx⟩
 exact eG.bind (yC h _) fun r hr=>eG.ite (yL _ _ hr) hr
theorem wp_run {α:Type} {V:α→Prop} {r:Nat→Int} {cmp:Nat→Nat→(Bool→Shared→Prop)→Shared→Prop} {Q:α→Shared→Prop} {s:Shared} (hc: ∀ i j C,i < N→j < N→C (decide (r i < r j)) s→cmp i j C s): ∀ (t:KasT α),eG N V t→Q (runK r t) s→t.kasWp cmp Q s
 | .ret a,_,h=>h
 | .ask i j k,hi,h=>hc i j _ hi.1 hi.2.1 (wp_run hc (k (decide (r i < r j))) (hi.2.2 _) h)
end
theorem xN (hx:s.heap.get? x=some ox) (dx:ox.data= .seq #[.int a ta,.int b tb] nx) (hy:s.heap.get? y=some oy) (dy:oy.data= .seq #[.int c tc,.int d td] ny)
  (hb:0≤b∧b < 1000000) (hd:0≤d∧d < 1000000) (h:Q (decide (a * 1000000+b < c * 1000000+d)) s):wpAny (model prog w) A (keyLt' (tuples' true) (.ref x) (.ref y)) Q E s:=by
 refine PySem.W.kat_lt hx dx hy dy ?_
 show PySem.W.KatLex prog w A true false Q [(.int a ta,.int c tc),(.int b tb,.int d td)] 0 s
 refine PySem.W.kat_cons (wpAny_eqBool_int ?_)
 by_cases e1:a=c
 ·subst e1
  have z:(a==a)=true:=by simp
  rw[z]
  refine PySem.W.kat_yes (PySem.W.kat_cons (wpAny_eqBool_int ?_))
  by_cases e2:b=d
  ·subst e2
   have z:(b==b)=true:=by simp
   rw[z]
   refine PySem.W.kat_yes (PySem.W.kat_nil ?_)
   have q:decide (a * 1000000+b < a * 1000000+b)=false:=by simp
   rw[q] at h
   exact h
  ·have z:(b==d)=false:=by simpa using e2
   rw[z]
   refine PySem.W.kat_no ?_
   show wpAny (model prog w) A (oneLt' false (.int b tb) (.int d td)) Q _ s
   refine PySem.W.kat_one _ _ ?_
   have q:decide (a * 1000000+b < a * 1000000+d)=decide (b < d):=decide_eq_decide.mpr ⟨fun z=>by lia,fun z=>by lia⟩
   rw[q] at h
   exact lt_int h
 ·have z:(a==c)=false:=by simpa using e1
  rw[z]
  refine PySem.W.kat_no ?_
  show wpAny (model prog w) A (oneLt' true (.int a ta) (.int c tc)) Q _ s
  refine oneLt_int ?_
  have q:decide (a * 1000000+b < c * 1000000+d)=decide (a < c):=decide_eq_decide.mpr ⟨fun z=>by lia,fun z=>by lia⟩
  rw[q] at h
  exact h
end
section
open PySem.W (kla_fn kla_obj CodeHd tabObj)
theorem Ai {CX:yT} {P:Program} {w:World} {K:Frag} {mg:Str→Option Value} {base:Heap} {f c:Addr} {name qual:Str} {params:Arguments} {body:Expr} {scope:Scope} {pm ctv:Value} {oc:Obj} {fs:Array Value} {tq:Tok} {N ps:List Str} {k:Nat}
  {A:Around} {outer:List Env} {s:Shared} {H:Hp} {args:Args} {us:List Value} {vs:List V} {Q:VK} {E:XK} {tE:TE}
  (S:ba N ps scope) (hr:dA (k+1) A) (e0:vy P w K mg base A outer s H) (hf:s.heap.get? f=some (kla_obj name qual params body scope [] pm c ctv))
  (hc:s.heap.get? c=some oc) (hoc:oc.data= .fields fs) (hfs:fs[1]?=some (.str qual tq))
  (hb:BindsTo s (kla_fn name qual params body scope [] pm (.ref c) ctv) args (ps.zip us)) (hl:vs.length=ps.length) (r:Vals vs us)
  (ig:PE (g9 CX P w K mg base N qual scope f (.ref c) A outer s H E) body tE) (hq:tE (start N vs) H Q):
  codeAny (model P w) A (.call (.ref f) args) (CR CX outer P w H s Q E) s:=by
 have lim:s.heap.NoLimit:=e0.mod.nolimit.keeps fun b o e=>(e0.bs b o e).1
 have hkind: ∀ y∈ps.zip us,scope.names.lookup y.1=some .local∨(scope.names.lookup y.1=some .cell∧((cellsFrom (s.heap.objs.size+1) scope.names []).lookup y.1).isSome=true):=fun cy hy=>by
  obtain⟨n,v⟩:=cy
  rcases S.par n (List.of_mem_zip hy).1 with q|q
  ·exact .inl q
  ·exact .inr ⟨q,PySem.W.cellsFrom_some _ _ _ (.inl q)⟩
 refine PySem.W.kla_callFunE hr.depth hf rfl S.co S.gen rfl ⟨c,oc,fs,tq,rfl,hc,hoc,hfs⟩ (hb _ _ _ _ ?_)
 refine wpAny_newFunctionEnv_cells S.kind hkind fun env he s1 x=>?_
 subst he
 refine⟨lim.keeps x.toInCall.keep,PySem.W.kla_codeExpr ?_⟩
 have I:Inv (g9 CX P w K mg base N qual scope f (.ref c) A outer s H E) [] (start N vs) H s1:=nU S hr.hd e0 hl r x
 refine wpAny_mono (ig [] s1 (start N vs) H _ I hq) (fun u s' hs=>?_) fun e s' hs=>hs
 obtain⟨v,H',J,rv,q⟩:=hs
 exact⟨v,H',J.os,J.bare,J.base,J.cm,rv,q⟩
theorem xM (S:ba N ps scope) (hr:dA (k+1) A) (hA:A.frames=X.A.frames) (I:Inv X pZ σ H s) (hf:s.heap.get? f=some (kla_obj name qual params body scope [] pm c ctv))
  (hc:s.heap.get? c=some oc) (hoc:oc.data= .fields fs) (hfs:fs[1]?=some (.str qual tq))
  (hb:BindsTo s (kla_fn name qual params body scope [] pm (.ref c) ctv) ⟨us,[]⟩ (ps.zip us)) (hl:vs.length=ps.length) (r:Vals vs us)
  (ig:PE (g9 dF X.prog X.w X.K X.mg X.base N qual scope f (.ref c) A X.stack s H E0).pW body tE) (hq:tE (start N vs) H Q):
  wpAny (model X.prog X.w) A (call (.ref f) us) (EP X pZ σ Q) (fun _ _=>False) s:=by
 have e0:vy X.prog X.w X.K X.mg X.base A X.stack s H:=⟨hA.trans I.pC.frames,I.pC.mod,I.pC.bs,I.pC.yX,I.pC.kn,I.pC.A8,I.pC.cm,I.pC.bare⟩
 refine wpAny_call (codeAny_mono (Ai S hr e0 hf hc hoc hfs hb hl r ig.pW hq) fun r s' h=>?_)
 cases r with
 |error e=>exact h
 |ok fl=>
  cases fl with
  |ret u=>exact I.after h
  |next=>exact False.elim h
  |brk=>exact False.elim h
  |cont=>exact False.elim h
end
section
open PySem.W (kas_sort kas_ask KatTups)
theorem Inv.EG {t':Nat} (I:Inv X pZ σ H s) (fp:cJ X pZ H D) (k: ∀ b u,b≠D→s.heap.get? b=some u→h'.get? b=some u) (new:dk X.prog X.w (upd H D o) h' D o):
  Inv X pZ σ (upd H D o) {s with heap:=h',toks:=t'}:=by
 obtain⟨hn,hL,hF,h1,h2,h3⟩:=fp
 have nD: ∀ b u,H b=some u→b≠D:=fun b u e z=>by rw[z,hn] at e;cases e
 refine I.step (g':=s.gens) (d':=s.drawn) (ch:=[D]) (fun b hb=>?_) (fun b u _ _ hc e _=>k b u (fun z=>hc (by simp[z])) e) (fun b u _ _ hc e _=>⟨u.slots,k b u (fun z=>hc (by simp[z])) e⟩) (fun b u hc _ n=>by rw[au (fun z=>hc (by simp[z]))];exact n)
  (fun b u hc e=>⟨u,k b u (fun z=>hc (by simp[z])) e⟩) (fun b xs e=>by rw[au (nD b _ e)];exact e) (fun b ob u e=>by rw[au (nD b _ e)];exact e) (fun b ps e=>⟨#[],by rw[au (nD b _ e),e];simp⟩) (fun m hm=>?_) (fun b u e=>?_) I.bare
 ·have e:b=D:=by simpa using hb
  subst e
  exact⟨h1,hL,h2,h3⟩
 ·obtain⟨ob,es,ep,ho,r⟩:=hm
  exact⟨ob,es,ep,k _ ob (Ne.symm hL) ho,r⟩
 ·by_cases z:b=D
  ·subst z
   rw[ay] at e
   cases e
   exact new
  ·rw[au z] at e
   refine(I.cm b u e).oG (fun c v hc q=>k c v ?_ q) (fun c q=>?_) fun c xs q=>?_
   ·rcases hc with y|y
    ·rw[y];exact z
    ·exact nD c _ y
   ·rw[au (nD c _ q)];exact q
   ·rw[au (nD c _ q)];exact q
noncomputable def rk (kf:Nat→Int×Int) (i:Nat):Int:=(kf i).1 * 1000000+(kf i).2
theorem jV: ∀ {Ts:List Addr} {us:List Value},Vals (Ts.map V.ref) us→us=Ts.map Value.ref
 |[],us,h=>by cases h;rfl
 |T::Ts,us,h=>by
  cases h with
  |cons r t=>cases r;rw[jV t];rfl
theorem iD (hk:iU P w H h) (e:H T=some (.tup [.int a,.int b])): ∃ o n ta tb,h.get? T=some o∧o.cls= .type "tuple"∧o.data= .seq #[.int a ta,.int b tb] n:=by
 obtain⟨_,aA,rv,pT⟩:=hk T _ e
 obtain⟨o,ho,hc,n,hd⟩:=pT.is
 cases rv with
 |cons r1 t=>
  cases t with
  |cons r2 t=>
   cases t
   obtain⟨ta,rfl⟩:=r1
   obtain⟨tb,rfl⟩:=r2
   exact⟨o,n,ta,tb,ho,hc,hd⟩
theorem oD: ∀ (Ts:List Addr),(∀ T∈Ts,∃ o n a b ta tb,h.get? T=some o∧o.cls= .type "tuple"∧o.data= .seq #[.int a ta,.int b tb] n)→∃ fs,KatTups h (Ts.map Value.ref) fs∧fs.length=Ts.length∧∀ v∈fs,∃ i t,v=Value.int i t
 |[],_=>⟨[],PySem.W.KatTups.nil,rfl,fun v hv=>nomatch hv⟩
 |T::Ts,k=>by
  obtain⟨o,n,a,b,ta,tb,h1,h2,h3⟩:=k T Hf
  obtain⟨fs,g1,g2,g3⟩:=oD Ts fun T' h'=>k T' (Hj _ h')
  refine⟨.int a ta::fs,PySem.W.KatTups.cons h1 h2 h3 rfl g1,by simp[g2],fun v hv=>?_⟩
  rcases Hr.mp hv with rfl|hv
  ·exact⟨a,ta,rfl⟩
  ·exact g3 v hv
section
variable {X:Cx} {A:Around} {E:Value→Shared→Prop} {pZ:List (Addr×Obj)} {σ:St} {H:Hp} {s:Shared} {f D:Addr} {aA:List Value} {xs:List V} {kf:Nat→Int×Int} {P:PySem.Fin→Shared→Prop}
theorem nG {kS:Addr} {Ts:List Addr} {e1:Nat} {st:SortSt} {p:Array Nat} {H1:Hp} (I:Inv X ((D,seqObj "list" #[] e1)::pZ) σ H1 s) (fp:cJ X pZ H1 D) (hk:H1 kS=some (.lst (Ts.map V.ref))) (rv:Vals xs aA) (h64:xs.length < 64) (hTs:Ts.length=xs.length)
  (hz:p.size=xs.length) (har:(arrOf st).map (·.2)=List.toArray (p.toList.map fun i=>aA.getD i Value.none)) (hin: ∀ i∈p.toList,i < xs.length) (hf:failedOf st=none)
  (h: ∀ s',Inv X pZ σ (upd (upd H1 kS (.lst [])) D (.lst (p.toList.map fun i=>xs.getD i .bX))) s'→P (.done (.ret .none)) s'):
  wpAny (model X.prog X.w) A (ksk_tail D false e1 (.ref kS) st) P E s:=by
 obtain⟨_,bL,n',r1,r2,ho⟩:=I.sD hk
 have hl:=rv.length
 unfold ksk_tail
 try dsimp only
 rw[har]
 refine He (listUpdate_at ho rfl ?_ (by rw[Hl,HW];simp at r2;lia) (HJ _))
 have I1:=I.Cv (t':=s.toks) (f:=fun _=>(#[]:Array Value)) (bL:=[]) (ys:=[]) hk ho rfl .nil (HJ _)
 have hD:=(I1.pin _ (HB _ Hf)).1
 refine He (wpAny_letGo ?_)
 refine He (seqEpoch_at hD rfl ?_)
 refine He (listUpdate_at hD rfl ?_ (HJ _) (by simp only[HY,if_false,Hl,Hg,HS];rw[hz,HW];lia))
 rw[hf]
 simp only[bne_self_eq_false,HY,if_false]
 have neD:kS≠D:=fun z=>by rw[z,fp.1] at hk;cases hk
 have fp1:cJ X pZ (upd H1 kS (.lst [])) D:=⟨by rw[au (Ne.symm neD)];exact fp.1,fp.2⟩
 have I2:Inv X pZ σ (upd H1 kS (.lst [])) {s with heap:=s.heap.update kS (Obj.mapSeq fun _=>(#[]:Array Value))}:=I1.iC fun q hq=>I1.pin q (HB _ (Hj _ hq))
 refine Hk (h _ (I2.EG (t':=s.toks) fp1 (fun b u hb e=>(Heap.get?_update_other _ _ (Ne.symm hb)).trans e) ?_))
 have g:=get?_update_seq hD fun _=>List.toArray (p.toList.map fun i=>aA.getD i Value.none)
 refine⟨by rw[Hg,HS,hz,HW];lia,p.toList.map fun i=>aA.getD i Value.none,_,?_,g⟩
 have go: ∀ l:List Nat,(∀ i∈l,i < xs.length)→Vals (l.map fun i=>xs.getD i V.bX) (l.map fun i=>aA.getD i Value.none):=fun l=>by
  induction l with
  |nil=>intro _;exact .nil
  |cons i l ih=>
   intro hl'
   refine .cons ?_ (ih fun j hj=>hl' j (Hj _ hj))
   have hi:=hl' i Hf
   obtain⟨u,hu,ru⟩:=rv.get (Hd hi)
   show RelV (xs.getD i V.bX) (aA.getD i Value.none)
   rw[HA,HA,hu,Hd hi]
   exact ru
 exact go _ hin
theorem rP (I:Inv X pZ σ H s) (fp:cJ X pZ H D) (ho:s.heap.get? D=some (seqObj "list" aA.toArray n0)) (rv:Vals xs aA) (h64:xs.length < 64)
  (CN: ∀ (kK:List (Addr×Obj)) (H1:Hp) (s1:Shared) (i:Nat) (u:Value),aA[i]?=some u→gv H H1→Inv X kK σ H1 s1→wpAny (model X.prog X.w) A (call (.ref f) [u]) (EP X kK σ fun v H2=> ∃ T,v= .ref T∧H1 T=none∧H2=upd H1 T (.tup [.int (kf i).1,.int (kf i).2])) (fun _ _=>False) s1)
  (hb: ∀ i,i < xs.length→0≤(kf i).2∧(kf i).2 < 1000000) (dz: ∀ i j,i < xs.length→j < xs.length→i≠j→rk kf i≠rk kf j)
  (h: ∀ (H':Hp) (p:Array Nat) (s':Shared),Inv X pZ σ H' s'→H' D=some (.lst (p.toList.map fun i=>xs.getD i .bX))→gv H H'→p.size=xs.length→p.Perm (List.toArray (List.range xs.length))→rF (rk kf) p xs.length→P (.done (.ret .none)) s'):
  wpAny (model X.prog X.w) A (Builtin.«list.sort» ⟨[.ref D],[(Str.ofString "key",.ref f)]⟩) P E s:=by
 have hl:=rv.length
 have hzL:aA.length≤sizeLine:=by rw[HW];lia
 rw[ksk_t1]
 unfold ksk_tree
 refine He (listItems_at ho rfl ?_)
 refine He (listUpdate_at ho rfl ?_ (by rw[Hl];exact hzL) (HJ _))
 obtain⟨e1,DB⟩: ∃ e1,(s.heap.update D (Obj.mapSeq fun _=>(#[]:Array Value))).get? D=some (seqObj "list" #[] e1):=⟨_,get?_update_seq ho fun _=> #[]⟩
 refine He (seqEpoch_at DB rfl ?_)
 refine He (wpAny_newTuple ?_ hzL)
 refine He (wpAny_newList ?_ (HJ _))
 refine wpAny_holding ?_
 have I1:Inv X pZ σ H {s with heap:=s.heap.update D (Obj.mapSeq fun _=>(#[]:Array Value))}:=I.turned (t':=s.toks) (fun b u hb' e=>(Heap.get?_update_other _ _ (Ne.symm hb')).trans e) fp.1 fp.2.1 fp.2.2.2.1 fp.2.2.2.2.1 fp.2.2.2.2.2
 have I2:Inv X ((D,seqObj "list" #[] e1)::pZ) σ H {s with heap:=s.heap.update D (Obj.mapSeq fun _=>(#[]:Array Value))}:=I1.iC fun q hq=>by
  rcases Hr.mp hq with rfl|hq
  ·exact⟨DB,fp.1,fp.2.1,fp.2.2.1,fun v z=>by cases z⟩
  ·exact I1.pin q (HB _ hq)
 have I3:Inv X ((D,seqObj "list" #[] e1)::pZ) σ H {s with heap:=(s.heap.update D (Obj.mapSeq fun _=>(#[]:Array Value))).push (seqObj "tuple" aA.toArray 0)}:=I2.kept (t':=s.toks) fun b u e=>Hh _ e
 have hkn:H ((s.heap.update D (Obj.mapSeq fun _=>(#[]:Array Value))).push (seqObj "tuple" aA.toArray 0)).objs.size=none:=I3.fresh
 have I4:=I3.xF (t':=s.toks) (ys:=[]) (aA:=[]) .nil (HJ _)
 generalize hks:((s.heap.update D (Obj.mapSeq fun _=>(#[]:Array Value))).push (seqObj "tuple" aA.toArray 0)).objs.size=kS at *
 have hDk: ∀ (H1:Hp),H1 D=none→H1 kS≠none→kS≠D:=fun H1 a b z=>b (z▸a)
 unfold ksk_rest
 refine He (wpAny_rule ?_)
 rw[List.forIn_toArray]
 refine He (ksk_fold (fun i s'=> ∃ (Hi:Hp) (Ts:List Addr),Inv X ((D,seqObj "list" #[] e1)::pZ) σ Hi s'∧Hi kS=some (.lst (Ts.map V.ref))∧Ts.length=i∧(∀ j T,Ts[j]?=some T→Hi T=some (.tup [.int (kf j).1,.int (kf j).2]))∧gv H Hi) aA 0 _ ?_ (fun j x s' hx hJ=>?_) fun s' hJ=>?_)
 ·refine⟨_,[],I4,ay,rfl,fun j T e=>by simp at e,fun b o e=>?_⟩
  rw[au (bh e hkn)]
  exact e
 ·obtain⟨Hi,Ts,J,hk,hT,tt,sm⟩:=hJ
  rw[Nat.zero_add] at hT
  refine He (wpAny_attempt (wpAny_mono (CN _ Hi s' j x hx sm J) (fun k s'' hk'=>?_) fun _ _ hF=>hF.elim))
  obtain⟨v,H2,J2,rk',T,rfl,hTn,rfl⟩:=hk'
  cases rk'
  have nT:kS≠T:=bh hk hTn
  have hk2:upd Hi T (.tup [.int (kf j).1,.int (kf j).2]) kS=some (.lst (Ts.map V.ref)):=by rw[au nT];exact hk
  obtain⟨_,bL,n',r1,r2,hob⟩:=J2.sD hk2
  have hjl:j < aA.length:=(Hm.mp hx).1
  have hs':bL.length=j:=by rw[←r2,Hg,hT]
  try dsimp only
  refine He (listUpdate_at hob rfl ?_ (by rw[Hl,HW];lia) (HD (Nat.le_of_eq (Array.size_push ..)) (by rw[Hl,HW];lia)))
  have J3:=J2.Cv (t':=s''.toks) (f:=(·.push (Value.ref T))) (bL:=bL++[.ref T]) (ys:=Ts.map V.ref++[.ref T]) hk2 hob (by simp) (r1.append (show Vals [V.ref T] [Value.ref T] from .cons rfl .nil)) (by rw[HI,Hg,List.length_singleton,HW];lia)
  refine Hk ⟨rfl,_,Ts++[T],J3,by rw[ay];simp,by simp[hT],fun i T' e=>?_,fun b o e=>?_⟩
  ·by_cases c:i < Ts.length
   ·rw[HX c] at e
    have g:=tt i T' e
    have n1:T'≠kS:=fun z=>by rw[z,hk] at g;cases g
    rw[au n1,au (bh g hTn)]
    exact g
   ·rw[List.getElem?_append_right (by lia)] at e
    have hi:i=Ts.length:=by
     by_cases z:i - Ts.length=0
     ·lia
     ·rw[IC (by simp;lia)] at e;cases e
    subst hi
    simp at e
    subst e
    rw[au (Ne.symm nT),ay,hT]
  ·have g:=sm b o e
   have n1:b≠kS:=bh e hkn
   rw[au n1,au (bh g hTn)]
   exact g
 ·obtain⟨Hi,Ts,J,hk,hT,tt,sm⟩:=hJ
  rw[Nat.zero_add] at hT
  have hTx:Ts.length=xs.length:=by lia
  obtain⟨_,bL,n',r1,r2,hob⟩:=J.sD hk
  have hks':=jV r1
  subst hks'
  have fpD:cJ X pZ Hi D:=⟨(J.pin _ (HB _ Hf)).2.1,fp.2⟩
  have hkD:kS≠D:=fun z=>by rw[z,fpD.1] at hk;cases hk
  have fin: ∀ (p:Array Nat) (s'':Shared),p.size=xs.length→p.Perm (List.toArray (List.range xs.length))→rF (rk kf) p xs.length→Inv X pZ σ (upd (upd Hi kS (.lst [])) D (.lst (p.toList.map fun i=>xs.getD i .bX))) s''→P (.done (.ret .none)) s'':=fun p s'' hz hp hu J'=>by
   refine h _ p s'' J' ay (fun b o e=>?_) hz hp hu
   rw[au (bh e fp.1),au (bh e hkn)]
   exact sm b o e
  have inP: ∀ p:Array Nat,p.Perm (List.toArray (List.range xs.length))→∀ i∈p.toList,i < xs.length:=fun p hp i hi=>by
   have:=(Array.perm_iff_toList_perm.mp hp).mem_iff.mp hi
   simpa using this
  have hkl:(Ts.map Value.ref).length=aA.length:=by simp[hT]
  try dsimp only
  refine He (listItems_at hob rfl ?_)
  unfold ksk_end
  try dsimp only
  simp only[HY,if_false]
  by_cases h2:aA.toArray.size < 2
  ·rw[Ig h2,Ig h2]
   refine He (Hk ?_)
   rw[StateT.run_pure]
   refine He (Hk ?_)
   try dsimp only
   rw[Hl] at h2
   have hz:(List.toArray (List.range xs.length)).size=xs.length:=by simp
   refine nG (p:=List.toArray (List.range xs.length)) J fpD hk rv h64 hTx hz ?_ (inP _ (Array.Perm.refl _)) rfl fun s'' J'=>fin _ s'' hz (Array.Perm.refl _) (fun i j hij hj=>by lia) J'
   have hmap:=PySem.W.kat_snds (ks:=Ts.map Value.ref) (vs:=aA) hkl (st:=SortSt.mk' general' ((Ts.map Value.ref).toArray.zip aA.toArray) #[] 7 none) (p:=List.toArray (List.range xs.length)) (by
    have e:=PySem.W.kas_range ((Ts.map Value.ref).toArray.zip aA.toArray)
    rw[show ((Ts.map Value.ref).toArray.zip aA.toArray).size=xs.length by simp[hT];lia] at e
    exact e.symm)
   exact hmap
  ·rw[Ih h2,Ih h2]
   rw[Hl] at h2
   obtain⟨fs,kt,hfl,hfi⟩:=oD (h:=s'.heap) Ts fun T hT'=>by
    obtain⟨i,hi,e⟩:=List.getElem_of_mem hT'
    obtain⟨o,n,ta,tb,g1,g2,g3⟩:=iD J.cm (tt i T (Hm.mpr ⟨hi,e⟩))
    exact⟨o,n,_,_,ta,tb,g1,g2,g3⟩
   refine He (PySem.W.kat_kind (T:=Value.type "int") kt (by lia) (fun v hv=>?_) rfl ?_)
   ·obtain⟨i,t,rfl⟩:=hfi v hv
    exact PySem.W.Looks.now
   ·obtain⟨p,ep,hz,hp,hu⟩:=zp (r:=rk kf) (n:=xs.length) (by lia) dz
    refine He (wpAny_mono (PySem.W.kat_run (vs:=aA) (ks:=Ts.map Value.ref) (Q:=fun st' s''=> ∃ p':Array Nat,arrOf st'=p'.map (PySem.W.kas_item ((Ts.map Value.ref).toArray.zip aA.toArray))∧failedOf st'=none∧p'=p∧s''=s') (G:=fun p' s''=>p'=p∧s''=s')
     hkl (by lia) (by lia) (fun p' st' s'' a1 a2 a3 a4=>⟨p',a2,a3,a4.1,a4.2⟩) ?_) ?_ fun _ _ e=>e)
    ·rw[show aA.length=xs.length from hl.symm]
     refine wp_run (N:=xs.length) (V:=Bd xs.length) (r:=rk kf) (fun i j C hi hj hC=>?_) _ (tN (by lia)) ⟨ep,rfl⟩
     have hi':i < Ts.length:=by lia
     have hj':j < Ts.length:=by lia
     obtain⟨oi,ni,ai,bi,g1,g2,g3⟩:=iD J.cm (tt i _ (Hd hi'))
     obtain⟨oj,nj,aj,bj,k1,k2,k3⟩:=iD J.cm (tt j _ (Hd hj'))
     unfold PySem.W.kas_ask
     rw[HA,HA,HC,HC,Hd hi',Hd hj']
     exact xN g1 g3 k1 k3 (hb i hi) (hb j hj) hC
    ·rintro⟨⟨⟩,st'⟩ s'' ⟨p',har,hf,rfl,rfl⟩
     try dsimp only
     exact nG J fpD hk rv h64 hTx hz (PySem.W.kat_snds hkl har) (inP _ hp) hf fun s3 J'=>fin _ s3 hz hp hu J'
end
end
section
open PySem.W (kla_fn kla_obj CodeHd tabObj)
theorem oI (I:Inv X pZ σ H s) (hT:T="list"∨T="tuple") (ho:s.heap.get? l=some o) (hc:o.cls= .type T) (hd:o.data= .seq aA.toArray n0) (rv:Vals xs aA) (h64:xs.length < 64)
  (CN: ∀ (kK:List (Addr×Obj)) (H1:Hp) (s1:Shared) (i:Nat) (u:Value),aA[i]?=some u→gv H H1→Inv X kK σ H1 s1→wpAny (model X.prog X.w) X.A.in1.in1 (call (.ref f) [u]) (EP X kK σ fun v H2=> ∃ T,v= .ref T∧H1 T=none∧H2=upd H1 T (.tup [.int (kf i).1,.int (kf i).2])) (fun _ _=>False) s1)
  (hb: ∀ i,i < xs.length→0≤(kf i).2∧(kf i).2 < 1000000) (dz: ∀ i j,i < xs.length→j < xs.length→i≠j→rk kf i≠rk kf j)
  (hq: ∀ (D:Addr) (H':Hp) (p:Array Nat),H D=none→H' D=some (.lst (p.toList.map fun i=>xs.getD i .bX))→gv H H'→p.size=xs.length→p.Perm (List.toArray (List.range xs.length))→rF (rk kf) p xs.length→Q (.ref D) H'):
  wpAny (model X.prog X.w) X.A (call (.builtin "sorted") [.ref l] [(Str.ofString "key",.ref f)]) (EP X pZ σ Q) X.xe s:=by
 have hl:=rv.length
 refine call_function_entry_kw kind_sorted plain_sorted entry_sorted (ksk_s1 _ _) ?_
 unfold Builtin.«sorted»
 refine He (m:=checkCount "sorted" 1 1 _) (Hk ?_)
 refine He (wpAny_collect_seq l hT ho hc hd (fun h1 kp=>?_) (by rw[Hl,HW];lia))
 have I1:Inv X pZ σ H {s with heap:=h1}:=I.kept (t':=s.toks) kp
 have fr:H h1.objs.size=none:=I1.fresh
 have fp:cJ X pZ H h1.objs.size:=I1.pj (Hn _) fr
 refine He (wpAny_newList ?_ (by show aA.length≤_;rw[HW];lia))
 have I2:Inv X pZ σ H {s with heap:=h1.push (seqObj "list" aA.toArray 0)}:=I1.kept (t':=s.toks) fun b u e=>Hh _ e
 have hoL:(h1.push (seqObj "list" aA.toArray 0)).get? h1.objs.size=some (seqObj "list" aA.toArray 0):=Hw _ rfl
 refine He (wpAny_holding (wpAny_call_entry_kw slot_list_sort ⟨_,hoL,rfl⟩ entry_list_sort ?body (ksk_l1 _ _)))
 case body=>
  show wpAny (model X.prog X.w) X.A.in1.in1 (Builtin.«list.sort» ⟨[.ref h1.objs.size],[(Str.ofString "key",.ref f)]⟩) _ _ {s with heap:=h1.push (seqObj "list" aA.toArray 0)}
  refine rP I2 fp hoL rv h64 CN hb dz fun H' p s' J e1 sm hz hp hu=>⟨_,rfl,Hk ⟨_,rfl,.ref h1.objs.size,H',J,rfl,hq _ H' p fr e1 sm hz hp hu⟩⟩
theorem tH (l:List Value) (h:TriplesOk l) (hn:codeAmong pos (l++[rawInt a,rawInt b,c])=some cv):codeAmong pos l=some cv∨cv=c:=by
 fun_induction TriplesOk l with
 |case1=>
  simp[codeAmong,rawInt] at hn
  exact .inr hn.2.symm
 |case2 a' t b' u x rest ih=>
  simp only[List.cons_append,codeAmong] at hn ⊢
  split at hn
  ·rename_i hc
   rw[Ig hc]
   exact .inl hn
  ·rename_i hc
   rw[Ih hc]
   exact ih h hn
 |case3 l h1 h2=>exact h.elim
theorem xK (I:Inv X pZ σ H s) (hB:AM X.base X.mg) (hcode:X.env.code= .ref c) (hC:CodeHd X.base c P) (tab:TabAt H (P,X.env.qual++"<lambda>")) (hcl:closureFor scope X.env=pure []) (hdef:defaultsOf params X.env=([],[]))
  (h: ∀ (f c':Addr) (oc:Obj) (fs:Array Value) (tq:Tok) (pm ctv:Value) (H':Hp) (s':Shared),Inv X pZ σ H' s'→H f=none→H' f=some (.lx (kla_obj "<lambda>" (X.env.qual++"<lambda>") params body scope [] pm c' ctv) (.own f))→H' c'=some (.lx oc (.own c'))→oc.data= .fields fs→fs[1]?=some (.str (X.env.qual++"<lambda>") tq)→
   TabAt H' (P,X.env.qual++"<lambda>")→(∀ b o,b≠P→H b=some o→H' b=some o)→Q (.ref f) s'):
  wpAny (model X.prog X.w) X.A (eval (.Lambda params body scope pos) X.env) Q E s:=by
 obtain⟨ps,hP,ht,hrow⟩:=tab
 have gP:s.heap.get? P=some (tabObj ps):=I.cm P _ hP
 obtain⟨bm,ob,b1,b2,b3,b4,b5,b6⟩:=hB
 have hg:s.heap.Ns mainGlobals X.mg:=I.mod.glob.keeps I.bk
 have hgP:mainGlobals≠P:=fun q=>by
  obtain⟨o,es,ep,e,hd,_⟩:=hg
  rw[q,gP] at e;cases e;cases hd
 have hbP:bm≠P:=fun q=>by
  have e:=I.bk _ _ b3
  rw[q,gP] at e;cases e;cases b4
 have hbG:bm≠mainGlobals:=fun q=>by
  obtain⟨o,es,ep,e,hd,_⟩:=I.mod.glob
  rw[q,e] at b3;cases b3;rw[hd] at b6;cases b6
 have hBA:s.heap.BuiltinsAt X.mg P:=⟨bm,ob,b1,b2,hbG,hbP,I.bk _ _ b3,b4,b5,b6⟩
 refine PySem.W.kla_eval hdef ?_
 cases hf:codeAmong pos ps.toList with
 |none=>
  refine PySem.W.kla_makeFunction (mg:=X.mg) hcl I.ok.glob hg hcode (hC.keeps I.bk) gP ht hf hgP hBA fun c' ctv h' tk hx hge fR hrec htb=>?_
  obtain⟨c2,oc,fs,tq,e2,hoc,hfd,hfs⟩:=hrec
  cases e2
  generalize hko:kla_obj "<lambda>" (X.env.qual++"<lambda>") params body scope [] ((X.mg "__name__").getD .none) c' ctv=ko
  have hkf:ko.isFreed=false:=by rw[←hko];rfl
  have hcn:H c'=none:=I.cm.fresh hge
  have hfn:H h'.objs.size=none:=I.cm.fresh (HD hge (Nat.le_of_lt fR))
  have ncP:c'≠P:=fun z=>by rw[z,hP] at hcn;cases hcn
  have nfP:h'.objs.size≠P:=fun z=>by rw[z,hP] at hfn;cases hfn
  have nfc:h'.objs.size≠c':=Nat.ne_of_gt fR
  let H':Hp:=upd (upd (upd H P (.lV (ps++ #[rawInt pos.line,rawInt pos.col,.ref c']))) c' (.lx oc (.own c'))) h'.objs.size (.lx ko (.own h'.objs.size))
  have at_f:H' h'.objs.size=some (.lx ko (.own h'.objs.size)):=ay
  have at_c:H' c'=some (.lx oc (.own c')):=by
   show upd _ _ _ c'=_
   rw[au (Ne.symm nfc),ay]
  have at_P:H' P=some (.lV (ps++ #[rawInt pos.line,rawInt pos.col,.ref c'])):=by
   show upd _ _ _ P=_
   rw[au (Ne.symm nfP),au (Ne.symm ncP),ay]
  have at_o: ∀ b,b≠h'.objs.size→b≠c'→b≠P→H' b=H b:=fun b n1 n2 n3=>by
   show upd _ _ _ b=_
   rw[au n1,au n2,au n3]
  have gn: ∀ b o,b≠P→H b=some o→H' b=some o:=fun b o nb e=>by
   rw[at_o b (bh e hfn) (bh e hcn) nb]
   exact e
  have kp: ∀ b o,b≠P→s.heap.get? b=some o→(h'.push ko).get? b=some o:=fun b o nb e=>Hh _ (hx b o nb e)
  have tbP:(h'.push ko).get? P=some (tabObj (ps++ #[rawInt pos.line,rawInt pos.col,.ref c'])):=Hh _ htb
  have un:Un X.fs [] H H' s.heap (h'.push ko):=by
   have nP: ∀ b,H b=none→b≠P:=fun b n z=>by rw[z,hP] at n;cases n
   refine⟨fun b o e n _ _=>kp b o (nP b n) e,fun b o e n _ _=>⟨o.slots,kp b o (nP b n) e⟩,fun b o e n _=>?_,fun b o e _=>?_,fun b xs e=>gn b _ (fun z=>by rw[z,hP] at e;cases e) e,fun b ob u e=>gn b _ (fun z=>by rw[z,hP] at e;cases e) e,fun b qs e=>?_⟩
   ·have lt:=Hz e
    rw[at_o b (HL (HF lt (HD hge (Nat.le_of_lt fR)))) (HL (HF lt hge)) (nP b n)]
    exact n
   ·by_cases z:b=P
    ·exact⟨_,z▸tbP⟩
    ·exact⟨o,kp b o z e⟩
   ·by_cases z:b=P
    ·subst z
     rw[hP] at e
     cases e
     exact⟨_,at_P⟩
    ·exact⟨#[],by rw[gn b _ z e];simp⟩
  have cm:iU X.prog X.w H' (h'.push ko):=fun b u e=>by
   by_cases n1:b=h'.objs.size
   ·subst n1
    rw[at_f] at e
    cases e
    exact⟨Hw _ hkf,_,Hw _ hkf⟩
   ·by_cases n2:b=c'
    ·subst n2
     rw[at_c] at e
     cases e
     exact⟨Hh _ hoc,_,Hh _ hoc⟩
    ·by_cases n3:b=P
     ·subst n3
      rw[at_P] at e
      cases e
      exact tbP
     ·rw[at_o b n1 n2 n3] at e
      refine(I.cm b u e).oG (fun d v hd q=>kp d v ?_ q) (fun d q=>gn d _ (fun z=>by rw[z,hP] at q;cases q) q) fun d xs q=>gn d _ (fun z=>by rw[z,hP] at q;cases q) q
      rcases hd with z|z
      ·rw[z];exact n3
      ·exact fun y=>by rw[y,hP] at z;cases z
  subst hko
  refine h h'.objs.size c' oc fs tq _ ctv H' _ (I.un (t':=tk) un cm) hfn at_f at_c hfd hfs ⟨_,at_P,?_,fun pos' cv e=>?_⟩ gn
  ·rw[Array.toList_append]
   exact TriplesOk_snoc _ _ _ _ ht
  ·rw[Array.toList_append] at e
   rcases tH _ ht e with e|rfl
   ·obtain⟨c3,o3,f3,t3,rfl,g1,g2,g3⟩:=hrow pos' cv e
    exact⟨c3,o3,f3,t3,rfl,gn _ _ (fun z=>by rw[z,hP] at g1;cases g1) g1,g2,g3⟩
   ·exact⟨c',oc,fs,tq,rfl,at_c,hfd,hfs⟩
 |some cv=>
  obtain⟨c',oc,fs,tq,rfl,g1,hfd,hfs⟩:=hrow pos cv hf
  refine PySem.W.kla_makeFunctionHit (mg:=X.mg) hcl I.ok.glob hg hcode (hC.keeps I.bk) gP ht hf hBA fun ctv h' tk hk hsz=>?_
  have hfn:H h'.objs.size=none:=I.cm.fresh hsz
  have nf: ∀ b u,H b=some u→b≠h'.objs.size:=fun b u e=>bh e hfn
  have J:=I.laid (t':=tk) (h':=h'.push (kla_obj "<lambda>" (X.env.qual++"<lambda>") params body scope [] ((X.mg "__name__").getD .none) c' ctv)) (a:=h'.objs.size) (o:=.lx (kla_obj "<lambda>" (X.env.qual++"<lambda>") params body scope [] ((X.mg "__name__").getD .none) c' ctv) (.own h'.objs.size))
   (fun b u e=>Hh _ (hk b u e)) hsz ⟨Hw _ rfl,_,Hw _ rfl⟩
  refine h h'.objs.size c' oc fs tq _ ctv _ _ J hfn ay (by rw[au (nf _ _ g1)];exact g1) hfd hfs ⟨ps,by rw[au (nf _ _ hP)];exact hP,ht,fun pos' cv e=>?_⟩ fun b o _ e=>by rw[au (nf _ _ e)];exact e
  obtain⟨c3,o3,f3,t3,rfl,k1,k2,k3⟩:=hrow pos' cv e
  exact⟨c3,o3,f3,t3,rfl,by rw[au (nf _ _ k1)];exact k1,k2,k3⟩
end
section
open PySem.W (kla_fn kla_obj CodeHd tabObj)
def Bf (e:Addr×Str) (N:List Str) (tE:TE) (Q:VK) (x:V) (H1:Hp):Prop:= ∃ (l:Addr) (xs:List V) (kf:Nat→Int×Int),x= .ref l∧(H1 l=some (.lst xs)∨H1 l=some (.tup xs))∧xs.length < 64∧TabAt H1 e∧
 (∀ i x,xs[i]?=some x→∀ H2,(∀ b o,b≠e.1→H1 b=some o→H2 b=some o)→tE (start N [x]) H2 fun v H3=> ∃ T,v= .ref T∧H2 T=none∧H3=upd H2 T (.tup [.int (kf i).1,.int (kf i).2]))∧
 (∀ i,i < xs.length→0≤(kf i).2∧(kf i).2 < 1000000)∧(∀ i j,i < xs.length→j < xs.length→i≠j→rk kf i≠rk kf j)∧
 ∀ (D:Addr) (H':Hp) (p:Array Nat),H1 D=none→H' D=some (.lst (p.toList.map fun i=>xs.getD i .bX))→(∀ b o,b≠e.1→H1 b=some o→H' b=some o)→TabAt H' e→p.size=xs.length→p.Perm (List.toArray (List.range xs.length))→rF (rk kf) p xs.length→Q (.ref D) H'
noncomputable def vS (e:Addr×Str) (N:List Str) (tE ta:TE):TE:=fun σ H Q=>ta σ H (Bf e N tE Q)
noncomputable def Dm (e:Addr×Str) (N:List Str) (tE:TE) (Q:VK):List V→Hp→Prop
 |[x],H1=>Bf e N tE Q x H1
 |_,_=>False
theorem xc (hr:dA (k+3) X.A) (hB:AM X.base X.mg) (hcode:X.env.code= .ref c) (hC:CodeHd X.base c P) (hcl:closureFor scope X.env=pure []) (hdef:defaultsOf params X.env=([],[])) (S:ba N [y] scope)
  (hbind: ∀ (s:Shared) (pm:Value) (c:Addr) (ctv u:Value),BindsTo s (kla_fn "<lambda>" (X.env.qual++"<lambda>") params body scope [] pm (.ref c) ctv) ⟨[u],[]⟩ [(y,u)])
  (ig: ∀ (f c:Addr) (A:Around) (s:Shared) (H:Hp),PE (g9 dF X.prog X.w X.K X.mg X.base N (X.env.qual++"<lambda>") scope f (.ref c) A X.stack s H E0).pW body tE)
  (hg:Gl X "sorted") (hm:X.mg "sorted"=none) (ha:PE X e ta) (hs:starEach [e] X.env=(false,eval e X.env)::starEach [] X.env:=by rfl):
  PE X (.Call (.Name "sorted" p) [e] [⟨some (Str.ofString "key"),.Lambda params body scope lpos,kpos⟩] pos) (vS (P,X.env.qual++"<lambda>") N tE ta):=by
 intro pZ s σ H Q I h
 refine wpAny_Call_Name_kw (ke I hg hm boot_sorted ?_)
 have hpa:=eL ha fZ hs
 refine callWith_kw (bF (hpa pos pZ s σ H (Dm (P,X.env.qual++"<lambda>") N tE Q) I h) fun us s1 hu=>?_) (by rw[hs];rfl) (by rw[hs];rfl)
 obtain⟨vs,H1,I1,r,q⟩:=hu
 match vs,r,q with
 |[x],r,q=>
 obtain⟨u,rfl,rx⟩:=vals1 r
 obtain⟨l,xs,kf,rfl,hl,h64,tab,hk,hb,dz,q⟩:=q
 cases rx
 refine kws_cons (xK I1 hB hcode hC tab hcl hdef fun f c' oc fs tq pm ctv H' s' J hfn at_f at_c hfd hfs tab' gn=>kws_nil ?_)
 show wpAny (model X.prog X.w) X.A (call (.builtin "sorted") [.ref l] [(Str.ofString "key",.ref f)]) (EP X pZ σ Q) X.xe s'
 have nl:l≠P:=fun z=>by
  obtain⟨ps,hP,_⟩:=tab
  have hP:H1 P=some (.lV ps):=hP
  rw[z,hP] at hl
  rcases hl with z|z<;>cases z
 have src: ∃ T o n0 aA,(T="list"∨T="tuple")∧s'.heap.get? l=some o∧o.cls= .type T∧o.data= .seq (List.toArray aA) n0∧Vals xs aA:=by
  rcases hl with hl|hl
  ·obtain⟨_,aA,n,rv,ho⟩:=J.cm l _ (gn l _ nl hl)
   exact⟨"list",_,n,aA,.inl rfl,ho,rfl,rfl,rv⟩
  ·obtain⟨_,aA,rv,pT⟩:=J.cm l _ (gn l _ nl hl)
   obtain⟨o,ho,hc,n,hd⟩:=pT.is
   exact⟨"tuple",o,n,aA,.inr rfl,ho,hc,hd,rv⟩
 obtain⟨T,o,n0,aA,hT,ho,hc,hd,rv⟩:=src
 refine oI J hT ho hc hd rv h64 (fun kK H2 s2 i u hu sm J2=>?_) hb dz fun D H3 p' hD e1 sm hz hp hu=>?_
 ·have hi:i < xs.length:=by rw[rv.length];exact(Hm.mp hu).1
  obtain⟨u',hu',ru⟩:=rv.get (Hd hi)
  rw[hu] at hu'
  cases hu'
  exact xM S hr.in1.in1 rfl J2 (J2.cm f _ (sm _ _ at_f)).1 (J2.cm c' _ (sm _ _ at_c)).1 hfd hfs (hbind s2 pm c' ctv u) rfl (show Vals [xs[i]] [u] from .cons ru .nil) (ig f c' _ s2 H2)
   (hk i _ (Hd hi) H2 fun b o nb e=>sm b o (gn b o nb e))
 ·refine q D H3 p' ?_ e1 (fun b o nb e=>sm b o (gn b o nb e)) (tab'.keep (fun ps e=>sm _ _ e) fun b ob u e=>sm _ _ e) hz hp hu
  cases e:H1 D with
  |none=>rfl
  |some o=>
   by_cases z:D=P
   ·obtain⟨ps,hP,_⟩:=tab'
    have hP:H' P=some (.lV ps):=hP
    rw[z,hP] at hD
    cases hD
   ·rw[gn D o z e] at hD
    cases hD
noncomputable def AO (K:Frag) (i j:Int):TE:=DI (lW (ze (zB K) (nc 0) (tC (.int i))) (lW (ze (zB K) (nc 0) (tC (.int j))) vU))
theorem vT {K:Frag} {i j a b:Int} {N:List Str} {H:Hp} {p:Addr} {ys:List V} (h:H p=some (.tup ys)) (hi:ja ys i=some (.int a)) (hj:ja ys j=some (.int b)):
  AO K i j (start N [.ref p]) H fun v H3=> ∃ T,v= .ref T∧H T=none∧H3=upd H T (.tup [.int a,.int b]):=by
 have e0:(start N [V.ref p])[0]?=some (some (.ref p)):=iB rfl
 exact⟨_,e0,p,ys,i,_,rfl,rfl,dJ.of h,hi,_,e0,p,ys,j,_,rfl,rfl,dJ.of h,hj,by show 2≤sizeLine;rw[HW];lia,fun T hT=>⟨T,rfl,hT,rfl⟩⟩
noncomputable def iS:PV→Option (Int×Int)
 | .tup l=>match (l[2]?:Option PV),(l[1]?:Option PV) with
  |some (PV.int m),some (PV.int n)=>some (m,n)
  |_,_=>none
 |_=>none
noncomputable def yV (y:PV):Int×Int:=(iS y).getD (0,0)
noncomputable def jQ (y:PV):Int:=(yV y).1 * 1000000+(yV y).2
theorem vb (h:iS y=some k): ∃ l,y= .tup l∧l[2]?=some (.int k.1)∧l[1]?=some (.int k.2):=by
 cases y with
 |tup l=>
  simp only[iS] at h
  split at h
  ·rename_i m n e1 e2
   cases h
   exact⟨l,rfl,e1,e2⟩
  ·cases h
 |_=>cases h
noncomputable def vf (y:PV):List PV→List PV
 |[]=>[y]
 |z::l=>if jQ y < jQ z then y::z::l else z::vf y l
noncomputable def lr:List PV→List PV
 |[]=>[]
 |y::l=>vf y (lr l)
noncomputable def En (y:PV):Bool:=match iS y with
 |some k=>decide (0≤k.2)&&decide (k.2 < 1000000)
 |none=>false
noncomputable def Dz (l:List PV):Bool:=decide (l.length < 64)&&l.all En&&decide (l.map jQ).Nodup
theorem t9 (h:En y=true): ∃ k,iS y=some k∧0≤k.2∧k.2 < 1000000:=by
 unfold En at h
 cases e:iS y with
 |none=>rw[e] at h;cases h
 |some k=>
  rw[e] at h
  simp only[HU,IA] at h
  exact⟨k,rfl,h.1,h.2⟩
theorem kj (y:PV): ∀ l,(vf y l).Perm (y::l)
 |[]=>.refl _
 |z::l=>by
  unfold vf
  split
  ·exact .refl _
  ·exact((kj y l).cons z).trans (.swap _ _ _)
theorem iI: ∀ l,(lr l).Perm l
 |[]=>.refl _
 |y::l=>(kj y _).trans ((iI l).cons y)
abbrev DF (a b:PV):Prop:=jQ a < jQ b
theorem ui (y:PV): ∀ l,l.Pairwise DF→(∀ z∈l,jQ y≠jQ z)→(vf y l).Pairwise DF
 |[],_,_=>List.pairwise_singleton _ _
 |z::l,h,n=>by
  have h':=Ij.mp h
  unfold vf
  split
  ·rename_i c
   refine Ij.mpr ⟨fun x hx=>?_,h⟩
   rcases Hr.mp hx with rfl|hx
   ·exact c
   ·exact Int.lt_trans c (h'.1 x hx)
  ·rename_i c
   have nz:=n z Hf
   refine Ij.mpr ⟨fun x hx=>?_,ui y l h'.2 fun x hx=>n x (Hj _ hx)⟩
   rcases Hr.mp ((kj y l).mem_iff.mp hx) with rfl|hx
   ·show jQ z < jQ x
    lia
   ·exact h'.1 x hx
theorem o7: ∀ l,(l.map jQ).Nodup→(lr l).Pairwise DF
 |[],_=>.nil
 |y::l,h=>by
  rw[Hq,List.nodup_cons] at h
  refine ui y _ (o7 l h.2) fun z hz e=>h.1 ?_
  rw[e]
  exact HM ((iI l).mem_iff.mp hz)
theorem vM: ∀ (l m:List PV),l.Pairwise DF→m.Pairwise DF→l.Perm m→l=m
 |[],m,_,_,p=>(List.nil_perm.mp p).symm
 |a::l,[],_,_,p=>absurd p.length_eq (by simp)
 |a::l,b::m,h1,h2,p=>by
  have h1':=Ij.mp h1
  have h2':=Ij.mp h2
  have ea:a=b:=by
   rcases Hr.mp (p.mem_iff.mp Hf) with e|ha
   ·exact e
   rcases Hr.mp (p.mem_iff.mpr Hf) with e|hb
   ·exact e.symm
   have x1:jQ a < jQ b:=h1'.1 b hb
   have x2:jQ b < jQ a:=h2'.1 a ha
   lia
  subst ea
  rw[vM l m h1'.2 h2'.2 (List.perm_cons a |>.mp p)]
theorem Ak (nd:(l.map jQ).Nodup) (p:m.Perm l) (u:m.Pairwise DF):lr l=m:=vM _ _ (o7 l nd) u ((iI l).trans p.symm)
theorem xm (nd:(l.map jQ).Nodup) (hk: ∀ i,i < l.length→kf i=yV (l.getD i .bX)) (hz:p.size=l.length) (hp:p.Perm (List.toArray (List.range l.length))) (hu:rF (rk kf) p l.length):lr l=p.toList.map fun i=>l.getD i .bX:=by
 have kO:p.toList.Perm (List.range l.length):=Array.perm_iff_toList_perm.mp hp
 have fR: ∀ i∈p.toList,i < l.length:=fun i hi=>by
  have:=kO.mem_iff.mp hi
  simpa using this
 refine Ak nd ?_ ?_
 ·have e:(List.range l.length).map (fun i=>l.getD i .bX)=l:=by
   apply List.ext_getElem?
   intro i
   rw[HC]
   by_cases hi:i < l.length
   ·rw[List.getElem?_range hi,Hd hi]
    simp[hi]
   ·rw[IC (by simpa using hi),IC (by simpa using hi)]
    rfl
  rw[←e]
  have:=kO.map fun i=>l.getD i .bX
  rw[e] at this ⊢
  exact this
 ·rw[List.pairwise_map,List.pairwise_iff_getElem]
  intro i j hi hj hij
  have hj':j < l.length:=by rw[HS,hz] at hj;exact hj
  have x:=hu i j hij hj'
  unfold kg rk at x
  have gi:p.getD i 0=p.toList[i]:=by
   rw[HE,Array.getElem?_eq_getElem (by rw[hz];lia)]
   rfl
  have gj:p.getD j 0=p.toList[j]:=by
   rw[HE,Array.getElem?_eq_getElem (by rw[hz];lia)]
   rfl
  rw[gi,gj,hk _ (fR _ (HZ hi)),hk _ (fR _ (HZ hj))] at x
  exact x
end
section
variable {φ:du}
noncomputable def tP:PV→Option (List PV)
 | .lst l=>some l
 | .tup l=>some l
 |_=>none
noncomputable def nH (y:PV):M (List PV):=match tP y with
 |some l=>if Dz l then .ret (lr l) else .fail
 |none=>.fail
theorem uO (w:(nH y).wp n R): ∃ l,tP y=some l∧l.length < 64∧(∀ z∈l,En z=true)∧(l.map jQ).Nodup∧R (lr l) n:=by
 unfold nH at w
 cases e:tP y with
 |none=>rw[e] at w;exact w.elim
 |some l=>
  rw[e] at w
  dsimp only at w
  by_cases c:Dz l=true
  ·rw[Ig c] at w
   unfold Dz at c
   simp only[HU,IA,List.all_eq_true] at c
   exact⟨l,rfl,c.1.1,c.1.2,c.2,w⟩
  ·rw[Ih c] at w;exact w.elim
theorem zw (r:cI G O H y x) (e:tP y=some l): ∃ p xs,x= .ref p∧(H p=some (.lst xs)∨H p=some (.tup xs))∧aO G.B O H l xs:=by
 cases y with
 |lst l'=>
  cases e
  obtain⟨p,xs,rfl,h,r⟩:=r.fi
  exact⟨p,xs,rfl,.inl h,r⟩
 |tup l'=>
  cases e
  obtain⟨p,xs,rfl,h,r⟩:=r.gf
  exact⟨p,xs,rfl,.inr h,r⟩
 |_=>cases e
theorem pP {α:Type} {l:List α} {k:Nat} {x:α} (h:l[k]?=some x):ja l (k:Int)=some x:=by
 have hk:k < l.length:=(Hm.mp h).1
 unfold ja xP
 rw[Ig (by lia),Ig (by lia)]
 show l[((k:Nat):Int).toNat]?=_
 rw[Int.toNat_natCast]
 exact h
theorem yp {X:Cx} {e:Expr} {tb:Addr×Str} {N:List Str} {me:ao→M PV} (hin:tb∈φ.tabs) (hun: ∀ q∈φ.tabs,q.1=tb.1→q=tb) (h:BE X e (vS tb N (AO X.K 2 1) (vC φ me))):EF φ X e (fun ρ=>(me ρ).bind nH):=BE.mono h fun σ H Q cy=>by
 obtain⟨G,O,ρ,n,R,s,w,q⟩:=cy
 rw[M.wZ] at w
 refine⟨G,O,ρ,n,_,s,w,fun y x H1 n1 e1 bS r1 w1=>?_⟩
 obtain⟨l,hl,h64,cm,nd,hR⟩:=uO w1
 obtain⟨p,xs,rfl,hp,rs⟩:=zw r1 hl
 have s1:=s.ext e1 bS
 have tab:=G.tab H1 n1 bS tb hin
 have hlen:l.length=xs.length:=rs.1
 have pO:O tb.1:=s.pr _ (G.tp tb hin)
 obtain⟨ps,hP,_⟩:=id tab
 refine⟨p,xs,fun i=>yV (l.getD i .bX),rfl,hp,by lia,tab,fun i x hx H2 k2=>?_,fun i hi=>?_,fun i j hi hj ne=>?_,fun D H' p' hD hD' kp tab' hz hpm hu=>?_⟩
 ·obtain⟨y,hy,ry⟩:=rs.at' hx
  obtain⟨k,ek,b0,b1⟩:=t9 (cm y (List.mem_of_getElem? hy))
  obtain⟨l',rfl,g2,g1⟩:=vb ek
  obtain⟨q',ys,rfl,hq',r'⟩:=(cI.full ry:cI G O H1 _ _).gf
  obtain⟨v2,hv2,rv2⟩:=r'.at g2
  obtain⟨v1,hv1,rv1⟩:=r'.at g1
  cases rv2
  cases rv1
  have ekk:yV (l.getD i .bX)=k:=by
   rw[HA,hy]
   show (iS _).getD _=k
   rw[Ir,ek]
   rfl
  dsimp only
  rw[ekk]
  exact vT (k2 _ _ (fun z=>by rw[z,hP] at hq';cases hq') hq') (pP hv2) (pP hv1)
 ·have hi':i < l.length:=by lia
  obtain⟨k,ek,b0,b1⟩:=t9 (cm _ (HZ hi'))
  have ekk:yV (l.getD i .bX)=k:=by
   rw[HA,Hd hi']
   show (iS _).getD _=k
   rw[Ir,ek]
   rfl
  dsimp only
  rw[ekk]
  exact⟨b0,b1⟩
 ·have hi':i < l.length:=by lia
  have hj':j < l.length:=by lia
  intro z
  have e1: ∀ k,(hk:k < l.length)→rk (fun i=>yV (l.getD i .bX)) k=(l.map jQ)[k]'(by simpa using hk):=fun k hk=>by
   rw[List.getElem_map]
   unfold rk jQ
   dsimp only
   rw[HA,Hd hk]
   rfl
  rw[e1 i hi',e1 j hj'] at z
  have pw:=List.pairwise_iff_getElem.mp nd
  rcases Nat.lt_or_gt_of_ne ne with c|c
  ·exact pw i j (by simpa using hi') (by simpa using hj') c z
  ·exact pw j i (by simpa using hj') (by simpa using hi') c z.symm
 ·have kp1: ∀ b o,¬ O b→H1 b=some o→H' b=some o:=fun b o nb eb=>kp b o (fun z=>nb (z▸pO)) eb
  have ext:Ext G.B H1 H':=fun b o nb eb=>by
   by_cases z:b=tb.1
   ·obtain⟨qs,hQ,_⟩:=tab'
    rw[z,hP] at eb
    cases eb
    exact⟨qs,z▸hQ⟩
   ·exact .of (kp b o z eb)
  have ok':G.ok H' n1:=G.uK H1 H' n1 bS (fun q' hq'=>by
   by_cases z:q'.1=tb.1
   ·rw[hun q' hq' z]
    exact tab'
   ·exact(G.tab H1 n1 bS q' hq').keep (fun qs eq=>kp _ _ z eq) fun b ob u eq=>kp b _ (fun y=>by rw[y,hP] at eq;cases eq) eq) fun b o nb eb=>kp b o (fun z=>nb (Hu.mpr ⟨tb,hin,z.symm⟩)) eb
  have ei:=xm (p:=p') nd (kf:=fun i=>yV (l.getD i .bX)) (fun i _=>rfl) (by lia) (by rw[hlen];exact hpm) (by rw[hlen];exact hu)
  have fR: ∀ i∈p'.toList,i < l.length:=fun i hi=>by
   have:=(Array.perm_iff_toList_perm.mp hpm).mem_iff.mp hi
   simp at this
   lia
  refine q (lr l) D _ H' n1 (e1.trans ext) ok' (eW e1 bS hD) hD' ?_ hR
  rw[ei]
  have go:aO G.B O H1 (p'.toList.map fun i=>l.getD i .bX) (p'.toList.map fun i=>xs.getD i .bX):=by
   refine⟨by simp,fun i y x a b=>?_⟩
   rw[HC] at a b
   cases c:p'.toList[i]? with
   |none=>rw[c] at a;cases a
   |some j=>
    rw[c] at a b
    cases a
    cases b
    have hj:=fR j (List.mem_of_getElem? c)
    obtain⟨x,hx,rx⟩:=rs.at (Hd hj)
    show Rep G.B O H1 (l.getD j .bX) (xs.getD j .bX)
    rw[HA,HA,hx,Hd hj]
    exact rx
  exact go.keep (O':=fun q=>O q∨q=D) (H':=H') fun b o nb eb=>⟨kp1 b o nb eb,fun z=>by
   rcases z with z|z
   ·exact nb z
   ·rw[z,hD] at eb;cases eb⟩
end
noncomputable def meet (l:List Str) (z:Str):List Str:=if l.any (· ==z) then l else l++[z]
noncomputable def met (zs:List Str):List Str:=zs.foldl meet []
section
variable {X:Cx}
theorem jU: ∀ {vs:List Value} {ss:List Str},StrsAre vs ss→Vals (ss.map V.str) vs
 |_,_,.nil=>.nil
 |_,_,.cons x t h=>.cons ⟨t,rfl⟩ (jU h)
end
def sF (a b:Str):Prop:= ¬ b.cps.toList < a.cps.toList
theorem nN (h1:sF a b) (h2:sF b c):sF a c:=fun h=>by
 unfold sF at h1 h2
 exact absurd h (List.not_lt.mpr (List.le_trans (List.not_lt.mp h1) (List.not_lt.mp h2)))
theorem xG (h1:sF a b) (h2:sF b a):a=b:=by
 have e:a.cps.toList=b.cps.toList:=List.le_antisymm (List.not_lt.mp h1) (List.not_lt.mp h2)
 cases a;cases b
 simp only[Str.mk.injEq]
 exact Array.toList_inj.mp e
theorem mj: ∀ (p:Str) (l:List Str),risingS p l=true→(p::l).Pairwise sF
 |p,[],_=>by simp
 |p,x::r,h=>by
  have h':(!ltCps x.cps.toList p.cps.toList&&risingS x r)=true:=h
  rw[HU,ltCps_eq] at h'
  have px:sF p x:=by
   have:=h'.1
   simpa[sF] using this
  have ih:=mj x r h'.2
  refine Ij.mpr ⟨fun y hy=>?_,ih⟩
  rcases Hr.mp hy with rfl|hy
  ·exact px
  ·exact nN px (List.rel_of_pairwise_cons ih hy)
theorem rN: ∀ (l:List Str),sortedS l=true→l.Pairwise sF
 |[],_=>.nil
 |x::r,h=>mj x r h
theorem iZ: ∀ (l m:List Str),l.Pairwise sF→m.Pairwise sF→l.Perm m→l=m
 |[],m,_,_,p=>(List.nil_perm.mp p).symm
 |a::l,[],_,_,p=>absurd p.length_eq (by simp)
 |a::l,b::m,h1,h2,p=>by
  have ea:a=b:=by
   rcases Hr.mp (p.mem_iff.mp Hf) with e|ha
   ·exact e
   rcases Hr.mp (p.mem_iff.mpr Hf) with e|hb
   ·exact e.symm
   exact xG (List.rel_of_pairwise_cons h1 hb) (List.rel_of_pairwise_cons h2 ha)
  subst ea
  rw[iZ l m (Ij.mp h1).2 (Ij.mp h2).2 (List.perm_cons a |>.mp p)]
noncomputable def rV (x:Str):List Str→List Str
 |[]=>[x]
 |y::l=>if ltCps y.cps.toList x.cps.toList then y::rV x l else x::y::l
noncomputable def dR:List Str→List Str
 |[]=>[]
 |x::l=>rV x (dR l)
theorem j4 (x:Str): ∀ l:List Str,(rV x l).Perm (x::l)
 |[]=>.rfl
 |y::l=>by
  unfold rV
  split
  ·exact((j4 x l).cons y).trans (.swap x y l)
  ·exact .rfl
theorem fC: ∀ l:List Str,(dR l).Perm l
 |[]=>.rfl
 |x::l=>(j4 x _).trans ((fC l).cons x)
theorem kJ (x:Str): ∀ l:List Str,l.Pairwise sF→(rV x l).Pairwise sF
 |[],_=>by simp[rV]
 |y::l,h=>by
  obtain⟨h1,h2⟩:=Ij.mp h
  unfold rV
  rw[ltCps_eq]
  by_cases c:y.cps.toList < x.cps.toList
  ·rw[Ig (by simpa using c)]
   refine Ij.mpr ⟨fun z hz=>?_,kJ x l h2⟩
   rcases Hr.mp ((j4 x l).mem_iff.mp hz) with rfl|hz
   ·exact fun h'=>absurd (List.lt_trans c h') (List.lt_irrefl _)
   ·exact h1 z hz
  ·rw[Ih (by simpa using c)]
   refine Ij.mpr ⟨fun z hz=>?_,h⟩
   rcases Hr.mp hz with rfl|hz
   ·exact c
   ·exact nN c (h1 z hz)
theorem fw: ∀ l:List Str,(dR l).Pairwise sF
 |[]=>.nil
 |x::l=>kJ x _ (fw l)
theorem qc (p:ys.Perm zs) (h:sortedS ys=true):ys=dR zs:=iZ _ _ (rN _ h) (fw zs) (p.trans (fC zs).symm)
theorem rR (p:zs.Perm zs'):dR zs=dR zs':=iZ _ _ (fw zs) (fw zs') ((fC zs).trans (p.trans (fC zs').symm))
section
variable {X:Cx} {φ:du} {e:Expr}
noncomputable def wH (K:Frag):List V→Hp→VK→Prop:=fun xs H Q=> ∃ (l:Addr) (zs:List Str),xs=[.ref l]∧cw K H l (zs.map V.str)∧zs.length < 64∧∀ (ys:List Str) (p:Addr),ys.Perm zs→sortedS ys=true→H p=none→Q (.ref p) (upd H p (.lst (ys.map V.str)))
theorem nF: ∀ {aA:List Value} {zs:List Str},Vals (zs.map V.str) aA→StrsAre aA zs
 |_,[],.nil=>.nil
 |_,z::zs,.cons h r=>by
  obtain⟨t,rfl⟩:=h
  exact .cons z t (nF r)
theorem tf:eR X (.builtin "sorted") (wH X.K):=by
 intro pZ s σ H xs us Q I r h
 obtain⟨l,zs,rfl,hl,hz,q⟩:=h
 obtain⟨u,rfl,rx⟩:=vals1 r
 cases rx
 obtain⟨aA,rv,p,hs⟩:=I.list hl
 have hlen:aA.length=zs.length:=by
  have:=rv.length
  simpa using this.symm
 refine sorted_strs p.isList (nF rv) (by lia) fun out ss c1 c2 c3=>?_
 obtain⟨n,g⟩:=sortedAll_at s.heap aA out
 have I2:=I.laid (t':=s.toks) (h':=sortedAll s.heap aA out) (a:=s.heap.objs.size+1) (o:=.lst (ss.map V.str)) (fun b u e=>sortedAll_old e) (Nat.le_succ _) ⟨by rw[Hg,c2.length_eq,HW];lia,out.toList,n,jU c1,by simpa using g⟩
 exact⟨.ref (s.heap.objs.size+1),_,I2,rfl,q ss _ c2 c3 (I.cm.fresh (Nat.le_succ _))⟩
noncomputable def qd:List PV→M (List PV)
 |[.lst l]=>(M.eV (strsOf l)).bind fun zs=>if zs.length < 64 then .ret ((dR zs).map PV.str) else .fail
 |_=>.fail
theorem nI (ys:List Str):aO B O H (ys.map PV.str) (ys.map V.str):=by
 refine⟨by simp,fun i y x hy hx=>?_⟩
 rw[HC] at hy hx
 obtain⟨z,hz,rfl⟩:=HG.mp hy
 rw[hz] at hx
 cases hx
 exact .str z
theorem v7 {f:List Str→List Str} {c:List Str→Prop} [∀ z,Decidable (c z)] (w:((M.eV (strsOf l)).bind fun zs=>if c zs then M.ret ((f zs).map PV.str) else .fail).wp n R): ∃ zs,strsOf l=some zs∧c zs∧R ((f zs).map PV.str) n:=by
 cases e:strsOf l with
 |none=>rw[e] at w;exact w.elim
 |some zs=>
  rw[e] at w
  have w':(if c zs then M.ret ((f zs).map PV.str) else .fail).wp n R:=w
  split at w'
  ·rename_i h
   exact⟨zs,rfl,h,w'⟩
  ·exact w'.elim
theorem uN (w:(qd l).wp n R): ∃ l' zs,l=[.lst l']∧strsOf l'=some zs∧zs.length < 64∧R ((dR zs).map PV.str) n:=by
 unfold qd at w
 split at w
 ·obtain⟨zs,h1,h2,h3⟩:=v7 w
  exact⟨_,zs,rfl,h1,h2,h3⟩
 ·exact w.elim
theorem Ay {K:Frag}:rC (wH K) qd:=fun φ G O H n R Q l xs pr dm ok r w q=>by
 obtain⟨l',zs,rfl,hz,h64,hR⟩:=uN w
 obtain⟨x,rfl,r1⟩:=r.one
 obtain⟨p,ys,rfl,h,e⟩:=r1.fi
 refine⟨p,zs,rfl,?_,h64,fun ys' p' pm hs hp=>?_⟩
 ·rw[←lY e hz]
  exact cw.of h
 ·rw[qc pm hs]
  exact q.mk ok hp (pr _ G.pB) (nI _) hR
end
structure yS (K:Frag) (x qual:Str) (st:Stmt) (f:Addr) (fd:FuncData) (c tb:Addr):Prop where
 ex: ∃ (oc:Value) (od:Option Addr) (kV doc pm:Value) (an:Option Addr) (ct:Value) (osl:Array (Option Value)),
  fd=fnOf x qual (bA st) (aw st) (ak st) .none kV doc pm an (.ref c) ct∧K.lookup f=some ⟨oc,od,.func fd,osl⟩∧codeIn K (.ref c) qual=true
 hd:PySem.W.codeHdIn K c tb=true
section
variable {φ:du} {P:Program} {w:World} {K:Frag} {mg:Str→Option Value} {base:Heap}
theorem yS.ok {x qual:Str} {st:Stmt} {f c tb:Addr} {fd:FuncData} {N ps:List Str} {k:Nat} {sp:Sp} (F:yS K x qual st f fd c tb) (S:ba N ps (ak st)) (len: ∀ vs H Q E,sp vs H Q E→vs.length=ps.length)
  (ig: ∀ (A:Around) (outer:List Env) (s:Shared) (H:Hp) (vs:List V) (Q:VK) (E:XK),dA k (A.deeper (envOfC qual (ak st) s.heap.objs.size f (.ref c)))→sp vs H Q E→
   ∃ t,rG (g9 dF P w K mg base N qual (ak st) f (.ref c) A outer s H E).pW (aw st) t∧t {nx:=fun _ H'=>Q .bX H',rt:=Q} (start N vs) H):bu P w K mg base dF (k+1) f fd ps sp:=by
 obtain⟨oc,od,kV,doc,pm,an,ct,osl,rfl,lk,hcd⟩:=F.ex
 refine Ba lk hcd S len fun A outer s H vs Q E hr hsp=>?_
 obtain⟨t,h,q⟩:=ig A outer s H vs Q E hr hsp
 exact⟨t,h.pW,q⟩
theorem As {x qual:Str} {st:Stmt} {f c tb:Addr} {fd:FuncData} {N ps:List Str} {k:Nat} {m:ao→M Fl} (F:yS K x qual st f fd c tb) (S:ba N ps (ak st)) (hN:ps.length≤N.length)
  (hb: ∀ (A:Around) (outer:List Env) (s:Shared) (H:Hp) (E:XK),dA k (A.deeper (envOfC qual (ak st) s.heap.objs.size f (.ref c)))→AL φ (g9 dF P w K mg base N qual (ak st) f (.ref c) A outer s H E).pW (aw st) m):
  bu P w K mg base dF (k+1) f fd ps (fo φ (lQ ps.length N.length m)):=by
 refine F.ok S (fun vs H Q E h=>?_) (fun A outer s H vs Q E hr h=>⟨_,(hb A outer s H E hr).out,?_⟩)
 ·obtain⟨G,O,l,n,R,_,_,_,r,w,_⟩:=h
  unfold lQ at w
  by_cases hc:l.length=ps.length
  ·rw[←r.1,hc]
  ·rw[Ih hc] at w;exact w.elim
 ·obtain⟨G,O,l,n,R,pr,dm,ok,r,w,q⟩:=h
  unfold lQ at w
  by_cases hc:l.length=ps.length
  ·rw[Ig hc,M.wZ] at w
   refine⟨G,O,H,O,gB N.length l,n,⟨⟨⟨?_,fun i e he=>?_⟩,ok,pr,dm⟩,pr,fun p h=>h,Ext.refl _ _,fun p h=>.inl h,dm,fun i p h=>?_,fun i j p h=>?_⟩,M.wp_mono w fun f n' h=>?_⟩
   ·unfold start gB;simp[r.1]
   ·unfold gB at he
    by_cases hi:i < l.length
    ·rw[HX (by simpa using hi),HC,Hd hi] at he
     cases he
     obtain⟨x,hx,rr⟩:=r.at (Hd hi)
     exact⟨x,by rw[iB hx];rfl,rr⟩
    ·rw[List.getElem?_append_right (by simpa using hi),IB] at he
     split at he
     ·cases he;trivial
     ·cases he
   all_goals try (
    obtain⟨t,h1,h2,_⟩:=h
    exfalso
    unfold gB at h1
    by_cases hi:i < l.length
    ·rw[HX (by simpa using hi),HC,Hd hi] at h1
     cases h1;cases h2
    ·rw[List.getElem?_append_right (by simpa using hi),IB] at h1
     split at h1
     ·cases h1;cases h2
     ·cases h1)
   cases f with
   |nx ρ=>exact fun O' σ' H' s'=>q .bX .bX H' n' s'.ext s'.es.ok .bX h
   |rt y=>exact fun x' H' e' ok' r'=>q y x' H' n' e' ok' r' h
   |bk ρ=>exact h.elim
   |ct ρ=>exact h.elim
  ·rw[Ih hc] at w;exact w.elim
theorem CT {x qual:Str} {st:Stmt} {f c tb:Addr} {fd:FuncData} {N ps:List Str} {k:Nat} {m:ao→M Fl} {body:List Stmt} {sc:Scope} {Ff:List PV→M PV} (hF:Ff=lQ ps.length N.length m) (F:yS K x qual st f fd c tb) (S:ba N ps (ak st)) (hN:ps.length≤N.length) (eb:aw st=body) (es:ak st=sc)
  (hb: ∀ (A:Around) (outer:List Env) (s:Shared) (H:Hp) (E:XK),dA k (A.deeper (envOfC qual sc s.heap.objs.size f (.ref c)))→AL φ (g9 dF P w K mg base N qual sc f (.ref c) A outer s H E).pW body m):
  bu P w K mg base dF (k+1) f fd ps (fo φ Ff):=by
 subst hF eb es
 exact As F S hN hb
end
noncomputable def jY (K:Frag) (tbs:List Addr):Sp:=fun vs H Q _=> ∃ (a:Addr) (ns:List Int),vs=[.ref a]∧cw K H a (ns.map V.int)∧ns.length≤63∧(∀ tb∈tbs,H tb=some (.lV #[]))∧∀ H',Q (.bl true) H'
def p4 (c dp:Nat) (y:PV):Prop:= ∃ d:PyData,toD y=some d∧d.showable=true∧d.hasDict=false∧d.shown.length≤c∧d.depth≤dp
theorem p4.mono (h:p4 c dp y) (hc:c≤c') (hd:dp≤dp'):p4 c' dp' y:=by
 obtain⟨d,h1,h2,h3,h4,h5⟩:=h
 exact⟨d,h1,h2,h3,HD h4 hc,HD h5 hd⟩
theorem zr (h:i.natAbs < 10 ^ 61):p4 62 0 (.int i):=by
 refine⟨.int i,by simp only[toD],?_,by simp only[PyData.hasDict],?_,by simp only[PyData.depth];lia⟩
 ·simp only[PyData.showable,IA]
  by_cases z:i.natAbs=0
  ·rw[z];decide
  ·rw[Nat.log2_lt z]
   exact HF h (by decide +kernel)
 ·simp only[PyData.shown]
  have:=int_text_length_le10 (k:=61) (by decide) h
  show (Str.ofString (toString i)).length≤62
  rw[PySem.ofString_length]
  lia
theorem zq (h:x.length≤k) (hc: ∀ c∈x.cps.toList,c < 16 ^ 8):p4 (10 * k+2) 0 (.str x):=by
 refine⟨.str x,by simp only[toD],by simp only[PyData.showable],by simp only[PyData.hasDict],?_,by simp only[PyData.depth];lia⟩
 simp only[PyData.shown]
 have:=PySem.StrLaws.reprText_len x hc
 lia
theorem DR: ∀ (l:List PV),(∀ z∈l,p4 c dp z)→∃ ds,m9 l=some ds∧ds.length=l.length∧PyData.showableAll ds=true∧PyData.hasDictAll ds=false∧(∀ t∈PyData.shownAll ds,t.length≤c)∧(PyData.shownAll ds).length=l.length∧PyData.depthAll ds≤dp
 |[],_=>⟨[],by simp only[m9],rfl,by simp only[PyData.showableAll],by simp only[PyData.hasDictAll],(by simp only[PyData.shownAll];exact fun t h=>absurd h Hs),(by simp only[PyData.shownAll,List.length_nil]),(by simp only[PyData.depthAll];lia)⟩
 |y::l,h=>by
  obtain⟨d,h1,h2,h3,h4,h5⟩:=h y Hf
  obtain⟨ds,g1,g2,g3,g4,g5,g6,g7⟩:=DR l fun z hz=>h z (Hj _ hz)
  refine⟨d::ds,by simp only[m9,h1,g1,Option.bind_some,Option.map_some],by simp[g2],by simp only[PyData.showableAll,h2,g3,Bool.and_self],by simp only[PyData.hasDictAll,h3,g4,Bool.or_self],?_,by simp only[PyData.shownAll,Hv,g6],by simp only[PyData.depthAll];lia⟩
  simp only[PyData.shownAll]
  intro t ht
  rcases Hr.mp ht with rfl|ht
  ·exact h4
  ·exact g5 t ht
theorem join_le: ∀ (ts:List Str),(∀ t∈ts,t.length≤c)→(Str.join ", " ts).length≤ts.length * (c+2)
 |[],_=>by show (0:Nat)≤_;lia
 |[x],h=>by
  have:=h x Hf
  show x.length≤1 * (c+2)
  lia
 |x::y::r,h=>by
  have ih:=join_le (y::r) fun t ht=>h t (Hj _ ht)
  have hx:=h x Hf
  show (x++", "++Str.join ", " (y::r)).length≤_
  have e2:((", ":String):Str).length=2:=rfl
  rw[strLen_append,strLen_append,e2,Hv,Nat.succ_mul]
  lia
theorem lC (h: ∀ z∈l,p4 c dp z) (hl:l.length≤n):p4 (n * (c+2)+3) (dp+1) (.tup l):=by
 obtain⟨ds,g1,g2,g3,g4,g5,g6,g7⟩:=DR l h
 refine⟨.tuple ds,by simp only[toD,g1,Option.map_some],by simp only[PyData.showable,g3],by simp only[PyData.hasDict,g4],?_,by simp only[PyData.depth];lia⟩
 simp only[PyData.shown]
 have hj:=join_le _ g5
 rw[g6] at hj
 have hm:l.length * (c+2)≤n * (c+2):=Nat.mul_le_mul_right _ hl
 unfold tupleText
 rw[strLen_append,strLen_append]
 have e1:(("(":String):Str).length=1:=rfl
 have e2:((if(PyData.shownAll ds).length==1 then ",)" else ")":String):Str).length≤2:=by
  by_cases z:((PyData.shownAll ds).length==1)=true
  ·rw[Ig z];decide
  ·rw[Ih z];decide
 lia
noncomputable def Fc (K:Frag) (a:Addr) (xs:List V):It:=⟨fun i H=>cw K H a xs∧i < xs.length,fun i H x H'=>H'=H∧xs.reverse[i]?=some x,fun i H=>cw K H a xs∧i=xs.length⟩
theorem vO {P:Program} {w:World} {K:Frag} {tg:Expr} (a it:Addr) (xs:List V):Turn P w K tg (Fc K a xs) [it] it (fun i h=>h.IsRevIter it a ((xs.length:Int) - 1 - i)) where
 mem:=by simp
 obj:=fun i h st b hb=>by
  have e:b=it:=by simpa using hb
  subst e
  obtain⟨o,e,c,d⟩:=st
  exact⟨o,e,fun v z=>by rw[d] at z;cases z⟩
 keep:=fun i h h' st k=>st.at fun o e=>k it (by simp) o e
 item:=by
  intro X hP hw hK hc i pZ s σ H E I hf st hg
  subst hP hw hK
  obtain⟨hq,hi⟩:=hg
  obtain⟨aA,rv,p,hz⟩:=I.list hq
  have hl:=rv.length
  obtain⟨u,hu,ru⟩:=rv.get (Hd (show xs.length - 1 - i < xs.length by lia))
  obtain⟨f0,f1,f2,f3,f4,f5⟩:=hf it (by simp)
  have ei:(xs.length:Int) - 1 - i=((xs.length - 1 - i:Nat):Int):=by lia
  have st2:=st
  rw[ei] at st2
  refine wpAny_pyNext_rev_item st2 p.isList (x:=u) (by simpa using hu) fun h' st' sb=>?_
  have I1:Inv X pZ σ H {s with heap:=h'}:=I.turned (t':=s.toks) (fun b o hb e=>(sb.2 b hb).trans e) f0 f1 f3 f4 f5
  have e2:((xs.length - 1 - i:Nat):Int) - 1=(xs.length:Int) - 1 - ((i+1:Nat):Int):=by lia
  rw[e2] at st'
  obtain⟨o,e,c,d⟩:=id st'
  refine⟨u,rfl,qO (s:={s with heap:=h'}) e c d (by decide) ⟨_,H,I1,ru,⟨rfl,?_⟩,st',fun b hb=>(hf b hb).1⟩⟩
  rw[List.getElem?_reverse hi]
  exact Hd _
 done:=by
  intro X hP hw hK hc i pZ s σ H E I hf st hg
  subst hP hw hK
  obtain⟨hq,rfl⟩:=hg
  obtain⟨f0,f1,f2,f3,f4,f5⟩:=hf it (by simp)
  rw[show (xs.length:Int) - 1 - (xs.length:Int)= -1 by lia] at st
  exact wpAny_pyNext_rev_end (I.ok.hd hc) st fun h' eb=>⟨rfl,I.turned (t':=s.toks) (fun b o hb e=>eb b o hb e) f0 f1 f3 f4 f5⟩
 self:=fun _ _ _ _ _ st h=>wpAny_pyIter_revIter st h
noncomputable def Gi (K:Frag) (ta:TA):TI:=fun σ H R=>ta σ H fun vs H1=> ∃ a xs,vs=[.ref a]∧cw K H1 a xs∧R (Fc K a xs) H1
section
variable {X:Cx} {x:Str} {p pos:Pos} {e tg:Expr}
theorem B4 {ta:TA} (hg:Gl X x) (hm:X.mg x=none) (hv:bootBuiltins x=some (.type "reversed")) (ha:PA X [e] ta) (hn:x≠"__name__":=by decide) (pd:(x==("__debug__":Str))=false:=by decide)
  (he:starEach [e] X.env=(false,eval e X.env)::starEach [] X.env:=by rfl) (kO:(backTo pos (starEach [] X.env)).any (·.1)=false:=by rfl):PI X tg (.Call (.Name x p) [e] [] pos) (Gi X.K ta):=by
 intro pZ s σ H R I h
 refine wpAny_Call_Name_kw (ke I hg hm hv ?_ hn pd)
 refine PyProof.Rows.callWith_type1 (bF (ha pos pZ s σ H _ I h) fun us s1 ⟨vs,H1,I1,r1,q1⟩=>?_) he kO
 obtain⟨a,xs,rfl,hq,q⟩:=q1
 obtain⟨u,rfl,ru⟩:=r1.one
 cases ru
 obtain⟨aA,rv,p,hz⟩:=I1.list hq
 have hl:=rv.length
 refine call_reversed_list p.isList ?_
 have I2:Inv X pZ σ H1 {s1 with heap:=s1.heap.push (revObj a ((aA.toArray.size:Int) - 1))}:=I1.kept (t':=s1.toks) fun b o e=>Hh _ e
 have ez:((aA.toArray.size:Nat):Int) - 1=(xs.length:Int) - 1 - ((0:Nat):Int):=by rw[Hl];lia
 have st:(s1.heap.push (revObj a ((aA.toArray.size:Int) - 1))).IsRevIter s1.heap.objs.size a ((xs.length:Int) - 1 - ((0:Nat):Int)):=by
  rw[←ez]
  exact⟨_,Hw _ rfl,rfl,rfl⟩
 refine wpAny_pyIter_revIter st ?_
 refine⟨s1.heap.objs.size,[s1.heap.objs.size],_,_,H1,rfl,I2,vO a _ xs,st,fun b hb=>?_,q⟩
 have e:b=s1.heap.objs.size:=by simpa using hb
 subst e
 exact I1.pj (Hn _) (I1.cm.fresh (Hn _))
end
theorem Ar {K:Frag} {a:Addr} {xs:List V} {g:TG} {tb:TS} {D:Ends} {σ:St} {H:Hp} (Pv:Nat→L2.St→Hp→Prop) (h0:Pv 0 σ H) (hl: ∀ i σ H,i≤xs.length→Pv i σ H→cw K H a xs)
  (hs: ∀ i x σ H,x∈xs→i < xs.length→Pv i σ H→g x σ H fun σ2 H2=>tb {D with nx:=Pv (i+1),ct:=Pv (i+1),bk:=D.nx} σ2 H2) (hd: ∀ σ H,Pv xs.length σ H→D.nx σ H):
  ∃ W:Nat→Nat→L2.St→Hp→Prop,(∃ m,W 0 m σ H)∧∀ i m σ H,W i m σ H→
   ((Fc K a xs).stop i H∧D.nx σ H)∨((Fc K a xs).go i H∧∃ N:L2.St→Hp→Prop,(∀ σ' H',N σ' H'→∃ m',m' < m∧W (i+1) m' σ' H')∧∀ x H',(Fc K a xs).oC i H x H'→g x σ H' fun σ2 H2=>tb {D with nx:=N,ct:=N,bk:=D.nx} σ2 H2):=by
 refine⟨fun i m σ H=>m=xs.length - i∧i≤xs.length∧Pv i σ H,⟨xs.length,by simp,HJ _,h0⟩,?_⟩
 rintro i m σ H ⟨rfl,hi,p⟩
 have q:=hl i σ H hi p
 by_cases fR:i < xs.length
 ·refine .inr ⟨⟨q,fR⟩,Pv (i+1),fun σ' H' p'=>⟨xs.length - (i+1),by lia,rfl,fR,p'⟩,fun x H' y=>?_⟩
  obtain⟨rfl,y⟩:=y
  exact hs i x σ _ (List.mem_reverse.mp (List.mem_of_getElem? y)) fR p
 ·have e:i=xs.length:=by lia
  subst e
  exact .inl ⟨⟨q,rfl⟩,hd σ H p⟩
structure E2 (H:Hp) (a:Addr) (n:Nat):Prop where
 ex: ∃ (d sd k:Int),H a=some (.lst [.int d,.int sd,.int k])∧0≤d∧0≤sd∧sd < 2305843009213693951∧0≤k∧k≤n
noncomputable def v5:Sp:=fun vs H Q _=> ∃ (a:Addr) (n:Nat) (m:Int),vs=[.ref a,.int m]∧E2 H a n∧n < 1000000∧0 < m∧m < 1073741824∧
 ∀ (d:Int) (o:HO),0≤d→d < m→E2 (upd H a o) a (n+1)→Q (.int d) (upd H a o)
noncomputable def oH (K:Frag):Sp:=fun vs H Q _=> ∃ (a:Addr) (ns:List Int),vs=[.ref a]∧cw K H a (ns.map V.int)∧ns.length≤63∧∀ (b:Addr) (H':Hp),gv H H'→E2 H' b 0→Q (.ref b) H'
abbrev sS (K:Frag) (tabs:List (Addr×Str)):du:=⟨K,v5,tabs⟩
noncomputable def nK (K:Frag) (tabs:List (Addr×Str)) (a:Addr):Bg (sS K tabs) where
 B:=a
 cP:=fun p=>p=a∨p∈tabs.map (·.1)
 ok:=fun H n=>(∃ k,k+n≤1000000∧E2 H a k)∧∀ e∈tabs,TabAt H e
 pB:=.inl rfl
 keep:=fun H H' n k h=>by
  obtain⟨⟨j,hj,b⟩,ht⟩:=h
  obtain⟨d,sd,k',h1,r⟩:=b.ex
  exact⟨⟨j,hj,d,sd,k',k a _ (.inl (.inl rfl)) h1,r⟩,fun e he=>(ht e he).keep (fun ps z=>k _ _ (.inl (.inr (HM he))) z) fun b ob u z=>k _ _ (.inr trivial) z⟩
 tp:=fun e he=>.inr (HM he)
 tab:=fun H n h=>h.2
 uK:=fun H H' n h h1 h2=>by
  obtain⟨⟨j,hj,b⟩,ht⟩:=h
  obtain⟨d,sd,k',g1,r⟩:=b.ex
  have no:a∉tabs.map (·.1):=fun z=>by
   obtain⟨e',he',z2⟩:=Hu.mp z
   obtain⟨ps,e2,_⟩:=ht e' he'
   rw[z2,g1] at e2;cases e2
  exact⟨⟨j,hj,d,sd,k',h2 a _ no g1,r⟩,h1⟩
 yr:=fun H n p h z=>by
  obtain⟨⟨j,hj,b⟩,ht⟩:=h
  obtain⟨d,sd,k',g1,r⟩:=b.ex
  rcases z with rfl|z
  ·exact⟨_,g1⟩
  ·obtain⟨e',he',rfl⟩:=Hu.mp z
   obtain⟨ps,e3,_⟩:=ht e' he'
   exact⟨_,e3⟩
 dr:=fun H n m Q E ok h0 h1 q=>by
  obtain⟨⟨k,hk,b⟩,ht⟩:=ok
  obtain⟨_,_,_,e1,_⟩:=id b.ex
  exact⟨a,k,m,rfl,b,by lia,h0,h1,fun d o d0 d1 b'=>q d _ d0 d1 (fun p u np hp=>.of (by rw[au np];exact hp)) ⟨⟨k+1,by lia,b'⟩,fun e he=>(ht e he).keep (fun ps z=>by rw[au (xB z e1 (by intro y;cases y))];exact z) fun b ob u z=>by rw[au (xB z e1 (by intro y;cases y))];exact z⟩⟩
theorem Ah {tabs:List (Addr×Str)} {P:Program} {w:World} {K:Frag} {mg:Str→Option Value} {base:Heap} {x qual:Str} {st s0:Stmt} {f:Addr} {fd:FuncData} {N:List Str} {k b:Nat} {m:ao→M Fl} {rest:List Stmt} {sc:Scope} (F:jT K x qual st f fd) (S:ba N ["_law_script"] (ak st)) (eb:aw st=s0::rest) (es:ak st=sc)
  (h0: ∀ (eF:Value) (A:Around) (outer:List Env) (s:Shared) (H:Hp) (E:XK),dA k (A.deeper (envOfC qual sc s.heap.objs.size f eF))→BS (g9 dF P w K mg base N qual sc f eF A outer s H E).pW s0 (gz (p8 (oH K) [] E0 (lW (nc 0) vU)) (dW b)))
  (hb: ∀ (eF:Value) (A:Around) (outer:List Env) (s:Shared) (H:Hp) (E:XK),dA k (A.deeper (envOfC qual sc s.heap.objs.size f eF))→AL (sS K tabs) (g9 dF P w K mg base N qual sc f eF A outer s H E).pW rest m)
  (hm:(m ((List.replicate N.length un).set b (.val .bV))).wp 1000000 fun f _=>f= .rt (.bl true)) (h1:0 < N.length) (hb1:b < N.length) (hb0:b≠0):
  bu P w K mg base dF (k+1) f fd ["_law_script"] (jY K (tabs.map (·.1))):=by
 subst es
 refine F.ok S (fun vs H Q E h=>by obtain⟨a,ns,rfl,_⟩:=h;rfl) (fun eF A outer s H vs Q E hr h=>?_)
 rw[eb]
 refine⟨_,cZ (h0 eF A outer s H E hr).out (hb eF A outer s H E hr).out,?_⟩
 obtain⟨a,ns,rfl,hS,h63,ht,q⟩:=h
 refine⟨.ref a,?_,a,ns,rfl,hS,h63,fun b' H' sm bV=>?_⟩
 ·exact iB (N:=N) rfl
 ·have hl:(start N [V.ref a]).length=N.length:=by
   unfold start
   simp only[HI,Hg,List.length_replicate,Hv,List.length_nil]
   lia
  have okT:(nK K tabs b').ok H' 1000000:=⟨⟨0,by lia,bV⟩,fun e he=>⟨#[],sm _ _ (ht _ (HM he)),trivial,fun pos cv z=>nomatch z⟩⟩
  have no: ∀ i p,¬ eO ((List.replicate N.length un).set b (.val .bV)) ((start N [V.ref a]).set b (some (V.ref b'))) i p:=fun i p hh=>by
   obtain⟨t,g1,g2,_⟩:=hh
   by_cases e:b=i
   ·subst e
    rw[Ii (by simpa using hb1)] at g1
    cases g1;cases g2
   ·rw[HP e,IB] at g1
    split at g1
    ·cases g1;cases g2
    ·cases g1
  refine⟨nK K tabs b',(nK K tabs b').cP,H',(nK K tabs b').cP,_,1000000,⟨⟨⟨by simp[hl],fun i e he=>?_⟩,okT,fun p z=>z,fun p z=>(nK K tabs b').yr H' 1000000 p okT z⟩,fun p z=>z,fun p z=>z,Ext.refl _ _,fun p z=>.inl z,fun p z=>(nK K tabs b').yr H' 1000000 p okT z,fun i p hh=>(no i p hh).elim,fun i j p hh=>(no i p hh).elim⟩,M.wp_mono hm fun f n' hf=>?_⟩
  ·by_cases e1:b=i
   ·subst e1
    rw[Ii (by simpa using hb1)] at he
    cases he
    rw[Ii (by lia)]
    exact⟨_,rfl,.bV⟩
   ·rw[HP e1,IB] at he
    split at he
    ·cases he;trivial
    ·cases he
  ·subst hf
   intro x' H2 _ _ r2
   cases r2
   exact q H2
end L2
namespace HT
open L2
open L2.Ent (val un)
theorem wD (A:Around) (s:Shared) (a:Int) (t:Tok) (c:Int) (u:Tok) (prog:Program) (w:World) (E:Value→Shared→Prop) (Q:Value→Shared→Prop) (h:Q (.bool (decide (c < a))) s):
  wpAny (model prog w) A (richCompare .Gt (.int a t) (.int c u)) Q E s:=(gt_int h:wpAny (model prog w) A (compareOp .Gt (.int a t) (.int c u)) Q E s)
section
open PySem.SeqAt
open PySem.AutoSeq1 (wpAny_loadPart')
open PySem.MeetsSeq PySem.MeetsSeq2 PySem.MeetsSeq3
theorem m8 (l b:Addr) (items gK:Array Value) (n n2:Nat) (dd dd2:Option Addr) (sl sl2:Array (Option Value)) (ns ms:List Int) (hi:IntsAre items.toList ns) (hj:IntsAre gK.toList ms):
  Meets (Builtin.«tuple.__gt__» ⟨[.ref l,.ref b],[]⟩)
   (fun _ R s=>s.heap.get? l=some {cls:=.type "tuple",dict:=dd,data:=.seq items n,slots:=sl}∧s.heap.get? b=some {cls:=.type "tuple",dict:=dd2,data:=.seq gK n2,slots:=sl2}∧
    R (.ok (.ret (.bool (lexLt ms ns)))) s):=
 .of_wp fun prog w A R s h=>by
  obtain⟨hp,g,d,tk,os⟩:=s;obtain⟨hl,hb,h⟩:=h
  have f2:=AutoSeq1.sub_tuple_tuple
  have z1:items.size=ns.length:=by rw[←hi.length];simp
  have z2:gK.size=ms.length:=by rw[←hj.length];simp
  wp_walk using wpAny_loadPart' hl,wpAny_loadPart' hb,wpAny_forIn_list _ (fun rest b s'=>b.1=none∧s'=⟨hp,g,d,tk,os⟩∧∃ (vs ws:List Value) (ns' ms':List Int),rest=vs.zip ws∧
   IntsAre vs ns'∧IntsAre ws ms'∧ns'.length+gK.size=ms'.length+items.size∧R (.ok (.ret (.bool (lexLt ms' ns')))) ⟨hp,g,d,tk,os⟩) _
  case turn=>
   rintro⟨y,x⟩ rest b s' ⟨hb',rfl,vs,ws,ns',ms',hz,hvi,hwi,hlen,hR⟩
   cases hvi with
   |nil=>rw[List.zip_nil_left] at hz;cases hz
   |cons a t hvi'=>
    cases hwi with
    |nil=>rw[List.zip_nil_right] at hz;cases hz
    |cons c u hwi'=>
     rw[List.zip_cons_cons] at hz
     injection hz with hyx hrest
     injection hyx with hy hx
     subst hy hx
     rw[sE] at hR
     simp only[Hv] at hlen
     obtain⟨e,he,hiff⟩:=ym A.in1 ⟨hp,g,d,tk,os⟩ a t c u
     refine He (he prog w _ _ ?_)
     cases e with
     |true=>
      rw[Ig (hiff.mp rfl).symm] at hR
      wp_walk
      exact⟨rfl,rfl,_,_,_,_,hrest,hvi',hwi',by lia,hR⟩
     |false=>
      rw[Ih (fun q=>absurd (hiff.mpr q.symm) Iq)] at hR
      have hri:=wD A.in1 ⟨hp,g,d,tk,os⟩ a t c u prog w
      wp_walk using hri
      exact⟨_,rfl,by simpa using hR⟩
  case fin=>
   rintro⟨b1,b2⟩ s' ⟨hb',rfl,vs,ws,ns',ms',hz,hvi,hwi,hlen,hR⟩
   simp only at hb'
   subst hb'
   have hv:lexLt ms' ns'=decide (gK.size < items.size):=by
    cases hvi with
    |nil=>
     cases hwi with
     |nil=>
      simp only[List.length_nil] at hlen
      rw[nt]
      exact(HH (by lia)).symm
     |cons c u hw=>
      simp only[List.length_nil,Hv] at hlen
      rw[mH]
      exact(HH (by lia)).symm
    |cons a t hv=>
     cases hwi with
     |nil=>
      simp only[List.length_nil,Hv] at hlen
      rw[mG]
      exact(Il (by lia)).symm
     |cons c u hw=>
      rw[List.zip_cons_cons] at hz
      cases hz
   rw[hv] at hR
   wp_walk
   exact⟨_,rfl,by simpa[Builtin.Tuple.tupleCompareSizes] using hR⟩
  case h=>
   exact⟨rfl,rfl,items.toList,gK.toList,ns,ms,rfl,hi,hj,by lia,h⟩
end
section
variable {prog:Program} {w:World} {A:Around} {E:Value→Shared→Prop} {s:Shared}
theorem sO (hl:IsTup s.heap l items) (hb:IsTup s.heap b gK) (hi:IntsAre items.toList ns) (hj:IntsAre gK.toList ms)
  (hu:A.units < cLine) (h:Q (.bool (lexLt ms ns)) s):wpAny (model prog w) A (compareOp .Gt (.ref l) (.ref b)) Q E s:=by
 obtain⟨⟨cls,dd,data,sl⟩,ho,hc,n,hd⟩:=id hl
 obtain⟨⟨cls2,dd2,data2,sl2⟩,ho2,hc2,n2,hd2⟩:=id hb
 simp only at hc hd hc2 hd2
 subst hc hd hc2 hd2
 exact richCompare_meets_room (op:=.Gt) ⟨_,ho,rfl⟩ ⟨_,ho2,rfl⟩ PySem.F.slot_tuple_gt PySem.F.entry_tuple_gt (PySem.F.args_tuple_gt_2 _ _) (m8 l b items gK n n2 dd dd2 sl sl2 ns ms hi hj)
  ⟨ho,ho2,show Value.bool (lexLt ms ns)≠Value.notImplemented∧Q (.bool (lexLt ms ns)) s from⟨(fun x=>nomatch x),h⟩⟩ hu
end
end HT
namespace L2
open Ent (val un)
section
open PySem.W (kla_fn kla_obj CodeHd tabObj)
noncomputable def wI:List V→Hp→VK→Prop:=fun xs H Q=> ∃ (B:Addr) (O:Addr→Prop) (y:PV) (x:V) (d:PyData),xs=[x]∧Rep B O H y x∧(∀ l,y≠.lst l)∧toD y=some d∧hM d∧Q (.str d.shown) H
theorem gQ (hg:X.A.guards=some []) (hu:X.A.units+64 < cLine):eR X (.builtin "repr") wI:=by
 intro pZ s σ H xs us Q I r h
 obtain⟨B,O,y,x,d,rfl,rp,nl,hd,hs,q⟩:=h
 cases y with
 |tup l=>exact tj hg hu pZ s σ H [x] us Q I r ⟨B,O,l,x,d,rfl,rp,hd,hs,q⟩
 |lst l=>exact absurd rfl (nl l)
 |bX=>
  obtain⟨u,rfl,rx⟩:=vals1 r
  cases rp
  cases rx
  simp only[toD] at hd
  cases hd
  exact PySem.P.repr_of_none ⟨.str _,H,I.tok _,⟨_,rfl⟩,by simpa only[PyData.shown] using q⟩
 |bl b=>
  obtain⟨u,rfl,rx⟩:=vals1 r
  cases rp
  cases rx
  simp only[toD] at hd
  cases hd
  exact PySem.P.repr_of_bool ⟨.str _,H,I.tok _,⟨_,rfl⟩,by simpa only[PyData.shown] using q⟩
 |int i=>
  obtain⟨u,rfl,rx⟩:=vals1 r
  cases rp
  obtain⟨t,rfl⟩:=rx
  simp only[toD] at hd
  cases hd
  exact PySem.P.repr_of_int (by simpa only[PyData.showable,IA] using hs.1) ⟨.str _,H,I.tok _,⟨_,rfl⟩,by simpa only[PyData.shown] using q⟩
 |str z=>
  obtain⟨u,rfl,rx⟩:=vals1 r
  cases rp
  obtain⟨t,rfl⟩:=rx
  simp only[toD] at hd
  cases hd
  have h3:=hs.2.2.1
  simp only[PyData.shown] at h3
  exact PySem.P.repr_of_str ⟨.str _,H,I.tok _,⟨_,rfl⟩,by simpa only[PyData.shown] using q⟩ (by rw[HW];lia)
 |iO l=>simp only[toD] at hd;cases hd
 |rE l=>simp only[toD] at hd;cases hd
 |bV=>simp only[toD] at hd;cases hd
noncomputable def Fs:PV→Bool
 | .lst _=>false
 |_=>true
noncomputable def gW:List PV→M PV
 |[y]=>if Fs y then(M.eV (toD y)).bind fun d=>if hM d then .ret (.str d.shown) else .fail else .fail
 |_=>.fail
theorem jJ:kY wI gW:=fun φ G O H n R Q l xs pr dm ok r w q=>by
 match l,r,w with
 |[y],r,w=>
  obtain⟨x,rfl,r1⟩:=r.one
  unfold gW at w
  dsimp only at w
  by_cases c:Fs y=true
  ·rw[Ig c] at w
   cases e:toD y with
   |none=>rw[e] at w;exact w.elim
   |some d=>
    rw[e] at w
    have w':(if hM d then M.ret (PV.str d.shown) else .fail).wp n R:=w
    by_cases hs:hM d
    ·rw[Ig hs] at w'
     cases r1 with
     |full h=>exact⟨G.B,O,y,x,d,rfl,h,(fun l z=>by rw[z] at c;cases c),e,hs,q.sc ok (.str _) w'⟩
     |top np h r=>cases c
     |uL np h r=>simp only[toD] at e;cases e
    ·rw[Ih hs] at w';exact w'.elim
  ·rw[Ih c] at w;exact w.elim
theorem wz (h:p4 c dp y) (hl:Fs y=true) (hc:c≤1000000) (hd:dp≤40): ∃ t:Str,gW [y]= .ret (.str t):=by
 obtain⟨d,h1,h2,h3,h4,h5⟩:=h
 refine⟨d.shown,?_⟩
 unfold gW
 dsimp only
 rw[Ig hl,h1]
 show (if hM d then M.ret (PV.str d.shown) else .fail)=_
 rw[Ig ⟨h2,h3,by lia,by lia⟩]
noncomputable def bi (kf:Nat→Int×Int):Nat→Option Nat
 |0=>none
 |j+1=>match bi kf j with
  |none=>some j
  |some b=>if rk kf b < rk kf j then some j else some b
end
section
variable {X:Cx} {pZ:List (Addr×Obj)} {σ:St} {H:Hp} {s:Shared} {d:Addr} {o:Obj} {ks:List (Key×V)}
theorem EC (h:(bI P w).is k u=true):RelV (kV k) u:=by
 rw[sy] at h
 rcases cg h with⟨i,t,rfl,rfl⟩|⟨x,t,rfl,rfl⟩
 ·exact⟨t,rfl⟩
 ·exact⟨t,rfl⟩
end
section
variable {φ:du} {G:Bg φ} {O0 O:Addr→Prop} {H0 H H':Hp} {σ:St} {ρ:ao} {n n':Nat}
theorem SI.FT (s:SI G O0 H0 O H σ ρ n) (k:Nat) (x:Ext G.B H H') (ok:G.ok H' n') (hp:H p=none) (hp':H' p=some (.dK xs)) (r:bp G.B (fun q=>O q∨q=p) H' l xs):
  SI G O0 H0 (fun q=>O q∨q=p) H' (σ.set k (some (.ref p))) (ρ.set k (.d7 l)) n':=by
 have nO: ¬ O p:=fun z=>by obtain⟨o,g⟩:=s.es.dm p z;rw[hp] at g;cases g
 have np: ¬ G.cP p:=fun z=>nO (s.es.pr p z)
 have h0:H0 p=none:=by
  cases e:H0 p with
  |none=>rfl
  |some o=>obtain⟨_,this⟩:=(s.ext p o (fun z=>np (z▸G.pB)) e).there;rw[hp] at this;cases this
 have hB:O G.B:=s.es.B
 have gw: ∀ q,(O q∨q=p)→O q∨H q=none:=fun q z=>by
  rcases z with z|z
  ·exact .inl z
  ·subst z;exact .inr hp
 have s':=s.es.ext x ok
 have es:ES G (fun q=>O q∨q=p) H' σ ρ n':=by
  refine⟨⟨s.es.er.1,fun i e he=>?_⟩,ok,fun q z=>.inl (s.es.pr q z),fun q z=>?_⟩
  ·have r1:=s.es.er.2 i e he
   cases e with
   |un=>trivial
   |val y=>obtain⟨v,hv,rr⟩:=r1;exact⟨v,hv,(rr.grow gw).ext (.inl hB) x⟩
   |own t=>
    obtain⟨q,ys,hv,hq,nq,hh,rr⟩:=r1
    exact⟨q,ys,hv,.inl hq,nq,x q _ (fun z=>nq (z▸G.pB)) hh,(rr.grow gw).ext (.inl hB) x⟩
   |d7 t=>
    obtain⟨q,ys,hv,hq,nq,hh,rr⟩:=r1
    exact⟨q,ys,hv,.inl hq,nq,x q _ (fun z=>nq (z▸G.pB)) hh,⟨rr.1,fun i a b c d=>((rr.2 i a b c d).grow gw).ext (.inl hB) x⟩⟩
  ·rcases z with z|z
   ·exact s'.dm q z
   ·subst z;exact⟨_,hp'⟩
 have ow: ∀ i q,eO (ρ.set k (.d7 l)) (σ.set k (some (.ref p))) i q→(i=k∧q=p)∨(i≠k∧eO ρ σ i q):=fun i q h=>by
  obtain⟨t,h1,h2,h3⟩:=h
  by_cases hk:k=i
  ·subst hk
   rw[List.getElem?_set] at h3
   split at h3
   ·split at h3
    ·cases h3;exact .inl ⟨rfl,rfl⟩
    ·cases h3
   ·rename_i hh;exact absurd rfl hh
  ·rw[HP hk] at h1 h3
   exact .inr ⟨fun z=>hk z.symm,t,h1,h2,h3⟩
 refine⟨es.set k (t:=.d7 l) ⟨p,xs,rfl,.inr rfl,np,hp',r⟩,s.p0,fun q z=>.inl (s.sub q z),s.ext.trans x,fun q z=>?_,s.d0,fun i q h=>?_,fun i j q h h'=>?_⟩
 ·rcases z with z|z
  ·exact s.gr q z
  ·subst z;exact .inr h0
 ·rcases ow i q h with⟨_,rfl⟩|⟨_,h⟩
  ·exact h0
  ·exact s.fr i q h
 ·rcases ow i q h with⟨rfl,rfl⟩|⟨n1,h1⟩
  ·rcases ow j q h' with⟨rfl,_⟩|⟨n2,h2⟩
   ·rfl
   ·obtain⟨_,_,o,g⟩:=fP s.es h2;rw[hp] at g;cases g
  ·rcases ow j q h' with⟨rfl,rfl⟩|⟨n2,h2⟩
   ·obtain⟨_,_,o,g⟩:=fP s.es h1;rw[hp] at g;cases g
   ·exact s.dj i j q h1 h2
theorem SI.putD (s:SI G O0 H0 O H σ ρ n) {k:Nat} {l l':List (Key×PV)} {p:Addr} {xs':List (Key×V)} (hk:ρ[k]?=some (.d7 l)) (hp:σ[k]?=some (some (.ref p))) (r:bp G.B O H l' xs'):SI G O0 H0 O (upd H p (.dK xs')) σ (ρ.set k (.d7 l')) n:=by
 have ho:eO ρ σ k p:=⟨_,hk,rfl,hp⟩
 obtain⟨hO,np,o,hh⟩:=fP s.es ho
 have nfz:=qr s.es ho hh
 have kp: ∀ q u,¬ O q→H q=some u→upd H p (.dK xs') q=some u∧¬ O q:=fun q u nq hq=>⟨by
  have dz:q≠p:=fun z=>nq (z▸hO)
  rw[au dz];exact hq,nq⟩
 have ow: ∀ i q,eO (ρ.set k (.d7 l')) σ i q→eO ρ σ i q:=fun i q h=>by
  obtain⟨t,h1,h2,h3⟩:=h
  by_cases e:k=i
  ·subst e;exact⟨_,hk,rfl,h3⟩
  ·rw[HP e] at h1;exact⟨t,h1,h2,h3⟩
 refine⟨⟨⟨by simp[s.es.er.1],fun i e he=>?_⟩,G.keep H _ _ (fun q u hq hu=>by
   have dz:q≠p:=fun z=>by
    rcases hq with hq|hq
    ·exact np (z▸hq)
    ·rw[z,hh] at hu;cases hu;exact nfz hq
   rw[au dz];exact hu) s.es.ok,s.es.pr,fun q hq=>?_⟩,s.p0,s.sub,fun q u nb hq=>?_,s.gr,s.d0,fun i q h=>s.fr i q (ow i q h),fun i j q h h'=>s.dj i j q (ow i q h) (ow j q h')⟩
 ·by_cases e1:k=i
  ·subst e1
   have hl:k < ρ.length:=(Hm.mp hk).1
   rw[Ii hl] at he
   cases he
   rw[hp]
   exact⟨p,xs',rfl,hO,np,ay,r.keep kp⟩
  ·rw[HP e1] at he
   have r1:=s.es.er.2 i e he
   cases e with
   |un=>trivial
   |val y=>obtain⟨v,hv,rr⟩:=r1;exact⟨v,hv,rr.keep kp⟩
   |own t=>
    obtain⟨q,ys,hv,hq,nq,hh',rr⟩:=r1
    have dz:q≠p:=fun z=>by
     subst z
     exact e1 (s.dj k i q ho ⟨_,he,rfl,fq s.es.er he hv⟩)
    exact⟨q,ys,hv,hq,nq,by rw[au dz];exact hh',rr.keep kp⟩
   |d7 t=>
    obtain⟨q,ys,hv,hq,nq,hh',rr⟩:=r1
    have dz:q≠p:=fun z=>by
     subst z
     exact e1 (s.dj k i q ho ⟨_,he,rfl,fq s.es.er he hv⟩)
    exact⟨q,ys,hv,hq,nq,by rw[au dz];exact hh',rr.keep kp⟩
 ·by_cases e1:q=p
  ·subst e1;exact⟨_,ay⟩
  ·obtain⟨u,g⟩:=s.es.dm q hq;exact⟨u,by rw[au e1];exact g⟩
 ·have dz:q≠p:=fun z=>by subst z;rw[s.fr k q ho] at hq;cases hq
  exact(s.ext q u nb hq).to fun v e=>.of (by rw[au dz];exact e)
end
noncomputable def kZ (l:List (Key×PV)) (k:Key):Option PV:=(l.find? fun kv=>decide (kv.1=k)).map (·.2)
noncomputable def qm (l:List (Key×PV)) (k:Key) (y:PV):List (Key×PV):=
 if(l.any fun kv=>decide (kv.1=k))=true then l.map (fun kv=>if kv.1=k then(kv.1,y) else kv) else l++[(k,y)]
noncomputable def qK:Key→PV
 | .inl i=>.int i
 | .inr x=>.str x
noncomputable def xO:PV→Option Key
 | .int i=>some (.inl i)
 | .str x=>some (.inr x)
 |_=>none
section
variable {B:Addr} {O:Addr→Prop} {H:Hp}
theorem bp.nil:bp B O H [] []:=⟨rfl,fun i y x a=>by simp at a⟩
theorem bp.cons {y:Key×PV} {x:Key×V} {l:List (Key×PV)} {ks:List (Key×V)} (e:y.1=x.1) (r:Rep B O H y.2 x.2) (t:bp B O H l ks):bp B O H (y::l) (x::ks):=by
 refine⟨by simp[e,t.1],fun i a b h1 h2=>?_⟩
 cases i with
 |zero=>simp at h1 h2;subst h1 h2;exact r
 |succ i=>simp at h1 h2;exact t.2 i a b h1 h2
theorem bp.inv (r:bp B O H l ks):(l=[]∧ks=[])∨∃ y l' x ks',l=y::l'∧ks=x::ks'∧y.1=x.1∧Rep B O H y.2 x.2∧bp B O H l' ks':=by
 cases l with
 |nil=>exact .inl ⟨rfl,by have:=r.1;simpa using this.symm⟩
 |cons y l=>
  cases ks with
  |nil=>have:=r.1;simp at this
  |cons x ks=>
   have h:=r.1
   simp only[Hq,List.cons.injEq] at h
   exact .inr ⟨y,l,x,ks,rfl,rfl,h.1,r.2 0 y x rfl rfl,h.2,fun i a b h1 h2=>r.2 (i+1) a b (by simpa using h1) (by simpa using h2)⟩
theorem bp.val (k:Key): ∀ {l:List (Key×PV)} {ks:List (Key×V)},bp B O H l ks→(kZ l k=none∧jj ks k=none)∨∃ y x,kZ l k=some y∧jj ks k=some x∧Rep B O H y x
 |[],ks,r=>by
  rcases r.inv with⟨_,rfl⟩|⟨_,_,_,_,e,_⟩
  ·exact .inl ⟨rfl,rfl⟩
  ·cases e
 |y::l,ks,r=>by
  rcases r.inv with⟨e,_⟩|⟨y',l',x,ks',e,rfl,ek,ry,rt⟩
  ·cases e
  ·cases e
   by_cases c:y.1=k
   ·refine .inr ⟨y.2,x.2,by simp[kZ,c],?_,ry⟩
    exact jh (ek.symm.trans c)
   ·have c': ¬ x.1=k:=fun z=>c (ek.trans z)
    rw[ji c']
    have e1:kZ (y::l) k=kZ l k:=by simp[kZ,ID,c]
    rw[e1]
    exact bp.val k rt
theorem bp.any (k:Key) (r:bp B O H l ks):(l.any fun kv=>decide (kv.1=k))=ks.any fun kv=>decide (kv.1=k):=by
 have e1:(l.any fun kv=>decide (kv.1=k))=(l.map (·.1)).any fun z=>decide (z=k):=by rw[List.any_map];rfl
 have e2:(ks.any fun kv=>decide (kv.1=k))=(ks.map (·.1)).any fun z=>decide (z=k):=by rw[List.any_map];rfl
 rw[e1,e2,r.1]
theorem bp.snoc (rx:Rep B O H y x): ∀ {l:List (Key×PV)} {ks:List (Key×V)},bp B O H l ks→bp B O H (l++[(k,y)]) (ks++[(k,x)])
 |[],ks,r=>by
  rcases r.inv with⟨_,rfl⟩|⟨_,_,_,_,e,_⟩
  ·exact bp.cons (y:=(k,y)) (x:=(k,x)) rfl rx bp.nil
  ·cases e
 |z::l,ks,r=>by
  rcases r.inv with⟨e,_⟩|⟨y',l',x',ks',e,rfl,ek,ry,rt⟩
  ·cases e
  ·cases e
   exact bp.cons ek ry (bp.snoc rx rt)
theorem bp.rS (rx:Rep B O H y x): ∀ {l:List (Key×PV)} {ks:List (Key×V)},bp B O H l ks→bp B O H (l.map fun kv=>if kv.1=k then(kv.1,y) else kv) (ks.map fun kv=>if kv.1=k then(kv.1,x) else kv)
 |[],ks,r=>by
  rcases r.inv with⟨_,rfl⟩|⟨_,_,_,_,e,_⟩
  ·exact bp.nil
  ·cases e
 |z::l,ks,r=>by
  rcases r.inv with⟨e,_⟩|⟨y',l',x',ks',e,rfl,ek,ry,rt⟩
  ·cases e
  ·cases e
   rw[Hq,Hq]
   by_cases c:z.1=k
   ·rw[Ig c,Ig (ek.symm.trans c)]
    exact bp.cons ek rx (bp.rS rx rt)
   ·rw[Ih c,Ih (fun q=>c (ek.trans q))]
    exact bp.cons ek ry (bp.rS rx rt)
theorem bp.put {k:Key} {y:PV} {x:V} {l:List (Key×PV)} {ks:List (Key×V)} (r:bp B O H l ks) (rx:Rep B O H y x):bp B O H (qm l k y) (putK ks k x):=by
 unfold qm putK
 rw[r.any k]
 split
 ·exact r.rS rx
 ·exact r.snoc rx
end
theorem qL {φ:du} {G:Bg φ} {O:Addr→Prop} {H:Hp} {y:PV} {x:V} {k:Key} (r:cI G O H y x) (e:xO y=some k):x=kV k:=by
 cases y<;>first|cases e|skip
 ·rw[r.da];rfl
 ·rw[r.gV];rfl
theorem bp.len {B:Addr} {O:Addr→Prop} {H:Hp} {l:List (Key×PV)} {ks:List (Key×V)} (r:bp B O H l ks):l.length=ks.length:=by simpa using congrArg List.length r.1
section
variable {φ:du} {X:Cx} {e o i a b:Expr} {pos:Pos} {md mk mv:ao→M PV}
theorem sr {α:Type} {o:Option α} {n:Nat} {R:α→Nat→Prop} (w:(M.eV o).wp n R): ∃ y,o=some y∧R y n:=by
 cases o with
 |none=>exact w.elim
 |some y=>exact⟨y,rfl,w⟩
noncomputable def sV (neg:Bool):PV→PV→M PV
 |y,.iO l=>(M.eV (xO y)).bind fun k=>.ret (.bl ((kZ l k).isSome !=neg))
 |_,_=>.fail
theorem yv {neg:Bool} {σ:St} {H:Hp} {Q:VK} (h:lB φ (ah (sV neg) mk md) σ H Q):vC φ mk σ H fun y H1=>vC φ md σ H1 fun x H2=> ∃ a o,x= .ref a∧Dn H2 a y o∧Q (.bl (o.isSome !=neg)) H2:=by
 obtain⟨G,O,ρ,n,R,s,w,q⟩:=h
 unfold ah at w
 rw[M.wZ] at w
 refine⟨G,O,ρ,n,_,s,w,fun z x' H1 n1 e1 bS r1 w1=>?_⟩
 have s1:=s.ext e1 bS
 rw[M.wZ] at w1
 refine⟨G,O,ρ,n1,_,s1,w1,fun y x H2 n2 e2 pV r2 w2=>?_⟩
 cases y<;>first|(simp only[sV] at w2;exact w2.elim)|skip
 rename_i l
 have w2':((M.eV (xO z)).bind fun k=>M.ret (.bl ((kZ l k).isSome !=neg)):M PV).wp n2 R:=by cases z<;>exact w2
 rw[M.wZ] at w2'
 obtain⟨k,ek,w2'⟩:=sr w2'
 obtain⟨p,ks,rfl,hd,rr⟩:=r2.uu
 refine⟨p,jj ks k,rfl,.inl ⟨ks,k,hd,qL (r1.ext s.B e2) ek,rfl⟩,q _ _ _ _ (e1.trans e2) pV (.bl _) ?_⟩
 have e3:(jj ks k).isSome=(kZ l k).isSome:=by
  rcases rr.val k with⟨z1,z2⟩|⟨_,_,z1,z2,_⟩<;>simp[z1,z2]
 rw[e3]
 exact w2'
theorem Br (hu:X.A.units+1 < cLine) (hk:EB φ X a mk) (hd:EB φ X b md) (hm:behindInMarks .In b=false):TV φ X (.Compare a [.In] [b] pos) (bO (ah (sV false) mk md)):=
 BT.mono ⟨B0 (B9 hu hk.out hd.out) hm⟩ (tG fun σ H Q h=>by
  obtain h:=yv h
  unfold DN
  simpa only[Bool.bne_false] using h)
end
section
variable {φ:du} {X:Cx} {st:Stmt}
noncomputable def uo (k:Nat) (mk mv:ao→M PV):ao→M Fl:=fun ρ=>(mv ρ).bind fun y=>match ρ[k]? with|some (.d7 l)=>(mk ρ).bind fun z=>(M.eV (xO z)).bind fun key=>if l.length < 100000 then .ret (.nx (ρ.set k (.d7 (qm l key y)))) else .fail|_=>.fail
theorem zj {k:Nat} {mk mv:ao→M PV} (h:BS X st (wj (nc k) (vC φ mk) (lB φ mv))):SV φ X st (uo k mk mv):=BS.mono h fun D σ H cy=>by
 obtain⟨G,O0,H0,O,ρ,n,s,w⟩:=cy
 unfold uo at w
 rw[M.wZ] at w
 refine⟨G,O,ρ,n,_,s.es,w,fun y x H1 n1 e1 bS r1 w1=>?_⟩
 have s1:=s.to e1 bS
 cases hk:ρ[k]? with
 |none=>simp only[hk] at w1;exact w1.elim
 |some t=>
  cases t with
  |d7 l=>
   simp only[hk] at w1
   obtain⟨p,xs,hx,hO,np,hh,rr⟩:=s1.es.er.2 k _ hk
   have hs:=fq s.es.er hk hx
   have npB:p≠G.B:=fun z=>np (z▸G.pB)
   rw[M.wZ] at w1
   refine⟨_,hs,G,O,ρ,n1,_,s1.es,w1,fun i x2 H2 n2 e2 pV r2 w2=>?_⟩
   rw[M.wZ] at w2
   obtain⟨key,ek,w2⟩:=sr w2
   by_cases c:l.length < 100000
   ·rw[Ig c] at w2
    have s2:=s1.to e2 pV
    have hh2:H2 p=some (.dK xs):=e2 p _ npB hh
    refine⟨p,_,rfl,.inl ⟨xs,key,hh2,qL r2 ek,?_,rfl⟩,w2 O _ _ (s2.putD hk hs ((rr.ext s.es.B e2).put (r1.ext s.es.B e2)))⟩
    rw[←rr.len,HW];lia
   ·rw[Ih c] at w2;exact w2.elim
  |_=>simp only[hk] at w1;exact w1.elim
theorem AE (hu:X.A.units+1 < cLine) (ho:BE X o td) (hi:BE X i ty) (hv:BE X value tv) (hs:swapsWith value (some (.Subscript o i pos')) pos.line X.env=pure false:=by rfl):
  BS X (.Assign [.Subscript o i pos'] value pos) (wj td ty tv):=⟨zF hu ho.out hi.out hv.out hs⟩
end
section
open AutoSeq1 (wpAny_loadPart')
noncomputable def GB (K:Frag) (a:Addr):It:=
 ⟨fun i H=> ∃ xs x,dJ K H a xs∧xs[i]?=some x,fun i H y H'=> ∃ T,y= .ref T∧H T=none∧∀ xs x,dJ K H a xs→xs[i]?=some x→H'=upd H T (.tup [.int i,x]),fun i H=> ∃ xs,dJ K H a xs∧xs.length≤i⟩
end
section
variable {φ:du}
noncomputable def jD (l:List PV):List PV:=l.mapIdx fun i x=>PV.tup [.int i,x]
inductive y1 (K:Frag) (G:Bg φ) (O:Addr→Prop) (H:Hp):List PV→It→Prop where
 |EL {a:Addr} {xs:List V} {l:List PV} (na: ¬ O a) (ha:H a=some (.lst xs)) (ra:aO G.B O H l xs):y1 K G O H (jD l) (Bi K a)
 |Fw {a:Addr} {xs:List V} {l:List PV} (na: ¬ O a) (ha:H a=some (.tup xs)) (ra:aO G.B O H l xs):y1 K G O H (jD l) (GB K a)
 |Fi {a b:Addr} {xs ys:List V} {l1 l2:List PV} (na: ¬ O a) (ha:H a=some (.lst xs)) (ra:aO G.B O H l1 xs) (nb: ¬ O b) (hb:H b=some (.lst ys)) (rb:aO G.B O H l2 ys):y1 K G O H (y6 l1 l2) (GA a b)
theorem qR {i:Nat} (h:(jD l)[i]?=some y): ∃ u,l[i]?=some u∧y= .tup [.int i,u]:=by
 unfold jD at h
 rw[List.getElem?_mapIdx] at h
 cases e:l[i]? with
 |none=>rw[e] at h;cases h
 |some u=>rw[e] at h;exact⟨u,rfl,(Ik h).symm⟩
theorem oa (l:List PV):(jD l).length=l.length:=by simp[jD]
theorem y1.go {K:Frag} {G:Bg φ} {O:Addr→Prop} {H:Hp} {l:List PV} {J:It} (t:y1 K G O H l J) {i:Nat} {y:PV} (hi:l[i]?=some y):J.go i H∧∀ x H2,J.oC i H x H2→∃ T us vs,x= .ref T∧H T=none∧H2=upd H T (.tup vs)∧y= .tup us∧aO G.B O H us vs:=by
 cases t with
 | @EL a xs l1 na ha ra=>
  obtain⟨u,e1,rfl⟩:=qR hi
  obtain⟨x1,hx1,r1⟩:=ra.at e1
  refine⟨⟨xs,x1,cw.of ha,hx1⟩,fun x H2 z=>?_⟩
  obtain⟨T,rfl,hT,q⟩:=z
  exact⟨T,[.int i,u],[.int i,x1],rfl,hT,q xs x1 (cw.of ha) hx1,rfl,.cons (.int _) (.cons r1 .nil)⟩
 | @Fw a xs l1 na ha ra=>
  obtain⟨u,e1,rfl⟩:=qR hi
  obtain⟨x1,hx1,r1⟩:=ra.at e1
  refine⟨⟨xs,x1,dJ.of ha,hx1⟩,fun x H2 z=>?_⟩
  obtain⟨T,rfl,hT,q⟩:=z
  exact⟨T,[.int i,u],[.int i,x1],rfl,hT,q xs x1 (dJ.of ha) hx1,rfl,.cons (.int _) (.cons r1 .nil)⟩
 |Fi na ha ra nb hb rb=>
  rename_i a b xs ys l1 l2
  unfold y6 at hi
  rw[List.getElem?_zipWith] at hi
  cases e1:l1[i]? with
  |none=>rw[e1] at hi;simp at hi
  |some u=>
   cases e2:l2[i]? with
   |none=>rw[e1,e2] at hi;simp at hi
   |some v=>
    rw[e1,e2] at hi
    have hi':PV.tup [u,v]=y:=by simpa using hi
    obtain⟨x1,hx1,r1⟩:=ra.at e1
    obtain⟨x2,hx2,r2⟩:=rb.at e2
    refine⟨⟨xs,ys,x1,x2,ha,hb,hx1,hx2⟩,fun x H2 z=>?_⟩
    obtain⟨T,rfl,hT,q⟩:=z
    exact⟨T,[u,v],[x1,x2],rfl,hT,q xs ys x1 x2 ha hb hx1 hx2,hi'.symm,.cons r1 (.cons r2 .nil)⟩
theorem y1.stop {K:Frag} {G:Bg φ} {O:Addr→Prop} {H:Hp} {l:List PV} {J:It} (t:y1 K G O H l J):J.stop l.length H:=by
 cases t with
 | @EL a xs l1 na ha ra=>exact⟨xs,cw.of ha,by rw[oa,ra.1];exact Hn _⟩
 | @Fw a xs l1 na ha ra=>exact⟨xs,dJ.of ha,by rw[oa,ra.1];exact Hn _⟩
 |Fi na ha ra nb hb rb=>
  rename_i a b xs ys l1 l2
  refine⟨xs,ys,ha,hb,?_⟩
  have h1:=ra.1
  have h2:=rb.1
  unfold y6
  rw[List.length_zipWith]
  lia
section
variable {G:Bg φ} {O0 O:Addr→Prop} {H0 H:Hp} {σ:St} {ρ:ao} {n n':Nat}
theorem SI.DH {K:Frag} {H1:Hp} {O':Addr→Prop} {σ':St} {ρ':ao} {l:List PV} {J:It} (s:SI G O0 H0 O H σ ρ n) (x:SI G O0 (hide O0 O H) O' H1 σ' ρ' n') (it:y1 K G O H l J):y1 K G O' H1 l J:=by
 have k: ∀ p o,¬ O p→H p=some o→fk H1 p o∧¬ O' p:=fun p o np hp=>by
  have e:hide O0 O H p=some o:=by rw[ie (fun z=>np z.1)];exact hp
  refine⟨x.ext p o (fun z=>np (z▸s.es.B)) e,fun z=>?_⟩
  rcases x.gr p z with w|w
  ·exact np (s.sub p w)
  ·rw[w] at e;cases e
 cases it with
 |EL na ha ra=>exact .EL (k _ _ na ha).2 (k _ _ na ha).1 (ra.eP k)
 |Fw na ha ra=>exact .Fw (k _ _ na ha).2 (k _ _ na ha).1 (ra.eP k)
 |Fi na ha ra nb hb rb=>exact .Fi (k _ _ na ha).2 (k _ _ na ha).1 (ra.eP k) (k _ _ nb hb).2 (k _ _ nb hb).1 (rb.eP k)
end
noncomputable def GD (φ:du) (K:Frag) (m:ao→M (List PV)):TI:=fun σ H Q=> ∃ (G:Bg φ) (O:Addr→Prop) (ρ:ao) (n:Nat) (R:List PV→Nat→Prop),ES G O H σ ρ n∧(m ρ).wp n R∧
 ∀ (l:List PV) (J:It) (H':Hp) (n':Nat),Ext G.B H H'→G.ok H' n'→y1 K G O H' l J→R l n'→Q J H'
section
variable {X:Cx} {st:Stmt} {e e2:Expr} {p pos tpos:Pos} {elts:List Expr} {kk:Nat}
noncomputable def Av:List PV→M (List PV)
 |[.lst l]=>.ret (jD l)
 |_=>.fail
theorem yo (w:(Av l).wp n R): ∃ l1,l=[.lst l1]:=by
 unfold Av at w
 split at w
 ·exact⟨_,rfl⟩
 ·exact w.elim
theorem Dd (hg:Gl X "enumerate") (hm:X.mg "enumerate"=none) (ha:BA X [e] ta)
  (he:starEach [e] X.env=(false,eval e X.env)::starEach [] X.env:=by rfl) (kO:(backTo pos (starEach [] X.env)).any (·.1)=false:=by rfl):BI X (.Tuple elts kk tpos) (.Call (.Name "enumerate" p) [e] [] pos) (uk X.K ta):=⟨tZ hg hm PyProof.Rows.boot_enumerate ha.out (by decide) (by decide) he kO⟩
theorem Gh (h:BI X tg iter (uk X.K (Fn φ ml))):BI X tg iter (GD φ X.K fun ρ=>(ml ρ).bind Av):=BI.mono h fun σ H Q cy=>by
 obtain⟨G,O,ρ,n,R,s,w,q⟩:=cy
 rw[M.wZ] at w
 refine⟨G,O,ρ,n,_,s,w,fun l xs H1 n1 e1 bS r1 w1=>?_⟩
 obtain⟨l1,rfl⟩:=yo w1
 obtain⟨x1,t1,rfl,a1,r2⟩:=r1.cons_inv
 rw[r2.nil_inv]
 cases a1 with
 |lst na ha la ra=>exact⟨_,_,rfl,cw.of ha,q _ _ _ _ e1 bS (.EL na ha ⟨la,ra⟩) w1⟩
theorem zi {mi:ao→M (List PV)} {bd:PV→ao→M ao} {mb:ao→M Fl} (h:BS X st (zh (GD φ X.K mi) (FJ φ bd) (Bt φ mb))):SV φ X st (el mi bd mb):=BS.mono h fun D σ H cy=>by
 obtain⟨G,O0,H0,O,ρ,n,s,w⟩:=cy
 unfold el at w
 rw[M.wZ] at w
 refine⟨G,O,ρ,n,_,s.es,w,fun l J H1 n1 e1 bS it w1=>?_⟩
 have s1:=s.to e1 bS
 refine⟨fun i m σ' H'=>m=l.length - i∧i≤l.length∧∃ (O':Addr→Prop) (ρ':ao) (n':Nat),SI G O0 (hide O0 O H1) O' H' σ' ρ' n'∧(eD bd mb (l.drop i) ρ').wp n' (fun f n'=>tJ G O0 H0 D n' f),
  ⟨l.length,by simp,HJ _,O,ρ,n1,s1.now,by simpa using w1⟩,?_⟩
 rintro i m σ' H' ⟨rfl,hi,O',ρ',n',s',w'⟩
 have it':=s1.DH s' it
 by_cases fR:i < l.length
 ·have hget:l[i]?=some l[i]:=Hd fR
  have jy:l.drop i=l[i]::l.drop (i+1):=List.drop_eq_getElem_cons fR
  rw[jy] at w'
  unfold eD at w'
  obtain⟨g1,g2⟩:=it'.go hget
  refine .inr ⟨g1,fun σ2 H2=> ∃ (O':Addr→Prop) (ρ':ao) (n':Nat),SI G O0 (hide O0 O H1) O' H2 σ2 ρ' n'∧(eD bd mb (l.drop (i+1)) ρ').wp n' (fun f n'=>tJ G O0 H0 D n' f),fun σ2 H2 hh=>⟨l.length - (i+1),by lia,rfl,fR,hh⟩,fun x H2 yl=>?_⟩
  obtain⟨T,us,vs,rfl,hT,rfl,ey,rr⟩:=g2 x H2 yl
  have ex:Ext G.B H' (upd H' T (.tup vs)):=Ext.new hT _
  have nT: ¬ O' T:=fun z=>by obtain⟨o,g⟩:=s'.es.dm T z;rw[hT] at g;cases g
  have rx:Rep G.B O' (upd H' T (.tup vs)) l[i] (.ref T):=by
   rw[ey]
   exact .tup nT ay rr.1 (rr.ext s'.es.B ex).2
  rw[M.wZ] at w'
  refine⟨G,O0,_,O',ρ',n',_,l[i],s'.to ex (Bg.new s'.es.ok hT _),rx,w',fun σ2 ρ2 n2 s2 w2=>?_⟩
  rw[M.wZ] at w2
  refine⟨G,O0,_,O',ρ2,n2,s2,M.wp_mono w2 fun f n3 w3=>?_⟩
  cases f with
  |nx ρ3=>exact fun O3 σ3 H3 s3=>⟨O3,ρ3,n3,s3,w3⟩
  |ct ρ3=>exact fun O3 σ3 H3 s3=>⟨O3,ρ3,n3,s3,w3⟩
  |bk ρ3=>exact fun O3 σ3 H3 s3=>w3 O3 σ3 H3 (s1.back s3)
  |rt y=>exact fun x3 H3 e3 ok3 r3=>w3 x3 H3 (s1.base.trans e3) ok3 r3
 ·have e:i=l.length:=by lia
  subst e
  rw[List.drop_length] at w'
  exact .inl ⟨it'.stop,w' O' σ' H' (s1.back s')⟩
end
end
end L2
namespace MS
open L2
open L2.Ent (val un)
noncomputable def lP:Bool→Keyed→Array Keyed→Nat→Nat→Nat→StateT SortSt Sem (Option Nat):=sortPriv% PySem.Builtin.gallop
def kN (p:Keyed):Int:=numOf p.1
def le (x y:Keyed):Prop:=kN x≤kN y
def Ok (a b r:Array Keyed):Prop:=r.toList.Perm (a.toList++b.toList)∧r.toList.Pairwise le
section
variable {a b out:Array Keyed} {ia ib:Nat}
noncomputable def mT (a b out:Array Keyed) (ia ib:Nat):Array Keyed:=out++a.extract ia a.size++b.extract ib b.size
noncomputable def xJ (a b out:Array Keyed) (ia ib:Nat):Array Keyed:=out++b.extract ib b.size++a.extract ia a.size
end
noncomputable def fX:Nat→StateT SortSt Sem Unit:=sortPriv% PySem.Builtin.setMinGallop
abbrev C5:=Option (Array Keyed)×Array Keyed×Nat×Nat×Nat×Nat
abbrev C6:=Option (Array Keyed)×Array Keyed×Nat×Nat×Nat×Nat×Nat
noncomputable def f1 (a b out:Array Keyed) (ia ib mg ac bc:Nat):StateT SortSt Sem (ForInStep C5):=do
 let y ←elem' b ib
 let x ←elem' a ia
 let z ←lt' y x
 match z with
 |some wins=>
  if wins=true then do
   let y ←elem' b ib
   if(ib+1==b.size)=true then pure (.done (some (mT a b (out.push y) ia (ib+1)),out.push y,ia,ib+1,0,bc+1))
   else if bc+1 ≥ mg then pure (.done (none,out.push y,ia,ib+1,0,bc+1)) else pure (.yield (none,out.push y,ia,ib+1,0,bc+1))
  else do
   let x ←elem' a ia
   if(ia+1+1==a.size)=true then pure (.done (some (xJ a b (out.push x) (ia+1) ib),out.push x,ia+1,ib,ac+1,0))
   else if ac+1 ≥ mg then pure (.done (none,out.push x,ia+1,ib,ac+1,0)) else pure (.yield (none,out.push x,ia+1,ib,ac+1,0))
 |_=>pure (.done (some (mT a b out ia ib),out,ia,ib,ac,bc))
noncomputable def g4 (a b out:Array Keyed) (ia ib mg ac bc:Nat):StateT SortSt Sem (ForInStep C6):=do
 let x ←elem' a ia
 if(ia+1+1==a.size)=true then pure (.done (some (xJ a b (out.push x) (ia+1) ib),out.push x,ia+1,ib,mg,ac,bc))
 else if(decide (ac < 7)&&decide (bc < 7))=true then pure (.done (none,out.push x,ia+1,ib,mg,ac,bc)) else pure (.yield (none,out.push x,ia+1,ib,mg,ac,bc))
noncomputable def g3 (a b out:Array Keyed) (ia ib mg ac k:Nat):StateT SortSt Sem (ForInStep C6):=
 if k > 0 then
  if(ib+k==b.size)=true then pure (.done (some (mT a b (out++b.extract ib (ib+k)) ia (ib+k)),out++b.extract ib (ib+k),ia,ib+k,mg,ac,k))
  else g4 a b (out++b.extract ib (ib+k)) ia (ib+k) mg ac k
 else g4 a b out ia ib mg ac k
noncomputable def g2 (a b out:Array Keyed) (ia ib mg ac bc:Nat):StateT SortSt Sem (ForInStep C6):=do
 let y ←elem' b ib
 if(ib+1==b.size)=true then pure (.done (some (mT a b (out.push y) ia (ib+1)),out.push y,ia,ib+1,mg,ac,bc))
 else do
  let x ←elem' a ia
  let k ←lP true x b (ib+1) (b.size - (ib+1)) 0
  match k with
  |some k=>g3 a b (out.push y) ia (ib+1) mg ac k
  |_=>pure (.done (some (mT a b (out.push y) ia (ib+1)),out.push y,ia,ib+1,mg,ac,bc))
noncomputable def g1 (a b out:Array Keyed) (ia ib mg ac bc:Nat):StateT SortSt Sem (ForInStep C6):=do
 fX mg
 let y ←elem' b ib
 let k ←lP false y a ia (a.size - ia) 0
 match k with
 |some k=>
  if k > 0 then
   if(ia+k+1==a.size)=true then pure (.done (some (xJ a b (out++a.extract ia (ia+k)) (ia+k) ib),out++a.extract ia (ia+k),ia+k,ib,mg,k,bc))
   else if(ia+k==a.size)=true then pure (.done (some (mT a b (out++a.extract ia (ia+k)) (ia+k) ib),out++a.extract ia (ia+k),ia+k,ib,mg,k,bc))
   else g2 a b (out++a.extract ia (ia+k)) (ia+k) ib mg k bc
  else g2 a b out ia ib mg k bc
 |_=>pure (.done (some (mT a b out ia ib),out,ia,ib,mg,ac,bc))
section
variable {a b out:Array Keyed} {na nb:Nat}
noncomputable def mU (a b out:Array Keyed) (na nb:Nat):Array Keyed:=a.extract 0 na++b.extract 0 nb++out.reverse
noncomputable def sR (a b out:Array Keyed) (na nb:Nat):Array Keyed:=b.extract 0 nb++a.extract 0 na++out.reverse
end
abbrev H5:=Option (Array Keyed)×Nat×Nat×Array Keyed×Nat×Nat
abbrev H6:=Option (Array Keyed)×Nat×Nat×Array Keyed×Nat×Nat×Nat
abbrev H4:=Option (Array Keyed)×Nat×Nat×Array Keyed×Nat
noncomputable def G6 (a b out:Array Keyed) (na nb mg ac bc:Nat):StateT SortSt Sem (ForInStep H5):=do
 let y ←elem' b (nb - 1)
 let x ←elem' a (na - 1)
 let z ←lt' y x
 match z with
 |some wins=>
  if wins=true then do
   let x ←elem' a (na - 1)
   if(na - 1==0)=true then pure (.done (some (mU a b (out.push x) (na - 1) nb),na - 1,nb,out.push x,ac+1,0))
   else if ac+1 ≥ mg then pure (.done (none,na - 1,nb,out.push x,ac+1,0)) else pure (.yield (none,na - 1,nb,out.push x,ac+1,0))
  else do
   let y ←elem' b (nb - 1)
   if(nb - 1==1)=true then pure (.done (some (sR a b (out.push y) na (nb - 1)),na,nb - 1,out.push y,0,bc+1))
   else if bc+1 ≥ mg then pure (.done (none,na,nb - 1,out.push y,0,bc+1)) else pure (.yield (none,na,nb - 1,out.push y,0,bc+1))
 |_=>pure (.done (some (mU a b out na nb),na,nb,out,ac,bc))
noncomputable def GK (a b out:Array Keyed) (na nb mg ac bc:Nat):StateT SortSt Sem (ForInStep H6):=do
 let x ←elem' a (na - 1)
 if(na - 1==0)=true then pure (.done (some (mU a b (out.push x) (na - 1) nb),na - 1,nb,out.push x,mg,ac,bc))
 else if(decide (ac < 7)&&decide (bc < 7))=true then pure (.done (none,na - 1,nb,out.push x,mg,ac,bc)) else pure (.yield (none,na - 1,nb,out.push x,mg,ac,bc))
noncomputable def G5 (a b out:Array Keyed) (na nb mg ac k:Nat):StateT SortSt Sem (ForInStep H6):=
 if nb - k > 0 then
  if(k==1)=true then pure (.done (some (sR a b (out++(b.extract k nb).reverse) na k),na,k,out++(b.extract k nb).reverse,mg,ac,nb - k))
  else if(k==0)=true then pure (.done (some (mU a b (out++(b.extract k nb).reverse) na k),na,k,out++(b.extract k nb).reverse,mg,ac,nb - k))
  else GK a b (out++(b.extract k nb).reverse) na k mg ac (nb - k)
 else GK a b out na nb mg ac (nb - k)
noncomputable def yW (a b out:Array Keyed) (na nb mg ac bc:Nat):StateT SortSt Sem (ForInStep H6):=do
 let y ←elem' b (nb - 1)
 if(nb - 1==1)=true then pure (.done (some (sR a b (out.push y) na (nb - 1)),na,nb - 1,out.push y,mg,ac,bc))
 else do
  let x ←elem' a (na - 1)
  let k ←lP true x b 0 (nb - 1) (nb - 1 - 1)
  match k with
  |some k=>G5 a b (out.push y) na (nb - 1) mg ac k
  |_=>pure (.done (some (mU a b (out.push y) na (nb - 1)),na,nb - 1,out.push y,mg,ac,bc))
noncomputable def GL (a b out:Array Keyed) (na nb mg ac bc:Nat):StateT SortSt Sem (ForInStep H6):=do
 fX mg
 let y ←elem' b (nb - 1)
 let k ←lP false y a 0 na (na - 1)
 match k with
 |some k=>
  if na - k > 0 then
   if(k==0)=true then pure (.done (some (mU a b (out++(a.extract k na).reverse) k nb),k,nb,out++(a.extract k na).reverse,mg,na - k,bc))
   else yW a b (out++(a.extract k na).reverse) k nb mg (na - k) bc
  else yW a b out na nb mg (na - k) bc
 |_=>pure (.done (some (mU a b out na nb),na,nb,out,mg,ac,bc))
noncomputable def DB (a b:Array Keyed) (c:H4):StateT SortSt Sem (ForInStep H4):=do
 let d ←forIn [:a.size+b.size] ((none,c.2.1,c.2.2.1,c.2.2.2.1,0,0):H5) fun _ d=>G6 a b d.2.2.2.1 d.2.1 d.2.2.1 c.2.2.2.2 d.2.2.2.2.1 d.2.2.2.2.2
 match d.1 with
 |some r=>pure (.done (some r,d.2.1,d.2.2.1,d.2.2.2.1,c.2.2.2.2))
 |none=>do
  liftM (rule "list.sort.gallop")
  let d ←forIn [:a.size+b.size] ((none,d.2.1,d.2.2.1,d.2.2.2.1,c.2.2.2.2+1,d.2.2.2.2.1,d.2.2.2.2.2):H6) fun _ d=>if d.2.2.2.2.1 > 1 then GL a b d.2.2.2.1 d.2.1 d.2.2.1 (d.2.2.2.2.1 - 1) d.2.2.2.2.2.1 d.2.2.2.2.2.2 else GL a b d.2.2.2.1 d.2.1 d.2.2.1 d.2.2.2.2.1 d.2.2.2.2.2.1 d.2.2.2.2.2.2
  match d.1 with
  |some r=>pure (.done (some r,d.2.1,d.2.2.1,d.2.2.2.1,d.2.2.2.2.1))
  |none=>do
   fX (d.2.2.2.2.1+1)
   pure (.yield (none,d.2.1,d.2.2.1,d.2.2.2.1,d.2.2.2.2.1+1))
end MS
namespace L2
open Ent (val un)
section
variable {φ:du}
theorem ib:EB φ X (.Constant (.int i) j pos) (fun _=>.ret (.int i)):=EV.b aq
section
variable {X:Cx}
theorem a1 (h0:EV φ X e0 m0) (s0:isStar e0=false:=by rfl):AV φ X [e0] (aa m0 (fun _=>.ret [])):=ab h0 (ar) s0
theorem a2 (h0:EV φ X e0 m0) (h1:EV φ X e1 m1) (s0:isStar e0=false:=by rfl) (s1:isStar e1=false:=by rfl):AV φ X [e0,e1] (aa m0 (aa m1 (fun _=>.ret []))):=ab h0 (ab h1 (ar) s1) s0
theorem a3 (h0:EV φ X e0 m0) (h1:EV φ X e1 m1) (h2:EV φ X e2 m2) (s0:isStar e0=false:=by rfl) (s1:isStar e1=false:=by rfl) (s2:isStar e2=false:=by rfl):AV φ X [e0,e1,e2] (aa m0 (aa m1 (aa m2 (fun _=>.ret [])))):=ab h0 (ab h1 (ab h2 (ar) s2) s1) s0
theorem a4 (h0:EV φ X e0 m0) (h1:EV φ X e1 m1) (h2:EV φ X e2 m2) (h3:EV φ X e3 m3) (s0:isStar e0=false:=by rfl) (s1:isStar e1=false:=by rfl) (s2:isStar e2=false:=by rfl) (s3:isStar e3=false:=by rfl):AV φ X [e0,e1,e2,e3] (aa m0 (aa m1 (aa m2 (aa m3 (fun _=>.ret []))))):=ab h0 (ab h1 (ab h2 (ab h3 (ar) s3) s2) s1) s0
theorem a5 (h0:EV φ X e0 m0) (h1:EV φ X e1 m1) (h2:EV φ X e2 m2) (h3:EV φ X e3 m3) (h4:EV φ X e4 m4) (s0:isStar e0=false:=by rfl) (s1:isStar e1=false:=by rfl) (s2:isStar e2=false:=by rfl) (s3:isStar e3=false:=by rfl) (s4:isStar e4=false:=by rfl):AV φ X [e0,e1,e2,e3,e4] (aa m0 (aa m1 (aa m2 (aa m3 (aa m4 (fun _=>.ret [])))))):=ab h0 (ab h1 (ab h2 (ab h3 (ab h4 (ar) s4) s3) s2) s1) s0
theorem a6 (h0:EV φ X e0 m0) (h1:EV φ X e1 m1) (h2:EV φ X e2 m2) (h3:EV φ X e3 m3) (h4:EV φ X e4 m4) (h5:EV φ X e5 m5) (s0:isStar e0=false:=by rfl) (s1:isStar e1=false:=by rfl) (s2:isStar e2=false:=by rfl) (s3:isStar e3=false:=by rfl) (s4:isStar e4=false:=by rfl) (s5:isStar e5=false:=by rfl):AV φ X [e0,e1,e2,e3,e4,e5] (aa m0 (aa m1 (aa m2 (aa m3 (aa m4 (aa m5 (fun _=>.ret []))))))):=ab h0 (ab h1 (ab h2 (ab h3 (ab h4 (ab h5 (ar) s5) s4) s3) s2) s1) s0
end
abbrev gb (i:Nat):ao→M PV:=fun ρ=>cQ ρ i
structure GC (K:Frag) (mg:Str→Option Value) (x:Str) (st:Stmt) (a:Addr) (d:FuncData) (ps:List Str):Prop where
 F:jT K x x st a d
 m:mg x=some (.ref a)
 b:Binds K d ps []
theorem ec {X:Cx} {x:Str} {p pos:Pos} {e:Expr} {es:List Expr} {st:Stmt} {k k':Nat} {f:Addr} {fd:FuncData} {ps:List Str} {Fm:List PV→M PV} {ml:ao→M (List PV)} (G:bu X.prog X.w X.K X.mg X.base dF k f fd ps (fo φ Fm)) (c:GC X.K X.mg x st f fd ps) (hr:dA k' X.A) (ha:AV φ X (e::es) ml) (hk:k≤k':=by decide) (hg:Gl X x:=by rfl) (pd:(x==("__debug__":Str))=false:=by decide)
  (he:starEach (e::es) X.env=(false,eval e X.env)::starEach es X.env:=by rfl) (kO:(backTo pos (starEach es X.env)).any (·.1)=false:=by rfl):EV φ X (.Call (.Name x p) (e::es) [] pos) (fun ρ=>(ml ρ).bind Fm):=aE (aB G (hr.mono hk) hg c.m c.F.kp c.b .nil aT ha pd he kO)
end
section
variable {φ:du}
noncomputable def GZ:Expr→List Str
 | .Name x _=>[x]
 | .Tuple es _ _=>es.filterMap fun e=>match e with| .Name x _=>some x|_=>none
 |_=>[]
noncomputable def Hc (tg:Expr) (XN:List Str) (js:List (Option Nat)):List Str:=GZ tg++js.filterMap fun o=>o.bind fun i=>XN[i]?
end
section
open PySem.W (KasT kas_rev kas_asc kas_desc kas_tail3 kas_descPart kas_count kas_place kas_bin kas_sort)
open PySem.W (kas_sort kas_ask KatTups)
open PySem.W (kla_fn kla_obj CodeHd tabObj)
def Bp (N:Nat) (p0 p:Array Nat):Prop:=Bd N p∧p.Perm p0
theorem Bp.at (h:Bp N p0 p) (k:Nat):p.getD k 0 < N:=h.1.at k
theorem Bp.perm (h:Bp N p0 p) (pm:q.Perm p):Bp N p0 q:=⟨h.1.perm pm,pm.trans h.2⟩
theorem Bp.rev (h:Bp N p0 p) (i j:Nat):Bp N p0 (kas_rev p i j):=h.perm (mirror_perm _ _ _ _)
section
variable {N:Nat} {p0:Array Nat}
theorem pS (h:Bp N p0 p): ∀ f n,eG N (fun _=>True) (kas_asc p f n)
 |0,_=>trivial
 |f+1,n=>⟨h.at _,h.at _,fun b=>eG.ite trivial (pS h f (n+1))⟩
theorem jH: ∀ (f:Nat) {p:Array Nat} (n q:Nat),Bp N p0 p→eG N (fun r=>Bp N p0 r.1) (kas_desc f p n q)
 |0,_,_,_,h=>h
 |f+1,p,n,q,h=>⟨h.at _,h.at _,fun b=>eG.ite (eG.ite (jH f _ _ (h.rev _ _)) (jH f _ _ h)) ⟨h.at _,h.at _,fun d=>eG.ite h (jH f _ _ h)⟩⟩
theorem nE (h:Bp N p0 p) (n m:Nat):eG N (fun r=>Bp N p0 r.2) (kas_tail3 n m p):=eG.bind (pS (h.rev _ _) _ _) fun a _=>h.rev _ _
theorem jI (h:Bp N p0 p) (n m:Nat):eG N (fun r=>Bp N p0 r.2) (kas_descPart n m p):=eG.bind (jH _ _ _ h) fun r hr=>eG.ite (nE (hr.rev _ _) _ _) (nE hr _ _)
theorem vo (h:Bp N p0 p) (m:Nat):eG N (fun r=>Bp N p0 r.2) (kas_count m p):=
 eG.bind (pS h _ _) fun n _=>eG.ite h (eG.ite ⟨h.at _,h.at _,fun c=>eG.ite h (jI (h.rev _ _) _ _)⟩ (jI h _ _))
theorem j5 (h:Bp N p0 p) (k:Nat): ∀ f l r,eG N (fun _=>True) (kas_place p k f l r)
 |0,_,_=>trivial
 |f+1,l,r=>by
  unfold kas_place
  exact eG.ite trivial ⟨h.at _,h.at _,fun c=>eG.ite (j5 h k f _ _) (j5 h k f _ _)⟩
theorem uA: ∀ (f:Nat) {p:Array Nat} (k:Nat),Bp N p0 p→eG N (Bp N p0) (kas_bin f p k)
 |0,_,_,h=>h
 |f+1,p,k,h=>eG.bind (j5 h _ _ _ _) fun l _=>uA f (k+1) (h.perm (bubble_perm _ _ _))
theorem v8 (hN:0 < N):eG N (Bp N (List.toArray (List.range N))) (kas_sort N):=by
 have h:Bp N (List.toArray (List.range N)) (List.toArray (List.range N)):=⟨⟨hN,fun x hx=>by simpa using hx⟩,Array.Perm.refl _⟩
 exact eG.bind (vo h _) fun r hr=>eG.ite (uA _ _ hr) hr
end
theorem wm {N:Nat} {α:Type} {V:α→Prop} {r:Nat→Int}: ∀ (t:KasT α),eG N V t→V (runK r t)
 | .ret a,h=>h
 | .ask i j k,h=>wm (k (decide (r i < r j))) (h.2.2 _)
noncomputable def i5 (r:Nat→Int) (n:Nat):Array Nat:=if n < 2 then List.toArray (List.range n) else runK r (kas_sort n)
theorem iE (r:Nat→Int) (n:Nat):(i5 r n).Perm (List.toArray (List.range n)):=by
 unfold i5
 split
 ·exact Array.Perm.refl _
 ·exact(wm (r:=r) _ (v8 (N:=n) (by lia))).2
theorem uV (r:Nat→Int) (n:Nat):(i5 r n).size=n:=by
 have:=(Array.perm_iff_toList_perm.mp (iE r n)).length_eq
 simpa using this
variable {φ:du}
end
noncomputable def D8 (K:Frag):R2:=fun x y H Q=> ∃ a b ns ms,x= .ref a∧y= .ref b∧dJ K H a (ns.map V.int)∧dJ K H b (ms.map V.int)∧Q (.bl (HT.lexLt ms ns)) H
theorem xp {X:Cx} (hu:X.A.units < cLine):fK X (compareOp .Gt) (D8 X.K):=by
 intro pZ s σ H x y v u Q I rx ry h
 obtain⟨a,b,ns,ms,rfl,rfl,ha,hb,q⟩:=h
 cases rx
 cases ry
 obtain⟨aA,r1,p1,_⟩:=I.tuple ha
 obtain⟨sJ,r2,p2,_⟩:=I.tuple hb
 exact HT.sO p1 p2 (intsAre_of r1) (intsAre_of r2) hu ⟨.bl (HT.lexLt ms ns),H,I,rfl,q⟩
noncomputable def qN:PV→PV→M PV
 | .tup a,.tup b=>(M.eV (intsOf a)).bind fun x=>(M.eV (intsOf b)).bind fun y=>.ret (.bl (HT.lexLt y x))
 |_,_=>.fail
theorem xk {K:Frag}:oB (D8 K) qN:=fun φ G O H n R Q y z x x' pr dm ok r1 r2 w q=>by
 cases y<;>cases z<;>first|exact w.elim|skip
 rename_i a b
 obtain⟨p1,xs1,rfl,h1,e1⟩:=r1.gf
 obtain⟨p2,xs2,rfl,h2,e2⟩:=r2.gf
 unfold qN at w
 dsimp only at w
 cases i1:intsOf a with
 |none=>rw[i1] at w;exact w.elim
 |some ns=>
  cases i2:intsOf b with
  |none=>rw[i1,i2] at w;exact w.elim
  |some ms=>
   rw[i1,i2] at w
   refine⟨p1,p2,ns,ms,rfl,rfl,?_,?_,q.sc ok (.bl _) w⟩
   ·rw[←ints_rep e1 i1];exact dJ.of h1
   ·rw[←ints_rep e2 i2];exact dJ.of h2
section
open PySem.W (KasT kas_rev kas_asc kas_desc kas_tail3 kas_descPart kas_count kas_place kas_bin kas_sort)
open PySem.W (kas_sort kas_ask KatTups)
open PySem.W (kla_fn kla_obj CodeHd tabObj)
variable {φ:du}
noncomputable def Gf:PV→Option Int
 | .tup l=>match (l[1]?:Option PV) with
  |some (PV.int n)=>some n
  |_=>none
 |_=>none
def kN (y:PV):Int:=(Gf y).getD 0
end
section
open PySem.W (kas_sort kas_ask KatTups)
noncomputable def sv (now e1:Nat):Unit→Sem PySem.Fin:=fun _=>if(now !=e1)=true then rule "list.sort.modified" >>= fun _=>(raiseErrorWords "ValueError" "list modified during sort":Sem PUnit) >>= fun _=>ret .none else ret .none
noncomputable def oZ (a:Addr) (e1:Nat) (s:SortSt):Sem PySem.Fin:=seqEpoch a >>= fun now=>Builtin.List.listUpdate (.ref a) (fun _=>(arrOf s).map (·.2)) >>= fun _=>match failedOf s with
 |some e=>rule "list.sort.comparison-raised" >>= fun _=>(throw e:Sem PUnit) >>= fun _=>sv now e1 ()
 |_=>sv now e1 ()
noncomputable def o1 (a:Addr) (items:Array Value) (before:Nat) (kind:SortKind):Sem PySem.Fin:=(if items.size < 2 then pure () else sortRuns').run (SortSt.mk' kind (items.zip items) #[] 7 none) >>= fun r=>match r with
 |(PUnit.unit,s)=>oZ a before s
noncomputable def ua (a:Addr):Sem PySem.Fin:=Builtin.List.listItems (.ref a) >>= fun items=>Builtin.List.listUpdate (.ref a) (fun _=> #[]) >>= fun _=>seqEpoch a >>= fun before=>newTuple items.toList >>= fun held=>newList [] >>= fun keyStore=>
 holding [held,keyStore] (if items.size < 2 then pure general' >>= fun kind=>o1 a items before kind else keyKind' items >>= fun kind=>o1 a items before kind)
theorem Gb (a:Addr):Builtin.«list.sort» ⟨[.ref a],[]⟩=ua a:=by rfl
section
variable {X:Cx} {A:Around} {E:Value→Shared→Prop} {pZ:List (Addr×Obj)} {σ:St} {H:Hp} {s:Shared} {D:Addr} {aA:List Value} {xs:List V} {kf:Nat→Int×Int} {P:PySem.Fin→Shared→Prop}
theorem mC {e1:Nat} {st:SortSt} {p:Array Nat} {H1:Hp} (I:Inv X ((D,seqObj "list" #[] e1)::pZ) σ H1 s) (fp:cJ X pZ H1 D) (rv:Vals xs aA) (h64:xs.length < 64)
  (hz:p.size=xs.length) (har:(arrOf st).map (·.2)=List.toArray (p.toList.map fun i=>aA.getD i Value.none)) (hin: ∀ i∈p.toList,i < xs.length) (hf:failedOf st=none)
  (h: ∀ s',Inv X pZ σ (upd H1 D (.lst (p.toList.map fun i=>xs.getD i .bX))) s'→P (.done (.ret .none)) s'):
  wpAny (model X.prog X.w) A (oZ D e1 st) P E s:=by
 have hD:=(I.pin _ (HB _ Hf)).1
 unfold oZ
 rw[har]
 refine He (seqEpoch_at hD rfl ?_)
 refine He (listUpdate_at hD rfl ?_ (HJ _) (by simp only[Hl,Hg,HS];rw[hz,HW];lia))
 rw[hf]
 dsimp only
 unfold sv
 simp only[bne_self_eq_false,HY,if_false]
 have I2:Inv X pZ σ H1 s:=I.iC fun q hq=>I.pin q (HB _ (Hj _ hq))
 refine Hk (h _ (I2.EG (t':=s.toks) fp (fun b u hb e=>(Heap.get?_update_other _ _ (Ne.symm hb)).trans e) ?_))
 have g:=get?_update_seq hD fun _=>List.toArray (p.toList.map fun i=>aA.getD i Value.none)
 refine⟨by rw[Hg,HS,hz,HW];lia,p.toList.map fun i=>aA.getD i Value.none,_,?_,g⟩
 have go: ∀ l:List Nat,(∀ i∈l,i < xs.length)→Vals (l.map fun i=>xs.getD i V.bX) (l.map fun i=>aA.getD i Value.none):=fun l=>by
  induction l with
  |nil=>intro _;exact .nil
  |cons i l ih=>
   intro hl'
   refine .cons ?_ (ih fun j hj=>hl' j (Hj _ hj))
   have hi:=hl' i Hf
   obtain⟨u,hu,ru⟩:=rv.get (Hd hi)
   show RelV (xs.getD i V.bX) (aA.getD i Value.none)
   rw[HA,HA,hu,Hd hi]
   exact ru
 exact go _ hin
theorem rO {Ts:List Addr} (I:Inv X pZ σ H s) (fp:cJ X pZ H D) (ho:s.heap.get? D=some (seqObj "list" aA.toArray n0)) (rv:Vals xs aA) (h64:xs.length < 64) (hT:xs=Ts.map V.ref)
  (tt: ∀ j T,Ts[j]?=some T→H T=some (.tup [.int (kf j).1,.int (kf j).2])) (hb: ∀ i,i < xs.length→0≤(kf i).2∧(kf i).2 < 1000000)
  (h: ∀ (s':Shared),Inv X pZ σ (upd H D (.lst ((i5 (rk kf) xs.length).toList.map fun i=>xs.getD i .bX))) s'→P (.done (.ret .none)) s'):
  wpAny (model X.prog X.w) A (Builtin.«list.sort» ⟨[.ref D],[]⟩) P E s:=by
 have hl:=rv.length
 have hTx:Ts.length=xs.length:=by rw[hT,Hg]
 have hzL:aA.length≤sizeLine:=by rw[HW];lia
 have hks:aA=Ts.map Value.ref:=jV (by rw[←hT];exact rv)
 rw[Gb]
 unfold ua
 refine He (listItems_at ho rfl ?_)
 refine He (listUpdate_at ho rfl ?_ (by rw[Hl];exact hzL) (HJ _))
 obtain⟨e1,DB⟩: ∃ e1,(s.heap.update D (Obj.mapSeq fun _=>(#[]:Array Value))).get? D=some (seqObj "list" #[] e1):=⟨_,get?_update_seq ho fun _=> #[]⟩
 refine He (seqEpoch_at DB rfl ?_)
 refine He (wpAny_newTuple ?_ hzL)
 refine He (wpAny_newList ?_ (HJ _))
 refine wpAny_holding ?_
 have I1:Inv X pZ σ H {s with heap:=s.heap.update D (Obj.mapSeq fun _=>(#[]:Array Value))}:=I.turned (t':=s.toks) (fun b u hb' e=>(Heap.get?_update_other _ _ (Ne.symm hb')).trans e) fp.1 fp.2.1 fp.2.2.2.1 fp.2.2.2.2.1 fp.2.2.2.2.2
 have I2:Inv X ((D,seqObj "list" #[] e1)::pZ) σ H {s with heap:=s.heap.update D (Obj.mapSeq fun _=>(#[]:Array Value))}:=I1.iC fun q hq=>by
  rcases Hr.mp hq with rfl|hq
  ·exact⟨DB,fp.1,fp.2.1,fp.2.2.1,fun v z=>by cases z⟩
  ·exact I1.pin q (HB _ hq)
 have J:Inv X ((D,seqObj "list" #[] e1)::pZ) σ H {s with heap:=((s.heap.update D (Obj.mapSeq fun _=>(#[]:Array Value))).push (seqObj "tuple" aA.toArray 0)).push (seqObj "list" #[] 0)}:=I2.kept (t':=s.toks) fun b u e=>Hh _ (Hh _ e)
 generalize hs1:({s with heap:=((s.heap.update D (Obj.mapSeq fun _=>(#[]:Array Value))).push (seqObj "tuple" aA.toArray 0)).push (seqObj "list" #[] 0)}:Shared)=s1 at *
 have inP: ∀ p:Array Nat,p.Perm (List.toArray (List.range xs.length))→∀ i∈p.toList,i < xs.length:=fun p hp i hi=>by
  have:=(Array.perm_iff_toList_perm.mp hp).mem_iff.mp hi
  simpa using this
 have fin: ∀ (p:Array Nat) (s'':Shared),p=i5 (rk kf) xs.length→Inv X pZ σ (upd H D (.lst (p.toList.map fun i=>xs.getD i .bX))) s''→P (.done (.ret .none)) s'':=fun p s'' hp J'=>by
  subst hp
  exact h s'' J'
 by_cases h2:aA.toArray.size < 2
 ·rw[Ig h2]
  refine He (Hk ?_)
  unfold o1
  rw[Ig h2,StateT.run_pure]
  refine He (Hk ?_)
  dsimp only
  rw[Hl] at h2
  have hz:(List.toArray (List.range xs.length)).size=xs.length:=by simp
  refine mC (p:=List.toArray (List.range xs.length)) J fp rv h64 hz ?_ (inP _ (Array.Perm.refl _)) rfl fun s'' J'=>fin _ s'' (by unfold i5;rw[Ig (by lia)]) J'
  have hmap:=PySem.W.kat_snds (ks:=aA) (vs:=aA) rfl (st:=SortSt.mk' general' (aA.toArray.zip aA.toArray) #[] 7 none) (p:=List.toArray (List.range xs.length)) (by
   have e:=PySem.W.kas_range (aA.toArray.zip aA.toArray)
   rw[show (aA.toArray.zip aA.toArray).size=xs.length by simp;lia] at e
   exact e.symm)
  exact hmap
 ·rw[Ih h2]
  rw[Hl] at h2
  obtain⟨fs,kt,hfl,hfi⟩:=oD (h:=s1.heap) Ts fun T hT'=>by
   obtain⟨i,hi,e⟩:=List.getElem_of_mem hT'
   obtain⟨o,n,ta,tb,g1,g2,g3⟩:=iD J.cm (tt i T (Hm.mpr ⟨hi,e⟩))
   exact⟨o,n,_,_,ta,tb,g1,g2,g3⟩
  rw[←hks] at kt
  refine He (PySem.W.kat_kind (T:=Value.type "int") kt (by lia) (fun v hv=>?_) rfl ?_)
  ·obtain⟨i,t,rfl⟩:=hfi v hv
   exact PySem.W.Looks.now
  ·obtain⟨p,ep⟩: ∃ p,runK (rk kf) (kas_sort xs.length)=p:=⟨_,rfl⟩
   have eo:p=i5 (rk kf) xs.length:=by unfold i5;rw[Ih (by lia)];exact ep.symm
   have hp:p.Perm (List.toArray (List.range xs.length)):=eo▸iE _ _
   have hz:p.size=xs.length:=eo▸uV _ _
   unfold o1
   rw[Ih (by rw[Hl];exact h2)]
   refine He (wpAny_mono (PySem.W.kat_run (vs:=aA) (ks:=aA) (Q:=fun st' s''=> ∃ p':Array Nat,arrOf st'=p'.map (PySem.W.kas_item (aA.toArray.zip aA.toArray))∧failedOf st'=none∧p'=p∧s''=s1) (G:=fun p' s''=>p'=p∧s''=s1)
    rfl (by lia) (by lia) (fun p' st' s'' a1 a2 a3 a4=>⟨p',a2,a3,a4.1,a4.2⟩) ?_) ?_ fun _ _ e=>e)
   ·rw[show aA.length=xs.length from hl.symm]
    refine wp_run (N:=xs.length) (V:=Bd xs.length) (r:=rk kf) (fun i j C hi hj hC=>?_) _ (tN (by lia)) ⟨ep,rfl⟩
    have hi':i < Ts.length:=by lia
    have hj':j < Ts.length:=by lia
    obtain⟨oi,ni,ai,bi,g1,g2,g3⟩:=iD J.cm (tt i _ (Hd hi'))
    obtain⟨oj,nj,aj,bj,k1,k2,k3⟩:=iD J.cm (tt j _ (Hd hj'))
    unfold PySem.W.kas_ask
    rw[hks,HA,HA,HC,HC,Hd hi',Hd hj']
    exact xN g1 g3 k1 k3 (hb i hi) (hb j hj) hC
   ·rintro⟨⟨⟩,st'⟩ s'' ⟨p',har,hf,rfl,rfl⟩
    dsimp only
    exact mC J fp rv h64 hz (PySem.W.kat_snds rfl har) (inP _ hp) hf fun s3 J'=>fin _ s3 eo J'
end
section
variable {X:Cx}
noncomputable def wG:List V→Hp→VK→Prop:=fun vs H Q=> ∃ (l:Addr) (xs:List V) (Ts:List Addr) (kf:Nat→Int×Int),vs=[.ref l]∧H l=some (.lst xs)∧xs.length < 64∧xs=Ts.map V.ref∧(∀ j T,Ts[j]?=some T→H T=some (.tup [.int (kf j).1,.int (kf j).2]))∧(∀ i,i < xs.length→0≤(kf i).2∧(kf i).2 < 1000000)∧
 ∀ D,H D=none→Q (.ref D) (upd H D (.lst ((i5 (rk kf) xs.length).toList.map fun i=>xs.getD i .bX)))
theorem sZ:eR X (.builtin "sorted") wG:=by
 intro pZ s σ H xs us Q I r h
 obtain⟨l,ys,Ts,kf,rfl,hl,h64,hT,tt,hb,q⟩:=h
 obtain⟨u,rfl,rx⟩:=vals1 r
 cases rx
 obtain⟨_,aA,n0,rv,ho⟩:=I.cm l _ hl
 have hlen:=rv.length
 refine Calls.call_function_entry kind_sorted plain_sorted entry_sorted (args_sorted1 _) ?_
 unfold Builtin.«sorted»
 refine He (m:=checkCount "sorted" 1 1 _) (Hk ?_)
 refine He (wpAny_collect_seq l (.inl rfl) ho rfl rfl (fun h1 kp=>?_) (by rw[Hl,HW];lia))
 have I1:Inv X pZ σ H {s with heap:=h1}:=I.kept (t':=s.toks) kp
 have fr:H h1.objs.size=none:=I1.fresh
 have fp:cJ X pZ H h1.objs.size:=I1.pj (Hn _) fr
 refine He (wpAny_newList ?_ (by show aA.length≤_;rw[HW];lia))
 have I2:Inv X pZ σ H {s with heap:=h1.push (seqObj "list" aA.toArray 0)}:=I1.kept (t':=s.toks) fun b u e=>Hh _ e
 have hoL:(h1.push (seqObj "list" aA.toArray 0)).get? h1.objs.size=some (seqObj "list" aA.toArray 0):=Hw _ rfl
 refine He (wpAny_holding (wpAny_call_entry slot_list_sort ⟨_,hoL,rfl⟩ entry_list_sort ?body (args_list_sort _)))
 case body=>
  show wpAny (model X.prog X.w) X.A.in1.in1 (Builtin.«list.sort» ⟨[.ref h1.objs.size],[]⟩) _ _ {s with heap:=h1.push (seqObj "list" aA.toArray 0)}
  exact rO I2 fp hoL rv h64 hT tt hb fun s' J=>⟨_,rfl,Hk ⟨_,rfl,.ref h1.objs.size,_,J,rfl,q _ fr⟩⟩
end
noncomputable def kQ:PV→Int×Int
 | .tup [.int a,.int b]=>(a,b)
 |_=>(0,0)
noncomputable def Dy:PV→Bool
 | .tup [.int _,.int b]=>decide (0≤b∧b < 1000000)
 |_=>false
theorem t8 (h:Dy y=true): ∃ a b,y= .tup [.int a,.int b]∧0≤b∧b < 1000000:=by
 unfold Dy at h
 split at h
 ·rename_i a b
  have:=of_decide_eq_true h
  exact⟨a,b,rfl,this.1,this.2⟩
 ·cases h
noncomputable def qu (l:List PV):List PV:=(i5 (rk fun i=>kQ (l.getD i .bX)) l.length).toList.map fun i=>l.getD i .bX
noncomputable def tO:List PV→M (List PV)
 |[.lst l]=>if l.length < 64∧∀ z∈l,Dy z=true then .ret (qu l) else .fail
 |_=>.fail
theorem yE:rC wG tO:=fun φ G O H n R Q l xs pr dm ok r w q=>by
 match l,r,w with
 |[.lst z],r,w=>
  obtain⟨x,ex,r1⟩:=r.one;subst ex;clear r;have r:=r1;clear r1
  obtain⟨p,ys,rfl,h,e⟩:=r.fi
  simp only[tO] at w
  by_cases c:z.length < 64∧∀ y∈z,Dy y=true
  ·rw[Ig c] at w
   have hlen:z.length=ys.length:=e.1
   obtain⟨Ts,eT,tt⟩: ∃ Ts:List Addr,ys=Ts.map V.ref∧∀ j T,Ts[j]?=some T→H T=some (.tup [.int (kQ (z.getD j .bX)).1,.int (kQ (z.getD j .bX)).2]):=by
    have key: ∀ (z:List PV) (ys:List V),aO G.B O H z ys→(∀ y∈z,Dy y=true)→∃ Ts:List Addr,ys=Ts.map V.ref∧∀ j T,Ts[j]?=some T→H T=some (.tup [.int (kQ (z.getD j .bX)).1,.int (kQ (z.getD j .bX)).2]):=by
     intro z
     induction z with
     |nil=>
      intro ys r _
      cases ys with
      |nil=>exact⟨[],rfl,fun j T h=>by simp at h⟩
      |cons y ys=>have:=r.1;simp at this
     |cons y z ih=>
      intro ys r hk
      obtain⟨x,ys',rfl,r1,r2⟩:=r.cons_inv
      obtain⟨Ts,rfl,tt⟩:=ih ys' r2 fun y hy=>hk y (Hj _ hy)
      obtain⟨a,b,rfl,_,_⟩:=t8 (hk y Hf)
      cases r1 with
      | @tup T zs _ nO hT hl hr=>
       have rz:aO G.B O H [PV.int a,PV.int b] zs:=⟨hl,hr⟩
       obtain⟨z1,zs1,rfl,q1,q2⟩:=rz.cons_inv
       obtain⟨z2,zs2,rfl,q3,q4⟩:=q2.cons_inv
       rw[q4.nil_inv] at hT
       cases q1
       cases q3
       refine⟨T::Ts,rfl,fun j T' h=>?_⟩
       cases j with
       |zero=>simp at h;subst h;exact hT
       |succ j=>exact tt j T' (by simpa using h)
    exact key z ys e c.2
   refine⟨p,ys,Ts,fun j=>kQ (z.getD j .bX),rfl,h,by lia,eT,tt,fun i hi=>?_,fun D hD=>?_⟩
   ·have hi':i < z.length:=by lia
    obtain⟨a,b,e1,e2,e3⟩:=t8 (c.2 _ (HZ hi'))
    dsimp only
    rw[HA,Hd hi',Ir,e1]
    exact⟨e2,e3⟩
   ·refine q.mk ok hD (pr _ G.pB) (l:=qu z) ?_ w
    unfold qu
    rw[←hlen]
    refine⟨by simp,fun i y x a b=>?_⟩
    rw[HC] at a b
    cases d:(i5 (rk fun i=>kQ (z.getD i .bX)) z.length).toList[i]? with
    |none=>rw[d] at a;cases a
    |some j=>
     rw[d] at a b
     cases a
     cases b
     have hj:j < z.length:=by
      have:=(Array.perm_iff_toList_perm.mp (iE (rk fun i=>kQ (z.getD i .bX)) z.length)).mem_iff.mp (List.mem_of_getElem? d)
      simpa using this
     obtain⟨x,hx,rx⟩:=e.at (Hd hj)
     show Rep G.B O H (z.getD j .bX) (ys.getD j .bX)
     rw[HA,HA,hx,Hd hj]
     exact rx
  ·rw[Ih c] at w;exact w.elim
end
section
open PySem.W (KasT kas_rev kas_asc kas_desc kas_tail3 kas_descPart kas_count kas_place kas_bin kas_sort)
section
variable {r:Nat→Int}
def uE (r:Nat→Int) (p:Array Nat) (m:Nat):Prop:= ∀ i j,i≤j→j < m→kg r p i≤kg r p j
def Bj (r:Nat→Int) (p:Array Nat) (m:Nat):Prop:= ∀ i j,i≤j→j < m→kg r p j≤kg r p i
theorem vK (h1:1≤n) (h:uE r p n) (h':kg r p (n - 1)≤kg r p n):uE r p (n+1):=fun i j hij hj=>by
 by_cases e:j=n
 ·subst e
  by_cases e2:i=j
  ·subst e2;exact Iz _
  ·exact Int.le_trans (h i (j - 1) (by lia) (by lia)) h'
 ·exact h i j hij (by lia)
theorem mV (h1:1≤n) (h:Bj r p n) (h':kg r p n≤kg r p (n - 1)):Bj r p (n+1):=fun i j hij hj=>by
 by_cases e:j=n
 ·subst e
  by_cases e2:i=j
  ·subst e2;exact Iz _
  ·exact Int.le_trans h' (h i (j - 1) (by lia) (by lia))
 ·exact h i j hij (by lia)
theorem yM: ∀ (f n:Nat),1≤n→n+f≤p.size→uE r p n→∃ m,runK r (kas_asc p f n)=m∧n≤m∧m≤n+f∧uE r p m∧(m < n+f→kg r p m < kg r p (m - 1))
 |0,n,h1,hz,h=>⟨n,rfl,by lia,by lia,h,fun z=>by lia⟩
 |f+1,n,h1,hz,h=>by
  unfold kas_asc
  show ∃ m,runK r (if decide (r (p.getD n 0) < r (p.getD (n - 1) 0))=true then KasT.ret n else kas_asc p f (n+1))=m∧_
  by_cases c:r (p.getD n 0) < r (p.getD (n - 1) 0)
  ·rw[Ig (by simpa using c)]
   exact⟨n,rfl,by lia,by lia,h,fun _=>c⟩
  ·rw[Ih (by simpa using c)]
   obtain⟨m,e,a1,a2,a3,a4⟩:=yM f (n+1) (by lia) (by lia) (vK h1 h (Int.not_lt.mp c))
   exact⟨m,e,by lia,by lia,a3,fun z=>a4 (by lia)⟩
theorem zx (hm:m≤p.size) (k:Nat):kg r (kas_rev p a m) k=if a≤k∧k < m then kg r p (a+m - 1 - k) else kg r p k:=by
 have e:=getElem?_mirror_all (xs:=p) (i:=a) (j:=m) hm k
 unfold kg kas_rev
 rw[HE,e]
 by_cases c:a≤k∧k < m
 ·rw[Ig c,Ig c,HE]
 ·rw[Ih c,Ih c,HE]
theorem mm (hm:m≤p.size) (h: ∀ i,a≤i→i < m→kg r p i=v) (k:Nat):kg r (kas_rev p a m) k=kg r p k:=by
 rw[zx hm]
 split
 ·rename_i c
  rw[h _ (by lia) (by lia),h k c.1 c.2]
 ·rfl
theorem pE: ∀ (f:Nat) (p:Array Nat) (n q:Nat),1≤n→q < n→n+f≤p.size→Bj r p n→(∀ i,n - 1 - q≤i→i < n→kg r p i=kg r p (n - 1))→
  ∃ p' m q',runK r (kas_desc f p n q)=(p',m,q')∧n≤m∧m≤n+f∧p'.size=p.size∧p'.Perm p∧(∀ k,kg r p' k=kg r p k)∧Bj r p m∧q' < m∧∀ i,m - 1 - q'≤i→i < m→kg r p i=kg r p (m - 1)
 |0,p,n,q,h1,hq,hz,h,hc=>⟨p,n,q,rfl,by lia,by lia,rfl,.refl _,fun _=>rfl,h,hq,hc⟩
 |f+1,p,n,q,h1,hq,hz,h,hc=>by
  unfold kas_desc
  by_cases c:r (p.getD n 0) < r (p.getD (n - 1) 0)
  ·have c':kg r p n < kg r p (n - 1):=c
   have hd:=mV h1 h (Int.le_of_lt c')
   by_cases d:q > 0
   ·have same: ∀ k,kg r (kas_rev p (n - (q+1)) n) k=kg r p k:=mm (by lia) (v:=kg r p (n - 1)) fun i g1 g2=>hc i (by lia) g2
    have hz':(kas_rev p (n - (q+1)) n).size=p.size:=mirror_size _ _ _ _
    obtain⟨p',m,q',e,a1,a2,a3,a4,a5,a6,a7,a8⟩:=pE f (kas_rev p (n - (q+1)) n) (n+1) 0 (by lia) (by lia) (by rw[hz'];lia) (fun i j g1 g2=>by rw[same,same];exact hd i j g1 g2) (fun i g1 g2=>by rw[show i=n+1 - 1 by lia])
    refine⟨p',m,q',?_,by lia,by lia,a3.trans hz',a4.trans (mirror_perm _ _ _ _),fun k=>(a5 k).trans (same k),fun i j g1 g2=>by rw[←same,←same];exact a6 i j g1 g2,a7,fun i g1 g2=>by rw[←same,←same];exact a8 i g1 g2⟩
    show runK r (if decide (r (p.getD n 0) < r (p.getD (n - 1) 0))=true then _ else _)=_
    rw[Ig (by simpa using c),Ig d]
    exact e
   ·obtain⟨p',m,q',e,a1,a2,a3,a4,a5,a6,a7,a8⟩:=pE f p (n+1) 0 (by lia) (by lia) (by lia) hd (fun i g1 g2=>by rw[show i=n+1 - 1 by lia])
    refine⟨p',m,q',?_,by lia,by lia,a3,a4,a5,a6,a7,a8⟩
    show runK r (if decide (r (p.getD n 0) < r (p.getD (n - 1) 0))=true then _ else _)=_
    rw[Ig (by simpa using c),Ih d]
    exact e
  ·by_cases d:r (p.getD (n - 1) 0) < r (p.getD n 0)
   ·refine⟨p,n,q,?_,by lia,by lia,rfl,.refl _,fun _=>rfl,h,hq,hc⟩
    show runK r (if decide (r (p.getD n 0) < r (p.getD (n - 1) 0))=true then _ else _)=_
    rw[Ih (by simpa using c)]
    show runK r (if decide (r (p.getD (n - 1) 0) < r (p.getD n 0))=true then _ else _)=_
    rw[Ig (by simpa using d)]
    rfl
   ·have eq:kg r p n=kg r p (n - 1):=Int.le_antisymm (Int.not_lt.mp d) (Int.not_lt.mp c)
    obtain⟨p',m,q',e,a1,a2,a3,a4,a5,a6,a7,a8⟩:=pE f p (n+1) (q+1) (by lia) (by lia) (by lia) (mV h1 h (Int.le_of_eq eq)) (fun i g1 g2=>by
     rw[show n+1 - 1=n by lia,eq]
     by_cases z:i=n
     ·rw[z,eq]
     ·exact hc i (by lia) (by lia))
    refine⟨p',m,q',?_,by lia,by lia,a3,a4,a5,a6,a7,a8⟩
    show runK r (if decide (r (p.getD n 0) < r (p.getD (n - 1) 0))=true then _ else _)=_
    rw[Ih (by simpa using c)]
    show runK r (if decide (r (p.getD (n - 1) 0) < r (p.getD n 0))=true then _ else _)=_
    rw[Ih (by simpa using d)]
    exact e
theorem FV (hm:m≤p.size) (h:Bj r p m):uE r (kas_rev p 0 m) m:=fun i j hij hj=>by
 rw[jZ hm,jZ hm,Ig (by lia),Ig hj]
 exact h (m - 1 - j) (m - 1 - i) (by lia) (by lia)
theorem vR (h1:1≤n) (hn:n≤p.size) (h:Bj r p n): ∃ m p',runK r (kas_tail3 n p.size p)=(m,p')∧1≤m∧m≤p.size∧p'.size=p.size∧p'.Perm p∧uE r p' m:=by
 unfold kas_tail3
 rw[run_bind]
 have hz:(kas_rev p 0 n).size=p.size:=mirror_size _ _ _ _
 obtain⟨m',e3,d1,d2,d3,d4⟩:=yM (p:=kas_rev p 0 n) (p.size - n) n h1 (by rw[hz];lia) (FV hn h)
 rw[e3]
 exact⟨m',kas_rev p 0 n,rfl,by lia,by lia,hz,mirror_perm _ _ _ _,d3⟩
theorem xg (h1:1≤n) (hn:n < p.size) (h:Bj r p n) (lt:kg r p n < kg r p (n - 1)): ∃ m p',runK r (kas_descPart n p.size p)=(m,p')∧1≤m∧m≤p.size∧p'.size=p.size∧p'.Perm p∧uE r p' m:=by
 unfold kas_descPart
 rw[run_bind]
 obtain⟨p',m,q,e,a1,a2,a3,a4,a5,a6,a7,a8⟩:=pE (r:=r) (p.size - (n+1)) p (n+1) 0 (by lia) (by lia) (by lia) (mV h1 h (Int.le_of_lt lt)) (fun i g1 g2=>by rw[show i=n+1 - 1 by lia])
 rw[e]
 dsimp only
 have d':Bj r p' m:=fun i j g1 g2=>by rw[a5,a5];exact a6 i j g1 g2
 by_cases c:q > 0
 ·rw[Ig c]
  have hz':(kas_rev p' (m - (q+1)) m).size=p.size:=(mirror_size _ _ _ _).trans a3
  have same: ∀ k,kg r (kas_rev p' (m - (q+1)) m) k=kg r p' k:=mm (by lia) (v:=kg r p (m - 1)) fun i g1 g2=>by rw[a5];exact a8 i (by lia) g2
  obtain⟨m',p2,e2,b1,b2,b3,b4,b5⟩:=vR (r:=r) (p:=kas_rev p' (m - (q+1)) m) (n:=m) (by lia) (by lia) (fun i j g1 g2=>by rw[same,same];exact d' i j g1 g2)
  rw[hz'] at e2 b2 b3
  exact⟨m',p2,e2,b1,b2,b3,b4.trans ((mirror_perm _ _ _ _).trans a4),b5⟩
 ·rw[Ih c]
  obtain⟨m',p2,e2,b1,b2,b3,b4,b5⟩:=vR (r:=r) (p:=p') (n:=m) (by lia) (by lia) d'
  rw[a3] at e2 b2 b3
  exact⟨m',p2,e2,b1,b2,b3,b4.trans a4,b5⟩
theorem Ax (h2:1≤p.size): ∃ m p',runK r (kas_count p.size p)=(m,p')∧1≤m∧m≤p.size∧p'.size=p.size∧p'.Perm p∧uE r p' m:=by
 unfold kas_count
 rw[run_bind]
 obtain⟨n,e,a1,a2,a3,a4⟩:=yM (r:=r) (p:=p) (p.size - 1) 1 (by lia) (by lia) (fun i j hij hj=>by rw[show i=j by lia];exact Iz _)
 rw[e]
 by_cases c1:n=p.size
 ·rw[Ig (by simpa using c1)]
  exact⟨n,p,rfl,a1,by lia,rfl,.refl _,a3⟩
 ·rw[Ih (by simpa using c1)]
  have lt:=a4 (by lia)
  by_cases c2:n > 1
  ·rw[Ig c2]
   show ∃ m p',runK r (if decide (r (p.getD 0 0) < r (p.getD (n - 1) 0))=true then _ else _)=_∧_
   by_cases d:r (p.getD 0 0) < r (p.getD (n - 1) 0)
   ·rw[Ig (by simpa using d)]
    exact⟨n,p,rfl,a1,by lia,rfl,.refl _,a3⟩
   ·rw[Ih (by simpa using d)]
    have all: ∀ i,0≤i→i < n→kg r p i=kg r p 0:=fun i _ g=>Int.le_antisymm (Int.le_trans (a3 i (n - 1) (by lia) (by lia)) (Int.not_lt.mp d)) (a3 0 i (HJ _) g)
    have same: ∀ k,kg r (kas_rev p 0 n) k=kg r p k:=mm (by lia) all
    have hz':(kas_rev p 0 n).size=p.size:=mirror_size _ _ _ _
    obtain⟨m,p',e2,b1,b2,b3,b4,b5⟩:=xg (r:=r) (p:=kas_rev p 0 n) (n:=n) (by lia) (by lia) (fun i j g1 g2=>by rw[same,same,all i (HJ _) (by lia),all j (HJ _) g2];exact Iz _) (by rw[same,same];exact lt)
    rw[hz'] at e2 b2 b3
    exact⟨m,p',e2,b1,b2,b3,b4.trans (mirror_perm _ _ _ _),b5⟩
  ·rw[Ih c2]
   exact xg a1 (by lia) (fun i j g1 g2=>by rw[show i=j by lia];exact Iz _) lt
theorem oQ (hk:k < p.size) (h:uE r p k): ∀ (f l q:Nat),q≤l+f→q≤k→l≤q→(∀ i,i < l→kg r p i≤kg r p k)→(∀ i,q≤i→i < k→kg r p k≤kg r p i)→∃ m,runK r (kas_place p k f l q)=m∧m≤k∧(∀ i,i < m→kg r p i≤kg r p k)∧∀ i,m≤i→i < k→kg r p k≤kg r p i
 |0,l,q,hf,hq,hl,lo,hi=>⟨l,rfl,by lia,lo,fun i h1 h2=>hi i (by lia) h2⟩
 |f+1,l,q,hf,hq,hl,lo,hi=>by
  unfold kas_place
  rw[lE]
  by_cases c:l ≥ q
  ·rw[Ig c]
   exact⟨l,rfl,by lia,lo,fun i h1 h2=>hi i (by lia) h2⟩
  ·rw[Ih c]
   show ∃ m,runK r (if decide (r (p.getD k 0) < r (p.getD ((l+q) / 2) 0))=true then _ else _)=m∧_
   have hmid:(l+q) / 2 < q:=by lia
   by_cases d:r (p.getD k 0) < r (p.getD ((l+q) / 2) 0)
   ·rw[Ig (by simpa using d)]
    exact oQ hk h f l ((l+q) / 2) (by lia) (by lia) (by lia) lo fun i h1 h2=>Int.le_trans (Int.le_of_lt d) (h _ i h1 h2)
   ·rw[Ih (by simpa using d)]
    exact oQ hk h f ((l+q) / 2+1) q (by lia) hq (by lia) (fun i h1=>Int.le_trans (h i ((l+q) / 2) (by lia) (by lia)) (Int.not_lt.mp d)) hi
theorem Be: ∀ (f:Nat) (p:Array Nat) (k:Nat),k+f=p.size→uE r p k→∃ p',runK r (kas_bin f p k)=p'∧p'.size=p.size∧p'.Perm p∧uE r p' p.size
 |0,p,k,hz,h=>⟨p,rfl,rfl,.refl _,by rw[←hz];exact h⟩
 |f+1,p,k,hz,h=>by
  unfold kas_bin
  rw[run_bind]
  obtain⟨l,e,a1,a2,a3⟩:=oQ (show k < p.size by lia) h k 0 k (by lia) (Hn _) (HJ _) (fun i hi=>by lia) (fun i h1 h2=>by lia)
  rw[e]
  have hb:(bubble p k (k - l)).size=p.size:=bubble_size _ _ _
  have at_:=fun i=>yI (r:=r) (p:=p) (k:=k) (l:=l) (i:=i) (by lia) a1
  have h':uE r (bubble p k (k - l)) (k+1):=fun i j hij hj=>by
   rw[at_ i,at_ j]
   repeat' split
   all_goals first|(exfalso;lia)|exact Iz _|exact a2 _ (by lia)|exact a3 _ (by lia) (by lia)|exact h _ _ (by lia) (by lia)
  obtain⟨p',e',b1,b2,b3⟩:=Be f (bubble p k (k - l)) (k+1) (by rw[hb];lia) h'
  exact⟨p',e',b1.trans hb,b2.trans (bubble_perm _ _ _),by rw[hb] at b3;exact b3⟩
theorem BH (hn:1≤n): ∃ p,runK r (kas_sort n)=p∧p.size=n∧uE r p n:=by
 have hz:(List.toArray (List.range n)).size=n:=by simp
 unfold kas_sort
 rw[run_bind]
 obtain⟨m,p',e,a1,a2,a3,a4,a6⟩:=Ax (r:=r) (p:=List.toArray (List.range n)) (by rw[hz];exact hn)
 rw[hz] at e a2 a3
 rw[e]
 dsimp only
 rw[lE]
 by_cases c:m < n
 ·rw[Ig c,Nat.max_eq_left a1]
  obtain⟨p2,e2,b1,b2,b3⟩:=Be (n - m) p' m (by lia) a6
  rw[a3] at b1 b3
  exact⟨p2,e2,b1,b3⟩
 ·rw[Ih c]
  have:m=n:=by lia
  subst this
  exact⟨p',rfl,a3,a6⟩
theorem zO (r:Nat→Int) (n:Nat):((i5 r n).toList.map r).Pairwise (·≤·):=by
 have key: ∃ p:Array Nat,i5 r n=p∧p.size=n∧uE r p n:=by
  unfold i5
  by_cases c:n < 2
  ·rw[Ig c]
   exact⟨_,rfl,by simp,fun i j hij hj=>by rw[show i=j by lia];exact Iz _⟩
  ·rw[Ih c]
   exact BH (by lia)
 obtain⟨p,e,hz,hu⟩:=key
 rw[e,List.pairwise_map,List.pairwise_iff_getElem]
 intro i j hi hj hij
 have hj':j < n:=by simpa[hz] using hj
 have g:=hu i j (by lia) hj'
 unfold kg at g
 have e1:p.getD i 0=p.toList[i]:=by simp at hi;simp[Array.getD,hi]
 have e2:p.getD j 0=p.toList[j]:=by simp at hj;simp[Array.getD,hj]
 rw[e1,e2] at g
 exact g
end
end
noncomputable def Ef:PV→Option (Key×PV)
 | .tup [k,v]=>(xO k).map fun k'=>(k',v)
 |_=>none
noncomputable def mn:List PV→Option (List (Key×PV))
 |[]=>some []
 |y::l=>(Ef y).bind fun p=>(mn l).map (p:: ·)
noncomputable def gE (l:List (Key×PV)):List (Key×PV):=l.foldl (fun t kv=>qm t kv.1 kv.2) []
end L2
section
open PySem PySem.Spec PyProof.Rows
namespace L2
end L2
namespace L2
end L2
end
namespace L2
open Ent (val un)
end L2
section
namespace Erl
section
variable {α:Type} [DecidableEq α]
structure Ed (α:Type) where
 s:α
 e:α
 f:Int→Option Int
structure Good (d:Ed α):Prop where
 up: ∀ t t',d.f t=some t'→t < t'
 mono: ∀ t u u',t≤u→d.f u=some u'→∃ t',d.f t=some t'∧t'≤u'
inductive Arr (E:List (Ed α)) (p:α) (t:Int):α→Int→Prop where
 |here:Arr E p t p t
 |step {d:Ed α} {u v:Int} (h:Arr E p t d.s u) (hd:d∈E) (hf:d.f u=some v):Arr E p t d.e v
abbrev Tb (α:Type):=List (α×Int)
noncomputable def look (l:Tb α) (q:α):Option Int:=(l.find? fun kv=>decide (kv.1=q)).map (·.2)
noncomputable def put (l:Tb α) (k:α) (y:Int):Tb α:=if l.any (fun kv=>decide (kv.1=k)) then l.map fun kv=>if kv.1=k then(kv.1,y) else kv else l++[(k,y)]
noncomputable def rel (d:Ed α) (l:Tb α):Tb α:=match look l d.s with
 |none=>l
 |some u=>match d.f u with
  |none=>l
  |some v=>match look l d.e with
   |none=>put l d.e v
   |some w=>if v < w then put l d.e v else l
noncomputable def qh (E:List (Ed α)) (l:Tb α):Tb α:=E.foldl (fun l d=>rel d l) l
noncomputable def iter (E:List (Ed α)):Nat→Tb α→Tb α
 |0,l=>l
 |n+1,l=>qh E (iter E n l)
theorem least (P:Nat→Prop): ∀ n,P n→∃ m,P m∧∀ k,P k→m≤k:=by
 intro n
 induction n using Nat.strongRecOn with
 |_ n ih=>
  intro h
  by_cases c: ∃ k,k < n∧P k
  ·obtain⟨k,hk,pk⟩:=c;exact ih k hk pk
  ·exact⟨n,h,fun k pk=>by
    by_cases z:k < n
    ·exact absurd ⟨k,z,pk⟩ c
    ·lia⟩
structure Tr (α:Type) where
 s:α
 e:α
 n:Int
end
end Erl
namespace Erl
end Erl
namespace Erl
end Erl
end
namespace L2
open Ent (val un)
section
open PySem.W (kas_sort kas_ask KatTups)
variable {φ:du}
noncomputable def G3 (zs:List Str) (x:Str):Int:=(zs.countP fun z=>decide (z.cps.toList < x.cps.toList):Nat)
abbrev tR (ps:List (Str×Int)) (i:Nat):Int:=G3 (ps.map (·.1)) (ps.getD i ("",0)).1
end
end L2
section
open PySem PySem.Spec PyProof.Rows
namespace L2
theorem bT (y:PV) (ρ:ao):ag (.val y::ρ) 0= .ret y:=rfl
theorem cu (e:Ent) (ρ:ao) (i:Nat):ag (e::ρ) (i+1)=ag ρ i:=rfl
theorem vk (l:List PV) (ρ:ao):cQ (.own l::ρ) 0= .ret (.lst l):=rfl
theorem DC (e:Ent) (ρ:ao) (i:Nat):cQ (e::ρ) (i+1)=cQ ρ i:=rfl
theorem cx (h:m ρ= .ret (.nx ρ')) (h':(k ρ').bind ff=Y):(aJ m k ρ).bind ff=Y:=by unfold aJ;rw[h];exact h'
theorem gL (h:c ρ= .ret false):i8 c a b ρ=b ρ:=by unfold i8;rw[h];rfl
theorem jx (h:c ρ= .ret true):i8 c a b ρ=a ρ:=by unfold i8;rw[h];rfl
theorem dS (h:m (ρ.map Ent.freeze)= .ret y):cD m ρ= .ret (.rt y):=by unfold cD;rw[h];rfl
theorem fI {m:ao→M Fl} (h:m ρ= .ret (.rt y)):(m ρ).bind ff= .ret y:=by rw[h];rfl
theorem dc {m k:ao→M Fl} {I:ao→Prop} (h:Gen (m ρ) c fun f=> ∃ ρ',f= .nx ρ'∧I ρ') (h': ∀ ρ',I ρ'→Gen ((k ρ').bind ff) d Pr):Gen ((aJ m k ρ).bind ff) (c+d) Pr:=by
 unfold aJ
 rw[M.bZ]
 refine Gen.bind h fun f hf=>?_
 obtain⟨ρ',rfl,hi⟩:=hf
 exact h' ρ' hi
theorem jz {m k:ao→M Fl} {I:ao→Prop} (h:Gen (m ρ) c fun f=> ∃ ρ',f= .nx ρ'∧I ρ') (h': ∀ ρ',I ρ'→Gen (k ρ') d Pr):Gen (aJ m k ρ) (c+d) Pr:=by
 unfold aJ
 refine Gen.bind h fun f hf=>?_
 obtain⟨ρ',rfl,hi⟩:=hf
 exact h' ρ' hi
theorem vE {m:ao→M Fl} {I:ao→Prop} (h:m ρ= .ret (.nx ρ')) (hi:I ρ'):Gen (m ρ) 0 fun f=> ∃ ρ',f= .nx ρ'∧I ρ':=Gen.eq h ⟨ρ',rfl,hi⟩
theorem yc {mb:ao→M Fl} {Iv:Nat→ao→Prop}: ∀ (l:List PV) (i:Nat) (ρ:ao),Iv i ρ→(∀ y∈l,∀ j < i+l.length,∀ ρ,Iv j ρ→Gen (mb (ρ.set k (.val y))) c fun f=> ∃ ρ',f= .nx ρ'∧Iv (j+1) ρ')→Gen (eD (aP k) mb l ρ) (l.length * c) fun f=> ∃ ρ',f= .nx ρ'∧Iv (i+l.length) ρ'
 |[],i,ρ,h,_=>Gen.le (Gen.ret ⟨ρ,rfl,h⟩) (by simp)
 |y::l,i,ρ,h,hb=>by
  unfold eD
  simp only[aP,rZ]
  refine Gen.le (Gen.bind (hb y Hf i (by simp) ρ h) fun f hf=>?_) (d:=(y::l).length * c) (Nat.le_of_eq (?_:c+l.length * c=_))
  ·obtain⟨ρ',rfl,h'⟩:=hf
   have q:=yc l (i+1) ρ' h' fun y' hy j hj=>hb y' (Hj _ hy) j (by simp only[Hv];lia)
   rw[show i+(y::l).length=i+1+l.length by simp only[Hv];lia]
   exact q
  ·simp only[Hv,Nat.succ_mul];lia
theorem d9 {α:Type} {l:List α} {d:Int} (h0:0≤d) (h1:d < l.length): ∃ y∈l,ja l d=some y:=by
 have hd:d.toNat < l.length:=by lia
 have e:d=((d.toNat:Nat):Int):=by lia
 refine⟨l[d.toNat],HZ hd,?_⟩
 have q:=pQ (Hd hd)
 rw[←e] at q
 exact q
theorem o2 (h0: -1000000000000 < a) (h1:a < 1000000000000):g8 (.int a) (.int b)= .ret (.int (a * b)):=by
 unfold g8 sx
 dsimp only
 have e:(2:Int) ^ 64=18446744073709551616:=by decide
 rw[Ig (.inl ⟨by lia,by lia⟩)]
theorem GN (b:Bool) (i j:Int):eE b (.int i) (.int j)= .ret (.bl (xor b (i==j))):=by
 unfold eE
 simp[kr,bb,toV,nY,M.eV,di]
theorem sU (b:Bool) (i j:Str):eE b (.str i) (.str j)= .ret (.bl (xor b (i==j))):=by
 unfold eE
 simp[kr,bb,toV,nY,M.eV,di]
noncomputable def p3 (zs:List Str) (x:Str):Bool:=zs.any fun z=>z==x
theorem lO:p3 zs x=true↔x∈zs:=by
 unfold p3
 rw[List.any_eq_true]
 constructor
 ·rintro⟨z,hz,e⟩;rw[←eq_of_beq e];exact hz
 ·intro h;exact⟨x,h,Iu x⟩
theorem kq (zs:List Str):(zs.map PV.str).all bb=true:=by
 rw[List.all_eq_true]
 intro y hy
 obtain⟨z,_,rfl⟩:=Hu.mp hy
 rfl
theorem jw (x:Str) (zs:List Str) (b:Bool):pY b (.str x) (.lst (zs.map PV.str))= .ret (.bl (xor b (p3 zs x))):=by
 have e:ll (.str x) (zs.map PV.str)=p3 zs x:=by
  unfold ll p3
  rw[List.any_map]
  rfl
 unfold pY
 dsimp only
 rw[kq,e]
 simp[bb,toV,di]
theorem gm: ∀ (ys:List Str),(∀ z∈ys,z.length=1)→(ys.map (·.length)).sum=ys.length
 |[],_=>rfl
 |y::r,h=>by
  have:=gm r fun z hz=>h z (Hj _ hz)
  rw[Hq,List.sum_cons,this,h y Hf,Hv]
  lia
def One (y:PV):Prop:= ∃ c:Nat,y= .str ⟨#[c]⟩
theorem jk: ∀ (l:List PV),(∀ y∈l,One y)→∃ ys,strsOf l=some ys∧ys.length=l.length∧∀ z∈ys,z.length=1
 |[],_=>⟨[],rfl,rfl,fun z hz=>by simp at hz⟩
 |y::l,h=>by
  obtain⟨ys,e1,e2,e3⟩:=jk l fun y hy=>h y (Hj _ hy)
  obtain⟨c,rfl⟩:=h y Hf
  exact⟨⟨#[c]⟩::ys,by simp[strsOf,e1],by simp[e2],fun u hu=>by
   rcases Hr.mp hu with rfl|hu
   ·rfl
   ·exact e3 u hu⟩
theorem Dj (d:Int) (h0:0≤d) (h1:d < 26):ja (Str.ofString "abcdefghijklmnopqrstuvwxyz").cps.toList d=some (97+d.toNat):=by
 have e: ∀ k:Fin 26,ja (Str.ofString "abcdefghijklmnopqrstuvwxyz").cps.toList ((k.val:Nat):Int)=some (97+k.val):=by decide +kernel
 have:=e ⟨d.toNat,by lia⟩
 simp only at this
 rw[show ((d.toNat:Nat):Int)=d by lia] at this
 exact this
theorem yR (d:Int) (h0:0≤d) (h1:d < 26):aK (.str "abcdefghijklmnopqrstuvwxyz") (.int d)= .ret (.str ⟨#[97+d.toNat]⟩):=by
 have hz:(Str.ofString "abcdefghijklmnopqrstuvwxyz").length≤100000:=by decide +kernel
 simp[aK,Dj d h0 h1,M.eV,hz]
end L2
namespace L2
end L2
namespace L2
end L2
namespace L2
theorem Cr:aQ []= .ret []:=by simp[aQ]
theorem Eu:aI []= .ret (.tup []):=by simp[aI]
theorem u7 (a:PV):aQ [a]= .ret [a]:=by simp[aQ]
theorem Et (a:PV):aI [a]= .ret (.tup [a]):=by simp[aI]
theorem xD (a b:PV):aQ [a,b]= .ret [a,b]:=by simp[aQ]
theorem mE (a b:PV):aI [a,b]= .ret (.tup [a,b]):=by simp[aI]
theorem Cq (a b c:PV):aQ [a,b,c]= .ret [a,b,c]:=by simp[aQ]
theorem u6 (a b c:PV):aI [a,b,c]= .ret (.tup [a,b,c]):=by simp[aI]
theorem Aa (a b c d:PV):aQ [a,b,c,d]= .ret [a,b,c,d]:=by simp[aQ]
theorem Es (a b c d:PV):aI [a,b,c,d]= .ret (.tup [a,b,c,d]):=by simp[aI]
theorem Cp (a b c d e:PV):aI [a,b,c,d,e]= .ret (.tup [a,b,c,d,e]):=by simp[aI]
theorem Er (a b c d e f:PV):aI [a,b,c,d,e,f]= .ret (.tup [a,b,c,d,e,f]):=by simp[aI]
end L2
namespace L2
end L2
end
section
open PySem PySem.Spec PyProof.Rows
namespace L2
open Erl (Ed Tb look put rel qh iter Good)
noncomputable def jR (p:Int×Int):PV:=.tup [.int p.1,.int p.2]
structure Ce where
 q:Str
 v:Int
 o:Option (Str×Int×Str)
noncomputable def tb (es:List Ce):Tb Str:=es.map fun c=>(c.q,c.v)
end L2
namespace L2
end L2
namespace L2
end L2
namespace L2
open Erl (Ed Tb look put rel qh iter Good)
end L2
namespace L2
end L2
end
section
open PySem PySem.Spec PyProof.Rows
namespace L2
end L2
namespace L2
noncomputable def gZ (xs:List Int):List (Int×Int):=(List.range (xs.length / 2)).map fun k=>(xs.getD (2 * k) 0,xs.getD (2 * k+1) 0)
end L2
namespace L2
end L2
namespace L2
end L2
namespace L2
end L2
namespace L2
end L2
end
namespace L2
open Ent (val un)
theorem vP (kx vx target iter:Expr) (ifs:List Expr) (scope:Scope) (pos:Pos) (it:Value) (D:Addr) (env:Env):compTurn (.DictComp kx vx [⟨target,iter,ifs,0⟩] scope pos) 0 it (.ref D) env=(standAt iter.pos >>= fun _=>pyNext it >>= fun r=>match r with
  |none=>pure (.done .next)
  |some v=>letOwnedTupleGo target it v >>= fun _=>assign target env v >>= fun _=>(forIn ifs true fun c r=>if r=true then do let ok ←isTrue c env (eval c env);pure (ForInStep.yield ok) else pure (ForInStep.yield r)) >>= fun ok=>
   if ok=true then(eval kx env >>= fun x=>holding [x] (eval vx env) >>= fun y=>standAt {kx.pos with endLine:=vx.pos.endLine,endCol:=vx.pos.endCol} >>= fun _=>holding [x,y] (dictSet D x y)) >>= fun _=>again (.compLoop (.DictComp kx vx [⟨target,iter,ifs,0⟩] scope pos) 0 it (.ref D) env)
   else again (.compLoop (.DictComp kx vx [⟨target,iter,ifs,0⟩] scope pos) 0 it (.ref D) env)):=rfl
theorem rM (one:codeAny (model prog w) A (.compLoop (.DictComp kx vx [⟨target,iter,ifs,0⟩] scope pos) 0 it acc env) R s)
  (two:wpAny (model prog w) A (pyIter it) (fun j s'=>codeAny (model prog w) A (.compLoop (.DictComp kx vx [⟨target,iter,ifs,0⟩] scope pos) 0 j acc env) R s') (notedBy (model prog w) A env fun x s'=>R (.error x) s') s):
  codeAny (model prog w) A (.compStart (.DictComp kx vx [⟨target,iter,ifs,0⟩] scope pos) 0 it acc env) R s:=
 codeAny_of_tree (wpAny_notedAt (pos:=theWindowsPlace) (m:=compStart (.DictComp kx vx [⟨target,iter,ifs,0⟩] scope pos) 0 it acc env) (by
  have again_at: ∀ (j:Value) (s':Shared),codeAny (model prog w) A (.compLoop (.DictComp kx vx [⟨target,iter,ifs,0⟩] scope pos) 0 j acc env) R s'→(Code.compLoop (.DictComp kx vx [⟨target,iter,ifs,0⟩] scope pos) 0 j acc env).quiet=true∧codeAny (model prog w) A (.compLoop (.DictComp kx vx [⟨target,iter,ifs,0⟩] scope pos) 0 j acc env) R s':=fun _ _ q=>⟨rfl,q⟩
  unfold compStart
  change wpAny _ _ (ask >>= _) _ _ s
  apply He
  apply wpAny_askSetting
  apply wpAny_ite
  split
  ·exact Hk (again_at it s one)
  ·apply He
   apply wpAny_rule
   apply He
   apply wpAny_standAt
   apply He
   exact wpAny_mono two (fun j s' q=>Hk (again_at j s' q)) fun _ _ q=>q))
theorem sX (I:Nat→Shared→Prop)
  (turn: ∀ n s,I n s→wpAny (model prog w) A (pyNext it) (fun r s₁=>match r with
   |none=>R (.ok .next) s₁
   |some v=>wpAny (model prog w) A (letOwnedTupleGo target it v) (fun _ s₁'=>wpAny (model prog w) A (assign target env v) (fun _ s₂=>
     wpAny (model prog w) A (forIn ifs true fun c r=>if r=true then do let ok ←isTrue c env (eval c env);pure (ForInStep.yield ok) else pure (ForInStep.yield r)) (fun ok s₃=>
      if ok=true then wpAny (model prog w) A (eval kx env) (fun x s₄=>wpAny (model prog w) A (eval vx env) (fun y s₅=>
       wpAny (model prog w) A (dictSet D x y) (fun _ s₆=> ∃ m,m < n∧I m s₆) (fun _ _=>False) s₅) (fun _ _=>False) s₄) (fun _ _=>False) s₃
      else ∃ m,m < n∧I m s₃) (fun _ _=>False) s₂) (fun _ _=>False) s₁') (fun _ _=>False) s₁) (fun _ _=>False) s)
  (n:Nat) (h:I n s):
  codeAny (model prog w) A (.compLoop (.DictComp kx vx [⟨target,iter,ifs,0⟩] scope pos) 0 it (.ref D) env) R s:=by
 refine codeAny_loop rfl I (fun n s hI=>?_) n h
 show wpAny _ A ((compTurn (.DictComp kx vx [⟨target,iter,ifs,0⟩] scope pos) 0 it (.ref D) env).onRaise (fun x=>do noteFrame x env;theTreesLotGoes x)) _ _ s
 refine wpAny_noted ?_
 refine wpAny_mono (E:=fun _ _=>False) ?_ (fun _ _ q=>q) fun _ _ q=>q.elim
 rw[vP]
 refine He (wpAny_standAt (He (bF (turn n s hI) fun r s₁ h₁=>?_)))
 cases r with
 |none=>exact Hk h₁
 |some v=>
  refine He (bF h₁ fun _ s₁' h₁'=>?_)
  refine He (bF h₁' fun _ s₂ h₂=>He (bF h₂ fun ok s₃ h₃=>?_))
  cases ok with
  |false=>exact Hk ⟨rfl,h₃⟩
  |true=>exact He (He (bF h₃ fun x s₄ h₄=>He (wpAny_holding (bF h₄ fun y s₅ h₅=>He (wpAny_standAt (wpAny_holding (bF h₅ fun _ s₆ h₆=>Hk ⟨rfl,h₆⟩)))))))
section
variable {X:Cx} {pZ:List (Addr×Obj)} {σ:St} {H:Hp} {s:Shared} {scope:Scope} {N:List Str} {js:List (Option Nat)} {fp:List Addr}
def GX (J:It) (D:Addr) (g:TG) (tt:TT) (te tv:TE) (Q:VK) (σ0:St) (H1:Hp):Prop:=
 ∃ W:Nat→Nat→St→Hp→Prop,(∃ m,W 0 m σ0 (upd H1 D (.dK [])))∧∀ i m σ' H',W i m σ' H'→
  (J.stop i H'∧Q (.ref D) H')∨(J.go i H'∧∀ x H2,J.oC i H' x H2→g x σ' H2 fun σ2 H3=>tt σ2 H3 fun ok H4=>
   if ok=true then te σ2 H4 fun y H5=>tv σ2 H5 fun z H6=> ∃ (k:Key) (ks:List (Key×V)),y=kV k∧H6 D=some (.dK ks)∧ks.length < sizeLine∧∃ m',m' < m∧W (i+1) m' σ2 (upd H6 D (.dK (putK ks k z)))
   else ∃ m',m' < m∧W (i+1) m' σ2 H4)
noncomputable def Fo (js:List (Option Nat)) (wi:TI) (g:TG) (tt:TT) (te tv:TE):TE:=fun σ H Q=>wi σ H fun J H1=> ∀ D,H1 D=none→GX J D g tt te tv Q (dY js σ) H1
theorem Aw {iter:Expr} {Q:VK} {R:Value→Addr→Result→Shared→Prop}
  (L:aN X scope N js) (hc:X.calm=true)
  (hg: ∀ s₀ H₀ ex pn,PG (cY X scope N s₀ H₀ ex pn) target g) (ht: ∀ s₀ H₀ ex pn,lA (cY X scope N s₀ H₀ ex pn) ifs tt) (he: ∀ s₀ H₀ ex pn,PE (cY X scope N s₀ H₀ ex pn) kx te) (hv: ∀ s₀ H₀ ex pn,PE (cY X scope N s₀ H₀ ex pn) vx tv)
  (I:Inv X pZ σ H s) (T:Turn X.prog X.w X.K target J fp it tn) (st:tn 0 s.heap) (hf: ∀ b∈fp,cJ X pZ H b) {h₁:Heap} {tk:Nat} (I3:Inv X pZ σ (upd H D (.dK [])) s3) (hDl: ∀ b o,s.heap.get? b=some o→b≠D) (k3: ∀ b o,s.heap.get? b=some o→s3.heap.get? b=some o)
  (hns₁:h₁.Ns s3.heap.objs.size (fun _=>none)) (kk: ∀ b o,s3.heap.get? b=some o→h₁.get? b=some o)
  (w: ∃ W:Nat→Nat→St→Hp→Prop,(∃ m,W 0 m (dY js σ) (upd H D (.dK [])))∧∀ i m σ' H',W i m σ' H'→
   (J.stop i H'∧Q (.ref D) H')∨(J.go i H'∧∀ x H2,J.oC i H' x H2→g x σ' H2 fun σ2 H3=>tt σ2 H3 fun ok H4=>
    if ok=true then te σ2 H4 fun y H5=>tv σ2 H5 fun z H6=> ∃ (k:Key) (ks:List (Key×V)),y=kV k∧H6 D=some (.dK ks)∧ks.length < sizeLine∧∃ m',m' < m∧W (i+1) m' σ2 (upd H6 D (.dK (putK ks k z)))
    else ∃ m',m' < m∧W (i+1) m' σ2 H4))
  (hR: ∀ C s' H',Inv X pZ σ H' s'→cJ X pZ H' C→(∃ m,s'.heap.Ns C m)→Q (.ref D) H'→R (.ref D) C (.ok .next) s'):
  codeAny (model X.prog X.w) X.A (.compStart (.DictComp kx vx [⟨target,iter,ifs,0⟩] scope pos) 0 (.ref it) (.ref D) {newEnv scope s3.heap.objs.size X.env.globals (mX scope.names X.env.cells) X.env.qual none .none (some X.env) builtinsNs with scope:=relabel scope X.env}) (R (.ref D) s3.heap.objs.size) {s3 with heap:=h₁,toks:=tk}:=by
 have obj:=T.obj 0 s.heap st
 have ho3: ∀ b∈fp,∃ o,s3.heap.get? b=some o:=fun b hb=>by obtain⟨o,e,_⟩:=obj b hb;exact⟨o,k3 b o e⟩
 have hf3: ∀ b∈fp,cJ X pZ (upd H D (.dK [])) b:=fun b hb=>by
  refine⟨?_,(hf b hb).2⟩
  obtain⟨o,e,_⟩:=obj b hb
  rw[au (hDl b o e)]
  exact(hf b hb).1
 have I4:Inv (cY X scope N s3 (upd H D (.dK [])) fp (X.pn++pZ)) [] (dY js σ) (upd H D (.dK [])) {s3 with heap:=h₁,toks:=tk}:=
  L.start I3 hc hf3 ho3 hns₁ kk
 obtain⟨W,⟨m0,w0⟩,turn⟩:=w
 have st4:tn 0 h₁:=T.keep 0 _ _ st fun b _ o e=>kk b o (k3 b o e)
 generalize hX:cY X scope N s3 (upd H D (.dK [])) fp (X.pn++pZ)=Y at I4
 have fpY: ∀ b∈fp,b≠Y.env.locals∧b∉Y.fs∧(b∈Y.ex∨Y.s₀.heap.objs.size≤b)∧(∀ x c,Y.env.cells.lookup x=some c→c≠b)∧∀ p∈Y.pn++[],p.1≠b:=fun b hb=>by
  rw[←hX]
  obtain⟨o,e⟩:=ho3 b hb
  refine⟨HL (Hz e),fun z=>?_,.inl hb,fun x c h=>(hf b hb).2.2.2.2.1 x c (dX _ _ _ (fun _ _ e=>by simp at e) x c h),fun p hp=>(hf b hb).2.2.2.2.2 p (by simpa[cY] using hp)⟩
  rcases Hr.mp (I3.iY b z) with q|q
  ·exact(hf b hb).2.1 q
  ·exact(hf b hb).2.2.1 q
 have loop:codeAny (model X.prog X.w) X.A (.compLoop (.DictComp kx vx [⟨target,iter,ifs,0⟩] scope pos) 0 (.ref it) (.ref D) Y.env) (R (.ref D) s3.heap.objs.size) {s3 with heap:=h₁,toks:=tk}:=by
  have pr:Y.prog=X.prog:=by rw[←hX];rfl
  have pw:Y.w=X.w:=by rw[←hX];rfl
  have pK:Y.K=X.K:=by rw[←hX];rfl
  have pA:Y.A=X.A:=by rw[←hX];rfl
  have pc:Y.calm=true:=by rw[←hX];rfl
  have px:Y.xe=fun _ _=>False:=by rw[←hX];rfl
  have gA: ∀ {H':Hp},(∀ b∈fp,H' b=none)→∀ b∈fp,cJ Y [] H' b:=fun hn b hb=>⟨hn b hb,fpY b hb⟩
  refine sX (fun n s'=> ∃ i σ' H',Inv Y [] σ' H' s'∧tn i s'.heap∧(∀ b∈fp,H' b=none)∧W i n σ' H') ?_ m0 ⟨0,_,_,I4,st4,fun b hb=>(hf3 b hb).1,w0⟩
  rintro n s5 ⟨i,σ5,H5,I5,st5,fr5,w5⟩
  have gY:PG Y target g:=by rw[←hX];exact hg _ _ _ _
  have tY:lA Y ifs tt:=by rw[←hX];exact ht _ _ _ _
  have eY:PE Y kx te:=by rw[←hX];exact he _ _ _ _
  have vY:PE Y vx tv:=by rw[←hX];exact hv _ _ _ _
  unfold PG at gY;unfold lA at tY;unfold PE at eY vY
  rw[pr,pw,pA,px] at gY tY eY vY
  rcases turn i n σ5 H5 w5 with⟨stop,q⟩|⟨go,step⟩
  ·have d:=T.done Y pr pw pK pc i [] s5 σ5 H5 (fun _ _=>False) I5 (gA fr5) st5 stop
   rw[pA] at d
   refine bF d fun r s6 ⟨hr,I6⟩=>?_
   subst hr
   have I6':Inv (cY X scope N s3 (upd H D (.dK [])) fp (X.pn++pZ)) [] σ5 H5 s6:=by rw[hX];exact I6
   obtain⟨a1,a2,a3⟩:=sG I3 hf3 I6'
   exact hR _ s6 H5 a1 a2 a3 q
  ·have d:=T.item Y pr pw pK pc i [] s5 σ5 H5 (fun _ _=>False) I5 (gA fr5) st5 go
   rw[pA] at d
   refine bF d fun r s6 ⟨u,hr,h6⟩=>?_
   subst hr
   refine bF h6 fun _ s7 ⟨x,H7,I7,r7,y7,st7,fr7⟩=>?_
   have I7':=I7.pinned (gA fr7) (T.obj _ _ st7)
   refine bF (gY _ s7 σ5 H7 x u _ I7' r7 (step x H7 y7)) fun _ s8 ⟨σ8,H8,I8,q8⟩=>?_
   have again: ∀ {σ9:St} {H9:Hp} {s9:Shared},Inv Y ([]++h7 fp s7.heap) σ9 H9 s9→(∃ m',m' < n∧W (i+1) m' σ9 H9)→∃ m,m < n∧∃ i σ' H',Inv Y [] σ' H' s9∧tn i s9.heap∧(∀ b∈fp,H' b=none)∧W i m σ' H':=fun {σ9 H9 s9} I9 ⟨m',hm,w9⟩=>by
    refine⟨m',hm,i+1,σ9,H9,I9.fG,T.keep _ _ _ st7 fun b hb o e=>(I9.pin (b,o) (HB _ (HB _ (cF hb e)))).1,fun b hb=>?_,w9⟩
    obtain⟨o,e,d⟩:=T.obj _ _ st7 b hb
    exact(I9.pin (b,o) (HB _ (HB _ (cF hb e)))).2.1
   refine bF (tY _ s8 σ8 H8 _ I8 q8) fun ok s9 ⟨H9,I9,q9⟩=>?_
   cases ok with
   |false=>
    rw[Ih (by decide)] at q9
    rw[Ih (by decide)]
    exact again I9 q9
   |true=>
    rw[Ig rfl] at q9
    rw[Ig rfl]
    refine bF (eY _ s9 σ8 H9 _ I9 q9) fun v s10 ⟨y,H10,I10,r10,q10⟩=>?_
    refine bF (vY _ s10 σ8 H10 _ I10 q10) fun v2 s11 ⟨z,H11,I11,r11,ky,ks,eky,eys,lys,q11⟩=>?_
    subst eky
    obtain⟨zz,hsy,vs,kv,hD⟩:=(Rd.of eys).ok I11.cm
    have vl:vs.length=ks.length:=kv.length.symm
    rw[pr,pw] at hD
    refine wpAny_dictSet_pairs (knd:=bI X.prog X.w) (k:=ky) (ud r10) hD (fun h' hS2 sb=>?_) (by lia)
    refine again (H9:=upd H11 D (.dK (putK ks ky z))) (I11.write (t':=s11.toks+1) (x:=D) (e:=D) (o:=.dK (putK ks ky z)) (by rw[eys];exact trivial) (.inl rfl) (fun b u hb hu=>(sb.2 b hb).trans hu) (by obtain⟨o,es,ep,ho,_⟩:=hS2;exact⟨o,ho⟩) ?_) q11
    refine⟨by have:=fQ ks ky z;lia,hsy,_,kv.put ky r11,?_⟩
    rw[pr,pw]
    exact hS2
 have ee:({newEnv scope s3.heap.objs.size X.env.globals (mX scope.names X.env.cells) X.env.qual none .none (some X.env) builtinsNs with scope:=relabel scope X.env}:Env)=Y.env:=by rw[←hX];rfl
 rw[ee]
 exact rM loop (T.self _ 0 _ _ _ st4 loop)
theorem yw {iter:Expr} {Q:VK} {E:Value→Shared→Prop} {R:Value→Addr→Result→Shared→Prop}
  (L:aN X scope N js) (hc:X.calm=true)
  (hg: ∀ s₀ H₀ ex pn,PG (cY X scope N s₀ H₀ ex pn) target g) (ht: ∀ s₀ H₀ ex pn,lA (cY X scope N s₀ H₀ ex pn) ifs tt) (he: ∀ s₀ H₀ ex pn,PE (cY X scope N s₀ H₀ ex pn) kx te) (hv: ∀ s₀ H₀ ex pn,PE (cY X scope N s₀ H₀ ex pn) vx tv)
  (I:Inv X pZ σ H s) (T:Turn X.prog X.w X.K target J fp it tn) (st:tn 0 s.heap) (hf: ∀ b∈fp,cJ X pZ H b)
  (w: ∀ D,H D=none→∃ W:Nat→Nat→St→Hp→Prop,(∃ m,W 0 m (dY js σ) (upd H D (.dK [])))∧∀ i m σ' H',W i m σ' H'→
   (J.stop i H'∧Q (.ref D) H')∨(J.go i H'∧∀ x H2,J.oC i H' x H2→g x σ' H2 fun σ2 H3=>tt σ2 H3 fun ok H4=>
    if ok=true then te σ2 H4 fun y H5=>tv σ2 H5 fun z H6=> ∃ (k:Key) (ks:List (Key×V)),y=kV k∧H6 D=some (.dK ks)∧ks.length < sizeLine∧∃ m',m' < m∧W (i+1) m' σ2 (upd H6 D (.dK (putK ks k z)))
    else ∃ m',m' < m∧W (i+1) m' σ2 H4))
  (hR: ∀ D C s' H',Inv X pZ σ H' s'→cJ X pZ H' C→(∃ m,s'.heap.Ns C m)→Q (.ref D) H'→R (.ref D) C (.ok .next) s'):
  wpAny (model X.prog X.w) X.A (newDict) (fun acc s₃=>wpAny (model X.prog X.w) X.A (newFunctionEnv scope X.env.globals (mX scope.names X.env.cells) [] X.env.qual none .none (some X.env)) (fun cenv s₄=>
   codeAny (model X.prog X.w) X.A (.compStart (.DictComp kx vx [⟨target,iter,ifs,0⟩] scope pos) 0 (.ref it) acc {cenv with scope:=relabel scope X.env}) (R acc cenv.locals) s₄) E s₃) E s:=by
 have hD:=I.fresh
 let N0:Obj:={cls:=.type "dict",data:=.dict #[]}
 refine wpAny_newObj_type ?_
 have I3:Inv X pZ σ (upd H s.heap.objs.size (.dK [])) {s with heap:=s.heap.push N0}:=I.laid (t':=s.toks) (fun b o e=>Hh _ e) (Hn _) (yu s.heap I.big)
 refine wpAny_newFunctionEnv L.oY (by intro y hy;simp at hy) (fun h₁ hns₁ hsb₁=>?_) L.kind
 dsimp only at hns₁ hsb₁
 exact Aw (Q:=Q) (R:=R) (s3:={s with heap:=s.heap.push N0}) L hc hg ht he hv I T st hf I3 (fun b o e=>HL (Hz e)) (fun b o e=>Hh _ e) hns₁
  (fun b o e=>hsb₁.extBut b o (HL (Hz e)) (Hh _ e)) (w _ hD) (fun C=>hR _ C)
end
section
variable {φ:du}
section
variable {X:Cx} {e:Expr}
noncomputable def qq (mk mv:ao→M PV):ao→M PV:=fun ρ=>(mk ρ).bind fun k=>(EA k).bind fun k=>(mv ρ).bind fun v=>.ret (.tup [k,v])
theorem Aj {α:Type} {y:PV} {f:PV→M α} {n:Nat} {R:α→Nat→Prop} (w:((EA y).bind f).wp n R): ∃ k,y=qK k∧(f (qK k)).wp n R:=by
 cases y with
 |int i=>exact⟨.inl i,rfl,w⟩
 |str x=>exact⟨.inr x,rfl,w⟩
 |_=>exact w.elim
theorem zG (k:Key) (z:PV):Ef (.tup [qK k,z])=some (k,z):=by cases k<;>rfl
theorem nJ: ∀ {zs:List PV} {kvs:List (Key×PV)} {k:Key} {z:PV},mn zs=some kvs→mn (zs++[.tup [qK k,z]])=some (kvs++[(k,z)])
 |[],kvs,k,z,h=>by
  cases h
  show (Ef _).bind _=_
  rw[zG]
  rfl
 |y::zs,kvs,k,z,h=>by
  change (Ef y).bind (fun p=>(mn zs).map (p:: ·))=some kvs at h
  obtain⟨p,ep,h⟩:=Option.bind_eq_some_iff.mp h
  obtain⟨kvs',e1,rfl⟩:=HG.mp h
  show (Ef y).bind (fun p=>(mn (zs++[.tup [qK k,z]])).map (p:: ·))=_
  rw[ep,nJ e1]
  rfl
theorem oN (kvs:List (Key×PV)) (k:Key) (z:PV):gE (kvs++[(k,z)])=qm (gE kvs) k z:=by unfold gE;rw[List.foldl_append];rfl
theorem C0 {js:List (Option Nat)} {bd:PV→ao→M ao} {tt:ao→M Bool} {mk mv:ao→M PV} {G:Bg φ} {O:Addr→Prop} {ρ:ao} {n1:Nat} {R:List PV→Nat→Prop} {l:List PV} {J:It} {H1:Hp} {σ:St} {D:Addr} {Q:VK} (hD:H1 D=none) (s1:ES G O H1 σ ρ n1) (hBD:D≠G.B) (IT:Hp→Prop)
  (it0:(∀ p o,¬ O p→H1 p=some o→upd H1 D (HO.dK []) p=some o∧¬ (O p∨p=D))→(∀ p o,H1 p=some o→p≠D)→IT (upd H1 D (.dK [])))
  (st: ∀ H2 H3,IT H2→(∀ p o,p≠G.B→p≠D→H2 p=some o→fk H3 p o)→IT H3)
  (go: ∀ H2 i y,IT H2→l[i]?=some y→J.go i H2∧∀ x H3,J.oC i H2 x H3→(H3=H2∧Rep G.B (fun p=>O p∨p=D) H2 y x)∨∃ T us vs,x= .ref T∧H2 T=none∧H3=upd H2 T (.tup vs)∧y= .tup us∧aO G.B (fun p=>O p∨p=D) H2 us vs)
  (iQ: ∀ H2,IT H2→J.stop l.length H2) (hl:l.length≤100000) (w1:(jS bd tt (qq mk mv) l (gN js ρ)).wp n1 R)
  (q: ∀ zs kvs ks H' n',Ext G.B H1 H'→G.ok H' n'→H' D=some (.dK ks)→mn zs=some kvs→bp G.B (fun p=>O p∨p=D) H' (gE kvs) ks→R zs n'→Q (.ref D) H'):GX J D (tL φ bd) (oE φ tt) (lB φ mk) (lB φ mv) Q (dY js σ) H1:=by
 have nD:=(s1.nB hD).1
 have pD: ¬ G.cP D:=fun z=>nD (s1.pr _ z)
 have dz: ∀ p o,H1 p=some o→p≠D:=fun p o hp z=>by subst z;rw[hD] at hp;cases hp
 let O':Addr→Prop:=fun p=>O p∨p=D
 let G':Bg φ:=G.vJ D hBD
 have k0: ∀ p o,¬ O p→H1 p=some o→upd H1 D (HO.dK []) p=some o∧¬ O' p:=fun p o np hp=>⟨by rw[au (dz p o hp)];exact hp,fun z=>by
  rcases z with z|z
  ·exact np z
  ·exact dz p o hp z⟩
 have kD: ∀ (H5:Hp) (o:HO) p u,¬ O' p→H5 p=some u→upd H5 D o p=some u∧¬ O' p:=fun H5 o p u np hp=>⟨by rw[au (fun z=>np (.inr z))];exact hp,np⟩
 refine⟨fun i m σ' H'=>m=l.length - i∧i≤l.length∧∃ (ks:List (Key×V)) (zs:List PV) (kvs:List (Key×PV)) (ρ':ao) (n':Nat),ks.length≤i∧H' D=some (.dK ks)∧mn zs=some kvs∧bp G.B O' H' (gE kvs) ks∧ES G' O' H' σ' ρ' n'∧Ext G.B H1 H'∧IT H'∧
  (jS bd tt (qq mk mv) (l.drop i) ρ').wp n' (fun t k=>R (zs++t) k),⟨l.length,by simp,HJ _,[],[],[],gN js ρ,n1,Hn _,ay,rfl,bp.nil,?_,Ext.new hD _,it0 k0 dz,?_⟩,?_⟩
 ·have er:=mY s1.er js
  refine⟨⟨er.1,fun i e he=>?_⟩,⟨Bg.new s1.ok hD _,_,ay⟩,fun p z=>?_,fun p z=>?_⟩
  ·have r1:=er.2 i e he
   cases e with
   |un=>trivial
   |val y=>obtain⟨x,hx,rr⟩:=r1;exact⟨x,hx,rr.keep k0⟩
   |own t=>
    obtain⟨p,xs,hx,hp,np,hh,rr⟩:=r1
    exact⟨p,xs,hx,.inl hp,fun z=>by
     rcases z with z|z
     ·exact np z
     ·exact dz p _ hh z,by rw[au (dz p _ hh)];exact hh,rr.keep k0⟩
   |d7 t=>
    obtain⟨p,xs,hx,hp,np,hh,rr⟩:=r1
    exact⟨p,xs,hx,.inl hp,fun z=>by
     rcases z with z|z
     ·exact np z
     ·exact dz p _ hh z,by rw[au (dz p _ hh)];exact hh,rr.keep k0⟩
  ·rcases z with z|z
   ·exact .inl (s1.pr p z)
   ·exact .inr z
  ·rcases z with z|z
   ·obtain⟨o,g⟩:=s1.dm p z;exact⟨o,by rw[au (dz p o g)];exact g⟩
   ·subst z;exact⟨_,ay⟩
 ·simpa using w1
 ·rintro i m σ' H' ⟨rfl,hi,ks,zs,kvs,ρ',n',hy,hDy,ez,rz,s',ex,it',w'⟩
  by_cases fR:i < l.length
  ·have hget:l[i]?=some l[i]:=Hd fR
   have jy:l.drop i=l[i]::l.drop (i+1):=List.drop_eq_getElem_cons fR
   rw[jy] at w'
   unfold jS at w'
   obtain⟨g1,g2⟩:=go H' i _ it' hget
   refine .inr ⟨g1,fun x H2 yl=>?_⟩
   obtain⟨e0,ok0,rx⟩:Ext G.B H' H2∧G'.ok H2 n'∧Rep G'.B O' H2 l[i] x:=by
    rcases g2 x H2 yl with⟨rfl,rx⟩|⟨T,us,vs,rfl,hT,rfl,ey,rr⟩
    ·exact⟨fun p o _ h=>.of h,s'.ok,rx⟩
    ·have e0:Ext G.B H' (upd H' T (.tup vs)):=Ext.new hT _
     refine⟨e0,Bg.new s'.ok hT _,?_⟩
     rw[ey]
     exact .tup (fun z=>by obtain⟨o,g⟩:=s'.dm T z;rw[hT] at g;cases g) ay rr.1 (rr.ext s'.B e0).2
   have DT:H2 D=some (.dK ks):=e0 D _ hBD hDy
   have s'':=s'.ext e0 ok0
   rw[M.wZ] at w'
   refine⟨G',O',ρ',n',_,l[i],s'',rx,w',fun σ2 ρ2 n2 s2 w2=>?_⟩
   rw[M.wZ] at w2
   refine⟨G',O',ρ2,n2,_,s2,w2,fun ok H4 n4 e4 ok4 w4=>?_⟩
   have D4:H4 D=some (.dK ks):=e4 D _ hBD DT
   have e04:=e0.trans e4
   have it4:IT H4:=st H' H4 it' fun p o np _ hp=>e04 p o np hp
   cases ok with
   |true=>
    simp only[if_true] at w4 ⊢
    unfold qq at w4
    rw[M.bZ,M.wZ] at w4
    refine⟨G',O',ρ2,n4,_,s2.ext e4 ok4,w4,fun y x0 H0 n0 e0' ok0' r0 w0=>?_⟩
    rw[M.bZ] at w0
    obtain⟨k,ey,wk⟩:=Aj w0
    subst ey
    clear w0
    have ek:x0=kV k:=by
     cases k with
     |inl i=>cases r0;rfl
     |inr x=>cases r0;rfl
    rw[M.bZ,M.wZ] at wk
    have s0:=s2.ext (e4.trans e0') ok0'
    refine⟨G',O',ρ2,n0,_,s0,wk,fun z x5 H5 n5 e5' ok5 r5 w5=>?_⟩
    have e5:=e0'.trans e5'
    have D5:H5 D=some (.dK ks):=e5 D _ hBD D4
    have w5:((jS bd tt (qq mk mv) (l.drop (i+1)) ρ2).bind fun t=>.ret (.tup [qK k,z]::t)).wp n5 (fun t k=>R (zs++t) k):=w5
    rw[M.wZ] at w5
    have s5:=s2.ext (e4.trans e5) ok5
    have lp:=fQ ks k x5
    refine⟨k,ks,ek,D5,by rw[HW];lia,l.length - (i+1),by lia,rfl,fR,putK ks k x5,zs++[.tup [qK k,z]],kvs++[(k,z)],ρ2,n5,by lia,ay,nJ ez,?_,?_,?_,st H4 _ it4 fun p o np nd hp=>(e5 p o np hp).to fun u e=>.of (by rw[au nd];exact e),?_⟩
    ·rw[oN]
     exact((rz.ext (.inl s1.B) (e04.trans e5)).put r5).keep (kD H5 _)
    ·refine⟨⟨s5.er.1,fun j e he=>?_⟩,⟨G.keep H5 _ _ (fun p o hp hpo=>by
      have hpd:p≠D:=fun z=>by
       rcases hp with hp|hp
       ·exact pD (z▸hp)
       ·rw[z,D5] at hpo;cases hpo;exact hp
      rw[au hpd];exact hpo) ok5.1,_,ay⟩,s5.pr,fun p hp=>?_⟩
     ·have r1:=s5.er.2 j e he
      cases e with
      |un=>trivial
      |val y=>obtain⟨x,hx,rr⟩:=r1;exact⟨x,hx,rr.keep (kD H5 _)⟩
      |own t=>
       obtain⟨p,xs,hx,hp,np,hh,rr⟩:=r1
       exact⟨p,xs,hx,hp,np,by rw[au (fun z=>np (.inr z))];exact hh,rr.keep (kD H5 _)⟩
      |d7 t=>
       obtain⟨p,xs,hx,hp,np,hh,rr⟩:=r1
       exact⟨p,xs,hx,hp,np,by rw[au (fun z=>np (.inr z))];exact hh,rr.keep (kD H5 _)⟩
     ·by_cases hpd:p=D
      ·subst hpd;exact⟨_,ay⟩
      ·obtain⟨o,g⟩:=s5.dm p hp;exact⟨o,by rw[au hpd];exact g⟩
    ·intro p o np hp
     exact((ex.trans (e04.trans e5)) p o np hp).to fun u e=>.of (by rw[au (dz p o hp)];exact e)
    ·refine M.wp_mono w5 fun t k' hk=>?_
     have hk':R (zs++ .tup [qK k,z]::t) k':=hk
     simpa using hk'
   |false=>
    exact⟨l.length - (i+1),by lia,rfl,fR,ks,zs,kvs,ρ2,n4,by lia,D4,ez,rz.ext (.inl s1.B) e04,s2.ext e4 ok4,ex.trans e04,it4,w4⟩
  ·have e:i=l.length:=by lia
   subst e
   refine .inl ⟨iQ H' it',?_⟩
   rw[List.drop_length] at w'
   have w2:R (zs++[]) n':=w'
   rw[IE] at w2
   exact q zs kvs ks H' n' ex s'.ok.1 hDy ez rz w2
end
end
end L2
section
open PySem PySem.Spec PyProof.Rows
namespace Erl
section
variable {α:Type} [DecidableEq α]
noncomputable def chg (d:Ed α) (l:Tb α):Bool:=match look l d.s with
 |none=>false
 |some u=>match d.f u with
  |none=>false
  |some v=>match look l d.e with
   |none=>true
   |some w=>decide (v < w)
noncomputable def FU (E:List (Ed α)) (l:Tb α):Tb α×Bool:=E.foldl (fun x d=>(rel d x.1,x.2||chg d x.1)) (l,false)
end
end Erl
namespace L2
open Erl (Ed Tb look put rel qh iter Good chg FU)
end L2
end
namespace L2
open Ent (val un)
end L2
section
open PySem PySem.Spec PyProof.Rows
namespace L2
end L2
namespace L2
variable {φ:du}
end L2
end
namespace L2
open Ent (val un)
theorem join_ones (ys:List Str) (h: ∀ z∈ys,z.length=1):(Txt.join (Str.ofString "") ys).length=ys.length:=by
 show (Builtin.Str.glued (Str.ofString "") ys).length=_
 rw[PySem.size_glued]
 have e:(Str.ofString "").length=0:=by decide
 rw[e]
 have:=gm ys h
 lia
def Lets (x:Str):Prop:= ∀ c∈x.cps.toList,97≤c∧c≤122
theorem gq (sep:Str) (hs:Lets sep): ∀ (ys:List Str) (acc:Array Nat),(∀ z∈ys,Lets z)→(∀ c∈acc.toList,97≤c∧c≤122)→∀ c∈(ys.foldl (fun acc p=>acc++sep.cps++p.cps) acc).toList,97≤c∧c≤122
 |[],acc,_,ha=>ha
 |y::ys,acc,h,ha=>by
  rw[Io]
  refine gq sep hs ys _ (fun z hz=>h z (Hj _ hz)) fun c hc=>?_
  rw[Array.toList_append,Array.toList_append,Ie,Ie] at hc
  rcases hc with(hc|hc)|hc
  ·exact ha c hc
  ·exact hs c hc
  ·exact h y Hf c hc
theorem nQ (ys:List Str) (h: ∀ z∈ys,Lets z):Lets (Txt.join (Str.ofString "") ys):=by
 have he:Lets (Str.ofString ""):=fun c hc=>by
  have:(Str.ofString "").cps.toList=[]:=by decide
  rw[this] at hc;simp at hc
 show Lets (Builtin.Str.glued (Str.ofString "") ys)
 unfold Builtin.Str.glued
 cases ys with
 |nil=>exact fun c hc=>by simp[Str.empty] at hc
 |cons y ys=>exact gq _ he ys _ (fun z hz=>h z (Hj _ hz)) (h y Hf)
section
section
variable {X:Cx} {scope:Scope} {N:List Str} {js:List (Option Nat)}
theorem Ec (hN:X.N.Nodup) (hk:X.N[k]?=some y) (hy:Loc X.env.scope y) (L:aN X scope N js) (hc:X.calm=true) (hi:PI X target iter wi)
  (hg: ∀ s₀ H₀ ex pn,PG (cY X scope N s₀ H₀ ex pn) target g) (ht: ∀ s₀ H₀ ex pn,lA (cY X scope N s₀ H₀ ex pn) ifs tt) (he: ∀ s₀ H₀ ex pn,PE (cY X scope N s₀ H₀ ex pn) kx te) (hv: ∀ s₀ H₀ ex pn,PE (cY X scope N s₀ H₀ ex pn) vx tv)
  (hsw:swapsWith (.DictComp kx vx [⟨target,iter,ifs,0⟩] scope pos) (some (.Name y py)) spos.line X.env=pure true)
  (hs: ∀ x,foldedSetIterable iter X.env x=pure x) (hf:X.fn y=true∨X.env.scope.names.lookup y=some .local):
  PS X (.Assign [.Name y py] (.DictComp kx vx [⟨target,iter,ifs,0⟩] scope pos) spos) (gz (Fo js wi g tt te tv) (dW k)):=by
 intro pZ s σ H D I h
 rw[exec_Assign_Name_used _ _ _ _ hsw]
 refine He (wpAny_standAt (He ?_))
 show wpAny _ X.A (do let _ ←comprehension (.DictComp kx vx [⟨target,iter,ifs,0⟩] scope pos) scope X.env _ newDict false (eval iter X.env) (some (assign (.Name y py) X.env))) _ _ s
 refine He (bF (wpAny_comprehension_free (Q:=fun _ s'=>SP X pZ D .next s') rfl hs (gM (L.yD I.ok)) L.kind L.names (bF (hi pZ s σ H _ I h) fun v s1 h1=>bF h1 fun itv s2 h2=>?_)) fun _ s' hq=>Hk (Hk hq))
 obtain⟨it,fp,tn,J,H2,e,I2,T,st2,f2,w⟩:=h2
 subst e
 refine yw (Q:=fun v H1=>D.nx (σ.set k (some v)) H1) (R:=fun acc C=>compPost (model X.prog X.w) X.A X.xe (some (assign (.Name y py) X.env)) (fun _ s'=>SP X pZ D .next s') acc C) L hc hg ht he hv I2 T st2 f2 w ?_
 intro A C s' H' I' f' ⟨m,hn⟩ q
 show wpAny _ _ (assign (.Name y py) X.env (.ref A)) _ _ s'
 refine wpAny_assign_Name (jX (v:=V.ref A) I' hN hk hy rfl (fun s2 I3 ⟨a,hsb,ha⟩=>?_) hf)
 have hca:C≠a:=by
  rintro rfl
  rcases ha with z|z
  ·exact f'.2.1 z
  ·exact f'.2.2.2.2.1 y _ z rfl
 exact⟨m,hn.sameBut hsb hca,fun h' hs'=>⟨_,H',I3.gone (m:=m) f' hs',q⟩⟩
theorem EU (hN:X.N.Nodup) (hk:X.N[k]?=some y) (hy:Loc X.env.scope y) (L:aN X scope N js) (hc:X.calm=true) (hi:BI X target iter wi)
  (hg: ∀ s₀ H₀ ex pn,BG (cY X scope N s₀ H₀ ex pn) target g) (ht: ∀ s₀ H₀ ex pn,y3 (cY X scope N s₀ H₀ ex pn) ifs tt) (he: ∀ s₀ H₀ ex pn,BE (cY X scope N s₀ H₀ ex pn) kx te) (hv: ∀ s₀ H₀ ex pn,BE (cY X scope N s₀ H₀ ex pn) vx tv)
  (hsw:swapsWith (.DictComp kx vx [⟨target,iter,ifs,0⟩] scope pos) (some (.Name y py)) spos.line X.env=pure true:=by rfl)
  (hs: ∀ x,foldedSetIterable iter X.env x=pure x:=by intro _;rfl) (hf:X.fn y=true∨X.env.scope.names.lookup y=some .local:=by first|exact .inl rfl|exact .inr rfl|assumption):
  BS X (.Assign [.Name y py] (.DictComp kx vx [⟨target,iter,ifs,0⟩] scope pos) spos) (gz (Fo js wi g tt te tv) (dW k)):=⟨Ec hN hk hy L hc hi.out (fun a b c d=>(hg a b c d).out) (fun a b c d=>(ht a b c d).out) (fun a b c d=>(he a b c d).out) (fun a b c d=>(hv a b c d).out) hsw hs hf⟩
end
variable {φ:du}
end
def wb (d:PyData):Prop:=d.showable=true∧d.shown.length≤1000000∧d.depth≤40
instance (d:PyData):Decidable (wb d):=by unfold wb;infer_instance
section
open PySem.W (kas_sort kas_ask KatTups)
variable {φ:du}
section
variable {prog:Program} {w:World} {A:Around} {E:Value→Shared→Prop} {s:Shared} {d:Addr} {kvs:List (Key×Value)} {ep:Nat}
theorem pI (hh:A.handled=none) (hat:s.heap.DictAt (bI prog w) d kvs ep) (lo:(d==sysModules)=false) (hn:kvs.length≤sizeLine)
  (q: ∀ h' tk acc c,(∀ b o,s.heap.get? b=some o→h'.get? b=some o)→h'.get? s.heap.objs.size=some {cls:=.type "list",data:=.seq acc c}→ItemsOf (fun i v=> ∃ k x,kvs[i]?=some (k,x)∧(bI prog w).is k v=true) acc kvs.length→R (.ok (.ret (.ref s.heap.objs.size))) {s with heap:=h',toks:=tk}):codeAny (model prog w) A (.builtin "proto.collect" ⟨[.ref d],[]⟩) R s:=by
 obtain⟨od,es,god,hex,hdd,hke,hpr,hnd⟩:=hat
 have ltD:d < s.heap.objs.size:=Hz god
 refine codeAny_builtin F.entry_proto_collect ?_
 rw[Around.under_plainId F.plain_proto_collect _]
 change wpAny _ A.in1 (newList [] >>= fun v=>again (.builtin "list.__iadd__" ⟨[v,.ref d],[]⟩)) _ _ s
 refine He (wpAny_newObj_type ?_)
 refine Hk ⟨plainId_quiet F.plain_list_iadd _,codeAny_builtin F.entry_list_iadd ?_⟩
 rw[Around.under_plainId F.plain_list_iadd _]
 change wpAny _ A.in1 (Builtin.List.listExtendWith (.ref s.heap.objs.size) (.ref d) (.ref s.heap.objs.size)) _ _ _
 exact PySem.W.kdl_extend (s:={s with heap:=s.heap.push {cls:=.type "list",data:=.seq ([]:List Value).toArray}}) (PySem.W.kdl_dict (knd:=bI prog w) (kvs:=kvs) (ep:=ep) lo) hh ⟨od,es,Hh _ god,hex,hdd,hke,hpr,hnd⟩ _ (Nat.ne_of_gt ltD) (Nat.ne_of_gt ltD) _ 0 (Hw _ rfl) (fun h' tk acc c k e it=>q h' tk acc c (fun b o e=>k b o (HL (Hz e)) (Hh _ e)) e it) hn
theorem pH (hh:A.handled=none) (hat:s.heap.DictAt (bI prog w) d kvs ep) (lo:(d==sysModules)=false) (hn:kvs.length≤sizeLine)
  (q: ∀ h' tk acc,(∀ b o,s.heap.get? b=some o→h'.get? b=some o)→ItemsOf (fun i v=> ∃ k x,kvs[i]?=some (k,x)∧(bI prog w).is k v=true) acc kvs.length→Q acc.toList {s with heap:=h',toks:=tk}):wpAny (model prog w) A (collect (.ref d)) Q E s:=by
 unfold collect
 refine He (wpAny_runValue (pI hh hat lo hn fun h' tk acc c k e it=>?_))
 change wpAny _ A (load s.heap.objs.size >>= _) _ _ _
 exact He (wpAny_load e (Hk (q h' tk acc k it)))
theorem qU (hh:A.handled=none) (hat:s.heap.DictAt (bI prog w) d kvs ep) (lo:(d==sysModules)=false) (hk:kvs.map (·.1)=zs.map Sum.inr) (hz:zs.length < 64)
  (h: ∀ (out:Array Value) (n tk:Nat) (ss:List Str) (h1 h':Heap),StrsAre out.toList ss→ss.Perm zs→sortedS ss=true→(∀ b u,s.heap.get? b=some u→h1.get? b=some u)→(∀ b u,h1.get? b=some u→h'.get? b=some u)→h'.get? h1.objs.size=some (seqObj "list" out n)→Q (.ref h1.objs.size) {s with heap:=h',toks:=tk}):
  wpAny (model prog w) A (call (.builtin "sorted") [.ref d]) Q E s:=by
 have kl:kvs.length=zs.length:=by have:=congrArg List.length hk;simpa using this
 refine Calls.call_function_entry kind_sorted plain_sorted entry_sorted (args_sorted1 _) ?_
 unfold Builtin.«sorted»
 refine He (m:=checkCount "sorted" 1 1 _) (Hk ?_)
 refine He (pH (by simp[hh]) hat lo (by rw[HW];lia) fun h1 tk acc k1 it=>?_)
 obtain⟨i1,i2⟩:=it
 have sh: ∀ i v,acc.toList[i]?=some v→∃ (hi:i < zs.length) (u:Tok),v= .str zs[i] u:=fun i v hv=>by
  obtain⟨k,x,ek,ik⟩:=i2 i v (by simpa using hv)
  have ek1:(kvs.map (·.1))[i]?=some k:=by rw[HC,ek];rfl
  rw[hk,HC] at ek1
  obtain⟨z,hz1,rfl⟩:=HG.mp ek1
  obtain⟨hi,e⟩:=Hm.mp hz1
  obtain⟨u,hu⟩:RelV (kV (.inr z)) v:=EC ik
  exact⟨hi,u,by rw[e];exact hu⟩
 have hv: ∀ v,v∈acc.toList→∃ x u,v= .str x u:=fun v hv=>by
  obtain⟨i,hi,e⟩:=List.getElem_of_mem hv
  obtain⟨h2,u,h3⟩:=sh i v (Hm.mpr ⟨hi,e⟩)
  exact⟨_,u,h3⟩
 have em:acc.toList.map strOf=zs:=by
  apply List.ext_getElem?
  intro i
  rw[HC]
  cases e:acc.toList[i]? with
  |none=>
   have:=List.getElem?_eq_none_iff.mp e
   rw[IC (by simp at this;lia)]
   rfl
  |some v=>
   obtain⟨h2,u,h3⟩:=sh i v e
   rw[h3,Hd h2]
   rfl
 have hS:=strsAre_map acc.toList hv
 have zv:acc.toList.length < 64:=by simp;lia
 refine He (wpAny_newList ?_ (by show acc.toList.length≤_;rw[HW];lia))
 have hoL:(h1.push (seqObj "list" acc.toList.toArray 0)).get? h1.objs.size=some (seqObj "list" acc.toList.toArray 0):=Hw _ rfl
 refine He (wpAny_holding (wpAny_call_entry slot_list_sort ⟨_,hoL,rfl⟩ entry_list_sort (list_sort_treeK strKind_oneLt hoL hS.keysOf (fun v₁ v₂ rest e=>keyKind_strs (by rw[←e];exact hS)) zv fun st' a1 a2=>⟨_,rfl,?_⟩) (args_list_sort _)))
 refine Hk ⟨_,rfl,?_⟩
 obtain⟨ss',q1,q2,q3⟩:=sorted_out_str hS a1 a2
 rw[em] at q2
 have ne: ∀ b u,h1.get? b=some u→h1.objs.size≠b:=fun b u e=>Nat.ne_of_gt (Hz e)
 have g1:=get?_update_seq hoL fun _=>(#[]:Array Value)
 have g2:=Hh (seqObj "list" #[] 0) (Hh (seqObj "tuple" acc.toList.toArray 0) g1)
 have g3:=get?_update_seq g2 fun _=>Array.map (fun x=>x.snd) (arrOf st')
 refine h _ _ tk ss' h1 _ q1 q2 q3 k1 (fun b u e=>?_) g3
 unfold sortedHeap
 rw[Heap.get?_update_other _ _ (ne b u e)]
 refine Hh _ (Hh _ ?_)
 rw[Heap.get?_update_other _ _ (ne b u e)]
 exact Hh _ e
end
section
variable {X:Cx}
noncomputable def tT:List V→Hp→VK→Prop:=fun vs H Q=> ∃ (d:Addr) (ks:List (Key×V)) (zs:List Str),vs=[.ref d]∧Rd H d (.dK ks)∧ks.map (·.1)=zs.map Sum.inr∧zs.length < 64∧∀ (ys:List Str) (p:Addr),ys.Perm zs→sortedS ys=true→H p=none→Q (.ref p) (upd H p (.lst (ys.map V.str)))
theorem qY (hc:X.calm=true):eR X (.builtin "sorted") tT:=by
 intro pZ s σ H xs us Q I r h
 obtain⟨d,ks,zs,rfl,hd,hk,h64,q⟩:=h
 obtain⟨u,rfl,rx⟩:=vals1 r
 cases rx
 obtain⟨_,lo,vs,kv,hD⟩:=hd.ok I.cm
 obtain⟨od,es,ep,god,hex,hdd,hke,hpr,hnd⟩:=id hD
 have hat:s.heap.DictAt (bI X.prog X.w) d vs ep:=⟨od,es,god,hex,hdd,hke,hpr,hnd⟩
 refine qU (zs:=zs) (I.ok.hd hc) hat lo (by rw[←KV.keys kv];exact hk) h64 fun out n tk ss h1 h' c1 c2 c3 k1 k2 g=>?_
 have I1:Inv X pZ σ H {s with heap:=h1,toks:=tk}:=I.kept (t':=tk) k1
 have I2:=I1.laid (t':=tk) (h':=h') (a:=h1.objs.size) (o:=.lst (ss.map V.str)) k2 (Hn _) ⟨by rw[Hg,c2.length_eq,HW];lia,out.toList,n,jU c1,by simpa using g⟩
 exact⟨.ref h1.objs.size,_,I2,rfl,q ss _ c2 c3 (I1.cm.fresh (Hn _))⟩
end
noncomputable def mJ:List (Key×PV)→Option (List Str)
 |[]=>some []
 |(.inr x,_)::r=>(mJ r).map (x:: ·)
 |_=>none
theorem qJ: ∀ {l:List (Key×PV)} {zs:List Str},mJ l=some zs→l.map (·.1)=zs.map Sum.inr
 |[],zs,e=>by cases e;rfl
 |(k,y)::l,zs,e=>by
  unfold mJ at e
  split at e
  ·rename_i h;cases h
  ·rename_i x v r h
   cases h
   obtain⟨ps',e',rfl⟩:=HG.mp e
   rw[Hq,qJ e']
   rfl
  ·cases e
noncomputable def oJ:List PV→M (List PV)
 |[.iO l]=>(M.eV (mJ l)).bind fun zs=>if zs.length < 64 then .ret ((dR zs).map PV.str) else .fail
 |_=>.fail
theorem vq:rC tT oJ:=fun φ G O H n R Q l xs pr dm ok r w q=>by
 match l,r,w with
 |[.iO z],r,w=>
  obtain⟨x,ex,r1⟩:=r.one;subst ex;clear r;have r:=r1;clear r1
  obtain⟨p,ks,rfl,h,e⟩:=r.uu
  simp only[oJ] at w
  rw[M.wZ] at w
  obtain⟨zs,ez,w2⟩:=sr w
  clear w
  by_cases c:zs.length < 64
  ·rw[Ig c] at w2
   refine⟨p,ks,zs,rfl,h,by rw[←qJ ez];exact e.1.symm,c,fun ys p' pm hs hp=>?_⟩
   rw[qc pm hs]
   exact q.mk ok hp (pr _ G.pB) (nI _) w2
  ·rw[Ih c] at w2;exact w2.elim
end
abbrev lq (elt t1 i1:Expr) (f1:List Expr) (t2 i2:Expr) (f2:List Expr) (scope:Scope) (pos:Pos):Expr:=.ListComp elt [⟨t1,i1,f1,0⟩,⟨t2,i2,f2,0⟩] scope pos
abbrev tests (env:Env) (ifs:List Expr):Sem Bool:=forIn ifs true fun c r=>if r=true then do let ok ←isTrue c env (eval c env);pure (ForInStep.yield ok) else pure (ForInStep.yield r)
theorem zd (elt t1 i1:Expr) (f1:List Expr) (t2 i2:Expr) (f2:List Expr) (scope:Scope) (pos:Pos) (it acc:Value) (env:Env):
  compTurn (lq elt t1 i1 f1 t2 i2 f2 scope pos) 0 it acc env=(standAt i1.pos >>= fun _=>pyNext it >>= fun r=>match r with
  |none=>pure (.done .next)
  |some v=>letOwnedTupleGo t1 it v >>= fun _=>assign t1 env v >>= fun _=>tests env f1 >>= fun ok=>
   if ok=true then eval i2 env >>= fun x=>standAt i2.pos >>= fun _=>foldedSetIterable i2 env x >>= fun x=>holding [x] (pyIter x) >>= fun j=>runOwn (.compStart (lq elt t1 i1 f1 t2 i2 f2 scope pos) 1 j acc env) env >>= fun _=>again (.compLoop (lq elt t1 i1 f1 t2 i2 f2 scope pos) 0 it acc env)
   else again (.compLoop (lq elt t1 i1 f1 t2 i2 f2 scope pos) 0 it acc env)):=rfl
theorem zc (elt t1 i1:Expr) (f1:List Expr) (t2 i2:Expr) (f2:List Expr) (scope:Scope) (pos:Pos) (it acc:Value) (env:Env):
  compTurn (lq elt t1 i1 f1 t2 i2 f2 scope pos) 1 it acc env=(standAt i2.pos >>= fun _=>pyNext it >>= fun r=>match r with
  |none=>pure (.done .next)
  |some v=>letOwnedTupleGo t2 it v >>= fun _=>assign t2 env v >>= fun _=>tests env f2 >>= fun ok=>
   if ok=true then(eval elt env >>= fun x=>call (.builtin "list.append") [acc,x] >>= fun _=>pure ()) >>= fun _=>again (.compLoop (lq elt t1 i1 f1 t2 i2 f2 scope pos) 1 it acc env)
   else again (.compLoop (lq elt t1 i1 f1 t2 i2 f2 scope pos) 1 it acc env)):=rfl
section
variable {prog:Program} {w:World} {A:Around} {R:Result→Shared→Prop} {s:Shared} {elt t1 i1 t2 i2:Expr} {f1 f2:List Expr} {scope:Scope} {pos:Pos} {it acc:Value} {env:Env}
theorem Ac (I:Nat→Shared→Prop)
  (turn: ∀ n s,I n s→wpAny (model prog w) A (pyNext it) (fun r s₁=>match r with
   |none=>R (.ok .next) s₁
   |some v=>wpAny (model prog w) A (letOwnedTupleGo t2 it v) (fun _ s₁'=>wpAny (model prog w) A (assign t2 env v) (fun _ s₂=>
     wpAny (model prog w) A (tests env f2) (fun ok s₃=>
      if ok=true then wpAny (model prog w) A (eval elt env) (fun x s₄=>
       wpAny (model prog w) A (call (.builtin "list.append") [acc,x]) (fun _ s₅=> ∃ m,m < n∧I m s₅) (fun _ _=>False) s₄) (fun _ _=>False) s₃
      else ∃ m,m < n∧I m s₃) (fun _ _=>False) s₂) (fun _ _=>False) s₁') (fun _ _=>False) s₁) (fun _ _=>False) s)
  (n:Nat) (h:I n s):
  codeAny (model prog w) A (.compLoop (lq elt t1 i1 f1 t2 i2 f2 scope pos) 1 it acc env) R s:=by
 refine codeAny_loop rfl I (fun n s hI=>?_) n h
 show wpAny _ A ((compTurn (lq elt t1 i1 f1 t2 i2 f2 scope pos) 1 it acc env).onRaise (fun x=>do noteFrame x env;theTreesLotGoes x)) _ _ s
 refine wpAny_noted ?_
 refine wpAny_mono (E:=fun _ _=>False) ?_ (fun _ _ q=>q) fun _ _ q=>q.elim
 rw[zc]
 refine He (wpAny_standAt (He (bF (turn n s hI) fun r s₁ h₁=>?_)))
 cases r with
 |none=>exact Hk h₁
 |some v=>
  refine He (bF h₁ fun _ s₁' h₁'=>?_)
  refine He (bF h₁' fun _ s₂ h₂=>He (bF h₂ fun ok s₃ h₃=>?_))
  cases ok with
  |false=>exact Hk ⟨rfl,h₃⟩
  |true=>exact He (He (bF h₃ fun x s₄ h₄=>He (bF h₄ fun _ s₅ h₅=>Hk (Hk ⟨rfl,h₅⟩))))
theorem Ad (hs: ∀ x,foldedSetIterable i2 env x=pure x) (I:Nat→Shared→Prop)
  (turn: ∀ n s,I n s→wpAny (model prog w) A (pyNext it) (fun r s₁=>match r with
   |none=>R (.ok .next) s₁
   |some v=>wpAny (model prog w) A (letOwnedTupleGo t1 it v) (fun _ s₁'=>wpAny (model prog w) A (assign t1 env v) (fun _ s₂=>
     wpAny (model prog w) A (tests env f1) (fun ok s₃=>
      if ok=true then wpAny (model prog w) A (eval i2 env) (fun x s₄=>wpAny (model prog w) A (pyIter x) (fun j s₅=>
       codeAny (model prog w) A (.compStart (lq elt t1 i1 f1 t2 i2 f2 scope pos) 1 j acc env) (fun r s₆=>(∃ f,r= .ok f)∧∃ m,m < n∧I m s₆) s₅) (fun _ _=>False) s₄) (fun _ _=>False) s₃
      else ∃ m,m < n∧I m s₃) (fun _ _=>False) s₂) (fun _ _=>False) s₁') (fun _ _=>False) s₁) (fun _ _=>False) s)
  (n:Nat) (h:I n s):
  codeAny (model prog w) A (.compLoop (lq elt t1 i1 f1 t2 i2 f2 scope pos) 0 it acc env) R s:=by
 refine codeAny_loop rfl I (fun n s hI=>?_) n h
 show wpAny _ A ((compTurn (lq elt t1 i1 f1 t2 i2 f2 scope pos) 0 it acc env).onRaise (fun x=>do noteFrame x env;theTreesLotGoes x)) _ _ s
 refine wpAny_noted ?_
 refine wpAny_mono (E:=fun _ _=>False) ?_ (fun _ _ q=>q) fun _ _ q=>q.elim
 rw[zd]
 refine He (wpAny_standAt (He (bF (turn n s hI) fun r s₁ h₁=>?_)))
 cases r with
 |none=>exact Hk h₁
 |some v=>
  refine He (bF h₁ fun _ s₁' h₁'=>?_)
  refine He (bF h₁' fun _ s₂ h₂=>He (bF h₂ fun ok s₃ h₃=>?_))
  cases ok with
  |false=>exact Hk ⟨rfl,h₃⟩
  |true=>
   refine He (bF h₃ fun x s₄ h₄=>He (wpAny_standAt ?_))
   rw[hs]
   refine He (Hk (He (wpAny_holding (bF h₄ fun j s₅ h₅=>?_))))
   refine He (wpAny_runOwn (codeAny_mono h₅ fun r s₆ h₆=>?_))
   obtain⟨⟨f,rfl⟩,h₆⟩:=h₆
   exact Hk ⟨rfl,h₆⟩
theorem v3
  (one:codeAny (model prog w) A (.compLoop (lq elt t1 i1 f1 t2 i2 f2 scope pos) 1 it acc env) R s)
  (two:wpAny (model prog w) A (pyIter it) (fun j s'=>codeAny (model prog w) A (.compLoop (lq elt t1 i1 f1 t2 i2 f2 scope pos) 1 j acc env) R s') (notedBy (model prog w) A env fun x s'=>R (.error x) s') s):
  codeAny (model prog w) A (.compStart (lq elt t1 i1 f1 t2 i2 f2 scope pos) 1 it acc env) R s:=
 codeAny_of_tree (wpAny_notedAt (pos:=theWindowsPlace) (m:=compStart (lq elt t1 i1 f1 t2 i2 f2 scope pos) 1 it acc env) (by
  have again_at: ∀ (j:Value) (s':Shared),codeAny (model prog w) A (.compLoop (lq elt t1 i1 f1 t2 i2 f2 scope pos) 1 j acc env) R s'→(Code.compLoop (lq elt t1 i1 f1 t2 i2 f2 scope pos) 1 j acc env).quiet=true∧codeAny (model prog w) A (.compLoop (lq elt t1 i1 f1 t2 i2 f2 scope pos) 1 j acc env) R s':=fun _ _ q=>⟨rfl,q⟩
  unfold compStart
  change wpAny _ _ (ask >>= _) _ _ s
  apply He
  apply wpAny_askSetting
  apply wpAny_ite
  split
  ·exact Hk (again_at it s one)
  ·apply He
   apply wpAny_rule
   apply He
   apply wpAny_standAt
   apply He
   exact wpAny_mono two (fun j s' q=>Hk (again_at j s' q)) fun _ _ q=>q))
end
def IN (J:It) (D:Addr) (g:TG) (tt:TT) (te:TE) (σ:St) (H:Hp) (Q:St→Hp→Prop):Prop:=
 ∃ W:Nat→Nat→St→Hp→Prop,(∃ m,W 0 m σ H)∧∀ i m σ' H',W i m σ' H'→
  (J.stop i H'∧Q σ' H')∨(J.go i H'∧∀ x H2,J.oC i H' x H2→g x σ' H2 fun σ2 H3=>tt σ2 H3 fun ok H4=>
   if ok=true then te σ2 H4 fun y H5=> ∃ ys,H5 D=some (.lst ys)∧ys.length < sizeLine∧∃ m',m' < m∧W (i+1) m' σ2 (upd H5 D (.lst (ys++[y])))
   else ∃ m',m' < m∧W (i+1) m' σ2 H4)
theorem G4 (hc:Y.calm=true) (px:Y.xe=fun _ _=>False) (hg:PG Y t2 g) (ht:lA Y f2 tt) (he:PE Y elt te) (T:Turn Y.prog Y.w Y.K t2 J fp it tn) (I:Inv Y pZ σ H s) (st:tn 0 s.heap) (hf: ∀ b∈fp,cJ Y pZ H b)
  (w:IN J D g tt te σ H Q) (hR: ∀ s' σ' H',Inv Y pZ σ' H' s'→Q σ' H'→R (.ok .next) s'):
  codeAny (model Y.prog Y.w) Y.A (.compStart (lq elt t1 i1 f1 t2 i2 f2 scope pos) 1 (.ref it) (.ref D) Y.env) R s:=by
 obtain⟨W,⟨m0,w0⟩,turn⟩:=w
 have gA: ∀ {H':Hp},(∀ b∈fp,H' b=none)→∀ b∈fp,cJ Y pZ H' b:=fun hn b hb=>⟨hn b hb,(hf b hb).2⟩
 have loop:codeAny (model Y.prog Y.w) Y.A (.compLoop (lq elt t1 i1 f1 t2 i2 f2 scope pos) 1 (.ref it) (.ref D) Y.env) R s:=by
  refine Ac (fun n s'=> ∃ i σ' H',Inv Y pZ σ' H' s'∧tn i s'.heap∧(∀ b∈fp,H' b=none)∧W i n σ' H') ?_ m0 ⟨0,_,_,I,st,fun b hb=>(hf b hb).1,w0⟩
  rintro n s5 ⟨i,σ5,H5,I5,st5,fr5,w5⟩
  unfold PG at hg;unfold lA at ht;unfold PE at he
  rw[px] at hg ht he
  have ap:=dG (X:=Y)
  unfold Gz at ap
  rw[px] at ap
  rcases turn i n σ5 H5 w5 with⟨stop,q⟩|⟨go,step⟩
  ·have d:=T.done Y rfl rfl rfl hc i pZ s5 σ5 H5 (fun _ _=>False) I5 (gA fr5) st5 stop
   refine bF d fun r s6 ⟨hr,I6⟩=>?_
   subst hr
   exact hR s6 σ5 H5 I6 q
  ·have d:=T.item Y rfl rfl rfl hc i pZ s5 σ5 H5 (fun _ _=>False) I5 (gA fr5) st5 go
   refine bF d fun r s6 ⟨u,hr,h6⟩=>?_
   subst hr
   refine bF h6 fun _ s7 ⟨x,H7,I7,r7,y7,st7,fr7⟩=>?_
   have I7':=I7.pinned (gA fr7) (T.obj _ _ st7)
   refine bF (hg _ s7 σ5 H7 x u _ I7' r7 (step x H7 y7)) fun _ s8 ⟨σ8,H8,I8,q8⟩=>?_
   have again: ∀ {σ9:St} {H9:Hp} {s9:Shared},Inv Y (pZ++h7 fp s7.heap) σ9 H9 s9→(∃ m',m' < n∧W (i+1) m' σ9 H9)→∃ m,m < n∧∃ i σ' H',Inv Y pZ σ' H' s9∧tn i s9.heap∧(∀ b∈fp,H' b=none)∧W i m σ' H':=fun {σ9 H9 s9} I9 ⟨m',hm,w9⟩=>by
    refine⟨m',hm,i+1,σ9,H9,I9.fG,T.keep _ _ _ st7 fun b hb o e=>(I9.pin (b,o) (HB _ (HB _ (cF hb e)))).1,fun b hb=>?_,w9⟩
    obtain⟨o,e,d⟩:=T.obj _ _ st7 b hb
    exact(I9.pin (b,o) (HB _ (HB _ (cF hb e)))).2.1
   refine bF (ht _ s8 σ8 H8 _ I8 q8) fun ok s9 ⟨H9,I9,q9⟩=>?_
   cases ok with
   |false=>
    rw[Ih (by decide)] at q9
    rw[Ih (by decide)]
    exact again I9 q9
   |true=>
    rw[Ig rfl] at q9
    rw[Ig rfl]
    refine bF (he _ s9 σ8 H9 _ I9 q9) fun v s10 ⟨y,H10,I10,r10,ys,eys,lys,q10⟩=>?_
    refine bF (ap _ s10 σ8 H10 (.ref D) [y] (.ref D) [v] (fun _ H'=> ∃ m',m' < n∧W (i+1) m' σ8 H') I10 rfl (.cons r10 .nil) ⟨D,ys,y,rfl,rfl,eys,lys,q10⟩) fun v2 s11 ⟨y2,H11,I11,_,q11⟩=>?_
    exact again I11 q11
 exact v3 loop (T.self _ 0 _ _ _ st loop)
def Fb (J:It) (D:Addr) (g:TG) (tt:TT) (wi:TI) (g2:TG) (tt2:TT) (te:TE) (Q:VK) (σ0:St) (H1:Hp):Prop:=
 ∃ W:Nat→Nat→St→Hp→Prop,(∃ m,W 0 m σ0 (upd H1 D (.lst [])))∧∀ i m σ' H',W i m σ' H'→
  (J.stop i H'∧Q (.ref D) H')∨(J.go i H'∧∀ x H2,J.oC i H' x H2→g x σ' H2 fun σ2 H3=>tt σ2 H3 fun ok H4=>
   if ok=true then wi σ2 H4 fun J2 H5=>IN J2 D g2 tt2 te σ2 H5 fun σ3 H6=> ∃ m',m' < m∧W (i+1) m' σ3 H6
   else ∃ m',m' < m∧W (i+1) m' σ2 H4)
noncomputable def zg (js:List (Option Nat)) (wi:TI) (g:TG) (tt:TT) (wi2:TI) (g2:TG) (tt2:TT) (te:TE):TE:=fun σ H Q=>wi σ H fun J H1=> ∀ D,H1 D=none→Fb J D g tt wi2 g2 tt2 te Q (dY js σ) H1
section
variable {X:Cx} {pZ:List (Addr×Obj)} {σ:St} {H:Hp} {s:Shared} {scope:Scope} {N:List Str} {js:List (Option Nat)} {fp:List Addr}
theorem xH {Q:VK} {R:Value→Addr→Result→Shared→Prop}
  (L:aN X scope N js) (hc:X.calm=true)
  (hg: ∀ s₀ H₀ ex pn,PG (cY X scope N s₀ H₀ ex pn) target g) (ht: ∀ s₀ H₀ ex pn,lA (cY X scope N s₀ H₀ ex pn) ifs tt) (he: ∀ s₀ H₀ ex pn,PE (cY X scope N s₀ H₀ ex pn) elt te) (hi2: ∀ s₀ H₀ ex pn,PI (cY X scope N s₀ H₀ ex pn) t2 i2 wi2) (yW: ∀ s₀ H₀ ex pn,PG (cY X scope N s₀ H₀ ex pn) t2 g2) (ht2: ∀ s₀ H₀ ex pn,lA (cY X scope N s₀ H₀ ex pn) f2 tt2) (hs2: ∀ s₀ H₀ ex pn x,foldedSetIterable i2 (cY X scope N s₀ H₀ ex pn).env x=pure x)
  (I:Inv X pZ σ H s) (T:Turn X.prog X.w X.K target J fp it tn) (st:tn 0 s.heap) (hf: ∀ b∈fp,cJ X pZ H b) {h₁:Heap} {tk:Nat} (I3:Inv X pZ σ (upd H D (.lst [])) s3) (hDl: ∀ b o,s.heap.get? b=some o→b≠D) (k3: ∀ b o,s.heap.get? b=some o→s3.heap.get? b=some o)
  (hns₁:h₁.Ns s3.heap.objs.size (fun _=>none)) (kk: ∀ b o,s3.heap.get? b=some o→h₁.get? b=some o)
  (w: ∃ W:Nat→Nat→St→Hp→Prop,(∃ m,W 0 m (dY js σ) (upd H D (.lst [])))∧∀ i m σ' H',W i m σ' H'→
   (J.stop i H'∧Q (.ref D) H')∨(J.go i H'∧∀ x H2,J.oC i H' x H2→g x σ' H2 fun σ2 H3=>tt σ2 H3 fun ok H4=>
    if ok=true then wi2 σ2 H4 fun J2 H5=>IN J2 D g2 tt2 te σ2 H5 fun σ3 H6=> ∃ m',m' < m∧W (i+1) m' σ3 H6
    else ∃ m',m' < m∧W (i+1) m' σ2 H4))
  (hR: ∀ C s' H',Inv X pZ σ H' s'→cJ X pZ H' C→(∃ m,s'.heap.Ns C m)→Q (.ref D) H'→R (.ref D) C (.ok .next) s'):
  codeAny (model X.prog X.w) X.A (.compStart (lq elt target iter ifs t2 i2 f2 scope pos) 0 (.ref it) (.ref D) {newEnv scope s3.heap.objs.size X.env.globals (mX scope.names X.env.cells) X.env.qual none .none (some X.env) builtinsNs with scope:=relabel scope X.env}) (R (.ref D) s3.heap.objs.size) {s3 with heap:=h₁,toks:=tk}:=by
 have obj:=T.obj 0 s.heap st
 have ho3: ∀ b∈fp,∃ o,s3.heap.get? b=some o:=fun b hb=>by obtain⟨o,e,_⟩:=obj b hb;exact⟨o,k3 b o e⟩
 have hf3: ∀ b∈fp,cJ X pZ (upd H D (.lst [])) b:=fun b hb=>by
  refine⟨?_,(hf b hb).2⟩
  obtain⟨o,e,_⟩:=obj b hb
  rw[au (hDl b o e)]
  exact(hf b hb).1
 have I4:Inv (cY X scope N s3 (upd H D (.lst [])) fp (X.pn++pZ)) [] (dY js σ) (upd H D (.lst [])) {s3 with heap:=h₁,toks:=tk}:=
  L.start I3 hc hf3 ho3 hns₁ kk
 obtain⟨W,⟨m0,w0⟩,turn⟩:=w
 have st4:tn 0 h₁:=T.keep 0 _ _ st fun b _ o e=>kk b o (k3 b o e)
 generalize hX:cY X scope N s3 (upd H D (.lst [])) fp (X.pn++pZ)=Y at I4
 have fpY: ∀ b∈fp,b≠Y.env.locals∧b∉Y.fs∧(b∈Y.ex∨Y.s₀.heap.objs.size≤b)∧(∀ x c,Y.env.cells.lookup x=some c→c≠b)∧∀ p∈Y.pn++[],p.1≠b:=fun b hb=>by
  rw[←hX]
  obtain⟨o,e⟩:=ho3 b hb
  refine⟨HL (Hz e),fun z=>?_,.inl hb,fun x c h=>(hf b hb).2.2.2.2.1 x c (dX _ _ _ (fun _ _ e=>by simp at e) x c h),fun p hp=>(hf b hb).2.2.2.2.2 p (by simpa[cY] using hp)⟩
  rcases Hr.mp (I3.iY b z) with q|q
  ·exact(hf b hb).2.1 q
  ·exact(hf b hb).2.2.1 q
 have loop:codeAny (model X.prog X.w) X.A (.compLoop (lq elt target iter ifs t2 i2 f2 scope pos) 0 (.ref it) (.ref D) Y.env) (R (.ref D) s3.heap.objs.size) {s3 with heap:=h₁,toks:=tk}:=by
  have pr:Y.prog=X.prog:=by rw[←hX];rfl
  have pw:Y.w=X.w:=by rw[←hX];rfl
  have pK:Y.K=X.K:=by rw[←hX];rfl
  have pA:Y.A=X.A:=by rw[←hX];rfl
  have pc:Y.calm=true:=by rw[←hX];rfl
  have px:Y.xe=fun _ _=>False:=by rw[←hX];rfl
  have gA: ∀ {H':Hp},(∀ b∈fp,H' b=none)→∀ b∈fp,cJ Y [] H' b:=fun hn b hb=>⟨hn b hb,fpY b hb⟩
  refine Ad (by intro x;rw[←hX];exact hs2 _ _ _ _ _) (fun n s'=> ∃ i σ' H',Inv Y [] σ' H' s'∧tn i s'.heap∧(∀ b∈fp,H' b=none)∧W i n σ' H') ?_ m0 ⟨0,_,_,I4,st4,fun b hb=>(hf3 b hb).1,w0⟩
  rintro n s5 ⟨i,σ5,H5,I5,st5,fr5,w5⟩
  have gY:PG Y target g:=by rw[←hX];exact hg _ _ _ _
  have tY:lA Y ifs tt:=by rw[←hX];exact ht _ _ _ _
  have eY:PE Y elt te:=by rw[←hX];exact he _ _ _ _
  have gY2:PG Y t2 g2:=by rw[←hX];exact yW _ _ _ _
  have tY2:lA Y f2 tt2:=by rw[←hX];exact ht2 _ _ _ _
  have iY2:PI Y t2 i2 wi2:=by rw[←hX];exact hi2 _ _ _ _
  unfold PG at gY;unfold lA at tY;unfold PI at iY2
  rw[pr,pw,pA,px] at gY tY iY2
  rcases turn i n σ5 H5 w5 with⟨stop,q⟩|⟨go,step⟩
  ·have d:=T.done Y pr pw pK pc i [] s5 σ5 H5 (fun _ _=>False) I5 (gA fr5) st5 stop
   rw[pA] at d
   refine bF d fun r s6 ⟨hr,I6⟩=>?_
   subst hr
   have I6':Inv (cY X scope N s3 (upd H D (.lst [])) fp (X.pn++pZ)) [] σ5 H5 s6:=by rw[hX];exact I6
   obtain⟨a1,a2,a3⟩:=sG I3 hf3 I6'
   exact hR _ s6 H5 a1 a2 a3 q
  ·have d:=T.item Y pr pw pK pc i [] s5 σ5 H5 (fun _ _=>False) I5 (gA fr5) st5 go
   rw[pA] at d
   refine bF d fun r s6 ⟨u,hr,h6⟩=>?_
   subst hr
   refine bF h6 fun _ s7 ⟨x,H7,I7,r7,y7,st7,fr7⟩=>?_
   have I7':=I7.pinned (gA fr7) (T.obj _ _ st7)
   refine bF (gY _ s7 σ5 H7 x u _ I7' r7 (step x H7 y7)) fun _ s8 ⟨σ8,H8,I8,q8⟩=>?_
   have again: ∀ {σ9:St} {H9:Hp} {s9:Shared},Inv Y ([]++h7 fp s7.heap) σ9 H9 s9→(∃ m',m' < n∧W (i+1) m' σ9 H9)→∃ m,m < n∧∃ i σ' H',Inv Y [] σ' H' s9∧tn i s9.heap∧(∀ b∈fp,H' b=none)∧W i m σ' H':=fun {σ9 H9 s9} I9 ⟨m',hm,w9⟩=>by
    refine⟨m',hm,i+1,σ9,H9,I9.fG,T.keep _ _ _ st7 fun b hb o e=>(I9.pin (b,o) (HB _ (HB _ (cF hb e)))).1,fun b hb=>?_,w9⟩
    obtain⟨o,e,d⟩:=T.obj _ _ st7 b hb
    exact(I9.pin (b,o) (HB _ (HB _ (cF hb e)))).2.1
   refine bF (tY _ s8 σ8 H8 _ I8 q8) fun ok s9 ⟨H9,I9,q9⟩=>?_
   cases ok with
   |false=>
    rw[Ih (by decide)] at q9
    rw[Ih (by decide)]
    exact again I9 q9
   |true=>
    rw[Ig rfl] at q9
    rw[Ig rfl]
    refine bF (iY2 _ s9 σ8 H9 _ I9 q9) fun v s10 h10=>bF h10 fun jv s11 h11=>?_
    obtain⟨it2,fp2,tn2,J2,H11,e2,I11,T2,st11,f11,w2⟩:=h11
    subst e2
    have z:=G4 (Y:=Y) (elt:=elt) (t1:=target) (i1:=iter) (f1:=ifs) (i2:=i2) (scope:=scope) (pos:=pos) (R:=fun r s₆=>(∃ f,r= .ok f)∧∃ m,m < n∧∃ i σ' H',Inv Y [] σ' H' s₆∧tn i s₆.heap∧(∀ b∈fp,H' b=none)∧W i m σ' H') pc px gY2 tY2 eY T2 I11 st11 f11 w2 fun s' σ' H' I' q'=>⟨⟨_,rfl⟩,again I' q'⟩
    rw[pr,pw,pA] at z
    exact z
 have ee:({newEnv scope s3.heap.objs.size X.env.globals (mX scope.names X.env.cells) X.env.qual none .none (some X.env) builtinsNs with scope:=relabel scope X.env}:Env)=Y.env:=by rw[←hX];rfl
 rw[ee]
 exact codeAny_compStart_list loop (T.self _ 0 _ _ _ st4 loop)
theorem u9 {Q:VK} {E:Value→Shared→Prop} {R:Value→Addr→Result→Shared→Prop}
  (L:aN X scope N js) (hc:X.calm=true)
  (hg: ∀ s₀ H₀ ex pn,PG (cY X scope N s₀ H₀ ex pn) target g) (ht: ∀ s₀ H₀ ex pn,lA (cY X scope N s₀ H₀ ex pn) ifs tt) (he: ∀ s₀ H₀ ex pn,PE (cY X scope N s₀ H₀ ex pn) elt te) (hi2: ∀ s₀ H₀ ex pn,PI (cY X scope N s₀ H₀ ex pn) t2 i2 wi2) (yW: ∀ s₀ H₀ ex pn,PG (cY X scope N s₀ H₀ ex pn) t2 g2) (ht2: ∀ s₀ H₀ ex pn,lA (cY X scope N s₀ H₀ ex pn) f2 tt2) (hs2: ∀ s₀ H₀ ex pn x,foldedSetIterable i2 (cY X scope N s₀ H₀ ex pn).env x=pure x)
  (I:Inv X pZ σ H s) (T:Turn X.prog X.w X.K target J fp it tn) (st:tn 0 s.heap) (hf: ∀ b∈fp,cJ X pZ H b)
  (w: ∀ D,H D=none→∃ W:Nat→Nat→St→Hp→Prop,(∃ m,W 0 m (dY js σ) (upd H D (.lst [])))∧∀ i m σ' H',W i m σ' H'→
   (J.stop i H'∧Q (.ref D) H')∨(J.go i H'∧∀ x H2,J.oC i H' x H2→g x σ' H2 fun σ2 H3=>tt σ2 H3 fun ok H4=>
    if ok=true then wi2 σ2 H4 fun J2 H5=>IN J2 D g2 tt2 te σ2 H5 fun σ3 H6=> ∃ m',m' < m∧W (i+1) m' σ3 H6
    else ∃ m',m' < m∧W (i+1) m' σ2 H4))
  (hR: ∀ D C s' H',Inv X pZ σ H' s'→cJ X pZ H' C→(∃ m,s'.heap.Ns C m)→Q (.ref D) H'→R (.ref D) C (.ok .next) s'):
  wpAny (model X.prog X.w) X.A (newList []) (fun acc s₃=>wpAny (model X.prog X.w) X.A (newFunctionEnv scope X.env.globals (mX scope.names X.env.cells) [] X.env.qual none .none (some X.env)) (fun cenv s₄=>
   codeAny (model X.prog X.w) X.A (.compStart (lq elt target iter ifs t2 i2 f2 scope pos) 0 (.ref it) acc {cenv with scope:=relabel scope X.env}) (R acc cenv.locals) s₄) E s₃) E s:=by
 have I3:=I.xF (t':=s.toks) (ys:=[]) (aA:=[]) .nil (HJ _)
 have hD:=I.fresh
 refine wpAny_newObj_type (wpAny_newFunctionEnv L.oY (by intro y hy;simp at hy) (fun h₁ hns₁ hsb₁=>?_) L.kind)
 dsimp only at hns₁ hsb₁
 exact xH (Q:=Q) (R:=R) (s3:={s with heap:=s.heap.push {cls:=.type "list",data:=.seq ([]:List Value).toArray},toks:=s.toks}) L hc hg ht he hi2 yW ht2 hs2 I T st hf I3 (fun b o e=>HL (Hz e)) (fun b o e=>Hh _ e) hns₁
  (fun b o e=>hsb₁.extBut b o (HL (Hz e)) (Hh _ e)) (w _ hD) (fun C=>hR _ C)
theorem B7 (L:aN X scope N js) (hc:X.calm=true) (hi:PI X target iter wi)
  (hg: ∀ s₀ H₀ ex pn,PG (cY X scope N s₀ H₀ ex pn) target g) (ht: ∀ s₀ H₀ ex pn,lA (cY X scope N s₀ H₀ ex pn) ifs tt) (he: ∀ s₀ H₀ ex pn,PE (cY X scope N s₀ H₀ ex pn) elt te) (hi2: ∀ s₀ H₀ ex pn,PI (cY X scope N s₀ H₀ ex pn) t2 i2 wi2) (yW: ∀ s₀ H₀ ex pn,PG (cY X scope N s₀ H₀ ex pn) t2 g2) (ht2: ∀ s₀ H₀ ex pn,lA (cY X scope N s₀ H₀ ex pn) f2 tt2) (hs2: ∀ s₀ H₀ ex pn x,foldedSetIterable i2 (cY X scope N s₀ H₀ ex pn).env x=pure x)
  (hs: ∀ x,foldedSetIterable iter X.env x=pure x:=by intro _;rfl):PE X (lq elt target iter ifs t2 i2 f2 scope pos) (zg js wi g tt wi2 g2 tt2 te):=by
 intro pZ s σ H Q I h
 rw[eval_ListComp]
 refine wpAny_comprehension_free (use:=none) rfl hs (gM (L.yD I.ok)) L.kind L.names (bF (hi pZ s σ H _ I h) fun v s1 h1=>bF h1 fun itv s2 h2=>?_)
 obtain⟨it,fp,tn,J,H2,e,I2,T,st2,f2,w⟩:=h2
 subst e
 refine u9 (Q:=Q) (R:=fun acc C=>compPost (model X.prog X.w) X.A X.xe none (EP X pZ σ Q) acc C) L hc hg ht he hi2 yW ht2 hs2 I2 T st2 f2 w ?_
 intro D C s' H' I' f' ⟨m,hn⟩ q
 exact⟨m,hn,fun h' hs'=>⟨.ref D,H',I'.gone (m:=m) f' hs',rfl,q⟩⟩
end
noncomputable def Cy (bd:PV→ao→M ao) (tt:ao→M Bool) (te:ao→M PV):List PV→ao→M (List PV×ao)
 |[],ρ=>.ret ([],ρ)
 |y::r,ρ=>(bd y ρ).bind fun ρ1=>(tt ρ1).bind fun ok=>if ok=true then(te ρ1).bind fun z=>(Cy bd tt te r ρ1).bind fun p=>.ret (z::p.1,p.2) else Cy bd tt te r ρ1
noncomputable def mI (bd:PV→ao→M ao) (tt:ao→M Bool) (mi2:ao→M (List PV)) (bd2:PV→ao→M ao) (tt2:ao→M Bool) (te:ao→M PV):List PV→ao→M (List PV)
 |[],_=>.ret []
 |y::r,ρ=>(bd y ρ).bind fun ρ1=>(tt ρ1).bind fun ok=>if ok=true then(mi2 ρ1).bind fun l2=>if l2.length≤100 then(Cy bd2 tt2 te l2 ρ1).bind fun p=>(mI bd tt mi2 bd2 tt2 te r p.2).bind fun l=>.ret (p.1++l) else .fail
  else mI bd tt mi2 bd2 tt2 te r ρ1
noncomputable def qB (js:List (Option Nat)) (mi:ao→M (List PV)) (bd:PV→ao→M ao) (tt:ao→M Bool) (mi2:ao→M (List PV)) (bd2:PV→ao→M ao) (tt2:ao→M Bool) (te:ao→M PV):ao→M (List PV):=fun ρ=>(mi ρ).bind fun l=>if l.length≤1000 then mI bd tt mi2 bd2 tt2 te l (gN js ρ) else .fail
section
variable {φ:du}
theorem BY (G:Bg φ) (O:Addr→Prop) (hBD:D≠G.B) (pD: ¬ G.cP D) (s5:ES (G.with D hBD) (fun p=>O p∨p=D) H5 σ2 ρ2 n5) (D5:H5 D=some (.lst ys)):ES (G.with D hBD) (fun p=>O p∨p=D) (upd H5 D (.lst zs)) σ2 ρ2 n5:=by
 have kD: ∀ (o:HO) p u,¬ (O p∨p=D)→H5 p=some u→upd H5 D o p=some u∧¬ (O p∨p=D):=fun o p u np hp=>⟨by rw[au (fun z=>np (.inr z))];exact hp,np⟩
 refine⟨⟨s5.er.1,fun j e he=>?_⟩,⟨G.keep H5 _ _ (fun p o hp hpo=>by
   have hpd:p≠D:=fun z=>by
    rcases hp with hp|hp
    ·exact pD (z▸hp)
    ·rw[z,D5] at hpo;cases hpo;exact hp
   rw[au hpd];exact hpo) s5.ok.1,_,ay⟩,s5.pr,fun p hp=>?_⟩
 ·have r1:=s5.er.2 j e he
  cases e with
  |un=>trivial
  |val y=>obtain⟨x,hx,rr⟩:=r1;exact⟨x,hx,rr.keep (kD _)⟩
  |own t=>
   obtain⟨p,xs,hx,hp,np,hh,rr⟩:=r1
   exact⟨p,xs,hx,hp,np,by rw[au (fun z=>np (.inr z))];exact hh,rr.keep (kD _)⟩
  |d7 t=>
   obtain⟨p,xs,hx,hp,np,hh,rr⟩:=r1
   exact⟨p,xs,hx,hp,np,by rw[au (fun z=>np (.inr z))];exact hh,rr.keep (kD _)⟩
 ·by_cases hpd:p=D
  ·subst hpd;exact⟨_,ay⟩
  ·obtain⟨o,g⟩:=s5.dm p hp;exact⟨o,by rw[au hpd];exact g⟩
theorem Ag {K:Frag} {mi2:ao→M (List PV)} {bd2:PV→ao→M ao} {tt2:ao→M Bool} {js:List (Option Nat)} {bd:PV→ao→M ao} {tt:ao→M Bool} {te:ao→M PV} {G:Bg φ} {O:Addr→Prop} {ρ:ao} {n1:Nat} {R:List PV→Nat→Prop} {l:List PV} {J:It} {H1:Hp} {σ:St} {D:Addr} {Q:VK} (hD:H1 D=none) (s1:ES G O H1 σ ρ n1) (hBD:D≠G.B) (IT:Hp→Prop)
  (it0:(∀ p o,¬ O p→H1 p=some o→upd H1 D (HO.lst []) p=some o∧¬ (O p∨p=D))→(∀ p o,H1 p=some o→p≠D)→IT (upd H1 D (.lst [])))
  (st: ∀ H2 H3,IT H2→(∀ p o,p≠G.B→p≠D→H2 p=some o→fk H3 p o)→IT H3)
  (go: ∀ H2 i y,IT H2→l[i]?=some y→J.go i H2∧∀ x H3,J.oC i H2 x H3→(H3=H2∧Rep G.B (fun p=>O p∨p=D) H2 y x)∨∃ T us vs,x= .ref T∧H2 T=none∧H3=upd H2 T (.tup vs)∧y= .tup us∧aO G.B (fun p=>O p∨p=D) H2 us vs)
  (iQ: ∀ H2,IT H2→J.stop l.length H2) (hl:l.length≤1000) (w1:(mI bd tt mi2 bd2 tt2 te l (gN js ρ)).wp n1 R)
  (q: ∀ zs ys H' n',Ext G.B H1 H'→G.ok H' n'→H' D=some (.lst ys)→aO G.B (fun p=>O p∨p=D) H' zs ys→R zs n'→Q (.ref D) H'):Fb J D (tL φ bd) (oE φ tt) (vB φ K false mi2) (tL φ bd2) (oE φ tt2) (lB φ te) Q (dY js σ) H1:=by
 have nD:=(s1.nB hD).1
 have pD: ¬ G.cP D:=fun z=>nD (s1.pr _ z)
 have dz: ∀ p o,H1 p=some o→p≠D:=fun p o hp z=>by subst z;rw[hD] at hp;cases hp
 let O':Addr→Prop:=fun p=>O p∨p=D
 let G':Bg φ:=G.with D hBD
 have k0: ∀ p o,¬ O p→H1 p=some o→upd H1 D (HO.lst []) p=some o∧¬ O' p:=fun p o np hp=>⟨by rw[au (dz p o hp)];exact hp,fun z=>by
  rcases z with z|z
  ·exact np z
  ·exact dz p o hp z⟩
 have kD: ∀ (H5:Hp) (o:HO) p u,¬ O' p→H5 p=some u→upd H5 D o p=some u∧¬ O' p:=fun H5 o p u np hp=>⟨by rw[au (fun z=>np (.inr z))];exact hp,np⟩
 refine⟨fun i m σ' H'=>m=l.length - i∧i≤l.length∧∃ (ys:List V) (zs:List PV) (ρ':ao) (n':Nat),ys.length≤100 * i∧H' D=some (.lst ys)∧aO G.B O' H' zs ys∧ES G' O' H' σ' ρ' n'∧Ext G.B H1 H'∧IT H'∧
  (mI bd tt mi2 bd2 tt2 te (l.drop i) ρ').wp n' (fun t k=>R (zs++t) k),⟨l.length,by simp,HJ _,[],[],gN js ρ,n1,Hn _,ay,.nil,?_,Ext.new hD _,it0 k0 dz,?_⟩,?_⟩
 ·have er:=mY s1.er js
  refine⟨⟨er.1,fun i e he=>?_⟩,⟨Bg.new s1.ok hD _,[],ay⟩,fun p z=>?_,fun p z=>?_⟩
  ·have r1:=er.2 i e he
   cases e with
   |un=>trivial
   |val y=>obtain⟨x,hx,rr⟩:=r1;exact⟨x,hx,rr.keep k0⟩
   |own t=>
    obtain⟨p,xs,hx,hp,np,hh,rr⟩:=r1
    exact⟨p,xs,hx,.inl hp,fun z=>by
     rcases z with z|z
     ·exact np z
     ·exact dz p _ hh z,by rw[au (dz p _ hh)];exact hh,rr.keep k0⟩
   |d7 t=>
    obtain⟨p,xs,hx,hp,np,hh,rr⟩:=r1
    exact⟨p,xs,hx,.inl hp,fun z=>by
     rcases z with z|z
     ·exact np z
     ·exact dz p _ hh z,by rw[au (dz p _ hh)];exact hh,rr.keep k0⟩
  ·rcases z with z|z
   ·exact .inl (s1.pr p z)
   ·exact .inr z
  ·rcases z with z|z
   ·obtain⟨o,g⟩:=s1.dm p z;exact⟨o,by rw[au (dz p o g)];exact g⟩
   ·subst z;exact⟨_,ay⟩
 ·simpa using w1
 ·rintro i m σ' H' ⟨rfl,hi,ys,zs,ρ',n',hy,hDy,rz,s',ex,it',w'⟩
  by_cases fR:i < l.length
  ·have hget:l[i]?=some l[i]:=Hd fR
   have jy:l.drop i=l[i]::l.drop (i+1):=List.drop_eq_getElem_cons fR
   rw[jy] at w'
   unfold mI at w'
   obtain⟨g1,g2⟩:=go H' i _ it' hget
   refine .inr ⟨g1,fun x H2 yl=>?_⟩
   obtain⟨e0,ok0,rx⟩:Ext G.B H' H2∧G'.ok H2 n'∧Rep G'.B O' H2 l[i] x:=by
    rcases g2 x H2 yl with⟨rfl,rx⟩|⟨T,us,vs,rfl,hT,rfl,ey,rr⟩
    ·exact⟨fun p o _ h=>.of h,s'.ok,rx⟩
    ·have e0:Ext G.B H' (upd H' T (.tup vs)):=Ext.new hT _
     refine⟨e0,Bg.new s'.ok hT _,?_⟩
     rw[ey]
     exact .tup (fun z=>by obtain⟨o,g⟩:=s'.dm T z;rw[hT] at g;cases g) ay rr.1 (rr.ext s'.B e0).2
   have DT:H2 D=some (.lst ys):=e0 D _ hBD hDy
   have s'':=s'.ext e0 ok0
   rw[M.wZ] at w'
   refine⟨G',O',ρ',n',_,l[i],s'',rx,w',fun σ2 ρ2 n2 s2 w2=>?_⟩
   rw[M.wZ] at w2
   refine⟨G',O',ρ2,n2,_,s2,w2,fun ok H4 n4 e4 ok4 w4=>?_⟩
   have D4:H4 D=some (.lst ys):=e4 D _ hBD DT
   have e04:=e0.trans e4
   have it4:IT H4:=st H' H4 it' fun p o np _ hp=>e04 p o np hp
   cases ok with
   |true=>
    simp only[if_true] at w4 ⊢
    rw[M.wZ] at w4
    refine⟨G',O',ρ2,n4,_,s2.ext e4 ok4,w4,fun l2 J2 H5 n5 e5 ok5 it5 w5=>?_⟩
    by_cases hl2:l2.length≤100
    case neg=>rw[Ih hl2] at w5;exact w5.elim
    rw[Ig hl2,M.wZ] at w5
    have D5:H5 D=some (.lst ys):=e5 D _ hBD D4
    have s5:=s2.ext (e4.trans e5) ok5
    have ex5:Ext G.B H1 H5:=ex.trans (e04.trans e5)
    have it50:IT H5:=st H4 H5 it4 fun p o np _ hp=>e5 p o np hp
    have rz5:aO G.B O' H5 zs ys:=rz.ext (.inl s1.B) (e04.trans e5)
    refine⟨fun j m σ6 H6=>m=l2.length - j∧j≤l2.length∧∃ (ys:List V) (zs:List PV) (ρ':ao) (n':Nat),ys.length≤100 * i+j∧H6 D=some (.lst ys)∧aO G.B O' H6 zs ys∧ES G' O' H6 σ6 ρ' n'∧Ext G.B H1 H6∧IT H6∧fL K G' O' false H6 l2 J2∧
     (Cy bd2 tt2 te (l2.drop j) ρ').wp n' (fun p k=>(mI bd tt mi2 bd2 tt2 te (l.drop (i+1)) p.2).wp k fun t k=>R (zs++(p.1++t)) k),⟨l2.length,by simp,HJ _,ys,zs,ρ2,n5,by lia,D5,rz5,s5,ex5,it50,it5,?_⟩,?_⟩
    ·rw[List.drop_zero]
     refine M.wp_mono w5 fun p k hk=>?_
     rw[M.wZ] at hk
     exact M.wp_mono hk fun t k' h=>h
    ·rintro j m σ6 H6 ⟨rfl,hj,ys,zs,ρ6,n6,hy6,hD6,rz6,s6,ex6,it6,in6,w6⟩
     by_cases hj2:j < l2.length
     ·have hget2:l2[j]?=some l2[j]:=Hd hj2
      rw[List.drop_eq_getElem_cons hj2] at w6
      unfold Cy at w6
      obtain⟨g3,g4⟩:=in6.go hget2
      refine .inr ⟨g3,fun x H7 yl=>?_⟩
      obtain⟨rfl,rx⟩:=g4 x H7 yl
      rw[M.wZ] at w6
      refine⟨G',O',ρ6,n6,_,l2[j],s6,rx,w6,fun σ8 ρ8 n8 s8 w8=>?_⟩
      rw[M.wZ] at w8
      refine⟨G',O',ρ8,n8,_,s8,w8,fun ok H9 n9 e9 ok9 w9=>?_⟩
      have D9:H9 D=some (.lst ys):=e9 D _ hBD hD6
      have kp: ∀ {Ha:Hp},Ext G.B H7 Ha→fL K G' O' false Ha l2 J2:=fun {Ha} e=>in6.eP (fun p o np hp=>⟨e p o (fun z=>np (z▸s6.B)) hp,np⟩) (.inr fun p xs np hp=>e p _ (fun z=>np (z▸G'.pB)) hp) fun p z=>by cases z
      have it9:IT H9:=st H7 H9 it6 fun p o np _ hp=>e9 p o np hp
      cases ok with
      |true=>
       simp only[if_true] at w9 ⊢
       rw[M.wZ] at w9
       refine⟨G',O',ρ8,n9,_,s8.ext e9 ok9,w9,fun z xa Ha na ea oka ra wa=>?_⟩
       have Da:Ha D=some (.lst ys):=ea D _ hBD D9
       rw[M.wZ] at wa
       have sa:=s8.ext (e9.trans ea) oka
       refine⟨ys,Da,by rw[HW];lia,l2.length - (j+1),by lia,rfl,hj2,ys++[xa],zs++[z],ρ8,na,by simp;lia,ay,?_,?_,?_,st H9 _ it9 fun p o np nd hp=>(ea p o np hp).to fun u e=>.of (by rw[au nd];exact e),?_,?_⟩
       ·exact((rz6.ext (.inl s1.B) (e9.trans ea)).append (.cons ra .nil)).keep (kD Ha _)
       ·exact BY G O hBD pD sa Da
       ·intro p o np hp
        exact((ex6.trans (e9.trans ea)) p o np hp).to fun u e=>.of (by rw[au (dz p o hp)];exact e)
       ·exact(kp (e9.trans ea)).keep (kD Ha _) (.inr fun p xs np hp=>by rw[au (fun z=>np (.inr z))];exact hp) fun p z=>by cases z
       ·refine M.wp_mono wa fun p k' hk=>?_
        refine M.wp_mono hk fun t k2 h2=>?_
        have h3:R (zs++((z::p.1)++t)) k2:=h2
        simpa using h3
      |false=>
       exact⟨l2.length - (j+1),by lia,rfl,hj2,ys,zs,ρ8,n9,by lia,D9,rz6.ext (.inl s1.B) e9,s8.ext e9 ok9,ex6.trans e9,it9,kp e9,w9⟩
     ·have e:j=l2.length:=by lia
      subst e
      rw[List.drop_length] at w6
      refine .inl ⟨in6.stop,l.length - (i+1),by lia,rfl,fR,ys,zs,ρ6,n6,by lia,hD6,rz6,s6,ex6,it6,?_⟩
      have w7:(mI bd tt mi2 bd2 tt2 te (l.drop (i+1)) ρ6).wp n6 fun t k=>R (zs++([]++t)) k:=w6
      exact w7
   |false=>
    exact⟨l.length - (i+1),by lia,rfl,fR,ys,zs,ρ2,n4,by lia,D4,rz.ext (.inl s1.B) e04,s2.ext e4 ok4,ex.trans e04,it4,w4⟩
  ·have e:i=l.length:=by lia
   subst e
   refine .inl ⟨iQ H' it',?_⟩
   rw[List.drop_length] at w'
   have w2:R (zs++[]) n':=w'
   rw[IE] at w2
   exact q zs ys H' n' ex s'.ok.1 hDy rz w2
theorem Cz {K:Frag} {js:List (Option Nat)} {mi:ao→M (List PV)} {bd:PV→ao→M ao} {tt:ao→M Bool} {mi2:ao→M (List PV)} {bd2:PV→ao→M ao} {tt2:ao→M Bool} {te:ao→M PV}: ∀ σ H Q,Dq φ (qB js mi bd tt mi2 bd2 tt2 te) σ H Q→zg js (vB φ K false mi) (tL φ bd) (oE φ tt) (vB φ K false mi2) (tL φ bd2) (oE φ tt2) (lB φ te) σ H Q:=fun σ H Q cy=>by
 obtain⟨G,O,ρ,n,R,s,w,q⟩:=cy
 unfold qB at w
 rw[M.wZ] at w
 refine⟨G,O,ρ,n,_,s,w,fun l J H1 n1 e1 bS it w1=>fun D hD=>?_⟩
 by_cases hl:l.length≤1000
 case neg=>rw[Ih hl] at w1;exact w1.elim
 rw[Ig hl] at w1
 have s1:=s.ext e1 bS
 have hBD:=(s1.nB hD).2
 refine Ag hD s1 hBD (fun H=>fL K (G.with D hBD) (fun p=>O p∨p=D) false H l J) (fun k0 dz=>?_) (fun H2 H3 it k=>it.eP (fun p o np hp=>⟨k p o (fun z=>np (.inl (z▸s.B))) (fun z=>np (.inr z)) hp,np⟩) (.inr fun p xs np hp=>k p _ (fun z=>np (z▸(G.with D hBD).pB)) (fun z=>np (.inr z)) hp) fun p z=>by cases z) (fun H2 i y it hi=>⟨(it.go hi).1,fun x H3 yl=>.inl ((it.go hi).2 x H3 yl)⟩) (fun H2 it=>it.stop) hl w1 fun zs ys H' n' ex ok' hDy rz w2=>q zs D ys H' n' (e1.trans ex) ok' (eW e1 bS hD) hDy rz w2
 cases it with
 |lst np hp h r=>
  exact .lst (fun z=>by
   rcases z with z|z
   ·exact np z
   ·exact dz _ _ h z) (fun z=>by cases z) (by rw[au (dz _ _ h)];exact h) (r.keep k0)
 |tup hp h r=>exact .tup (k0 _ _ hp h).2 (k0 _ _ hp h).1 (r.keep k0)
 |txt z=>exact .txt z
 |qg lo n=>exact .qg lo n
end
section
variable {X:Cx} {pos:Pos}
theorem De (L:aN X scope N js) (hc:X.calm=true) (hi:BI X target iter wi)
  (hg: ∀ s₀ H₀ ex pn,BG (cY X scope N s₀ H₀ ex pn) target g) (ht: ∀ s₀ H₀ ex pn,y3 (cY X scope N s₀ H₀ ex pn) ifs tt) (he: ∀ s₀ H₀ ex pn,BE (cY X scope N s₀ H₀ ex pn) elt te)
  (hi2: ∀ s₀ H₀ ex pn,BI (cY X scope N s₀ H₀ ex pn) t2 i2 wi2) (yW: ∀ s₀ H₀ ex pn,BG (cY X scope N s₀ H₀ ex pn) t2 g2) (ht2: ∀ s₀ H₀ ex pn,y3 (cY X scope N s₀ H₀ ex pn) f2 tt2)
  (hs2: ∀ s₀ H₀ ex pn x,foldedSetIterable i2 (cY X scope N s₀ H₀ ex pn).env x=pure x:=by intro _ _ _ _ _;rfl)
  (hs: ∀ x,foldedSetIterable iter X.env x=pure x:=by intro _;rfl):BE X (.ListComp elt [⟨target,iter,ifs,0⟩,⟨t2,i2,f2,0⟩] scope pos) (zg js wi g tt wi2 g2 tt2 te):=
 ⟨B7 L hc hi.out (fun a b c d=>(hg a b c d).out) (fun a b c d=>(ht a b c d).out) (fun a b c d=>(he a b c d).out) (fun a b c d=>(hi2 a b c d).out) (fun a b c d=>(yW a b c d).out) (fun a b c d=>(ht2 a b c d).out) hs2 hs⟩
end
section
variable {φ:du} {X:Cx} {e:Expr} {st:Stmt}
theorem CU (h:BE X e (zg js (vB φ X.K false mi) (tL φ bd) (oE φ tt) (vB φ X.K false mi2) (tL φ bd2) (oE φ tt2) (lB φ te))):EF φ X e (qB js mi bd tt mi2 bd2 tt2 te):=BE.mono h Cz
end
section
variable {φ:du} {X:Cx} {st:Stmt}
noncomputable def Bu (φ:du) (m:ao→M (List (Key×PV))):TE:=fun σ H Q=> ∃ (G:Bg φ) (O:Addr→Prop) (ρ:ao) (n:Nat) (R:List (Key×PV)→Nat→Prop),ES G O H σ ρ n∧(m ρ).wp n R∧
 ∀ (kvs:List (Key×PV)) (p:Addr) (ks:List (Key×V)) (H':Hp) (n':Nat),Ext G.B H H'→G.ok H' n'→H p=none→H' p=some (.dK ks)→bp G.B (fun q=>O q∨q=p) H' kvs ks→R kvs n'→Q (.ref p) H'
noncomputable def nL (js:List (Option Nat)) (mi:ao→M (List PV)) (bd:PV→ao→M ao) (tt:ao→M Bool) (mk mv:ao→M PV):ao→M (List (Key×PV)):=fun ρ=>(bW js mi bd tt (qq mk mv) ρ).bind fun zs=>.ret (gE ((mn zs).getD []))
theorem CZ {K:Frag} {js:List (Option Nat)} {mi:ao→M (List PV)} {bd:PV→ao→M ao} {tt:ao→M Bool} {mk mv:ao→M PV}: ∀ σ H Q,Bu φ (nL js mi bd tt mk mv) σ H Q→Fo js (vB φ K false mi) (tL φ bd) (oE φ tt) (lB φ mk) (lB φ mv) σ H Q:=fun σ H Q cy=>by
 obtain⟨G,O,ρ,n,R,s,w,q⟩:=cy
 unfold nL bW at w
 rw[M.bZ,M.wZ] at w
 refine⟨G,O,ρ,n,_,s,w,fun l J H1 n1 e1 bS it w1=>fun D hD=>?_⟩
 by_cases hl:l.length≤100000
 case neg=>rw[Ih hl] at w1;exact w1.elim
 rw[Ig hl,M.wZ] at w1
 have s1:=s.ext e1 bS
 have hBD:=(s1.nB hD).2
 refine C0 hD s1 hBD (fun H=>fL K (G.vJ D hBD) (fun p=>O p∨p=D) false H l J) (fun k0 dz=>?_) (fun H2 H3 it k=>it.eP (fun p o np hp=>⟨k p o (fun z=>np (.inl (z▸s.B))) (fun z=>np (.inr z)) hp,np⟩) (.inr fun p xs np hp=>k p _ (fun z=>np (z▸(G.vJ D hBD).pB)) (fun z=>np (.inr z)) hp) fun p z=>by cases z) (fun H2 i y it hi=>⟨(it.go hi).1,fun x H3 yl=>.inl ((it.go hi).2 x H3 yl)⟩) (fun H2 it=>it.stop) hl w1 fun zs kvs ks H' n' ex ok' hDk ez rz w2=>?_
 ·cases it with
  |lst np hp h r=>
   exact .lst (fun z=>by
    rcases z with z|z
    ·exact np z
    ·exact dz _ _ h z) (fun z=>by cases z) (by rw[au (dz _ _ h)];exact h) (r.keep k0)
  |tup hp h r=>exact .tup (k0 _ _ hp h).2 (k0 _ _ hp h).1 (r.keep k0)
  |txt z=>exact .txt z
  |qg lo n=>exact .qg lo n
 ·have w3:R (gE ((mn zs).getD [])) n':=w2
  rw[ez] at w3
  exact q _ D ks H' n' (e1.trans ex) ok' (eW e1 bS hD) hDk rz w3
theorem AJ (h:BS X st (gz (Fo js (vB φ X.K false mi) (tL φ bd) (oE φ tt) (lB φ mk) (lB φ mv)) (dW k))):BS X st (gz (Bu φ (nL js mi bd tt mk mv)) (dW k)):=BS.mono h fun D σ H q=>CZ σ H _ q
noncomputable def t6 (k:Nat) (m:ao→M (List (Key×PV))):ao→M Fl:=fun ρ=>(m ρ).bind fun kvs=>.ret (.nx (ρ.set k (.d7 kvs)))
theorem vW (h:BS X st (gz (Bu φ m) (dW k))):SV φ X st (t6 k m):=BS.mono h fun D σ H cy=>by
 obtain⟨G,O0,H0,O,ρ,n,s,w⟩:=cy
 unfold t6 at w
 rw[M.wZ] at w
 exact⟨G,O,ρ,n,_,s.es,w,fun l p xs H1 n1 e1 bS hp hp' r1 w1=>w1 _ _ _ (s.FT k e1 bS hp hp' r1)⟩
end
noncomputable def ic (a:PV):List PV→Option Bool
 |[]=>some false
 |y::l=>(kr 20 y a).bind fun c=>(ic a l).bind fun d=>some (c||d)
theorem uc: ∀ {l:List PV} {c:Bool},ic a l=some c→(∀ (j:Nat) (y:PV),l[j]?=some y→∃ d,kr 20 y a=some d∧(d=true→c=true))∧(c=true→∃ (j:Nat) (y:PV),l[j]?=some y∧kr 20 y a=some true)
 |[],c,h=>⟨fun j y e=>by simp at e,fun e=>by cases h;cases e⟩
 |y::l,c,h=>by
  simp only[ic] at h
  cases h1:kr 20 y a with
  |none=>rw[h1] at h;cases h
  |some x=>
   rw[h1] at h
   cases h2:ic a l with
   |none=>rw[h2] at h;cases h
   |some d=>
    rw[h2] at h
    cases h
    obtain⟨g1,g2⟩:=uc h2
    refine⟨fun j z e=>?_,fun e=>?_⟩
    ·cases j with
     |zero=>cases e;exact⟨x,h1,fun e=>by rw[e];rfl⟩
     |succ j=>
      obtain⟨d',e1,e2⟩:=g1 j z e
      exact⟨d',e1,fun e=>by rw[e2 e,Bool.or_true]⟩
    ·cases x with
     |true=>exact⟨0,y,rfl,h1⟩
     |false=>
      obtain⟨j,z,e1,e2⟩:=g2 e
      exact⟨j+1,z,e1,e2⟩
theorem wA (h:RelV x u) (h':RelV x' u):x=x':=by
 have key: ∀ {x:V},RelV x u→(match u with| .none=>V.bX| .bool b=>.bl b| .int i _=>.int i| .str z _=>.str z| .bytes b _=>.C7 b| .float b _=>.EI b| .ref a=>.ref a| .type n=>.ty n|_=>.bX)=x:=fun {x} h=>by
  cases x with
  |bX=>cases h;rfl
  |bl b=>cases h;rfl
  |int i=>obtain⟨t,rfl⟩:=h;rfl
  |str i=>obtain⟨t,rfl⟩:=h;rfl
  |C7 i=>obtain⟨t,rfl⟩:=h;rfl
  |EI i=>obtain⟨t,rfl⟩:=h;rfl
  |ref a=>cases h;rfl
  |ty n=>cases h;rfl
 exact(key h).symm.trans (key h')
noncomputable def D7 (K:Frag) (neg:Bool):R2:=fun x y H Q=> ∃ (B:Addr) (O:Addr→Prop) (a:PV) (l:List PV) (p:Addr) (xs:List V) (c:Bool),O B∧Rep B O H a x∧y= .ref p∧(cw K H p xs∨dJ K H p xs)∧aO B O H l xs∧ic a l=some c∧Q (.bl (xor neg c)) H
section
variable {X:Cx}
open Classical in
theorem ub {pZ:List (Addr×Obj)} {σ:St} {H:Hp} {s:Shared} {B:Addr} {O:Addr→Prop} {A:Around} {a:PV} {l:List PV} {xs:List V} {aA:List Value} {x:V} {v:Value} {c:Bool} (I:Inv X pZ σ H s) (hB:O B) (r1:Rep B O H a x) (rx:RelV x v) (rl:aO B O H l xs) (vs:Vals xs aA) (e:ic a l=some c) (hu:A.units+20 < cLine):
  ∃ f:Value→Bool,(∀ w∈aA,SeqAt.EqAt A s w v (f w))∧aA.any f=c:=by
 obtain⟨g1,g2⟩:=uc e
 have hl:l.length=aA.length:=rl.1.trans vs.length
 have at1: ∀ (j:Nat) (w:Value),aA[j]?=some w→∃ y z,l[j]?=some y∧xs[j]?=some z∧Rep B O H y z∧RelV z w:=fun j w hw=>by
  have hj:j < aA.length:=(Hm.mp hw).1
  have j1:j < l.length:=by lia
  have j2:j < xs.length:=by have:=vs.length;lia
  obtain⟨u1,a1,a2⟩:=vs.get (i:=j) (x:=xs[j]) (Hd _)
  rw[hw] at a1
  cases a1
  exact⟨l[j],xs[j],Hd j1,Hd j2,rl.2 j _ _ (Hd j1) (Hd j2),a2⟩
 refine⟨fun w=>decide (∃ (j:Nat) (y:PV),aA[j]?=some w∧l[j]?=some y∧kr 20 y a=some true),fun w hw=>?_,?_⟩
 ·obtain⟨j,hj⟩:=List.mem_iff_getElem?.mp hw
  obtain⟨y,z,e1,e2,ry,rz⟩:=at1 j w hj
  obtain⟨d,ed,_⟩:=g1 j y e1
  have ans:=yi I hB 20 A y a z x w v d ry r1 rz rx ed hu
  have:decide (∃ (j:Nat) (y:PV),aA[j]?=some w∧l[j]?=some y∧kr 20 y a=some true)=d:=by
   cases d with
   |true=>exact Il ⟨j,y,hj,e1,ed⟩
   |false=>
    refine HH fun ⟨j',y',h1,h2,h3⟩=>?_
    obtain⟨y2,z2,f1,f2,ry2,rz2⟩:=at1 j' w h1
    rw[h2] at f1
    cases f1
    rw[wA rz2 rz] at ry2
    rw[ry2.uniq hB ry,ed] at h3
    cases h3
  show SeqAt.EqAt A s w v (decide _)
  rw[this]
  exact ans
 ·cases c with
  |true=>
   obtain⟨j,y,e1,e2⟩:=g2 rfl
   have hj:j < aA.length:=by have:=(Hm.mp e1).1;lia
   rw[List.any_eq_true]
   exact⟨aA[j],HZ hj,Il ⟨j,y,Hd hj,e1,e2⟩⟩
  |false=>
   rw[List.any_eq_false]
   intro w hw
   simp only[IA]
   rintro⟨j,y,h1,h2,h3⟩
   obtain⟨d,ed,h⟩:=g1 j y h2
   rw[h3] at ed
   cases ed
   cases h rfl
theorem xn (hU:X.A.units+64 < cLine):fK X (compareOp .In) (D7 X.K false):=by
 intro pZ s σ H x y v u Q I rx ry h
 obtain⟨B,O,a,l,p,xs,c,hB,r1,rfl,hq,rl,e,q⟩:=h
 cases ry
 rw[Bool.false_xor] at q
 rcases hq with hq|hq
 ·obtain⟨aA,r,pl,hz⟩:=I.list hq
  obtain⟨f,h1,h2⟩:=ub (A:=X.A.in1) I hB r1 rx rl r e (by show X.A.units+1+20 < cLine;lia)
  refine SeqAt.in_listAt f pl.isList (fun w hw=>h1 w (by simpa using hw)) ⟨.bl _,H,I,rfl,?_⟩
  rw[show aA.toArray.any f=aA.any f by simp,h2]
  exact q
 ·obtain⟨aA,r,pl,hz⟩:=I.tuple hq
  obtain⟨f,h1,h2⟩:=ub (A:=X.A.in1) I hB r1 rx rl r e (by show X.A.units+1+20 < cLine;lia)
  refine SeqAt.in_tupleAt f pl (fun w hw=>h1 w (by simpa using hw)) ⟨.bl _,H,I,rfl,?_⟩
  rw[show aA.toArray.any f=aA.any f by simp,h2]
  exact q
end
noncomputable def An (neg:Bool):PV→PV→M PV
 |a,.lst l=>(M.eV (ic a l)).bind fun c=>.ret (.bl (xor neg c))
 |a,.tup l=>(M.eV (ic a l)).bind fun c=>.ret (.bl (xor neg c))
 |_,_=>.fail
theorem xj {K:Frag} (neg:Bool):oB (D7 K neg) (An neg):=fun φ G O H n R Q y z x x' pr dm ok r1 r2 w q=>by
 have r2':=r2.low pr
 cases r2' with
 | @lst p xs l hO h hl hr=>
  have w':((M.eV (ic y l)).bind fun c=>M.ret (.bl (xor neg c))).wp n R:=w
  cases e:ic y l with
  |none=>rw[e] at w';exact w'.elim
  |some c=>rw[e] at w';exact⟨G.B,G.cP,y,l,p,xs,c,G.pB,r1.low pr,rfl,.inl (cw.of h),⟨hl,hr⟩,e,q.sc ok (.bl _) w'⟩
 | @tup p xs l hO h hl hr=>
  have w':((M.eV (ic y l)).bind fun c=>M.ret (.bl (xor neg c))).wp n R:=w
  cases e:ic y l with
  |none=>rw[e] at w';exact w'.elim
  |some c=>rw[e] at w';exact⟨G.B,G.cP,y,l,p,xs,c,G.pB,r1.low pr,rfl,.inr (dJ.of h),⟨hl,hr⟩,e,q.sc ok (.bl _) w'⟩
 |_=>exact w.elim
end L2
section
namespace Cl
section
variable {α : Type} [DecidableEq α]
inductive In (own : α → Prop) (ask : α → α → Prop) : α → Prop where
  | own {w : α} (h : own w) : In own ask w
  | ask {w u : α} (h : ask w u) (g : In own ask u) : In own ask w
theorem yQ {own : α → Prop} {ask : α → α → Prop} {f : List α} (h0 : ∀ w, own w → w ∈ f) (h1 : ∀ w u, ask w u → u ∈ f → w ∈ f) : ∀ w, In own ask w → w ∈ f := fun w h => by
  induction h with
  | own h => exact h0 _ h
  | ask h _ ih => exact h1 _ _ h ih
noncomputable def ins (f : List α) (w : α) : List α := if w ∈ f then f else f ++ [w]
theorem lN {f : List α} {w x : α} : x ∈ ins f w ↔ x ∈ f ∨ x = w := by
  unfold ins
  split
  · rename_i h
    exact ⟨.inl, fun z => z.elim id fun e => e ▸ h⟩
  · simp
theorem sM {f : List α} {w : α} (h : f.Nodup) : (ins f w).Nodup := by
  unfold ins
  split
  · exact h
  · rename_i hw
    rw [List.nodup_append]
    exact ⟨h, by simp, fun a ha b hb e => hw (by rw [HK.mp hb] at e; exact e ▸ ha)⟩
theorem Al {f : List α} {w : α} : f.length ≤ (ins f w).length := by
  unfold ins
  split <;> simp
theorem xR {f : List α} {w : α} (h : (ins f w).length = f.length) : w ∈ f := by
  unfold ins at h
  split at h
  · assumption
  · simp at h
noncomputable def iQ (f : List α) (p : α × Option α) : List α := match p.2 with
  | some u => if u ∈ f then ins f p.1 else f
  | none => f
noncomputable def pass (ps : List (α × Option α)) (f : List α) : List α := ps.foldl iQ f
theorem vZ {f : List α} {p : α × Option α} : f.length ≤ (iQ f p).length := by
  unfold iQ
  split
  · split
    · exact Al
    · exact Hn _
  · exact Hn _
theorem BF {f : List α} {p : α × Option α} (h : f.Nodup) : (iQ f p).Nodup := by
  unfold iQ
  split
  · split
    · exact sM h
    · exact h
  · exact h
theorem zo {f : List α} {p : α × Option α} {x : α} (h : x ∈ f) : x ∈ iQ f p := by
  unfold iQ
  split
  · split
    · exact lN.mpr (.inl h)
    · exact h
  · exact h
theorem zm {f : List α} {p : α × Option α} {x : α} (h : x ∈ iQ f p) : x ∈ f ∨ ∃ u, p.2 = some u ∧ u ∈ f ∧ x = p.1 := by
  unfold iQ at h
  split at h
  · rename_i u e
    split at h
    · rename_i hu
      exact (lN.mp h).imp id fun z => ⟨u, e, hu, z⟩
    · exact .inl h
  · exact .inl h
theorem vX {f : List α} {p : α × Option α} (h : (iQ f p).length = f.length) : iQ f p = f ∧ ∀ u, p.2 = some u → u ∈ f → p.1 ∈ f := by
  unfold iQ at h ⊢
  split at h
  · rename_i u e
    split at h
    · rename_i hu
      have := xR h
      refine ⟨?_, fun v ev _ => this⟩
      rw [Ig hu]
      unfold ins
      rw [Ig this]
    · rename_i hu
      refine ⟨Ih hu, fun v ev hv => ?_⟩
      rw [e] at ev
      exact absurd hv (by rw [← Ik ev]; exact hu)
  · rename_i e
    exact ⟨rfl, fun u eu _ => by rw [e] at eu; cases eu⟩
theorem lJ : ∀ (ps : List (α × Option α)) (f : List α), f.length ≤ (pass ps f).length
  | [], f => Hn _
  | p :: r, f => HD vZ (lJ r (iQ f p))
theorem t5 : ∀ (ps : List (α × Option α)) {f : List α}, f.Nodup → (pass ps f).Nodup
  | [], f, h => h
  | p :: r, f, h => t5 r (BF h)
theorem qp : ∀ (ps : List (α × Option α)) {f : List α} {x : α}, x ∈ f → x ∈ pass ps f
  | [], f, x, h => h
  | p :: r, f, x, h => qp r (zo h)
theorem oR {own : α → Prop} {ask : α → α → Prop} : ∀ (ps : List (α × Option α)) {f : List α}, (∀ p ∈ ps, ∀ u, p.2 = some u → ask p.1 u) → (∀ x ∈ f, In own ask x) → ∀ x ∈ pass ps f, In own ask x
  | [], f, _, h, x, hx => h x hx
  | p :: r, f, ha, h, x, hx => oR r (fun q hq => ha q (Hj _ hq)) (fun y hy => by
      rcases zm hy with z | ⟨u, e, hu, rfl⟩
      · exact h y z
      · exact .ask (ha p Hf u e) (h u hu)) x hx
theorem j6 : ∀ (ps : List (α × Option α)) {f : List α}, (pass ps f).length = f.length → pass ps f = f ∧ ∀ p ∈ ps, ∀ u, p.2 = some u → u ∈ f → p.1 ∈ f
  | [], f, _ => ⟨rfl, fun p hp => by cases hp⟩
  | p :: r, f, h => by
    have h' : (pass r (iQ f p)).length = f.length := h
    have a := lJ r (iQ f p)
    have b : f.length ≤ (iQ f p).length := vZ
    have e1 : (iQ f p).length = f.length := by omega
    obtain ⟨e, g⟩ := vX e1
    have e2 : (pass r (iQ f p)).length = (iQ f p).length := by omega
    obtain ⟨q1, q2⟩ := j6 r e2
    rw [e] at q1 q2
    refine ⟨?_, fun q hq => ?_⟩
    · show pass r (iQ f p) = f
      rw [e]
      exact q1
    · rcases Hr.mp hq with rfl | hq
      · exact g
      · exact q2 q hq
theorem xf {own : α → Prop} {ask : α → α → Prop} {ps : List (α × Option α)} {f : List α} (h0 : ∀ w, own w → w ∈ f) (ha : ∀ w u, ask w u → (w, some u) ∈ ps) (h : (pass ps f).length = f.length) : ∀ w, In own ask w → w ∈ f :=
  yQ h0 fun w u a hu => (j6 ps h).2 _ (ha w u a) u rfl hu
noncomputable def qh (ask : α → α → Bool) (u : α) (names f : List α) : List α := names.foldl (fun f w => if ask w u = true then ins f w else f) f
theorem tQ (ask : α → α → Bool) (u : α) : ∀ (names f : List α), ∃ g, qh ask u names f = f ++ g
  | [], f => ⟨[], by simp [qh]⟩
  | w :: r, f => by
    have step : ∃ g, (if ask w u = true then ins f w else f) = f ++ g := by
      by_cases h : ask w u = true
      · rw [Ig h]
        unfold ins
        split
        · exact ⟨[], by simp⟩
        · exact ⟨[w], rfl⟩
      · rw [Ih h]
        exact ⟨[], by simp⟩
    obtain ⟨g, e⟩ := step
    obtain ⟨g', e'⟩ := tQ ask u r (f ++ g)
    exact ⟨g ++ g', by show qh ask u r (if ask w u = true then ins f w else f) = _; rw [e, e', List.append_assoc]⟩
theorem jo (ask : α → α → Bool) (u : α) : ∀ (names f : List α) (x : α), x ∈ qh ask u names f ↔ x ∈ f ∨ (x ∈ names ∧ ask x u = true)
  | [], f, x => by simp [qh]
  | w :: r, f, x => by
    show x ∈ qh ask u r (if ask w u = true then ins f w else f) ↔ _
    rw [jo ask u r]
    by_cases h : ask w u = true
    · rw [Ig h, lN]
      constructor
      · rintro ((z | z) | ⟨z, y⟩)
        · exact .inl z
        · exact .inr ⟨by simp [z], z ▸ h⟩
        · exact .inr ⟨Hj _ z, y⟩
      · rintro (z | ⟨z, y⟩)
        · exact .inl (.inl z)
        · rcases Hr.mp z with z | z
          · exact .inl (.inr z)
          · exact .inr ⟨z, y⟩
    · rw [Ih h]
      constructor
      · rintro (z | ⟨z, y⟩)
        · exact .inl z
        · exact .inr ⟨Hj _ z, y⟩
      · rintro (z | ⟨z, y⟩)
        · exact .inl z
        · rcases Hr.mp z with z | z
          · exact absurd (z ▸ y) h
          · exact .inr ⟨z, y⟩
theorem wx (ask : α → α → Bool) (u : α) : ∀ (names f : List α), f.Nodup → (qh ask u names f).Nodup
  | [], f, h => h
  | w :: r, f, h => by
    show (qh ask u r (if ask w u = true then ins f w else f)).Nodup
    refine wx ask u r _ ?_
    split
    · exact sM h
    · exact h
structure St (own : α → Prop) (ask : α → α → Bool) (names f : List α) (k : Nat) : Prop where
  nd : f.Nodup
  sub : ∀ x ∈ f, x ∈ names
  cl : ∀ x ∈ f, In own (fun w u => w ∈ names ∧ ask w u = true) x
  ow : ∀ x, own x → x ∈ f
  le : k ≤ f.length
  dn : ∀ (i : Nat) (u : α), i < k → f[i]? = some u → ∀ w ∈ names, ask w u = true → w ∈ f
theorem St.next {own : α → Prop} {ask : α → α → Bool} {names f : List α} {k : Nat} (s : St own ask names f k) {u : α} (hu : f[k]? = some u) : St own ask names (qh ask u names f) (k + 1) := by
  obtain ⟨g, e⟩ := tQ ask u names f
  have hk : k < f.length := (Hm.mp hu).1
  have mu : u ∈ f := List.mem_of_getElem? hu
  refine ⟨wx ask u names f s.nd, fun x hx => ?_, fun x hx => ?_, fun x hx => (jo ask u names f x).mpr (.inl (s.ow x hx)), by rw [e, HI]; omega, fun i v hi hv w hw ha => ?_⟩
  · rcases (jo ask u names f x).mp hx with z | z
    · exact s.sub x z
    · exact z.1
  · rcases (jo ask u names f x).mp hx with z | z
    · exact s.cl x z
    · exact .ask z (s.cl u mu)
  · rw [e, HX (by omega)] at hv
    rw [jo]
    by_cases c : i = k
    · subst c
      rw [hu] at hv
      exact .inr ⟨hw, (Ik hv) ▸ ha⟩
    · exact .inl (s.dn i v (by omega) hv w hw ha)
theorem St.all {own : α → Prop} {ask : α → α → Bool} {names f : List α} {k : Nat} (s : St own ask names f k) (h : ¬ k < f.length) (w : α) : w ∈ f ↔ In own (fun w u => w ∈ names ∧ ask w u = true) w :=
  ⟨s.cl w, yQ s.ow (fun w u a hu => by
    obtain ⟨i, hi, e⟩ := List.getElem_of_mem hu
    exact s.dn i u (by omega) (by rw [Hd hi, e]) w a.1 a.2) w⟩
end
end Cl
end
namespace K54
open L2
open L2.Ent (val un)
noncomputable def top (i : Nat) : Stmt := PySem.Challenge.pw_homeslopes_k54_reach.main.body.getD i (.Pass ⟨0, 0, 0, 0⟩)
abbrev bH : Stmt := top 1
theorem hV : ba ["hill", "book", "page", "other"] ["hill", "book", "page"] (ak bH) := ⟨rfl, rfl, rfl, by decide +kernel, rfl, by decide +kernel, by decide +kernel⟩
abbrev eK : Stmt := top 2
theorem we : ba ["book"] ["book"] (ak eK) := ⟨rfl, rfl, rfl, by decide +kernel, rfl, by decide +kernel, by decide +kernel⟩
abbrev aW : Stmt := top 3
theorem eS : ba ["pairs", "page", "word", "name"] ["pairs", "page"] (ak aW) := ⟨rfl, rfl, rfl, by decide +kernel, rfl, by decide +kernel, by decide +kernel⟩
abbrev cM : Stmt := top 4
theorem d6 : ba ["book", "page", "pairs", "found", "before", "w", "rule"] ["book", "page"] (ak cM) := ⟨rfl, rfl, rfl, by decide +kernel, rfl, by decide +kernel, by decide +kernel⟩
abbrev fh : Stmt := top 5
theorem wg : ba ["hill", "book", "page"] ["hill", "book", "page"] (ak fh) := ⟨rfl, rfl, rfl, by decide +kernel, rfl, by decide +kernel, by decide +kernel⟩
abbrev cR : Stmt := top 7
theorem cC : ba ["_law_script", "_law_digits", "_law_cell", "_law_seed", "_law_k"] ["_law_script"] (ak cR) := ⟨rfl, rfl, rfl, by decide +kernel, rfl, by decide +kernel, by decide +kernel⟩
abbrev eU : Stmt := top 8
theorem fO : ba ["_law_state", "_law_many", "_law_found", "_law_far"] ["_law_state", "_law_many"] (ak eU) := ⟨rfl, rfl, rfl, by decide +kernel, rfl, by decide +kernel, by decide +kernel⟩
abbrev bM : Stmt := top 9
theorem fN : ba ["_law_state", "_law_taken", "_law_letters", "_law_size", "_law_word_here"] ["_law_state", "_law_taken"] (ak bM) := ⟨rfl, rfl, rfl, by decide +kernel, rfl, by decide +kernel, by decide +kernel⟩
abbrev cc : Stmt := top 10
theorem gC : ba ["_law_state", "_law_many", "_law_found", "_law_k"] ["_law_state", "_law_many"] (ak cc) := ⟨rfl, rfl, rfl, by decide +kernel, rfl, by decide +kernel, by decide +kernel⟩
abbrev cn : Stmt := top 11
theorem dv : ba ["_law_state", "_law_most", "_law_scale", "_law_spots", "_law_names", "_law_ways", "_law_name", "_law_kind", "_law_ends"] ["_law_state", "_law_most", "_law_scale"] (ak cn) := ⟨rfl, rfl, rfl, by decide +kernel, rfl, by decide +kernel, by decide +kernel⟩
abbrev bP : Stmt := top 12
theorem nh : ba ["_law_state", "_law_hill_here", "_law_scale"] ["_law_state", "_law_hill_here", "_law_scale"] (ak bP) := ⟨rfl, rfl, rfl, by decide +kernel, rfl, by decide +kernel, by decide +kernel⟩
abbrev cE : Stmt := top 13
theorem eh : ba ["_law_state", "_law_hill_here", "_law_posts", "_law_scale", "_law_way", "_law_post", "_law_value", "_law_first", "_law_last", "_law_other"] ["_law_state", "_law_hill_here", "_law_posts", "_law_scale"] (ak cE) := ⟨rfl, rfl, rfl, by decide +kernel, rfl, by decide +kernel, by decide +kernel⟩
abbrev bz : Stmt := top 14
theorem fY : ba ["_law_state", "_law_taken", "_law_number_here", "_law_some"] ["_law_state", "_law_taken"] (ak bz) := ⟨rfl, rfl, rfl, by decide +kernel, rfl, by decide +kernel, by decide +kernel⟩
abbrev bJ : Stmt := top 15
theorem bx : ba ["_law_state", "_law_hill_here", "_law_scale", "_law_many", "_law_posts", "_law_slopes", "_law_pages_here", "_law_taken", "_law_k", "_law_kind", "_law_moment_here", "_law_name", "_law_size", "_law_rules", "_law_value"] ["_law_state", "_law_hill_here", "_law_scale", "_law_many"] (ak bJ) := ⟨rfl, rfl, rfl, by decide +kernel, rfl, by decide +kernel, by decide +kernel⟩
abbrev cp : Stmt := top 16
theorem qf : ba ["_law_pages_here"] ["_law_pages_here"] (ak cp) := ⟨rfl, rfl, rfl, by decide +kernel, rfl, by decide +kernel, by decide +kernel⟩
abbrev bw : Stmt := top 17
theorem d5 : ba ["_law_pages_here", "_law_w", "_law_found", "_law_page"] ["_law_pages_here", "_law_w"] (ak bw) := ⟨rfl, rfl, rfl, by decide +kernel, rfl, by decide +kernel, by decide +kernel⟩
abbrev cA : Stmt := top 18
theorem mf : ba ["_law_rest", "_law_page", "_law_w", "_law_rules"] ["_law_rest", "_law_page", "_law_w"] (ak cA) := ⟨rfl, rfl, rfl, by decide +kernel, rfl, by decide +kernel, by decide +kernel⟩
abbrev bU : Stmt := top 19
theorem dw : ba ["_law_hill_here", "_law_rest", "_law_page", "_law_names", "_law_found", "_law_at", "_law_w", "_law_further"] ["_law_hill_here", "_law_rest", "_law_page"] (ak bU) := ⟨rfl, rfl, rfl, by decide +kernel, rfl, by decide +kernel, by decide +kernel⟩
abbrev gk : Stmt := top 20
theorem gD : ba ["_law_script", "_law_state", "_law_scale", "_law_hill_here", "_law_pages_here", "_law_at", "_law_page", "_law_rest"] ["_law_script"] (ak gk) := ⟨rfl, rfl, rfl, by decide +kernel, rfl, by decide +kernel, by decide +kernel⟩
structure Txt (K : Frag) (mg : Str → Option Value) (a_next_moment a_ruled a_hang_straight a_hanging a_reach awstart awpick awword awwords awhill awmoment awrule awnumber awpages awbook awrules_of awown awdue a_law cb_law_book tb_law_book : Addr) (d_next_moment d_ruled d_hang_straight d_hanging d_reach dwstart dwpick dwword dwwords dwhill dwmoment dwrule dwnumber dwpages dwbook dwrules_of dwown dwdue d_law : FuncData) : Prop where
  cj : jT K "next_moment" "next_moment" bH a_next_moment d_next_moment
  dh : mg "next_moment" = some (.ref a_next_moment)
  nA : Binds K d_next_moment ["hill", "book", "page"] []
  fU : jT K "ruled" "ruled" eK a_ruled d_ruled
  iF : mg "ruled" = some (.ref a_ruled)
  AH : Binds K d_ruled ["book"] []
  bK : jT K "hang_straight" "hang_straight" aW a_hang_straight d_hang_straight
  cB : mg "hang_straight" = some (.ref a_hang_straight)
  ly : Binds K d_hang_straight ["pairs", "page"] []
  eC : jT K "hanging" "hanging" cM a_hanging d_hanging
  fE : mg "hanging" = some (.ref a_hanging)
  vv : Binds K d_hanging ["book", "page"] []
  dM : jT K "reach" "reach" fh a_reach d_reach
  gI : mg "reach" = some (.ref a_reach)
  uB : Binds K d_reach ["hill", "book", "page"] []
  kX : jT K "_law_start" "_law_start" cR awstart dwstart
  qG : mg "_law_start" = some (.ref awstart)
  rf : Binds K dwstart ["_law_script"] []
  af : jT K "_law_pick" "_law_pick" eU awpick dwpick
  aC : mg "_law_pick" = some (.ref awpick)
  aD : Binds K dwpick ["_law_state", "_law_many"] []
  dC : jT K "_law_word" "_law_word" bM awword dwword
  eX : mg "_law_word" = some (.ref awword)
  tm : Binds K dwword ["_law_state", "_law_taken"] []
  bE : jT K "_law_words" "_law_words" cc awwords dwwords
  cS : mg "_law_words" = some (.ref awwords)
  ir : Binds K dwwords ["_law_state", "_law_many"] []
  dD : jT K "_law_hill" "_law_hill" cn awhill dwhill
  fb : mg "_law_hill" = some (.ref awhill)
  tw : Binds K dwhill ["_law_state", "_law_most", "_law_scale"] []
  cb : jT K "_law_moment" "_law_moment" bP awmoment dwmoment
  dI : mg "_law_moment" = some (.ref awmoment)
  pN : Binds K dwmoment ["_law_state", "_law_hill_here", "_law_scale"] []
  cX : jT K "_law_rule" "_law_rule" cE awrule dwrule
  eZ : mg "_law_rule" = some (.ref awrule)
  tu : Binds K dwrule ["_law_state", "_law_hill_here", "_law_posts", "_law_scale"] []
  bY : jT K "_law_number" "_law_number" bz awnumber dwnumber
  dH : mg "_law_number" = some (.ref awnumber)
  pM : Binds K dwnumber ["_law_state", "_law_taken"] []
  cV : jT K "_law_pages" "_law_pages" bJ awpages dwpages
  eA : mg "_law_pages" = some (.ref awpages)
  rg : Binds K dwpages ["_law_state", "_law_hill_here", "_law_scale", "_law_many"] []
  dE : jT K "_law_book" "_law_book" cp awbook dwbook
  fe : mg "_law_book" = some (.ref awbook)
  tx : Binds K dwbook ["_law_pages_here"] []
  aZ : jT K "_law_rules_of" "_law_rules_of" bw awrules_of dwrules_of
  cq : mg "_law_rules_of" = some (.ref awrules_of)
  iu : Binds K dwrules_of ["_law_pages_here", "_law_w"] []
  dN : jT K "_law_own" "_law_own" cA awown dwown
  fD : mg "_law_own" = some (.ref awown)
  vt : Binds K dwown ["_law_rest", "_law_page", "_law_w"] []
  ck : jT K "_law_due" "_law_due" bU awdue dwdue
  fc : mg "_law_due" = some (.ref awdue)
  ou : Binds K dwdue ["_law_hill_here", "_law_rest", "_law_page"] []
  Fe : jT K "law" "law" gk a_law d_law
  kL : mg "law" = some (.ref a_law)
  GO : Binds K d_law ["_law_script"] []
  iR : mg "len" = none
  Ex : mg "abs" = none
  Ew : mg "any" = none
  Ct : mg "list" = none
  iG : mg "range" = none
  A4 : mg "int" = none
  jt : mg "tuple" = none
  xE : mg "max" = none
  A3 : mg "min" = none
  ju : mg "sorted" = none
  kM : mg "enumerate" = none
  sC : mg "reversed" = none
  o4 : mg "repr" = none
  m6 : yS K "_law_book" "_law_book" cp awbook dwbook cb_law_book tb_law_book
abbrev cH (tb_law_book : Addr) (K : Frag) : du := sS K [(tb_law_book, (("_law_book" : Str) ++ ".<locals>." ++ "<lambda>"))]
theorem B3 {i : Int} (h0 : 0 ≤ i) (h1 : i < 2 ^ 80) : (0 : Int) ≤ 3 ∧ (Builtin.Int.intBits i : Int) * 3 ≤ 2 ^ 27 := by
  have h2 : i.natAbs < 2 ^ 80 := by
    have e : (2 : Int) ^ 80 = ((2 ^ 80 : Nat) : Int) := by decide
    rw [e] at h1
    omega
  have := intBits_le h2
  refine ⟨by decide, ?_⟩
  have e : (2 : Int) ^ 27 = 134217728 := by decide
  rw [e]
  omega
theorem zH {i : Int} (h0 : 0 ≤ i) (h1 : i < 2 ^ 80) : (0 : Int) ≤ 5 ∧ (Builtin.Int.intBits i : Int) * 5 ≤ 2 ^ 27 := by
  have h2 : i.natAbs < 2 ^ 80 := by
    have e : (2 : Int) ^ 80 = ((2 ^ 80 : Nat) : Int) := by decide
    rw [e] at h1
    omega
  have := intBits_le h2
  refine ⟨by decide, ?_⟩
  have e : (2 : Int) ^ 27 = 134217728 := by decide
  rw [e]
  omega
theorem kc {i j : Int} (h0 : 0 ≤ j) (h1 : j < 2 ^ 63) : kI i j := by
  have e : (2 : Int) ^ 63 = 9223372036854775808 := by decide
  have e2 : (2 : Int) ^ 64 = 18446744073709551616 := by decide
  rw [e] at h1
  exact .inr ⟨by rw [e2]; omega, by rw [e2]; omega⟩
theorem gH {i j : Int} (h0 : 0 ≤ i) (h1 : i < 2 ^ 63) : kI i j := by
  have e : (2 : Int) ^ 63 = 9223372036854775808 := by decide
  have e2 : (2 : Int) ^ 64 = 18446744073709551616 := by decide
  rw [e] at h1
  exact .inl ⟨by rw [e2]; omega, by rw [e2]; omega⟩
theorem Ey {i : Int} (h : i < 1208925819614629174706176) : i < 2 ^ 80 := by
  have e : (2 : Int) ^ 80 = 1208925819614629174706176 := by decide
  rw [e]; exact h
theorem zU {P : Program} {w : World} {K : Frag} {mg : Str → Option Value} {base : Heap} {a_next_moment a_ruled a_hang_straight a_hanging a_reach awstart awpick awword awwords awhill awmoment awrule awnumber awpages awbook awrules_of awown awdue a_law cb_law_book tb_law_book : Addr} {d_next_moment d_ruled d_hang_straight d_hanging d_reach dwstart dwpick dwword dwwords dwhill dwmoment dwrule dwnumber dwpages dwbook dwrules_of dwown dwdue d_law : FuncData} (T : Txt K mg a_next_moment a_ruled a_hang_straight a_hanging a_reach awstart awpick awword awwords awhill awmoment awrule awnumber awpages awbook awrules_of awown awdue a_law cb_law_book tb_law_book d_next_moment d_ruled d_hang_straight d_hanging d_reach dwstart dwpick dwword dwwords dwhill dwmoment dwrule dwnumber dwpages dwbook dwrules_of dwown dwdue d_law) : bu P w K mg base dF 1 awpick dwpick ["_law_state", "_law_many"] v5 := by
  refine T.af.ok fO (fun vs H Q E h => ?_) (fun eF A outer s H vs Q E hr h => ?_)
  · obtain ⟨a, n, m, rfl, _⟩ := h
    rfl
  obtain ⟨a, n, m, rfl, pik, hn, hm0, hm1, q⟩ := h
  obtain ⟨d, sd, k, e1, d0, s0, s1, k0, k1⟩ := pik.ex
  have fin : ∀ d' k' : Int, 0 ≤ d' → 0 ≤ k' → k' ≤ n + 1 → E2 (upd H a (.lst [.int d', .int sd, .int k'])) a (n + 1) := fun d' k' h1 h2 h3 => ⟨d', sd, k', ay, h1, s0, s1, h2, by omega⟩
  refine ⟨_, (cZ (wN (lF xq (h8 fB (pv 0) aX (fun _ _ => rfl)) aX (bq _)) (cZ (hZ (i := 2) fO.nd rfl (Or.inl rfl) (cf f6 (h8 fB (pv 0) aX (fun _ _ => rfl)) (pv 1)))
    (cZ (rX (cf oV (h8 fB (pv 0) aX (fun _ _ => rfl)) (pv 1)) (wW (pv 0) aX set_list))
    (gF (oP (pv 2))))) oO)
    (cZ (rX (cf gG (h8 fB (pv 0) aX (fun _ _ => rfl)) aX) (wW (pv 0) aX set_list))
    (cZ (hZ (i := 3) fO.nd rfl (Or.inl rfl) (cf f6 (cf jr (cf gG (h8 fB (pv 0) aX (fun _ _ => rfl)) (cf j8 aX (h8 fB (pv 0) aX (fun _ _ => rfl)))) aX) aX))
    (cZ (hZ (i := 3) fO.nd rfl (Or.inl rfl) (cf f6 (cf j8 (cf gG (pv 3) (cf j8 aX (h8 fB (pv 0) aX (fun _ _ => rfl)))) (cf gG (cf f6 (pv 3) aX) aX)) aX))
    (gF (oP (cf f6 (cf gG (cf oV (pv 3) aX) (cf oV (pv 3) aX)) (pv 1)))))))), ?_⟩
  refine ⟨_, rfl, a, _, _, _, rfl, rfl, cw.of e1, rfl, _, _, rfl, rfl, _, rfl, ?_⟩
  refine CL (fun c1 => ?_) (fun c1 => ?_)
  · refine ⟨_, rfl, a, _, _, _, rfl, rfl, cw.of e1, rfl, _, rfl, _, _, rfl, rfl, hm0, ?_⟩
    refine ⟨_, rfl, a, _, _, _, rfl, rfl, cw.of e1, rfl, _, rfl, _, _, rfl, rfl, ⟨hm0, hm1⟩, ?_⟩
    refine ⟨_, rfl, a, _, _, _, rfl, rfl, e1, rfl, ?_⟩
    refine ⟨_, rfl, ?_⟩
    exact q _ _ (Iy _ (by omega)) (Iw _ hm0) (fin _ _ (Int.ediv_nonneg d0 (by omega)) k0 (by omega))
  · refine ⟨_, rfl, a, _, _, _, rfl, rfl, cw.of e1, rfl, _, _, rfl, rfl, _, rfl, a, _, _, _, rfl, rfl, e1, rfl, ?_⟩
    refine ⟨_, rfl, a, _, _, _, rfl, rfl, cw.of ay, rfl, _, rfl, a, _, _, _, rfl, rfl, cw.of ay, rfl, _, _, rfl, rfl, gH (by decide) (by decide), _, _, rfl, rfl, _, _, rfl, rfl, B3 (by omega) (Ey (by omega)), _, _, rfl, rfl, (by show (0 : Int) < _; decide), ?_⟩
    refine ⟨_, rfl, _, rfl, a, _, _, _, rfl, rfl, cw.of ay, rfl, _, _, rfl, rfl, gH (by decide) (by decide), _, _, rfl, rfl, _, rfl, _, _, rfl, rfl, (by show (0 : Int) < _; decide), _, _, rfl, rfl, _, _, rfl, rfl, kc ?_ ?_, _, _, rfl, rfl, (by show (0 : Int) < _; decide), ?_⟩
    · have := Iy (((sd + 982451653 * (k + 1)) ^ (3 : Int).toNat) % 2305843009213693921) (show (179424673 : Int) ≠ 0 by decide)
      omega
    · have := Iw (((sd + 982451653 * (k + 1)) ^ (3 : Int).toNat) % 2305843009213693921) (show (0 : Int) < 179424673 by decide)
      have e : (2 : Int) ^ 63 = 9223372036854775808 := by decide
      rw [e]
      omega
    · refine ⟨_, rfl, _, _, rfl, rfl, ⟨by decide, by decide⟩, _, rfl, _, _, rfl, rfl, ⟨by decide, by decide⟩, _, _, rfl, rfl, _, rfl, _, _, rfl, rfl, hm0, ?_⟩
      exact q _ _ (Iy _ (by omega)) (Iw _ hm0) (fin d (k + 1) d0 (by omega) (by omega))
theorem yB (ns : List Int) : jK (ns.map V.int) none (some 63) = (ns.take 63).map V.int := by
  unfold jK
  rw [HT.hW]
  have e : HT.dq (ns.map V.int).length (ns.map V.int).length (some 63) = min 63 (ns.map V.int).length := HT.jn _ _ 63
  rw [e, List.drop_zero, Nat.sub_zero, Hg, ← List.map_take]
  congr 1
  rw [List.take_eq_take_iff]
  omega
theorem Gs (ns : List Int) : jK (ns.map V.int) none (some 1) = (ns.take 1).map V.int := by
  unfold jK
  rw [HT.hW]
  have e : HT.dq (ns.map V.int).length (ns.map V.int).length (some 1) = min 1 (ns.map V.int).length := HT.jn _ _ 1
  rw [e, List.drop_zero, Nat.sub_zero, Hg, ← List.map_take]
  congr 1
  rw [List.take_eq_take_iff]
  omega
theorem AG {d : Int} {i : Nat} (h0 : 0 ≤ d) (h1 : d < (10 ^ (60 : Int).toNat : Int) ^ i) (hi : i ≤ 63) : Builtin.Int.intBits d ≤ 2 ^ 20 := by
  have e1 : d.natAbs < (2 ^ 200) ^ i := by
    have e2 : (10 ^ (60 : Int).toNat : Int) = ((10 ^ 60 : Nat) : Int) := by decide +kernel
    rw [e2, ← Int.natCast_pow] at h1
    have h2 : d.natAbs < (10 ^ 60) ^ i := by
      have := Int.natAbs_of_nonneg h0
      rw [← this] at h1
      exact Int.ofNat_lt.mp h1
    exact HF h2 (Nat.pow_le_pow_left (by decide +kernel) i)
  rw [← Nat.pow_mul] at e1
  have := intBits_le e1
  have e3 : (2 : Nat) ^ 20 = 1048576 := by decide
  omega
theorem xt {P : Program} {w : World} {K : Frag} {mg : Str → Option Value} {base : Heap} {a_next_moment a_ruled a_hang_straight a_hanging a_reach awstart awpick awword awwords awhill awmoment awrule awnumber awpages awbook awrules_of awown awdue a_law cb_law_book tb_law_book : Addr} {d_next_moment d_ruled d_hang_straight d_hanging d_reach dwstart dwpick dwword dwwords dwhill dwmoment dwrule dwnumber dwpages dwbook dwrules_of dwown dwdue d_law : FuncData} (T : Txt K mg a_next_moment a_ruled a_hang_straight a_hanging a_reach awstart awpick awword awwords awhill awmoment awrule awnumber awpages awbook awrules_of awown awdue a_law cb_law_book tb_law_book d_next_moment d_ruled d_hang_straight d_hanging d_reach dwstart dwpick dwword dwwords dwhill dwmoment dwrule dwnumber dwpages dwbook dwrules_of dwown dwdue d_law) : bu P w K mg base dF 1 awstart dwstart ["_law_script"] (oH K) := by
  refine T.kX.ok cC (fun vs H Q E h => ?_) (fun eF A outer s H vs Q E hr h => ?_)
  · obtain ⟨a, ns, rfl, _⟩ := h
    rfl
  obtain ⟨a, ns, rfl, hS, h63, q⟩ := h
  have dQ := Nat.lt_of_succ_lt (xT hr)
  have hl63 : ((ns.take 63).map V.int).length ≤ 63 := by rw [Hg, List.length_take]; omega
  have isInt : ∀ (x : V), x ∈ (ns.take 63).map V.int → ∃ y : Int, x = .int y := fun x e => by
    obtain ⟨y, _, z⟩ := Hu.mp e
    exact ⟨y, z.symm⟩
  have b60 : ((0 : Int) ≤ 60) ∧ (Builtin.Int.intBits 10 : Int) * 60 ≤ 2 ^ 27 := by decide
  have p60 : (0 : Int) < 10 ^ (60 : Int).toNat := by decide +kernel
  have hb60 : Builtin.Int.intBits (10 ^ (60 : Int).toNat) ≤ 2 ^ 20 := by decide +kernel
  have rest : ∃ t, rG (g9 dF P w K mg base ["_law_script", "_law_digits", "_law_cell", "_law_seed", "_law_k"] "_law_start" (ak cR) awstart eF A outer s H E).pW ((aw cR).drop 2) t ∧ ∀ (dg : Int) (v2 : Option V) (H1 : Hp), 0 ≤ dg → gv H H1 → t { nx := fun _ H' => Q .bX H', rt := Q } [some (.ref a), some (.int dg), v2, none, none] H1 := by
    refine ⟨_, (cZ (hZ (i := 3) cC.nd rfl (Or.inl rfl) aX)
    (cZ (rW PassesOwn.never rfl (wU rfl T.kM PyProof.Rows.boot_enumerate (eL (jq lD (pv 0) lH (lG aX)) fZ)) (wV rfl (mw (lI (i := 4) cC.nd rfl (Or.inl rfl)) (mw (lI (i := 2) cC.nd rfl (Or.inl rfl)) t4))) (gF (hZ (i := 3) cC.nd rfl (Or.inl rfl) (cf f6 (cf jr (cf gG (cf gG (cf j8 (pv 3) aX) (cf f6 (pv 2) aX)) (cf j8 aX (pv 4))) aX) aX))))
    (gF (oP (r8 (eL (pv 1) (eL (pv 3) (eL aX fZ)))))))), fun dg v2 H1 dg0 sm1 => ?_⟩
    refine ⟨_, rfl, 63, rfl, a, _, rfl, sm1.seq hS, fun u hu => ?_⟩
    rw [yB ns]
    have g2 : gv H1 (upd H1 u (.lst ((ns.take 63).map V.int))) := gh hu _
    have hu2 : upd H1 u (.lst ((ns.take 63).map V.int)) u = some (.lst ((ns.take 63).map V.int)) := ay
    generalize upd H1 u (.lst ((ns.take 63).map V.int)) = H2 at g2 hu2
    refine ⟨u, _, rfl, cw.of hu2, ?_⟩
    refine yb (xs := (ns.take 63).map V.int) (fun i σ H' => ∃ (sd : Int) (v2 v4 : Option V), σ = [some (.ref a), some (.int dg), v2, some (.int sd), v4] ∧ gv H2 H' ∧ 0 ≤ sd ∧ sd < 2305843009213693951) ⟨271828182, _, none, rfl, fun _ _ h => h, by decide, by decide⟩ ?_ ?_ ?_
    · rintro i σ H' _ ⟨sd, v2, v4, _, sm, _⟩
      exact cw.of (sm _ _ hu2)
    · rintro i x σ H' T hx hT ⟨sd, v2, v4, rfl, sm, s0, s1⟩
      obtain ⟨y, rfl⟩ := isInt x (List.mem_of_getElem? hx)
      have hi : i < 63 := HF (Hm.mp hx).1 hl63
      have r0 := Iy y (show (2305843009213693951 : Int) ≠ 0 by decide)
      have r1 := Iw y (show (0 : Int) < 2305843009213693951 by decide)
      refine ⟨T, _, rfl, dJ.of ay, rfl, _, _, rfl, _, _, rfl, rfl, ?_⟩
      refine ⟨_, rfl, _, _, rfl, rfl, kc (by decide) (by decide), _, rfl, _, _, rfl, rfl, (by show (0 : Int) < _; decide), _, _, rfl, rfl, _, rfl, _, _, rfl, rfl, gH (by decide) (by decide), _, _, rfl, rfl, _, _, rfl, rfl, zH (by omega) (Ey (by omega)), _, _, rfl, rfl, (by show (0 : Int) < _; decide), ?_⟩
      exact ⟨_, _, _, rfl, sm.trans (gh hT _), Iy _ (by decide), Iw _ (by decide)⟩
    · rintro σ H' ⟨sd, v2, v4, rfl, sm, s0, s1⟩
      refine ⟨_, rfl, _, rfl, (by show 3 ≤ sizeLine; decide), fun b hb => ?_⟩
      exact q b _ (sm1.trans (g2.trans (sm.trans (gh hb _)))) ⟨dg, sd, 0, ay, dg0, s0, s1, Iz 0, by omega⟩
  obtain ⟨tt, dt, ht⟩ := rest
  refine ⟨_, (cZ (hZ (i := 1) cC.nd rfl (Or.inl rfl) aX)
    (cZ (wN (PW.pt (wK (lF (uW dQ) (jq lD (pv 0) lH (lG aX)) (r8 fZ) (bq _)) (tV (lF El (h8 fB (pv 0) aX (fun _ _ => rfl)) (cf jr aX aX) (bq _))))) (gF (rW PassesOwn.never rfl (B4 rfl T.sC PyProof.Rows.boot_reversed (eL (jq lD (pv 0) lH (lG aX)) fZ)) (lI (i := 2) cC.nd rfl (Or.inl rfl)) (gF (hZ (i := 1) cC.nd rfl (Or.inl rfl) (cf gG (cf zS (pv 1) (cf jr aX aX)) (cf f6 (qo yH rfl T.Ex PyProof.Rows.boot_abs (eL (pv 2) fZ)) (cf jr aX aX))))))) oO)
    dt)), ?_⟩
  have b18 : ((0 : Int) ≤ 18) ∧ (Builtin.Int.intBits 10 : Int) * 18 ≤ 2 ^ 27 := by decide
  refine ⟨_, rfl, 1, rfl, a, _, rfl, hS, fun u hu => ?_⟩
  rw [Gs ns]
  have g1 : gv H (upd H u (.lst ((ns.take 1).map V.int))) := gh hu _
  have gu : upd H u (.lst ((ns.take 1).map V.int)) u = some (.lst ((ns.take 1).map V.int)) := ay
  generalize upd H u (.lst ((ns.take 1).map V.int)) = H1 at g1 gu
  refine ⟨(by show 0 ≤ sizeLine; exact HJ _), fun u2 hu2 => ?_⟩
  have g2 : gv H1 (upd H1 u2 (.lst [])) := gh hu2 _
  refine ⟨u, u2, _, rfl, rfl, cw.of (g2 _ _ gu), cw.of ay, _, rfl, ?_⟩
  generalize upd H1 u2 (.lst []) = H2 at g2
  have sm2 : gv H H2 := g1.trans g2
  refine CL (fun c1 => ?_) (fun c1 => ?_)
  · cases ns with
    | nil => cases c1
    | cons y ns =>
    refine ⟨_, rfl, a, _, _, _, rfl, rfl, sm2.seq hS, vF y ns, _, _, rfl, rfl, b18, _, _, rfl, rfl, _, rfl, ?_⟩
    refine CL (fun c2 => ?_) (fun c2 => ?_)
    · refine ⟨_, rfl, 63, rfl, a, _, rfl, sm2.seq hS, fun u3 hu3 => ?_⟩
      rw [yB (y :: ns)]
      have g3 : gv H2 (upd H2 u3 (.lst (((y :: ns).take 63).map V.int))) := gh hu3 _
      have gu3 : upd H2 u3 (.lst (((y :: ns).take 63).map V.int)) u3 = some (.lst (((y :: ns).take 63).map V.int)) := ay
      generalize upd H2 u3 (.lst (((y :: ns).take 63).map V.int)) = H3 at g3 gu3
      refine ⟨u3, _, rfl, cw.of gu3, ?_⟩
      obtain ⟨Bs, hBs, pB, bB, kB⟩ : ∃ Bs : Int, 10 ^ (60 : Int).toNat = Bs ∧ 0 < Bs ∧ Builtin.Int.intBits Bs ≤ 2 ^ 20 ∧ ∀ (d : Int) (i : Nat), 0 ≤ d → d < Bs ^ i → i ≤ 63 → Builtin.Int.intBits d ≤ 2 ^ 20 := ⟨_, rfl, p60, hb60, fun d i => AG⟩
      refine Ar (xs := ((y :: ns).take 63).map V.int) (fun i σ H' => ∃ (dg : Int) (v2 : Option V), σ = [some (.ref a), some (.int dg), v2, none, none] ∧ H' = H3 ∧ 0 ≤ dg ∧ dg < Bs ^ i) ⟨0, none, rfl, rfl, Iz 0, by rw [Int.pow_zero]; decide⟩ ?_ ?_ ?_
      · rintro i σ H' _ ⟨dg, v2, _, rfl, _⟩
        exact cw.of gu3
      · rintro i x σ H' hx hi ⟨dg, v2, rfl, rfl, dg0, dg1⟩
        obtain ⟨z, rfl⟩ := isInt x hx
        have hi63 : i ≤ 63 := by omega
        refine ⟨_, rfl, _, _, rfl, rfl, b60, ?_⟩
        simp only [hBs]
        refine ⟨_, _, rfl, rfl, IntMulOk.of_bits (kB dg i dg0 dg1 hi63) bB, _, rfl, z, rfl, _, _, rfl, rfl, b60, ?_⟩
        simp only [hBs]
        refine ⟨_, _, rfl, rfl, pB, _, _, rfl, rfl, ?_⟩
        have r0 := Iy (if z < 0 then -z else z) (Int.ne_of_gt pB)
        have r1 := Iw (if z < 0 then -z else z) pB
        refine ⟨_, _, rfl, rfl, ?_, ?_⟩
        · exact Int.add_nonneg (Int.mul_nonneg dg0 (Int.le_of_lt pB)) r0
        · have h1 : dg + 1 ≤ Bs ^ i := dg1
          have h2 : (dg + 1) * Bs ≤ Bs ^ i * Bs := Int.mul_le_mul_of_nonneg_right h1 (Int.le_of_lt pB)
          rw [← Int.pow_succ, Int.add_mul, Int.one_mul] at h2
          exact Int.lt_of_lt_of_le (Int.add_lt_add_left r1 _) h2
      · rintro σ H' ⟨dg, v2, rfl, rfl, dg0, _⟩
        exact ht dg v2 _ dg0 (sm2.trans g3)
    · exact ht 0 none _ (Iz 0) sm2
  · exact ht 0 none _ (Iz 0) sm2
def af : List PV → M PV := jG
noncomputable def dh : ao → M Fl := (aJ (el (fun ρ => ((fun ρ => ag ρ 1) ρ).bind bf) (aP 3)
    (i8 (iP (bO (ah (eE false) (ah aK (fun ρ => ag ρ 3) (fun _ => M.ret (.int 0))) (ah aK (fun ρ => ag ρ 2) (fun _ => M.ret (.int 0))))) (iP (bO (ah (eE false) (ah aK (fun ρ => ag ρ 3) (fun _ => M.ret (.int 3))) (ah aK (fun ρ => ag ρ 2) (fun _ => M.ret (.int 3))))) (bO (ah qN (fun ρ => ((aa (ah aK (fun ρ => ag ρ 3) (fun _ => M.ret (.int 2))) (aa (ah aK (fun ρ => ag ρ 3) (fun _ => M.ret (.int 1))) (fun _ => M.ret []))) ρ).bind aI) (fun ρ => ((aa (ah aK (fun ρ => ag ρ 2) (fun _ => M.ret (.int 2))) (aa (ah aK (fun ρ => ag ρ 2) (fun _ => M.ret (.int 1))) (fun _ => M.ret []))) ρ).bind aI)))))
    (cD (ah aK (fun ρ => ag ρ 3) (fun _ => M.ret (.int 2))))
    (fun ρ => M.ret (.nx ρ))))
    (cD (ah df (ah aK (fun ρ => ag ρ 0) (fun _ => M.ret (.int 2))) (fun _ => M.ret (.int 1)))))
noncomputable def cj : List PV → M PV := lQ 3 4 dh
noncomputable def iF : ao → M Fl := (cD (aM (qB [none, none] (fun ρ => ((fun ρ => ag ρ 0) ρ).bind bf) (aP 0) (bO (ah (eE false) (ah aK (fun ρ => ag ρ 0) (fun _ => M.ret (.int 0))) (fun _ => M.ret (.str "rule")))) (fun ρ => ((ah aK (fun ρ => ag ρ 0) (fun _ => M.ret (.int 4))) ρ).bind bf) (aP 1) cU (fun ρ => ((aa (ah aK (fun ρ => ag ρ 0) (fun _ => M.ret (.int 3))) (aa (fun ρ => ag ρ 1) (fun _ => M.ret []))) ρ).bind aI))))
noncomputable def fU : List PV → M PV := lQ 1 1 iF
noncomputable def cB : ao → M Fl := (aJ (y9 [2, 3] (fun ρ => ((aa (ah aK (fun ρ => ag ρ 1) (fun _ => M.ret (.int 0))) (aa (ah aK (fun ρ => ag ρ 1) (fun _ => M.ret (.int 3))) (fun _ => M.ret []))) ρ).bind aI))
    (aJ (i8 (bO (ah (eE false) (fun ρ => ag ρ 2) (fun _ => M.ret (.str "read"))))
    (cD (aM (bW [none, none, some 3] (fun ρ => ((fun ρ => ag ρ 0) ρ).bind bf) (fj [0, 1]) (iP (bO (ah (pY false) (ah aK (fun ρ => ag ρ 1) (fun _ => M.ret (.int 0))) (fun ρ => ((aa (fun _ => M.ret (.str "least")) (aa (fun _ => M.ret (.str "most")) (fun _ => M.ret []))) ρ).bind aI))) (bO (ah (eE false) (ah aK (fun ρ => ag ρ 1) (fun _ => M.ret (.int 1))) (fun ρ => ag ρ 2)))) (fun ρ => ag ρ 0))))
    (fun ρ => M.ret (.nx ρ)))
    (aJ (i8 (bO (ah (eE false) (fun ρ => ag ρ 2) (fun _ => M.ret (.str "look"))))
    (cD (aM (bW [none, none, some 3] (fun ρ => ((fun ρ => ag ρ 0) ρ).bind bf) (fj [0, 1]) (iP (bO (ah (eE false) (ah aK (fun ρ => ag ρ 1) (fun _ => M.ret (.int 0))) (fun _ => M.ret (.str "looked")))) (bO (ah (eE false) (fun ρ => ag ρ 0) (fun ρ => ag ρ 2)))) (fun ρ => ag ρ 0))))
    (fun ρ => M.ret (.nx ρ)))
    (cD (aM (fun ρ => ((aa (fun ρ => ag ρ 3) (fun _ => M.ret [])) ρ).bind aQ))))))
noncomputable def bK : List PV → M PV := lQ 2 4 cB
noncomputable def fE : ao → M Fl := (aJ (aU 2 (fun ρ => ((aa (fun ρ => ag ρ 0) (fun _ => M.ret [])) ρ).bind fU))
    (aJ (t6 3 (nL [none] (fun ρ => ((fun ρ => ((aa (fun ρ => ag ρ 2) (aa (fun ρ => ag ρ 1) (fun _ => M.ret []))) ρ).bind bK) ρ).bind bf) (aP 0) cU (fun ρ => ag ρ 0) (fun _ => M.ret (.bl true))))
    (aJ (aU 4 (fun ρ => ((fun _ => M.ret (.int 1)) ρ).bind mD))
    (aJ (vA (bO (ah o5 (fun ρ => ag ρ 4) (fun ρ => ((aa (fun ρ => cQ ρ 3) (fun _ => M.ret [])) ρ).bind eM))) (aJ (aU 4 (fun ρ => ((aa (fun ρ => cQ ρ 3) (fun _ => M.ret [])) ρ).bind eM))
    (el (fun ρ => ((fun ρ => ag ρ 2) ρ).bind bf) (fj [5, 6])
    (i8 (iP (bO (ah (eE false) (ah aK (fun ρ => ag ρ 6) (fun _ => M.ret (.int 0))) (fun _ => M.ret (.str "with")))) (bO (ah (sV false) (ah aK (fun ρ => ag ρ 6) (fun _ => M.ret (.int 1))) (fun ρ => cQ ρ 3))))
    (uo 3 (fun ρ => ag ρ 5) (fun _ => M.ret (.bl true)))
    (fun ρ => M.ret (.nx ρ))))) 1000)
    (CS (cD (fun ρ => ((aa (aM (fun ρ => ((aa (fun ρ => ag ρ 3) (fun _ => M.ret [])) ρ).bind oJ)) (fun _ => M.ret [])) ρ).bind lb)))))))
noncomputable def eC : List PV → M PV := lQ 2 7 fE
noncomputable def gI : ao → M Fl := (cD (fun ρ => ((aa (fun ρ => ((aa (fun ρ => ag ρ 1) (aa (fun ρ => ag ρ 2) (fun _ => M.ret []))) ρ).bind eC) (aa (ah aK (fun ρ => ag ρ 2) (fun _ => M.ret (.int 2))) (aa (fun ρ => ((aa (fun ρ => ag ρ 0) (aa (fun ρ => ag ρ 1) (aa (fun ρ => ag ρ 2) (fun _ => M.ret [])))) ρ).bind cj) (fun _ => M.ret [])))) ρ).bind aI))
noncomputable def dM : List PV → M PV := lQ 3 3 gI
noncomputable def eX : ao → M Fl := (aJ (aU 2 (fun _ => M.ret (.str "etaoinshrdlcumwfgypbvkjxqz")))
    (aJ (aU 3 (ah df (fun _ => M.ret (.int 1)) (fun ρ => ((aa (fun ρ => ag ρ 0) (aa (fun _ => M.ret (.int 8)) (fun _ => M.ret []))) ρ).bind af)))
    (aJ (aU 4 (Fx "str" nR (fun _ => M.ret (.str "")) (aa (aM (bW [none, some 2, some 0] (fun ρ => ((aa (fun ρ => ag ρ 3) (fun _ => M.ret [])) ρ).bind dO) (aP 0) cU (ah aK (fun ρ => ag ρ 1) (fun ρ => ((aa (fun ρ => ag ρ 2) (aa (fun _ => M.ret (.int 26)) (fun _ => M.ret []))) ρ).bind af)))) (fun _ => M.ret []))))
    (cD (ah aK (aM (bW [none, some 1] (fun ρ => ((aM (gs (aM (fun ρ => ((aa (fun ρ => ag ρ 4) (fun _ => M.ret [])) ρ).bind aQ)) (aM (bW [none, some 4] (fun ρ => ((fun ρ => ag ρ 2) ρ).bind bf) (aP 0) cU (ah df (rD qe (fun ρ => ag ρ 1) (fun _ => M.ret none) (fun ρ => ((fun _ => M.ret (.int 7)) ρ).bind fun y => (ki y).bind fun i => M.ret (some i))) (fun ρ => ag ρ 0)))))) ρ).bind bf) (aP 0) (bO (ah (pY true) (fun ρ => ag ρ 0) (fun ρ => ag ρ 1))) (fun ρ => ag ρ 0))) (fun _ => M.ret (.int 0)))))))
noncomputable def dC : List PV → M PV := lQ 2 5 eX
noncomputable def cS : ao → M Fl := (aJ (lg 2 (fun ρ => ((fun _ => M.ret []) ρ).bind aQ))
    (aJ (el (fun ρ => ((aa (fun ρ => ag ρ 1) (fun _ => M.ret [])) ρ).bind dO) (aP 3)
    (f9 2 (fun ρ => ((aa (fun ρ => ag ρ 0) (aa (fun ρ => cQ ρ 2) (fun _ => M.ret []))) ρ).bind fun l => (dC l).bind mO)))
    (cD (fun ρ => ag ρ 2))))
noncomputable def bE : List PV → M PV := lQ 2 4 cS
noncomputable def fb : ao → M Fl := (aJ (aU 3 (fun ρ => ((aa (fun ρ => ag ρ 0) (aa (ah df (fun _ => M.ret (.int 2)) (fun ρ => ((aa (fun ρ => ag ρ 0) (aa (fun _ => M.ret (.int 4)) (fun _ => M.ret []))) ρ).bind af)) (fun _ => M.ret []))) ρ).bind bE))
    (aJ (aU 4 (fun ρ => ((aa (fun ρ => ag ρ 0) (aa (ah df (fun _ => M.ret (.int 1)) (fun ρ => ((aa (fun ρ => ag ρ 0) (aa (fun ρ => ag ρ 1) (fun _ => M.ret []))) ρ).bind af)) (fun _ => M.ret []))) ρ).bind bE))
    (aJ (lg 5 (fun ρ => ((fun _ => M.ret []) ρ).bind aQ))
    (aJ (el (fun ρ => ((fun ρ => ag ρ 4) ρ).bind bf) (aP 6)
    (aJ (aU 7 (ah aK (aM (fun ρ => ((aa (fun _ => M.ret (.str "slope")) (aa (fun _ => M.ret (.str "slope")) (aa (fun _ => M.ret (.str "lift")) (aa (fun _ => M.ret (.str "path")) (fun _ => M.ret []))))) ρ).bind aQ)) (fun ρ => ((aa (fun ρ => ag ρ 0) (aa (fun _ => M.ret (.int 4)) (fun _ => M.ret []))) ρ).bind af)))
    (aJ (aU 8 (aM (bW [none, some 3, some 0] (fun ρ => ((aa (fun _ => M.ret (.int 2)) (fun _ => M.ret [])) ρ).bind dO) (aP 0) cU (ah aK (fun ρ => ag ρ 1) (fun ρ => ((aa (fun ρ => ag ρ 2) (aa (fun ρ => ((aa (fun ρ => ag ρ 1) (fun _ => M.ret [])) ρ).bind eM) (fun _ => M.ret []))) ρ).bind af)))))
    (f9 5 (fun ρ => ((aa (fun ρ => ag ρ 6) (aa (fun ρ => ag ρ 7) (aa (ah aK (fun ρ => ag ρ 8) (fun _ => M.ret (.int 0))) (aa (ah aK (fun ρ => ag ρ 8) (fun _ => M.ret (.int 1))) (aa (ah g8 (fun ρ => ag ρ 2) (fun ρ => ((aa (fun ρ => ag ρ 0) (aa (fun _ => M.ret (.int 8)) (fun _ => M.ret []))) ρ).bind af)) (aa (ah g8 (fun ρ => ag ρ 2) (fun ρ => ((aa (fun ρ => ag ρ 0) (aa (fun _ => M.ret (.int 5)) (fun _ => M.ret []))) ρ).bind af)) (fun _ => M.ret []))))))) ρ).bind aI)))))
    (cD (fun ρ => ((aa (fun ρ => ((aa (fun ρ => ag ρ 5) (fun _ => M.ret [])) ρ).bind lb) (aa (ah aK (fun ρ => ag ρ 3) (fun ρ => ((aa (fun ρ => ag ρ 0) (aa (fun ρ => ((aa (fun ρ => ag ρ 3) (fun _ => M.ret [])) ρ).bind eM) (fun _ => M.ret []))) ρ).bind af)) (aa (ah g8 (fun ρ => ag ρ 2) (ah df (fun _ => M.ret (.int 1)) (fun ρ => ((aa (fun ρ => ag ρ 0) (aa (fun _ => M.ret (.int 30)) (fun _ => M.ret []))) ρ).bind af))) (fun _ => M.ret [])))) ρ).bind aI))))))
noncomputable def dD : List PV → M PV := lQ 3 9 fb
noncomputable def dI : ao → M Fl := (cD (fun ρ => ((aa (ah aK (fun ρ => ag ρ 1) (fun _ => M.ret (.int 2))) (aa (fun ρ => ((aa (fun _ => M.ret (.int 0)) (aa (ah df (ah g8 (fun ρ => ag ρ 2) (fun ρ => ((aa (fun ρ => ag ρ 0) (aa (fun _ => M.ret (.int 31)) (fun _ => M.ret []))) ρ).bind af)) (ah aK (aM (fun ρ => ((aa (fun _ => M.ret (.int 0)) (aa (fun _ => M.ret (.int 0)) (aa (fun _ => M.ret (.int 1)) (aa (fun ρ => ((fun _ => M.ret (.int 1)) ρ).bind mD) (fun _ => M.ret []))))) ρ).bind aQ)) (fun ρ => ((aa (fun ρ => ag ρ 0) (aa (fun _ => M.ret (.int 4)) (fun _ => M.ret []))) ρ).bind af))) (fun _ => M.ret []))) ρ).bind nM) (fun _ => M.ret []))) ρ).bind qE))
noncomputable def cb : List PV → M PV := lQ 3 3 dI
noncomputable def eZ : ao → M Fl := (aJ (aU 4 (fun ρ => ((aa (fun ρ => ag ρ 0) (aa (fun _ => M.ret (.int 12)) (fun _ => M.ret []))) ρ).bind af))
    (aJ (aU 5 (ah aK (fun ρ => ag ρ 2) (fun ρ => ((aa (fun ρ => ag ρ 0) (aa (fun ρ => ((aa (fun ρ => ag ρ 2) (fun _ => M.ret [])) ρ).bind eM) (fun _ => M.ret []))) ρ).bind af)))
    (aJ (aU 6 (ah uM (fun ρ => ((aa (fun ρ => ag ρ 0) (aa (fun _ => M.ret (.int 7)) (fun _ => M.ret []))) ρ).bind af) (fun _ => M.ret (.int 3))))
    (aJ (zL 7 8 (aa (ah g8 (fun ρ => ag ρ 3) (fun ρ => ((aa (fun ρ => ag ρ 0) (aa (fun _ => M.ret (.int 31)) (fun _ => M.ret []))) ρ).bind af)) (aa (ah uM (ah df (ah g8 (fun ρ => ag ρ 3) (ah df (fun _ => M.ret (.int 1)) (fun ρ => ((aa (fun ρ => ag ρ 0) (aa (fun _ => M.ret (.int 12)) (fun _ => M.ret []))) ρ).bind af))) (fun ρ => ((aa (fun ρ => ag ρ 0) (aa (fun _ => M.ret (.int 3)) (fun _ => M.ret []))) ρ).bind af)) (fun _ => M.ret (.int 1))) (fun _ => M.ret []))))
    (aJ (aU 9 (ah aK (ah aK (ah aK (fun ρ => ag ρ 1) (fun _ => M.ret (.int 0))) (fun ρ => ((aa (fun ρ => ag ρ 0) (aa (fun ρ => ((aa (ah aK (fun ρ => ag ρ 1) (fun _ => M.ret (.int 0))) (fun _ => M.ret [])) ρ).bind eM) (fun _ => M.ret []))) ρ).bind af)) (fun _ => M.ret (.int 0))))
    (aJ (i8 (bO (ah o5 (fun ρ => ag ρ 4) (fun _ => M.ret (.int 3))))
    (cD (fun ρ => ((aa (fun _ => M.ret (.str "hours")) (aa (fun ρ => ag ρ 7) (aa (fun ρ => ((aa (fun _ => M.ret (.int 1000001)) (aa (ah df (fun ρ => ag ρ 7) (fun ρ => ((aa (fun _ => M.ret (.int 1)) (aa (fun ρ => ag ρ 8) (fun _ => M.ret []))) ρ).bind nM)) (fun _ => M.ret []))) ρ).bind qE) (fun _ => M.ret [])))) ρ).bind aI))
    (fun ρ => M.ret (.nx ρ)))
    (aJ (i8 (bO (ah o5 (fun ρ => ag ρ 4) (fun _ => M.ret (.int 8))))
    (cD (ah aK (aM (fun ρ => ((aa (fun ρ => ((aa (fun _ => M.ret (.str "least")) (aa (fun ρ => ag ρ 5) (aa (fun ρ => ag ρ 6) (fun _ => M.ret [])))) ρ).bind aI) (aa (fun ρ => ((aa (fun _ => M.ret (.str "most")) (aa (fun ρ => ag ρ 5) (aa (fun ρ => ag ρ 6) (fun _ => M.ret [])))) ρ).bind aI) (fun _ => M.ret []))) ρ).bind aQ)) (ah qA (fun ρ => ag ρ 4) (fun _ => M.ret (.int 2)))))
    (fun ρ => M.ret (.nx ρ)))
    (aJ (i8 (bO (ah o5 (fun ρ => ag ρ 4) (fun _ => M.ret (.int 10))))
    (cD (fun ρ => ((aa (fun _ => M.ret (.str "looked")) (aa (fun ρ => ((aa (fun _ => M.ret (.int 1)) (aa (fun ρ => ag ρ 8) (fun _ => M.ret []))) ρ).bind nM) (fun _ => M.ret []))) ρ).bind aI))
    (fun ρ => M.ret (.nx ρ)))
    (cD (ah aK (aM (fun ρ => ((aa (fun ρ => ((aa (fun _ => M.ret (.str "with")) (aa (fun ρ => ag ρ 9) (fun _ => M.ret []))) ρ).bind aI) (aa (fun ρ => ((aa (fun _ => M.ret (.str "never")) (fun _ => M.ret [])) ρ).bind aI) (fun _ => M.ret []))) ρ).bind aQ)) (fun ρ => ((aa (rm (ah (eE false) (fun ρ => ag ρ 4) (fun _ => M.ret (.int 11))) (ah Ap (fun ρ => ag ρ 6) (fun _ => M.ret (.int 0)))) (fun _ => M.ret [])) ρ).bind sL)))))))))))
noncomputable def cX : List PV → M PV := lQ 4 10 eZ
noncomputable def dH : ao → M Fl := (aJ (aU 2 (fun ρ => ((aa (fun ρ => ag ρ 0) (aa (ah aK (aM (fun ρ => ((aa (fun _ => M.ret (.int 20)) (aa (fun _ => M.ret (.int 1000000)) (fun _ => M.ret []))) ρ).bind aQ)) (fun ρ => ((aa (fun ρ => ag ρ 0) (aa (fun _ => M.ret (.int 2)) (fun _ => M.ret []))) ρ).bind af)) (fun _ => M.ret []))) ρ).bind af))
    (aJ (aU 3 (aM (bW [none, some 2] (fun ρ => ((aa (fun _ => M.ret (.int 70)) (fun _ => M.ret [])) ρ).bind dO) (aP 0) cU (ah qA (ah df (fun ρ => ag ρ 1) (fun ρ => ag ρ 0)) (fun _ => M.ret (.int 1000000))))))
    (cD (ah aK (aM (bW [none, some 1] (fun ρ => ((fun ρ => ag ρ 3) ρ).bind bf) (aP 0) (bO (ah (pY true) (fun ρ => ag ρ 0) (fun ρ => ag ρ 1))) (fun ρ => ag ρ 0))) (fun _ => M.ret (.int 0))))))
noncomputable def bY : List PV → M PV := lQ 2 4 dH
noncomputable def eA : ao → M Fl := (aJ (aU 4 (aM (gs (fun ρ => ((aa (fun ρ => ag ρ 0) (aa (ah df (fun _ => M.ret (.int 1)) (fun ρ => ((aa (fun ρ => ag ρ 0) (aa (fun _ => M.ret (.int 3)) (fun _ => M.ret []))) ρ).bind af)) (fun _ => M.ret []))) ρ).bind bE) (ah g8 (aM (fun ρ => ((aa (ah aK (ah aK (ah aK (fun ρ => ag ρ 1) (fun _ => M.ret (.int 0))) (fun _ => M.ret (.int 0))) (fun _ => M.ret (.int 0))) (fun _ => M.ret [])) ρ).bind aQ)) (fun ρ => ((aa (fun ρ => ag ρ 0) (aa (fun _ => M.ret (.int 2)) (fun _ => M.ret []))) ρ).bind af)))))
    (aJ (aU 5 (aM (bW [none] (fun ρ => ((ah aK (fun ρ => ag ρ 1) (fun _ => M.ret (.int 0))) ρ).bind bf) (aP 0) (bO (ah (eE false) (ah aK (fun ρ => ag ρ 0) (fun _ => M.ret (.int 1))) (fun _ => M.ret (.str "slope")))) (ah aK (fun ρ => ag ρ 0) (fun _ => M.ret (.int 0))))))
    (aJ (lg 6 (fun ρ => ((fun _ => M.ret []) ρ).bind aQ))
    (aJ (lg 7 (fun ρ => ((fun _ => M.ret []) ρ).bind aQ))
    (aJ (el (fun ρ => ((aa (fun ρ => ag ρ 3) (fun _ => M.ret [])) ρ).bind dO) (aP 8)
    (aJ (aU 9 (fun ρ => ((aa (fun ρ => ag ρ 0) (aa (fun _ => M.ret (.int 8)) (fun _ => M.ret []))) ρ).bind af))
    (aJ (aU 10 (ah g8 (fun ρ => ((aa (fun ρ => ag ρ 0) (aa (fun ρ => ag ρ 1) (aa (fun ρ => ag ρ 2) (fun _ => M.ret [])))) ρ).bind cb) (fun ρ => ((aa (ah Ap (fun ρ => ((aa (fun ρ => ag ρ 0) (aa (fun _ => M.ret (.int 3)) (fun _ => M.ret []))) ρ).bind af) (fun _ => M.ret (.int 0))) (fun _ => M.ret [])) ρ).bind sL)))
    (aJ (f9 7 (fun ρ => ((aa (fun ρ => ag ρ 0) (aa (fun ρ => cQ ρ 7) (fun _ => M.ret []))) ρ).bind fun l => (bY l).bind mO))
    (i8 (bO (ah o5 (fun ρ => ag ρ 9) (fun _ => M.ret (.int 3))))
    (aJ (aU 11 (ah aK (ah aK (ah aK (fun ρ => ag ρ 1) (fun _ => M.ret (.int 0))) (fun ρ => ((aa (fun ρ => ag ρ 0) (aa (fun ρ => ((aa (ah aK (fun ρ => ag ρ 1) (fun _ => M.ret (.int 0))) (fun _ => M.ret [])) ρ).bind eM) (fun _ => M.ret []))) ρ).bind af)) (fun _ => M.ret (.int 0))))
    (aJ (aU 12 (ah aK (aM (fun ρ => ((aa (fun _ => M.ret (.int 0)) (aa (fun _ => M.ret (.int 1)) (aa (fun _ => M.ret (.int 1)) (aa (fun _ => M.ret (.int 1)) (aa (fun _ => M.ret (.int 2)) (aa (fun _ => M.ret (.int 2)) (aa (fun _ => M.ret (.int 3)) (aa (fun _ => M.ret (.int 6)) (fun _ => M.ret []))))))))) ρ).bind aQ)) (fun ρ => ((aa (fun ρ => ag ρ 0) (aa (fun _ => M.ret (.int 8)) (fun _ => M.ret []))) ρ).bind af)))
    (aJ (aU 13 (aM (bW [none, some 0, some 1, some 4, some 2] (fun ρ => ((aa (fun ρ => ag ρ 12) (fun _ => M.ret [])) ρ).bind dO) (aP 0) cU (fun ρ => ((aa (fun ρ => ag ρ 1) (aa (fun ρ => ag ρ 2) (aa (fun ρ => ag ρ 3) (aa (fun ρ => ag ρ 4) (fun _ => M.ret []))))) ρ).bind cX))))
    (f9 6 (fun ρ => ((aa (fun _ => M.ret (.str "rule")) (aa (ah aK (fun ρ => cQ ρ 7) (fun ρ => ((fun _ => M.ret (.int 1)) ρ).bind mD)) (aa (fun ρ => ag ρ 10) (aa (fun ρ => ag ρ 11) (aa (fun ρ => ((aa (fun ρ => ag ρ 13) (fun _ => M.ret [])) ρ).bind lb) (fun _ => M.ret [])))))) ρ).bind aI)))))
    (i8 (Dw (bO (ah o5 (fun ρ => ag ρ 9) (fun _ => M.ret (.int 6)))) (bO (ah (eE false) (fun ρ => ag ρ 5) (aM (fun ρ => ((fun _ => M.ret []) ρ).bind aQ)))))
    (aJ (aU 14 (ah g8 (ah uM (fun ρ => ((aa (fun ρ => ag ρ 0) (aa (fun _ => M.ret (.int 7)) (fun _ => M.ret []))) ρ).bind af) (fun _ => M.ret (.int 3))) (ah aK (aM (fun ρ => ((aa (fun _ => M.ret (.int 1)) (aa (fun _ => M.ret (.int 1)) (aa (fun _ => M.ret (.int 1)) (aa (ah wO (fun _ => M.ret (.int 10)) (fun _ => M.ret (.int 50))) (fun _ => M.ret []))))) ρ).bind aQ)) (fun ρ => ((aa (fun ρ => ag ρ 0) (aa (fun _ => M.ret (.int 4)) (fun _ => M.ret []))) ρ).bind af))))
    (f9 6 (fun ρ => ((aa (fun _ => M.ret (.str "read")) (aa (ah aK (fun ρ => cQ ρ 7) (fun ρ => ((fun _ => M.ret (.int 1)) ρ).bind mD)) (aa (fun ρ => ag ρ 10) (aa (ah aK (fun ρ => ag ρ 4) (fun ρ => ((aa (fun ρ => ag ρ 0) (aa (fun ρ => ((aa (fun ρ => ag ρ 4) (fun _ => M.ret [])) ρ).bind eM) (fun _ => M.ret []))) ρ).bind af)) (aa (fun ρ => ag ρ 14) (fun _ => M.ret [])))))) ρ).bind aI)))
    (f9 6 (fun ρ => ((aa (fun _ => M.ret (.str "look")) (aa (ah aK (fun ρ => cQ ρ 7) (fun ρ => ((fun _ => M.ret (.int 1)) ρ).bind mD)) (aa (fun ρ => ag ρ 10) (aa (ah aK (fun ρ => ag ρ 5) (fun ρ => ((aa (fun ρ => ag ρ 0) (aa (fun ρ => ((aa (fun ρ => ag ρ 5) (fun _ => M.ret [])) ρ).bind eM) (fun _ => M.ret []))) ρ).bind af)) (fun _ => M.ret []))))) ρ).bind aI))))))))
    (cD (fun ρ => ag ρ 6)))))))
noncomputable def cV : List PV → M PV := lQ 4 15 eA
noncomputable def fe : ao → M Fl := (cD (fun ρ => ((aa (aM (fun ρ => ((fun ρ => ag ρ 0) ρ).bind nH)) (fun _ => M.ret [])) ρ).bind lb))
noncomputable def dE : List PV → M PV := lQ 1 1 fe
noncomputable def cq : ao → M Fl := (aJ (aU 2 (aM (fun ρ => ((fun _ => M.ret []) ρ).bind aQ)))
    (aJ (el (fun ρ => ((fun ρ => ag ρ 0) ρ).bind bf) (aP 3)
    (i8 (iP (bO (ah (eE false) (ah aK (fun ρ => ag ρ 3) (fun _ => M.ret (.int 0))) (fun _ => M.ret (.str "rule")))) (bO (ah (eE false) (ah aK (fun ρ => ag ρ 3) (fun _ => M.ret (.int 3))) (fun ρ => ag ρ 1))))
    (aU 2 (aM (gs (fun ρ => ag ρ 2) (aM (fun ρ => ((aa (ah aK (fun ρ => ag ρ 3) (fun _ => M.ret (.int 4))) (fun _ => M.ret [])) ρ).bind Ab)))))
    (fun ρ => M.ret (.nx ρ))))
    (cD (fun ρ => ag ρ 2))))
noncomputable def aZ : List PV → M PV := lQ 2 4 cq
noncomputable def fD : ao → M Fl := (aJ (aU 3 (fun ρ => ((aa (fun ρ => ag ρ 0) (aa (fun ρ => ag ρ 2) (fun _ => M.ret []))) ρ).bind aZ))
    (aJ (i8 (bO (ah (eE false) (ah aK (fun ρ => ag ρ 1) (fun _ => M.ret (.int 0))) (fun _ => M.ret (.str "read"))))
    (cD (fun ρ => ((aa (aM (bW [none, some 1] (fun ρ => ((fun ρ => ag ρ 3) ρ).bind bf) (aP 0) cU (ah (An false) (rD qe (fun ρ => ag ρ 0) (fun _ => M.ret none) (fun ρ => ((fun _ => M.ret (.int 2)) ρ).bind fun y => (ki y).bind fun i => M.ret (some i))) (aM (fun ρ => ((aa (fun ρ => ((aa (fun _ => M.ret (.str "least")) (aa (ah aK (fun ρ => ag ρ 1) (fun _ => M.ret (.int 3))) (fun _ => M.ret []))) ρ).bind aI) (aa (fun ρ => ((aa (fun _ => M.ret (.str "most")) (aa (ah aK (fun ρ => ag ρ 1) (fun _ => M.ret (.int 3))) (fun _ => M.ret []))) ρ).bind aI) (fun _ => M.ret []))) ρ).bind aQ))))) (fun _ => M.ret [])) ρ).bind yP))
    (fun ρ => M.ret (.nx ρ)))
    (aJ (i8 (bO (ah (eE false) (ah aK (fun ρ => ag ρ 1) (fun _ => M.ret (.int 0))) (fun _ => M.ret (.str "look"))))
    (cD (rm (ah (eE false) (fun ρ => ag ρ 2) (ah aK (fun ρ => ag ρ 1) (fun _ => M.ret (.int 3)))) (ah (pY false) (fun _ => M.ret (.str "looked")) (aM (bW [none] (fun ρ => ((fun ρ => ag ρ 3) ρ).bind bf) (aP 0) cU (ah aK (fun ρ => ag ρ 0) (fun _ => M.ret (.int 0))))))))
    (fun ρ => M.ret (.nx ρ)))
    (cD (ah (eE false) (fun ρ => ag ρ 2) (ah aK (fun ρ => ag ρ 1) (fun _ => M.ret (.int 3))))))))
noncomputable def dN : List PV → M PV := lQ 3 4 fD
noncomputable def fc : ao → M Fl := (aJ (aU 3 (aM (bW [none] (fun ρ => ((ah aK (fun ρ => ag ρ 0) (fun _ => M.ret (.int 0))) ρ).bind bf) (aP 0) cU (ah aK (fun ρ => ag ρ 0) (fun _ => M.ret (.int 0))))))
    (aJ (lg 4 (bW [none, some 1, some 2] (fun ρ => ((fun ρ => ag ρ 3) ρ).bind bf) (aP 0) (bO (fun ρ => ((aa (fun ρ => ag ρ 1) (aa (fun ρ => ag ρ 2) (aa (fun ρ => ag ρ 0) (fun _ => M.ret [])))) ρ).bind dN)) (fun ρ => ag ρ 0)))
    (aJ (aU 5 (fun _ => M.ret (.int 0)))
    (aJ (vA (bO (ah o5 (fun ρ => ag ρ 5) (fun ρ => ((aa (fun ρ => cQ ρ 4) (fun _ => M.ret [])) ρ).bind eM))) (aJ (el (fun ρ => ((fun ρ => ag ρ 3) ρ).bind bf) (aP 6)
    (i8 (iP (bO (ah (An false) (fun ρ => ((aa (fun _ => M.ret (.str "with")) (aa (ah aK (fun ρ => cQ ρ 4) (fun ρ => ag ρ 5)) (fun _ => M.ret []))) ρ).bind aI) (fun ρ => ((aa (aM (gs (fun ρ => ag ρ 1) (aM (fun ρ => ((aa (fun ρ => ag ρ 2) (fun _ => M.ret [])) ρ).bind aQ)))) (aa (fun ρ => ag ρ 6) (fun _ => M.ret []))) ρ).bind aZ))) (bO (ah (pY true) (fun ρ => ag ρ 6) (fun ρ => cQ ρ 4))))
    (f9 4 (fun ρ => ag ρ 6))
    (fun ρ => M.ret (.nx ρ))))
    (aU 5 (ah df (fun ρ => ag ρ 5) (fun _ => M.ret (.int 1))))) 1000)
    (aJ (aU 7 (aM (fun ρ => ((aa (aM (bW [none, some 2] (fun ρ => ((fun ρ => ag ρ 1) ρ).bind bf) (aP 0) (bO (ah (eE false) (fun ρ => ((aa (ah aK (fun ρ => ag ρ 0) (fun _ => M.ret (.int 0))) (aa (ah aK (fun ρ => ag ρ 0) (fun _ => M.ret (.int 3))) (fun _ => M.ret []))) ρ).bind aI) (fun ρ => ((aa (ah aK (fun ρ => ag ρ 1) (fun _ => M.ret (.int 0))) (aa (ah aK (fun ρ => ag ρ 1) (fun _ => M.ret (.int 3))) (fun _ => M.ret []))) ρ).bind aI))) (fun ρ => ((aa (ah aK (fun ρ => ag ρ 0) (fun _ => M.ret (.int 2))) (aa (ah aK (fun ρ => ag ρ 0) (fun _ => M.ret (.int 1))) (fun _ => M.ret []))) ρ).bind aI))) (fun _ => M.ret [])) ρ).bind tO)))
    (aJ (aU 7 (aM (bW [none, none, some 2] (fun ρ => ((fun ρ => ag ρ 7) ρ).bind bf) (fj [0, 1]) (bO (ah qN (fun ρ => ((aa (fun ρ => ag ρ 0) (aa (fun ρ => ag ρ 1) (fun _ => M.ret []))) ρ).bind aI) (fun ρ => ((aa (ah aK (fun ρ => ag ρ 2) (fun _ => M.ret (.int 2))) (aa (ah aK (fun ρ => ag ρ 2) (fun _ => M.ret (.int 1))) (fun _ => M.ret []))) ρ).bind aI))) (fun ρ => ag ρ 0))))
    (cD (fun ρ => ((aa (fun ρ => ((aa (aM (fun ρ => ((aa (fun ρ => ag ρ 4) (fun _ => M.ret [])) ρ).bind qd)) (fun _ => M.ret [])) ρ).bind lb) (aa (ah aK (fun ρ => ag ρ 2) (fun _ => M.ret (.int 2))) (aa (ah aK (aM (gs (fun ρ => ag ρ 7) (aM (fun ρ => ((aa (ah df (ah aK (fun ρ => ag ρ 0) (fun _ => M.ret (.int 2))) (fun _ => M.ret (.int 1))) (fun _ => M.ret [])) ρ).bind aQ)))) (fun _ => M.ret (.int 0))) (fun _ => M.ret [])))) ρ).bind aI))))))))
noncomputable def ck : List PV → M PV := lQ 3 8 fc
noncomputable def kL : ao → M Fl := (aJ (aU 2 (ah aK (aM (fun ρ => ((aa (fun _ => M.ret (.int 1)) (aa (fun _ => M.ret (.int 7)) (aa (fun _ => M.ret (.int 33333)) (fun _ => M.ret [])))) ρ).bind aQ)) (fun ρ => ((aa (fun ρ => ag ρ 1) (aa (fun _ => M.ret (.int 3)) (fun _ => M.ret []))) ρ).bind af)))
    (aJ (aU 3 (fun ρ => ((aa (fun ρ => ag ρ 1) (aa (ah aK (aM (fun ρ => ((aa (fun _ => M.ret (.int 3)) (aa (fun _ => M.ret (.int 6)) (aa (fun _ => M.ret (.int 12)) (fun _ => M.ret [])))) ρ).bind aQ)) (fun ρ => ((aa (fun ρ => ag ρ 1) (aa (fun _ => M.ret (.int 3)) (fun _ => M.ret []))) ρ).bind af)) (aa (fun ρ => ag ρ 2) (fun _ => M.ret [])))) ρ).bind dD))
    (aJ (aU 4 (fun ρ => ((aa (fun ρ => ag ρ 1) (aa (fun ρ => ag ρ 3) (aa (fun ρ => ag ρ 2) (aa (ah df (fun _ => M.ret (.int 1)) (fun ρ => ((aa (fun ρ => ag ρ 1) (aa (fun _ => M.ret (.int 20)) (fun _ => M.ret []))) ρ).bind af)) (fun _ => M.ret []))))) ρ).bind cV))
    (aJ (el (fun ρ => ((aa (fun ρ => ag ρ 4) (fun _ => M.ret [])) ρ).bind Av) (fj [5, 6])
    (aJ (aU 7 (aM (gs (rD qe (fun ρ => ag ρ 4) (fun _ => M.ret none) (fun ρ => ((fun ρ => ag ρ 5) ρ).bind fun y => (ki y).bind fun i => M.ret (some i))) (rD qe (fun ρ => ag ρ 4) (fun ρ => ((ah df (fun ρ => ag ρ 5) (fun _ => M.ret (.int 1))) ρ).bind fun y => (ki y).bind fun i => M.ret (some i)) (fun _ => M.ret none)))))
    (i8 (bO (ah (eE true) (fun ρ => ((aa (fun ρ => ((aa (fun ρ => ag ρ 3) (aa (fun ρ => ((aa (fun ρ => ag ρ 7) (fun _ => M.ret [])) ρ).bind dE) (aa (fun ρ => ag ρ 6) (fun _ => M.ret [])))) ρ).bind dM) (fun _ => M.ret [])) ρ).bind gW) (fun ρ => ((aa (fun ρ => ((aa (fun ρ => ag ρ 3) (aa (fun ρ => ag ρ 7) (aa (fun ρ => ag ρ 6) (fun _ => M.ret [])))) ρ).bind ck) (fun _ => M.ret [])) ρ).bind gW)))
    (cD (fun _ => M.ret (.bl false)))
    (fun ρ => M.ret (.nx ρ)))))
    (aJ (aU 6 (ah aK (fun ρ => ag ρ 4) (fun _ => M.ret (.int 0))))
    (cD (ah (eE false) (fun ρ => ((aa (fun ρ => ((aa (fun ρ => ag ρ 3) (aa (fun ρ => ((fun _ => M.ret []) ρ).bind aI) (aa (fun ρ => ag ρ 6) (fun _ => M.ret [])))) ρ).bind dM) (fun _ => M.ret [])) ρ).bind gW) (fun ρ => ((aa (fun ρ => ((aa (fun ρ => ag ρ 3) (aa (aM (fun ρ => ((fun _ => M.ret []) ρ).bind aQ)) (aa (fun ρ => ag ρ 6) (fun _ => M.ret [])))) ρ).bind ck) (fun _ => M.ret [])) ρ).bind gW))))))))
section
variable {P : Program} {w : World} {K : Frag} {mg : Str → Option Value} {base : Heap} {a_next_moment a_ruled a_hang_straight a_hanging a_reach awstart awpick awword awwords awhill awmoment awrule awnumber awpages awbook awrules_of awown awdue a_law cb_law_book tb_law_book : Addr} {d_next_moment d_ruled d_hang_straight d_hanging d_reach dwstart dwpick dwword dwwords dwhill dwmoment dwrule dwnumber dwpages dwbook dwrules_of dwown dwdue d_law : FuncData} (T : Txt K mg a_next_moment a_ruled a_hang_straight a_hanging a_reach awstart awpick awword awwords awhill awmoment awrule awnumber awpages awbook awrules_of awown awdue a_law cb_law_book tb_law_book d_next_moment d_ruled d_hang_straight d_hanging d_reach dwstart dwpick dwword dwwords dwhill dwmoment dwrule dwnumber dwpages dwbook dwrules_of dwown dwdue d_law)
include T
theorem mz : bu P w K mg base dF 1 a_next_moment d_next_moment ["hill", "book", "page"] (fo (cH tb_law_book K) cj) := by
  have eb : aw bH = aw bH := rfl
  conv at eb => rhs; whnf
  have es : ak bH = ak bH := rfl
  conv at es => rhs; whnf
  refine d8 (N := ["hill", "book", "page", "other"]) (ps := ["hill", "book", "page"]) (k := 0) (m := dh) rfl T.cj hV (by decide) eb es fun eF A outer s H E hr => ?_
  unfold dh
  exact (az (iW (ip PassesOwn.never rfl (xQ (ae 1 (bv 1))) (iK (aS (i := 3) hV.nd rfl (Or.inl rfl))) (aR (fM (fS (WV.t (iV (bC (cN hr.units) (dU false) (EV.b (aG ax aF (EV.b (ae 3 (bv 3))) (EV.b aq) (fun _ _ => rfl))) (EV.b (aG ax aF (EV.b (ae 2 (bv 2))) (EV.b aq) (fun _ _ => rfl))) (bq _)) (iV (bC (cN hr.units) (dU false) (EV.b (aG ax aF (EV.b (ae 3 (bv 3))) (EV.b aq) (fun _ _ => rfl))) (EV.b (aG ax aF (EV.b (ae 2 (bv 2))) (EV.b aq) (fun _ _ => rfl))) (bq _)) (iA (bC (xp hr.vN) xk (EV.b (bN (ab (aG ax aF (EV.b (ae 3 (bv 3))) (EV.b aq) (fun _ _ => rfl)) (ab (aG ax aF (EV.b (ae 3 (bv 3))) (EV.b aq) (fun _ _ => rfl)) ar)))) (EV.b (bN (ab (aG ax aF (EV.b (ae 2 (bv 2))) (EV.b aq) (fun _ _ => rfl)) (ab (aG ax aF (EV.b (ae 2 (bv 2))) (EV.b aq) (fun _ _ => rfl)) ar)))) (bq _)))))) (aR (bQ (bR (aG ax aF (EV.b (ae 3 (bv 3))) (EV.b aq) (fun _ _ => rfl))))) fm)))))
    (aR (bQ (bR (bD cK dP (EV.b (aG ax aF (EV.b (ae 0 (bv 0))) (EV.b aq) (fun _ _ => rfl))) (EV.b aq))))))
theorem xu : bu P w K mg base dF 1 a_ruled d_ruled ["book"] (fo (cH tb_law_book K) fU) := by
  have eb : aw eK = aw eK := rfl
  conv at eb => rhs; whnf
  have es : ak eK = ak eK := rfl
  conv at es => rhs; whnf
  refine d8 (N := ["book"]) (ps := ["book"]) (k := 0) (m := iF) rfl T.fU we (by decide) eb es fun eF A outer s H E hr => ?_
  unfold iF
  exact (aR (bQ (bR (EF.v (CU (De (aN.pX (N := ["page", "rule"]) (js := [none, none]) (ak eK) ["book"] rfl rfl (by decide +kernel)) rfl (i7 (EV.b (ae 0 (bv 0)))) (fun _ _ _ _ => (cL (aS (i := 0) (by decide : (["page", "rule"] : List Str).Nodup) rfl (Or.inl rfl)))) (fun _ _ _ _ => (gy (bC (cN hr.units) (dU false) (EV.b (aG ax aF (EV.b (ae 0 (bv 0))) (EV.b aq) (fun _ _ => rfl))) (EV.b bG) (bq _)))) (fun _ _ _ _ => (bN (ab (aG ax aF (EV.b (ae 0 (bv 0))) (EV.b aq) (fun _ _ => rfl)) (ab (ae 1 (bv 1)) ar)))) (fun _ _ _ _ => (i7 (EV.b (aG ax aF (EV.b (ae 0 (bv 0))) (EV.b aq) (fun _ _ => rfl))))) (fun _ _ _ _ => (cL (aS (i := 1) (by decide : (["page", "rule"] : List Str).Nodup) rfl (Or.inl rfl)))) (fun _ _ _ _ => fV)))))))
theorem j9 : bu P w K mg base dF 1 a_hang_straight d_hang_straight ["pairs", "page"] (fo (cH tb_law_book K) bK) := by
  have eb : aw aW = aw aW := rfl
  conv at eb => rhs; whnf
  have es : ak aW = ak aW := rfl
  conv at es => rhs; whnf
  refine d8 (N := ["pairs", "page", "word", "name"]) (ps := ["pairs", "page"]) (k := 0) (m := cB) rfl T.bK eS (by decide) eb es fun eF A outer s H E hr => ?_
  unfold cB
  exact (az (BB (ks := [2, 3]) (C9 (bN (ab (aG ax aF (EV.b (ae 1 (bv 1))) (EV.b aq) (fun _ _ => rfl)) (ab (aG ax aF (EV.b (ae 1 (bv 1))) (EV.b aq) (fun _ _ => rfl)) ar))) (kC rfl (de (aS (i := 2) eS.nd rfl (Or.inl rfl)) (de (aS (i := 3) eS.nd rfl (Or.inr rfl)) iL)))))
    (az (fM (fS (bC (cN hr.units) (dU false) (EV.b (ae 2 (bv 2))) (EV.b bG) (bq _)) (aR (bQ (bR (EF.v (jE (jO (aN.pX (N := ["w", "rule", "name"]) (js := [none, none, some 3]) (ak aW) ["pairs", "page", "word", "name"] rfl rfl (by decide +kernel)) rfl (i7 (EV.b (ae 0 (bv 0)))) (fun _ _ _ _ => (sN (ks := [0, 1]) (kC rfl (de (aS (i := 0) (by decide : (["w", "rule", "name"] : List Str).Nodup) rfl (Or.inl rfl)) (de (aS (i := 1) (by decide : (["w", "rule", "name"] : List Str).Nodup) rfl (Or.inl rfl)) iL))))) (fun _ _ _ _ => (gy (WV.t (iV (bC xo (qt false) (EV.b (aG ax aF (EV.b (ae 1 (bv 1))) (EV.b aq) (fun _ _ => rfl))) (EV.b (bN (ab bG (ab bG ar)))) rfl) (iA (bC (cN hr.units) (dU false) (EV.b (aG ax aF (EV.b (ae 1 (bv 1))) (EV.b aq) (fun _ _ => rfl))) (EV.b (ae 2 (bv 2))) (bq _))))))) (fun _ _ _ _ => (ae 0 (bv 0))))))))) fm))
    (az (fM (fS (bC (cN hr.units) (dU false) (EV.b (ae 2 (bv 2))) (EV.b bG) (bq _)) (aR (bQ (bR (EF.v (jE (jO (aN.pX (N := ["w", "rule", "name"]) (js := [none, none, some 3]) (ak aW) ["pairs", "page", "word", "name"] rfl rfl (by decide +kernel)) rfl (i7 (EV.b (ae 0 (bv 0)))) (fun _ _ _ _ => (sN (ks := [0, 1]) (kC rfl (de (aS (i := 0) (by decide : (["w", "rule", "name"] : List Str).Nodup) rfl (Or.inl rfl)) (de (aS (i := 1) (by decide : (["w", "rule", "name"] : List Str).Nodup) rfl (Or.inl rfl)) iL))))) (fun _ _ _ _ => (gy (WV.t (iV (bC (cN hr.units) (dU false) (EV.b (aG ax aF (EV.b (ae 1 (bv 1))) (EV.b aq) (fun _ _ => rfl))) (EV.b bG) (bq _)) (iA (bC (cN hr.units) (dU false) (EV.b (ae 0 (bv 0))) (EV.b (ae 2 (bv 2))) (bq _))))))) (fun _ _ _ _ => (ae 0 (bv 0))))))))) fm))
    (aR (bQ (bR (EF.v (cz (ab (ae 3 (bv 3)) ar)))))))))
theorem sk (pU : bu P w K mg base dF 1 a_ruled d_ruled ["book"] (fo (cH tb_law_book K) fU)) (fv : bu P w K mg base dF 1 a_hang_straight d_hang_straight ["pairs", "page"] (fo (cH tb_law_book K) bK)) : bu P w K mg base dF 2 a_hanging d_hanging ["book", "page"] (fo (cH tb_law_book K) eC) := by
  have eb : aw cM = aw cM := rfl
  conv at eb => rhs; whnf
  have es : ak cM = ak cM := rfl
  conv at es => rhs; whnf
  refine d8 (N := ["book", "page", "pairs", "found", "before", "w", "rule"]) (ps := ["book", "page"]) (k := 1) (m := fE) rfl T.eC d6 (by decide) eb es fun eF A outer s H E hr => ?_
  unfold fE
  exact (az (bg (bo (i := 2) d6.nd rfl (Or.inl rfl) (aE (aB pU (hr.mono (by decide)) rfl T.iF T.fU.kp T.AH .nil aT (ab (ae 0 (bv 0)) ar)))))
    (az (vW (AJ (EU (k := 3) d6.nd rfl (Or.inl rfl) (aN.pX (N := ["w"]) (js := [none]) (ak cM) ["book", "page", "pairs", "found", "before", "w", "rule"] rfl rfl (by decide +kernel)) rfl (i7 (EV.b (aE (aB fv (hr.mono (by decide)) rfl T.cB T.bK.kp T.ly .nil aT (ab (ae 2 (bv 2)) (ab (ae 1 (bv 1)) ar)))))) (fun _ _ _ _ => (cL (aS (i := 0) (by decide : (["w"] : List Str).Nodup) rfl (Or.inl rfl)))) (fun _ _ _ _ => fV) (fun _ _ _ _ => (ae 0 (bv 0))) (fun _ _ _ _ => yg))))
    (az (bg (bo (i := 4) d6.nd rfl (Or.inl rfl) (mQ (q5 lU (EV.b aq)))))
    (az (p9 1000 (qZ PassesOwn.never (bC my mx (EV.b (ae 4 (bv 4))) (EV.b (aY (bt cG rfl T.iR PySem.boot_len (aH (eN 3 (bv 3)) a9)) f7)) (bq _)) (az (bg (bo (i := 4) d6.nd rfl (Or.inl rfl) (aY (bt cG rfl T.iR PySem.boot_len (aH (eN 3 (bv 3)) a9)) f7)))
    (aR (iW (ip PassesOwn.never rfl (xQ (ae 2 (bv 2))) (xU (ks := [5, 6]) (kC rfl (de (aS (i := 5) d6.nd rfl (Or.inl rfl)) (de (aS (i := 6) d6.nd rfl (Or.inl rfl)) iL)))) (aR (fM (fS (WV.t (iV (bC (cN hr.units) (dU false) (EV.b (aG ax aF (EV.b (ae 6 (bv 6))) (EV.b aq) (fun _ _ => rfl))) (EV.b bG) (bq _)) (iA (Br (xT hr) (EV.b (aG ax aF (EV.b (ae 6 (bv 6))) (EV.b aq) (fun _ _ => rfl))) (eN 3 (bv 3)) rfl)))) (aR (zj (k := 3) (AE (xT hr) (bv 3) (EV.b (ae 5 (bv 5))) yg))) fm)))))))))
    (aR (BD (bQ (bR (aY (eB dZ rfl T.jt PyProof.Rows.boot_tuple (aH (EV.b (EF.v (jF (bt (qY rfl) rfl T.ju PyProof.Rows.boot_sorted (aH (EV.b (ae 3 (bv 3))) a9)) vq))) a9)) mW)))))))))
theorem xv (kG : bu P w K mg base dF 2 a_hanging d_hanging ["book", "page"] (fo (cH tb_law_book K) eC)) (gc : bu P w K mg base dF 1 a_next_moment d_next_moment ["hill", "book", "page"] (fo (cH tb_law_book K) cj)) : bu P w K mg base dF 3 a_reach d_reach ["hill", "book", "page"] (fo (cH tb_law_book K) dM) := by
  have eb : aw fh = aw fh := rfl
  conv at eb => rhs; whnf
  have es : ak fh = ak fh := rfl
  conv at es => rhs; whnf
  refine d8 (N := ["hill", "book", "page"]) (ps := ["hill", "book", "page"]) (k := 2) (m := gI) rfl T.dM wg (by decide) eb es fun eF A outer s H E hr => ?_
  unfold gI
  exact (aR (bQ (bR (bN (by refine ab (aE (aB kG (hr.mono (by decide)) rfl T.fE T.eC.kp T.vv .nil aT (ab (ae 1 (bv 1)) (ab (ae 2 (bv 2)) ar)))) ?_; refine ab (aG ax aF (EV.b (ae 2 (bv 2))) (EV.b aq) (fun _ _ => rfl)) ?_; refine ab (aE (aB gc (hr.mono (by decide)) rfl T.dh T.cj.kp T.nA .nil aT (by refine ab (ae 0 (bv 0)) ?_; refine ab (ae 1 (bv 1)) ?_; refine ab (ae 2 (bv 2)) ?_; exact ar))) ?_; exact ar)))))
theorem qv (av : bu P w K mg base dF 1 awpick dwpick ["_law_state", "_law_many"] (fo (cH tb_law_book K) af)) : bu P w K mg base dF 2 awword dwword ["_law_state", "_law_taken"] (fo (cH tb_law_book K) dC) := by
  have eb : aw bM = aw bM := rfl
  conv at eb => rhs; whnf
  have es : ak bM = ak bM := rfl
  conv at es => rhs; whnf
  refine d8 (N := ["_law_state", "_law_taken", "_law_letters", "_law_size", "_law_word_here"]) (ps := ["_law_state", "_law_taken"]) (k := 1) (m := eX) rfl T.dC fN (by decide) eb es fun eF A outer s H E hr => ?_
  unfold eX
  exact (az (bg (bo (i := 2) fN.nd rfl (Or.inr rfl) bG))
    (az (bg (bo (i := 3) fN.nd rfl (Or.inl rfl) (bD cK dP (EV.b aq) (EV.b (aE (aB av (hr.mono (by decide)) rfl T.aC T.af.kp T.aD .nil aT (ab (ae 0 (bv 0)) (ab aq ar))))))))
    (az (bg (bo (i := 4) fN.nd rfl (Or.inr rfl) (EJ (kW PySem.F.plainAttrs_str PySem.F.slot_str_join PySem.F.type_str_join zZ (EV.b bG) (aH (EV.b (EF.v (jE (jO (aN.pX (N := ["_law_k", "_law_letters", "_law_state"]) (js := [none, some 2, some 0]) (ak bM) ["_law_state", "_law_taken", "_law_letters", "_law_size", "_law_word_here"] rfl rfl (by decide +kernel)) rfl (iH (fF rfl T.iG (aH (EV.b (ae 3 (bv 3))) a9))) (fun _ _ _ _ => (cL (aS (i := 0) (by decide : (["_law_k", "_law_letters", "_law_state"] : List Str).Nodup) rfl (Or.inl rfl)))) (fun _ _ _ _ => fV) (fun _ _ _ _ => (aG ax aF (EV.b (ae 1 (bv 1))) (EV.b (aE (aB av (hr.mono (by decide)) rfl T.aC T.af.kp T.aD .nil aT (ab (ae 2 (bv 2)) (ab aq ar))))) (fun _ _ => rfl))))))) a9)) zY)))
    (aR (bQ (bR (aG ax aF (EV.b (EF.v (jE (jO (aN.pX (N := ["_law_one", "_law_taken"]) (js := [none, some 1]) (ak bM) ["_law_state", "_law_taken", "_law_letters", "_law_size", "_law_word_here"] rfl rfl (by decide +kernel)) rfl (i7 (EV.b (EF.v (ku (ot i6 (EV.b (EF.v (cz (ab (ae 4 (bv 4)) ar)))) (EV.b (EF.v (jE (jO (aN.pX (N := ["_law_letter", "_law_word_here"]) (js := [none, some 4]) (ak bM) ["_law_state", "_law_taken", "_law_letters", "_law_size", "_law_word_here"] rfl rfl (by decide +kernel)) rfl (i7 (EV.b (ae 2 (bv 2)))) (fun _ _ _ _ => (cL (aS (i := 0) (by decide : (["_law_letter", "_law_word_here"] : List Str).Nodup) rfl (Or.inl rfl)))) (fun _ _ _ _ => fV) (fun _ _ _ _ => (bD cK dP (EV.b (jB (jN zu (EV.b (ae 1 (bv 1))) lL (lK (EV.b aq))) zk)) (EV.b (ae 0 (bv 0)))))))))))))) (fun _ _ _ _ => (cL (aS (i := 0) (by decide : (["_law_one", "_law_taken"] : List Str).Nodup) rfl (Or.inl rfl)))) (fun _ _ _ _ => (gy (bC j7 (qt true) (EV.b (ae 0 (bv 0))) (EV.b (ae 1 (bv 1))) rfl))) (fun _ _ _ _ => (ae 0 (bv 0))))))) (EV.b aq) (fun _ _ => rfl))))))))
theorem oW (jc : bu P w K mg base dF 2 awword dwword ["_law_state", "_law_taken"] (fo (cH tb_law_book K) dC)) : bu P w K mg base dF 3 awwords dwwords ["_law_state", "_law_many"] (fo (cH tb_law_book K) bE) := by
  have eb : aw cc = aw cc := rfl
  conv at eb => rhs; whnf
  have es : ak cc = ak cc := rfl
  conv at es => rhs; whnf
  refine d8 (N := ["_law_state", "_law_many", "_law_found", "_law_k"]) (ps := ["_law_state", "_law_many"]) (k := 2) (m := cS) rfl T.bE gC (by decide) eb es fun eF A outer s H E hr => ?_
  unfold cS
  exact (az (lX (bo (i := 2) gC.nd rfl (Or.inl rfl) (cz ar)))
    (az (iW (ip PassesOwn.never rfl (iH (fF rfl T.iG (aH (EV.b (ae 1 (bv 1))) a9))) (iK (aS (i := 3) gC.nd rfl (Or.inl rfl))) (aR (iX (k := 2) (gR (kW HN HR HQ dG (bv 2) (fT (qP (aB jc (hr.mono (by decide)) rfl T.eX T.dC.kp T.tm .nil aT (aH (EV.b (ae 0 (bv 0))) (aH (eN 2 (bv 2)) a9)))) iq)))))))
    (aR (bQ (bR (ae 2 (bv 2)))))))
theorem qx (dB : bu P w K mg base dF 3 awwords dwwords ["_law_state", "_law_many"] (fo (cH tb_law_book K) bE)) (av : bu P w K mg base dF 1 awpick dwpick ["_law_state", "_law_many"] (fo (cH tb_law_book K) af)) : bu P w K mg base dF 4 awhill dwhill ["_law_state", "_law_most", "_law_scale"] (fo (cH tb_law_book K) dD) := by
  have eb : aw cn = aw cn := rfl
  conv at eb => rhs; whnf
  have es : ak cn = ak cn := rfl
  conv at es => rhs; whnf
  refine d8 (N := ["_law_state", "_law_most", "_law_scale", "_law_spots", "_law_names", "_law_ways", "_law_name", "_law_kind", "_law_ends"]) (ps := ["_law_state", "_law_most", "_law_scale"]) (k := 3) (m := fb) rfl T.dD dv (by decide) eb es fun eF A outer s H E hr => ?_
  unfold fb
  exact (az (bg (bo (i := 3) dv.nd rfl (Or.inr rfl) (aE (aB dB (hr.mono (by decide)) rfl T.cS T.bE.kp T.ir .nil aT (ab (ae 0 (bv 0)) (ab (bD cK dP (EV.b aq) (EV.b (aE (aB av (hr.mono (by decide)) rfl T.aC T.af.kp T.aD .nil aT (ab (ae 0 (bv 0)) (ab aq ar)))))) ar))))))
    (az (bg (bo (i := 4) dv.nd rfl (Or.inl rfl) (aE (aB dB (hr.mono (by decide)) rfl T.cS T.bE.kp T.ir .nil aT (ab (ae 0 (bv 0)) (ab (bD cK dP (EV.b aq) (EV.b (aE (aB av (hr.mono (by decide)) rfl T.aC T.af.kp T.aD .nil aT (ab (ae 0 (bv 0)) (ab (ae 1 (bv 1)) ar)))))) ar))))))
    (az (lX (bo (i := 5) dv.nd rfl (Or.inl rfl) (cz ar)))
    (az (iW (ip PassesOwn.never rfl (xQ (ae 4 (bv 4))) (iK (aS (i := 6) dv.nd rfl (Or.inl rfl))) (az (bg (bo (i := 7) dv.nd rfl (Or.inl rfl) (aG ax aF (EV.b (EF.v (cz (by refine ab bG ?_; refine ab bG ?_; refine ab bG ?_; refine ab bG ?_; exact ar)))) (EV.b (aE (aB av (hr.mono (by decide)) rfl T.aC T.af.kp T.aD .nil aT (ab (ae 0 (bv 0)) (ab aq ar))))) (fun _ _ => rfl))))
    (az (bg (oz (jb (mZ (k := 8) dv.nd rfl (Or.inl rfl) (aN.pX (N := ["_law_k", "_law_spots", "_law_state"]) (js := [none, some 3, some 0]) (ak cn) ["_law_state", "_law_most", "_law_scale", "_law_spots", "_law_names", "_law_ways", "_law_name", "_law_kind", "_law_ends"] rfl rfl (by decide +kernel)) rfl (iH (fF rfl T.iG (aH (EV.b aq) a9))) (fun _ _ _ _ => (cL (aS (i := 0) (by decide : (["_law_k", "_law_spots", "_law_state"] : List Str).Nodup) rfl (Or.inl rfl)))) (fun _ _ _ _ => fV) (fun _ _ _ _ => (aG ax aF (EV.b (ae 1 (bv 1))) (EV.b (aE (aB av (hr.mono (by decide)) rfl T.aC T.af.kp T.aD .nil aT (ab (ae 2 (bv 2)) (ab (aY (bt cG rfl T.iR PySem.boot_len (aH (EV.b (ae 1 (bv 1))) a9)) f7) ar))))) (fun _ _ => rfl)))))))
    (aR (iX (k := 5) (gR (kW HN HR HQ dG (bv 5) (fT (bN (by refine ab (ae 6 (bv 6)) ?_; refine ab (ae 7 (bv 7)) ?_; refine ab (aG ax aF (EV.b (ae 8 (bv 8))) (EV.b aq) (fun _ _ => rfl)) ?_; refine ab (aG ax aF (EV.b (ae 8 (bv 8))) (EV.b aq) (fun _ _ => rfl)) ?_; refine ab (bD fA fz (EV.b (ae 2 (bv 2))) (EV.b (aE (aB av (hr.mono (by decide)) rfl T.aC T.af.kp T.aD .nil aT (ab (ae 0 (bv 0)) (ab aq ar)))))) ?_; refine ab (bD fA fz (EV.b (ae 2 (bv 2))) (EV.b (aE (aB av (hr.mono (by decide)) rfl T.aC T.af.kp T.aD .nil aT (ab (ae 0 (bv 0)) (ab aq ar)))))) ?_; exact ar)) iq)))))))))
    (aR (bQ (bR (bN (by refine ab (aY (eB dZ rfl T.jt PyProof.Rows.boot_tuple (aH (EV.b (ae 5 (bv 5))) a9)) mW) ?_; refine ab (aG ax aF (EV.b (ae 3 (bv 3))) (EV.b (aE (aB av (hr.mono (by decide)) rfl T.aC T.af.kp T.aD .nil aT (ab (ae 0 (bv 0)) (ab (aY (bt cG rfl T.iR PySem.boot_len (aH (EV.b (ae 3 (bv 3))) a9)) f7) ar))))) (fun _ _ => rfl)) ?_; refine ab (bD fA fz (EV.b (ae 2 (bv 2))) (EV.b (bD cK dP (EV.b aq) (EV.b (aE (aB av (hr.mono (by decide)) rfl T.aC T.af.kp T.aD .nil aT (ab (ae 0 (bv 0)) (ab aq ar)))))))) ?_; exact ar)))))))))
theorem nr (av : bu P w K mg base dF 1 awpick dwpick ["_law_state", "_law_many"] (fo (cH tb_law_book K) af)) : bu P w K mg base dF 2 awmoment dwmoment ["_law_state", "_law_hill_here", "_law_scale"] (fo (cH tb_law_book K) cb) := by
  have eb : aw bP = aw bP := rfl
  conv at eb => rhs; whnf
  have es : ak bP = ak bP := rfl
  conv at es => rhs; whnf
  refine d8 (N := ["_law_state", "_law_hill_here", "_law_scale"]) (ps := ["_law_state", "_law_hill_here", "_law_scale"]) (k := 1) (m := dI) rfl T.cb nh (by decide) eb es fun eF A outer s H E hr => ?_
  unfold dI
  exact (aR (bQ (bR (aY (bt (oe rfl) rfl T.A3 PyProof.Rows.boot_min (aH (EV.b (aG ax aF (EV.b (ae 1 (bv 1))) (EV.b aq) (fun _ _ => rfl))) (aH (EV.b (aY (bt (kA rfl) rfl T.xE PyProof.Rows.boot_max (aH (EV.b aq) (aH (EV.b (bD cK dP (EV.b (bD fA fz (EV.b (ae 2 (bv 2))) (EV.b (aE (aB av (hr.mono (by decide)) rfl T.aC T.af.kp T.aD .nil aT (ab (ae 0 (bv 0)) (ab aq ar))))))) (EV.b (aG ax aF (EV.b (EF.v (cz (by refine ab aq ?_; refine ab aq ?_; refine ab aq ?_; refine ab (mQ (q5 lU (EV.b aq))) ?_; exact ar)))) (EV.b (aE (aB av (hr.mono (by decide)) rfl T.aC T.af.kp T.aD .nil aT (ab (ae 0 (bv 0)) (ab aq ar))))) (fun _ _ => rfl))))) a9))) pF)) a9))) uw))))
theorem qw (av : bu P w K mg base dF 1 awpick dwpick ["_law_state", "_law_many"] (fo (cH tb_law_book K) af)) : bu P w K mg base dF 2 awrule dwrule ["_law_state", "_law_hill_here", "_law_posts", "_law_scale"] (fo (cH tb_law_book K) cX) := by
  have eb : aw cE = aw cE := rfl
  conv at eb => rhs; whnf
  have es : ak cE = ak cE := rfl
  conv at es => rhs; whnf
  refine d8 (N := ["_law_state", "_law_hill_here", "_law_posts", "_law_scale", "_law_way", "_law_post", "_law_value", "_law_first", "_law_last", "_law_other"]) (ps := ["_law_state", "_law_hill_here", "_law_posts", "_law_scale"]) (k := 1) (m := eZ) rfl T.cX eh (by decide) eb es fun eF A outer s H E hr => ?_
  unfold eZ
  exact (az (bg (bo (i := 4) eh.nd rfl (Or.inl rfl) (aE (aB av (hr.mono (by decide)) rfl T.aC T.af.kp T.aD .nil aT (ab (ae 0 (bv 0)) (ab aq ar))))))
    (az (bg (bo (i := 5) eh.nd rfl (Or.inl rfl) (aG ax aF (EV.b (ae 2 (bv 2))) (EV.b (aE (aB av (hr.mono (by decide)) rfl T.aC T.af.kp T.aD .nil aT (ab (ae 0 (bv 0)) (ab (aY (bt cG rfl T.iR PySem.boot_len (aH (EV.b (ae 2 (bv 2))) a9)) f7) ar))))) (fun _ _ => rfl))))
    (az (bg (bo (i := 6) eh.nd rfl (Or.inl rfl) (bD se r9 (EV.b (aE (aB av (hr.mono (by decide)) rfl T.aC T.af.kp T.aD .nil aT (ab (ae 0 (bv 0)) (ab aq ar))))) (EV.b aq))))
    (az (BC (C8 (i := 7) (j := 8) rfl eh.nd rfl rfl (by decide) rfl rfl (ab (bD fA fz (EV.b (ae 3 (bv 3))) (EV.b (aE (aB av (hr.mono (by decide)) rfl T.aC T.af.kp T.aD .nil aT (ab (ae 0 (bv 0)) (ab aq ar)))))) (ab (bD se r9 (EV.b (bD cK dP (EV.b (bD fA fz (EV.b (ae 3 (bv 3))) (EV.b (bD cK dP (EV.b aq) (EV.b (aE (aB av (hr.mono (by decide)) rfl T.aC T.af.kp T.aD .nil aT (ab (ae 0 (bv 0)) (ab aq ar))))))))) (EV.b (aE (aB av (hr.mono (by decide)) rfl T.aC T.af.kp T.aD .nil aT (ab (ae 0 (bv 0)) (ab aq ar))))))) (EV.b aq)) ar)) rfl))
    (az (bg (bo (i := 9) eh.nd rfl (Or.inl rfl) (aG ax aF (EV.b (aG ax aF (EV.b (aG ax aF (EV.b (ae 1 (bv 1))) (EV.b aq) (fun _ _ => rfl))) (EV.b (aE (aB av (hr.mono (by decide)) rfl T.aC T.af.kp T.aD .nil aT (ab (ae 0 (bv 0)) (ab (aY (bt cG rfl T.iR PySem.boot_len (aH (EV.b (aG ax aF (EV.b (ae 1 (bv 1))) (EV.b aq) (fun _ _ => rfl))) a9)) f7) ar))))) (fun _ _ => rfl))) (EV.b aq) (fun _ _ => rfl))))
    (az (fM (fS (bC my mx (EV.b (ae 4 (bv 4))) (EV.b aq) (bq _)) (aR (bQ (bR (bN (by refine ab bG ?_; refine ab (ae 7 (bv 7)) ?_; refine ab (aY (bt (oe rfl) rfl T.A3 PyProof.Rows.boot_min (aH (EV.b aq) (aH (EV.b (bD cK dP (EV.b (ae 7 (bv 7))) (EV.b (aY (bt (kA rfl) rfl T.xE PyProof.Rows.boot_max (aH (EV.b aq) (aH (EV.b (ae 8 (bv 8))) a9))) pF)))) a9))) uw) ?_; exact ar))))) fm))
    (az (fM (fS (bC my mx (EV.b (ae 4 (bv 4))) (EV.b aq) (bq _)) (aR (bQ (bR (aG ax aF (EV.b (EF.v (cz (ab (bN (by refine ab bG ?_; refine ab (ae 5 (bv 5)) ?_; refine ab (ae 6 (bv 6)) ?_; exact ar)) (ab (bN (by refine ab bG ?_; refine ab (ae 5 (bv 5)) ?_; refine ab (ae 6 (bv 6)) ?_; exact ar)) ar))))) (EV.b (bD f6 xi (EV.b (ae 4 (bv 4))) (EV.b aq))) (fun _ _ => rfl))))) fm))
    (az (fM (fS (bC my mx (EV.b (ae 4 (bv 4))) (EV.b aq) (bq _)) (aR (bQ (bR (bN (ab bG (ab (aY (bt (kA rfl) rfl T.xE PyProof.Rows.boot_max (aH (EV.b aq) (aH (EV.b (ae 8 (bv 8))) a9))) pF) ar)))))) fm))
    (aR (bQ (bR (aG ax aF (EV.b (EF.v (cz (ab (bN (ab bG (ab (ae 9 (bv 9)) ar))) (ab (bN (ab bG ar)) ar))))) (EV.b (aY (eB og rfl T.A4 PyProof.Rows.boot_int (aH (EV.b (yh (ij (cN hr.units) (dU false) (EV.b (ae 4 (bv 4))) (EV.b aq) (bq _)) (ye (ij xq A2 (EV.b (ae 6 (bv 6))) (EV.b aq) (bq _))))) a9)) yy)) (fun _ _ => rfl)))))))))))))
theorem nk (av : bu P w K mg base dF 1 awpick dwpick ["_law_state", "_law_many"] (fo (cH tb_law_book K) af)) : bu P w K mg base dF 2 awnumber dwnumber ["_law_state", "_law_taken"] (fo (cH tb_law_book K) bY) := by
  have eb : aw bz = aw bz := rfl
  conv at eb => rhs; whnf
  have es : ak bz = ak bz := rfl
  conv at es => rhs; whnf
  refine d8 (N := ["_law_state", "_law_taken", "_law_number_here", "_law_some"]) (ps := ["_law_state", "_law_taken"]) (k := 1) (m := dH) rfl T.bY fY (by decide) eb es fun eF A outer s H E hr => ?_
  unfold dH
  exact (az (bg (bo (i := 2) fY.nd rfl (Or.inr rfl) (aE (aB av (hr.mono (by decide)) rfl T.aC T.af.kp T.aD .nil aT (ab (ae 0 (bv 0)) (ab (aG ax aF (EV.b (EF.v (cz (ab aq (ab aq ar))))) (EV.b (aE (aB av (hr.mono (by decide)) rfl T.aC T.af.kp T.aD .nil aT (ab (ae 0 (bv 0)) (ab aq ar))))) (fun _ _ => rfl)) ar))))))
    (az (bg (oz (jb (mZ (k := 3) fY.nd rfl (Or.inl rfl) (aN.pX (N := ["_law_k", "_law_number_here"]) (js := [none, some 2]) (ak bz) ["_law_state", "_law_taken", "_law_number_here", "_law_some"] rfl rfl (by decide +kernel)) rfl (iH (fF rfl T.iG (aH (EV.b aq) a9))) (fun _ _ _ _ => (cL (aS (i := 0) (by decide : (["_law_k", "_law_number_here"] : List Str).Nodup) rfl (Or.inl rfl)))) (fun _ _ _ _ => fV) (fun _ _ _ _ => (bD f6 xi (EV.b (bD cK dP (EV.b (ae 1 (bv 1))) (EV.b (ae 0 (bv 0))))) (EV.b aq)))))))
    (aR (bQ (bR (aG ax aF (EV.b (EF.v (jE (jO (aN.pX (N := ["_law_one", "_law_taken"]) (js := [none, some 1]) (ak bz) ["_law_state", "_law_taken", "_law_number_here", "_law_some"] rfl rfl (by decide +kernel)) rfl (i7 (EV.b (ae 3 (bv 3)))) (fun _ _ _ _ => (cL (aS (i := 0) (by decide : (["_law_one", "_law_taken"] : List Str).Nodup) rfl (Or.inl rfl)))) (fun _ _ _ _ => (gy (bC j7 (qt true) (EV.b (ae 0 (bv 0))) (EV.b (ae 1 (bv 1))) rfl))) (fun _ _ _ _ => (ae 0 (bv 0))))))) (EV.b aq) (fun _ _ => rfl)))))))
theorem oX (dB : bu P w K mg base dF 3 awwords dwwords ["_law_state", "_law_many"] (fo (cH tb_law_book K) bE)) (av : bu P w K mg base dF 1 awpick dwpick ["_law_state", "_law_many"] (fo (cH tb_law_book K) af)) (gU : bu P w K mg base dF 2 awmoment dwmoment ["_law_state", "_law_hill_here", "_law_scale"] (fo (cH tb_law_book K) cb)) (gT : bu P w K mg base dF 2 awnumber dwnumber ["_law_state", "_law_taken"] (fo (cH tb_law_book K) bY)) (jd : bu P w K mg base dF 2 awrule dwrule ["_law_state", "_law_hill_here", "_law_posts", "_law_scale"] (fo (cH tb_law_book K) cX)) : bu P w K mg base dF 4 awpages dwpages ["_law_state", "_law_hill_here", "_law_scale", "_law_many"] (fo (cH tb_law_book K) cV) := by
  have eb : aw bJ = aw bJ := rfl
  conv at eb => rhs; whnf
  have es : ak bJ = ak bJ := rfl
  conv at es => rhs; whnf
  refine d8 (N := ["_law_state", "_law_hill_here", "_law_scale", "_law_many", "_law_posts", "_law_slopes", "_law_pages_here", "_law_taken", "_law_k", "_law_kind", "_law_moment_here", "_law_name", "_law_size", "_law_rules", "_law_value"]) (ps := ["_law_state", "_law_hill_here", "_law_scale", "_law_many"]) (k := 3) (m := eA) rfl T.cV bx (by decide) eb es fun eF A outer s H E hr => ?_
  unfold eA
  exact (az (bg (bo (i := 4) bx.nd rfl (Or.inr rfl) (EF.v (ku (ot i6 (EV.b (aE (aB dB (hr.mono (by decide)) rfl T.cS T.bE.kp T.ir .nil aT (ab (ae 0 (bv 0)) (ab (bD cK dP (EV.b aq) (EV.b (aE (aB av (hr.mono (by decide)) rfl T.aC T.af.kp T.aD .nil aT (ab (ae 0 (bv 0)) (ab aq ar)))))) ar))))) (EV.b (bD fA fz (EV.b (EF.v (cz (ab (aG ax aF (EV.b (aG ax aF (EV.b (aG ax aF (EV.b (ae 1 (bv 1))) (EV.b aq) (fun _ _ => rfl))) (EV.b aq) (fun _ _ => rfl))) (EV.b aq) (fun _ _ => rfl)) ar)))) (EV.b (aE (aB av (hr.mono (by decide)) rfl T.aC T.af.kp T.aD .nil aT (ab (ae 0 (bv 0)) (ab aq ar))))))))))))
    (az (bg (oz (jb (mZ (k := 5) bx.nd rfl (Or.inl rfl) (aN.pX (N := ["_law_way"]) (js := [none]) (ak bJ) ["_law_state", "_law_hill_here", "_law_scale", "_law_many", "_law_posts", "_law_slopes", "_law_pages_here", "_law_taken", "_law_k", "_law_kind", "_law_moment_here", "_law_name", "_law_size", "_law_rules", "_law_value"] rfl rfl (by decide +kernel)) rfl (i7 (EV.b (aG ax aF (EV.b (ae 1 (bv 1))) (EV.b aq) (fun _ _ => rfl)))) (fun _ _ _ _ => (cL (aS (i := 0) (by decide : (["_law_way"] : List Str).Nodup) rfl (Or.inl rfl)))) (fun _ _ _ _ => (gy (bC (cN hr.units) (dU false) (EV.b (aG ax aF (EV.b (ae 0 (bv 0))) (EV.b aq) (fun _ _ => rfl))) (EV.b bG) (bq _)))) (fun _ _ _ _ => (aG ax aF (EV.b (ae 0 (bv 0))) (EV.b aq) (fun _ _ => rfl)))))))
    (az (lX (bo (i := 6) bx.nd rfl (Or.inl rfl) (cz ar)))
    (az (lX (bo (i := 7) bx.nd rfl (Or.inl rfl) (cz ar)))
    (az (iW (ip PassesOwn.never rfl (iH (fF rfl T.iG (aH (EV.b (ae 3 (bv 3))) a9))) (iK (aS (i := 8) bx.nd rfl (Or.inl rfl))) (az (bg (bo (i := 9) bx.nd rfl (Or.inl rfl) (aE (aB av (hr.mono (by decide)) rfl T.aC T.af.kp T.aD .nil aT (ab (ae 0 (bv 0)) (ab aq ar))))))
    (az (bg (bo (i := 10) bx.nd rfl (Or.inl rfl) (bD fA fz (EV.b (aE (aB gU (hr.mono (by decide)) rfl T.dI T.cb.kp T.pN .nil aT (by refine ab (ae 0 (bv 0)) ?_; refine ab (ae 1 (bv 1)) ?_; refine ab (ae 2 (bv 2)) ?_; exact ar)))) (EV.b (aY (eB og rfl T.A4 PyProof.Rows.boot_int (aH (EV.b (ij xq A2 (EV.b (aE (aB av (hr.mono (by decide)) rfl T.aC T.af.kp T.aD .nil aT (ab (ae 0 (bv 0)) (ab aq ar))))) (EV.b aq) (bq _))) a9)) yy)))))
    (az (iX (k := 7) (gR (kW HN HR HQ dG (bv 7) (fT (qP (aB gT (hr.mono (by decide)) rfl T.dH T.bY.kp T.pM .nil aT (aH (EV.b (ae 0 (bv 0))) (aH (eN 7 (bv 7)) a9)))) iq))))
    (aR (fM (fS (bC my mx (EV.b (ae 9 (bv 9))) (EV.b aq) (bq _)) (az (bg (bo (i := 11) bx.nd rfl (Or.inl rfl) (aG ax aF (EV.b (aG ax aF (EV.b (aG ax aF (EV.b (ae 1 (bv 1))) (EV.b aq) (fun _ _ => rfl))) (EV.b (aE (aB av (hr.mono (by decide)) rfl T.aC T.af.kp T.aD .nil aT (ab (ae 0 (bv 0)) (ab (aY (bt cG rfl T.iR PySem.boot_len (aH (EV.b (aG ax aF (EV.b (ae 1 (bv 1))) (EV.b aq) (fun _ _ => rfl))) a9)) f7) ar))))) (fun _ _ => rfl))) (EV.b aq) (fun _ _ => rfl))))
    (az (bg (bo (i := 12) bx.nd rfl (Or.inl rfl) (aG ax aF (EV.b (EF.v (cz (by refine ab aq ?_; refine ab aq ?_; refine ab aq ?_; refine ab aq ?_; refine ab aq ?_; refine ab aq ?_; refine ab aq ?_; refine ab aq ?_; exact ar)))) (EV.b (aE (aB av (hr.mono (by decide)) rfl T.aC T.af.kp T.aD .nil aT (ab (ae 0 (bv 0)) (ab aq ar))))) (fun _ _ => rfl))))
    (az (bg (oz (jb (mZ (k := 13) bx.nd rfl (Or.inl rfl) (aN.pX (N := ["_law_j", "_law_state", "_law_hill_here", "_law_posts", "_law_scale"]) (js := [none, some 0, some 1, some 4, some 2]) (ak bJ) ["_law_state", "_law_hill_here", "_law_scale", "_law_many", "_law_posts", "_law_slopes", "_law_pages_here", "_law_taken", "_law_k", "_law_kind", "_law_moment_here", "_law_name", "_law_size", "_law_rules", "_law_value"] rfl rfl (by decide +kernel)) rfl (iH (fF rfl T.iG (aH (EV.b (ae 12 (bv 12))) a9))) (fun _ _ _ _ => (cL (aS (i := 0) (by decide : (["_law_j", "_law_state", "_law_hill_here", "_law_posts", "_law_scale"] : List Str).Nodup) rfl (Or.inl rfl)))) (fun _ _ _ _ => fV) (fun _ _ _ _ => (aE (aB jd (hr.mono (by decide)) rfl T.eZ T.cX.kp T.tu .nil aT (by refine ab (ae 1 (bv 1)) ?_; refine ab (ae 2 (bv 2)) ?_; refine ab (ae 3 (bv 3)) ?_; refine ab (ae 4 (bv 4)) ?_; exact ar))))))))
    (aR (iX (k := 6) (gR (kW HN HR HQ dG (bv 6) (fT (bN (by refine ab bG ?_; refine ab (aG ax aF (eN 7 (bv 7)) (EV.b (mQ (q5 lU (EV.b aq)))) (fun _ _ => rfl)) ?_; refine ab (ae 10 (bv 10)) ?_; refine ab (ae 11 (bv 11)) ?_; refine ab (aY (eB dZ rfl T.jt PyProof.Rows.boot_tuple (aH (EV.b (ae 13 (bv 13))) a9)) mW) ?_; exact ar)) iq)))))))) (aR (fM (fS (WV.t (DG (bC my mx (EV.b (ae 9 (bv 9))) (EV.b aq) (bq _)) (Bl (bC (cN hr.units) (dU false) (EV.b (ae 5 (bv 5))) (EV.b (EF.v (cz ar))) (bq _))))) (az (bg (bo (i := 14) bx.nd rfl (Or.inl rfl) (bD fA fz (EV.b (bD se r9 (EV.b (aE (aB av (hr.mono (by decide)) rfl T.aC T.af.kp T.aD .nil aT (ab (ae 0 (bv 0)) (ab aq ar))))) (EV.b aq))) (EV.b (aG ax aF (EV.b (EF.v (cz (by refine ab aq ?_; refine ab aq ?_; refine ab aq ?_; refine ab (bD Cf Cb (EV.b aq) (EV.b aq)) ?_; exact ar)))) (EV.b (aE (aB av (hr.mono (by decide)) rfl T.aC T.af.kp T.aD .nil aT (ab (ae 0 (bv 0)) (ab aq ar))))) (fun _ _ => rfl))))))
    (aR (iX (k := 6) (gR (kW HN HR HQ dG (bv 6) (fT (bN (by refine ab bG ?_; refine ab (aG ax aF (eN 7 (bv 7)) (EV.b (mQ (q5 lU (EV.b aq)))) (fun _ _ => rfl)) ?_; refine ab (ae 10 (bv 10)) ?_; refine ab (aG ax aF (EV.b (ae 4 (bv 4))) (EV.b (aE (aB av (hr.mono (by decide)) rfl T.aC T.af.kp T.aD .nil aT (ab (ae 0 (bv 0)) (ab (aY (bt cG rfl T.iR PySem.boot_len (aH (EV.b (ae 4 (bv 4))) a9)) f7) ar))))) (fun _ _ => rfl)) ?_; refine ab (ae 14 (bv 14)) ?_; exact ar)) iq)))))) (aR (iX (k := 6) (gR (kW HN HR HQ dG (bv 6) (fT (bN (by refine ab bG ?_; refine ab (aG ax aF (eN 7 (bv 7)) (EV.b (mQ (q5 lU (EV.b aq)))) (fun _ _ => rfl)) ?_; refine ab (ae 10 (bv 10)) ?_; refine ab (aG ax aF (EV.b (ae 5 (bv 5))) (EV.b (aE (aB av (hr.mono (by decide)) rfl T.aC T.af.kp T.aD .nil aT (ab (ae 0 (bv 0)) (ab (aY (bt cG rfl T.iR PySem.boot_len (aH (EV.b (ae 5 (bv 5))) a9)) f7) ar))))) (fun _ _ => rfl)) ?_; exact ar)) iq))))))))))))))))
    (aR (bQ (bR (ae 6 (bv 6))))))))))
theorem qy (kb : K.In base) (hB : AM base mg) : bu P w K mg base dF 4 awbook dwbook ["_law_pages_here"] (fo (cH tb_law_book K) dE) := by
  have eb : aw cp = aw cp := rfl
  conv at eb => rhs; whnf
  have es : ak cp = ak cp := rfl
  conv at es => rhs; whnf
  refine CT (N := ["_law_pages_here"]) (ps := ["_law_pages_here"]) (k := 3) (m := fe) rfl T.m6 qf (by decide) eb es fun A outer s H E hr => ?_
  unfold fe
  exact (aR (bQ (bR (aY (eB dZ rfl T.jt PyProof.Rows.boot_tuple (aH (EV.b (EF.v (yp (tb := (tb_law_book, _)) Hf (fun q hq _ => HK.mp hq) ⟨xc (k := 0) (N := ["_law_page"]) (y := "_law_page") (hr.mono (by decide)) hB rfl (PySem.W.codeHd_of_K kb T.m6.hd) rfl rfl ⟨rfl, rfl, rfl, by decide, rfl, by decide +kernel, by decide +kernel⟩ (fun _ _ _ _ _ => .of_eq rfl) (fun _ _ _ _ _ => xb (eL (h8 sI (pv 0) aX (fun _ _ => rfl)) (eL (h8 sI (pv 0) aX (fun _ _ => rfl)) fZ))) rfl T.ju (EV.b (ae 0 (bv 0))).out⟩))) a9)) mW))))
theorem lj : bu P w K mg base dF 1 awrules_of dwrules_of ["_law_pages_here", "_law_w"] (fo (cH tb_law_book K) aZ) := by
  have eb : aw bw = aw bw := rfl
  conv at eb => rhs; whnf
  have es : ak bw = ak bw := rfl
  conv at es => rhs; whnf
  refine d8 (N := ["_law_pages_here", "_law_w", "_law_found", "_law_page"]) (ps := ["_law_pages_here", "_law_w"]) (k := 0) (m := cq) rfl T.aZ d5 (by decide) eb es fun eF A outer s H E hr => ?_
  unfold cq
  exact (az (bg (bo (i := 2) d5.nd rfl (Or.inl rfl) (EF.v (cz ar))))
    (az (iW (ip PassesOwn.never rfl (xQ (ae 0 (bv 0))) (iK (aS (i := 3) d5.nd rfl (Or.inl rfl))) (aR (fM (fS (WV.t (iV (bC (cN hr.units) (dU false) (EV.b (aG ax aF (EV.b (ae 3 (bv 3))) (EV.b aq) (fun _ _ => rfl))) (EV.b bG) (bq _)) (iA (bC (cN hr.units) (dU false) (EV.b (aG ax aF (EV.b (ae 3 (bv 3))) (EV.b aq) (fun _ _ => rfl))) (EV.b (ae 1 (bv 1))) (bq _))))) (aR (bg (bo (i := 2) d5.nd rfl (Or.inl rfl) (EF.v (ku (ot i6 (EV.b (ae 2 (bv 2))) (EV.b (EF.v (jF (eB pJ rfl T.Ct PyProof.Rows.boot_list (aH (EV.b (aG ax aF (EV.b (ae 3 (bv 3))) (EV.b aq) (fun _ _ => rfl))) a9)) C4))))))))) fm)))))
    (aR (bQ (bR (ae 2 (bv 2)))))))
theorem sg (cO : bu P w K mg base dF 1 awrules_of dwrules_of ["_law_pages_here", "_law_w"] (fo (cH tb_law_book K) aZ)) : bu P w K mg base dF 2 awown dwown ["_law_rest", "_law_page", "_law_w"] (fo (cH tb_law_book K) dN) := by
  have eb : aw cA = aw cA := rfl
  conv at eb => rhs; whnf
  have es : ak cA = ak cA := rfl
  conv at es => rhs; whnf
  refine d8 (N := ["_law_rest", "_law_page", "_law_w", "_law_rules"]) (ps := ["_law_rest", "_law_page", "_law_w"]) (k := 1) (m := fD) rfl T.dN mf (by decide) eb es fun eF A outer s H E hr => ?_
  unfold fD
  exact (az (bg (bo (i := 3) mf.nd rfl (Or.inl rfl) (aE (aB cO (hr.mono (by decide)) rfl T.cq T.aZ.kp T.iu .nil aT (ab (ae 0 (bv 0)) (ab (ae 2 (bv 2)) ar))))))
    (az (fM (fS (bC (cN hr.units) (dU false) (EV.b (aG ax aF (EV.b (ae 1 (bv 1))) (EV.b aq) (fun _ _ => rfl))) (EV.b bG) (bq _)) (aR (bQ (bR (aY (bt (yG rfl) rfl T.Ew PyProof.Rows.boot_any (aH (EV.b (EF.v (jE (jO (aN.pX (N := ["_law_rule_here", "_law_page"]) (js := [none, some 1]) (ak cA) ["_law_rest", "_law_page", "_law_w", "_law_rules"] rfl rfl (by decide +kernel)) rfl (i7 (EV.b (ae 3 (bv 3)))) (fun _ _ _ _ => (cL (aS (i := 0) (by decide : (["_law_rule_here", "_law_page"] : List Str).Nodup) rfl (Or.inl rfl)))) (fun _ _ _ _ => fV) (fun _ _ _ _ => (ij (xn hr.units) (xj false) (EV.b (jB (jN zu (EV.b (ae 0 (bv 0))) lL (lK (EV.b aq))) zk)) (EV.b (EF.v (cz (ab (bN (ab bG (ab (aG ax aF (EV.b (ae 1 (bv 1))) (EV.b aq) (fun _ _ => rfl)) ar))) (ab (bN (ab bG (ab (aG ax aF (EV.b (ae 1 (bv 1))) (EV.b aq) (fun _ _ => rfl)) ar))) ar))))) rfl)))))) a9)) C1)))) fm))
    (az (fM (fS (bC (cN hr.units) (dU false) (EV.b (aG ax aF (EV.b (ae 1 (bv 1))) (EV.b aq) (fun _ _ => rfl))) (EV.b bG) (bq _)) (aR (bQ (bR (yh (ij (cN hr.units) (dU false) (EV.b (ae 2 (bv 2))) (EV.b (aG ax aF (EV.b (ae 1 (bv 1))) (EV.b aq) (fun _ _ => rfl))) (bq _)) (ye (ij xo (qt false) (EV.b bG) (EV.b (EF.v (jE (jO (aN.pX (N := ["_law_rule_here"]) (js := [none]) (ak cA) ["_law_rest", "_law_page", "_law_w", "_law_rules"] rfl rfl (by decide +kernel)) rfl (i7 (EV.b (ae 3 (bv 3)))) (fun _ _ _ _ => (cL (aS (i := 0) (by decide : (["_law_rule_here"] : List Str).Nodup) rfl (Or.inl rfl)))) (fun _ _ _ _ => fV) (fun _ _ _ _ => (aG ax aF (EV.b (ae 0 (bv 0))) (EV.b aq) (fun _ _ => rfl))))))) rfl)))))) fm))
    (aR (bQ (bR (ij (cN hr.units) (dU false) (EV.b (ae 2 (bv 2))) (EV.b (aG ax aF (EV.b (ae 1 (bv 1))) (EV.b aq) (fun _ _ => rfl))) (bq _))))))))
theorem sj (kF : bu P w K mg base dF 2 awown dwown ["_law_rest", "_law_page", "_law_w"] (fo (cH tb_law_book K) dN)) (cO : bu P w K mg base dF 1 awrules_of dwrules_of ["_law_pages_here", "_law_w"] (fo (cH tb_law_book K) aZ)) : bu P w K mg base dF 3 awdue dwdue ["_law_hill_here", "_law_rest", "_law_page"] (fo (cH tb_law_book K) ck) := by
  have eb : aw bU = aw bU := rfl
  conv at eb => rhs; whnf
  have es : ak bU = ak bU := rfl
  conv at es => rhs; whnf
  refine d8 (N := ["_law_hill_here", "_law_rest", "_law_page", "_law_names", "_law_found", "_law_at", "_law_w", "_law_further"]) (ps := ["_law_hill_here", "_law_rest", "_law_page"]) (k := 2) (m := fc) rfl T.ck dw (by decide) eb es fun eF A outer s H E hr => ?_
  unfold fc
  exact (az (bg (oz (jb (mZ (k := 3) dw.nd rfl (Or.inl rfl) (aN.pX (N := ["_law_way"]) (js := [none]) (ak bU) ["_law_hill_here", "_law_rest", "_law_page", "_law_names", "_law_found", "_law_at", "_law_w", "_law_further"] rfl rfl (by decide +kernel)) rfl (i7 (EV.b (aG ax aF (EV.b (ae 0 (bv 0))) (EV.b aq) (fun _ _ => rfl)))) (fun _ _ _ _ => (cL (aS (i := 0) (by decide : (["_law_way"] : List Str).Nodup) rfl (Or.inl rfl)))) (fun _ _ _ _ => fV) (fun _ _ _ _ => (aG ax aF (EV.b (ae 0 (bv 0))) (EV.b aq) (fun _ _ => rfl)))))))
    (az (lX (jb (mZ (k := 4) dw.nd rfl (Or.inl rfl) (aN.pX (N := ["_law_w", "_law_rest", "_law_page"]) (js := [none, some 1, some 2]) (ak bU) ["_law_hill_here", "_law_rest", "_law_page", "_law_names", "_law_found", "_law_at", "_law_w", "_law_further"] rfl rfl (by decide +kernel)) rfl (i7 (EV.b (ae 3 (bv 3)))) (fun _ _ _ _ => (cL (aS (i := 0) (by decide : (["_law_w", "_law_rest", "_law_page"] : List Str).Nodup) rfl (Or.inl rfl)))) (fun _ _ _ _ => (gy (Bq (aE (aB kF (hr.mono (by decide)) rfl T.fD T.dN.kp T.vt .nil aT (by refine ab (ae 1 (bv 1)) ?_; refine ab (ae 2 (bv 2)) ?_; refine ab (ae 0 (bv 0)) ?_; exact ar)))))) (fun _ _ _ _ => (ae 0 (bv 0))))))
    (az (bg (bo (i := 5) dw.nd rfl (Or.inl rfl) aq))
    (az (p9 1000 (qZ PassesOwn.never (bC my mx (EV.b (ae 5 (bv 5))) (EV.b (aY (bt cG rfl T.iR PySem.boot_len (aH (eN 4 (bv 4)) a9)) f7)) (bq _)) (az (iW (ip PassesOwn.never rfl (xQ (ae 3 (bv 3))) (iK (aS (i := 6) dw.nd rfl (Or.inl rfl))) (aR (fM (fS (WV.t (iV (bC (xn hr.units) (xj false) (EV.b (bN (ab bG (ab (aG ax aF (eN 4 (bv 4)) (EV.b (ae 5 (bv 5))) (fun _ _ => rfl)) ar)))) (EV.b (aE (aB cO (hr.mono (by decide)) rfl T.cq T.aZ.kp T.iu .nil aT (ab (EF.v (ku (ot i6 (EV.b (ae 1 (bv 1))) (EV.b (EF.v (cz (ab (ae 2 (bv 2)) ar))))))) (ab (ae 6 (bv 6)) ar))))) rfl) (iA (bC j7 (qt true) (EV.b (ae 6 (bv 6))) (eN 4 (bv 4)) rfl)))) (aR (iX (k := 4) (gR (kW HN HR HQ dG (bv 4) (fT (ae 6 (bv 6)) iq))))) fm)))))
    (aR (bg (bo (i := 5) dw.nd rfl (Or.inl rfl) (bD cK dP (EV.b (ae 5 (bv 5))) (EV.b aq))))))))
    (az (bg (bo (i := 7) dw.nd rfl (Or.inl rfl) (EF.v (jF (bt sZ rfl T.ju PyProof.Rows.boot_sorted (aH (EV.b (EF.v (jE (jO (aN.pX (N := ["_law_other", "_law_page"]) (js := [none, some 2]) (ak bU) ["_law_hill_here", "_law_rest", "_law_page", "_law_names", "_law_found", "_law_at", "_law_w", "_law_further"] rfl rfl (by decide +kernel)) rfl (i7 (EV.b (ae 1 (bv 1)))) (fun _ _ _ _ => (cL (aS (i := 0) (by decide : (["_law_other", "_law_page"] : List Str).Nodup) rfl (Or.inl rfl)))) (fun _ _ _ _ => (gy (bC (cN hr.units) (dU false) (EV.b (bN (ab (aG ax aF (EV.b (ae 0 (bv 0))) (EV.b aq) (fun _ _ => rfl)) (ab (aG ax aF (EV.b (ae 0 (bv 0))) (EV.b aq) (fun _ _ => rfl)) ar)))) (EV.b (bN (ab (aG ax aF (EV.b (ae 1 (bv 1))) (EV.b aq) (fun _ _ => rfl)) (ab (aG ax aF (EV.b (ae 1 (bv 1))) (EV.b aq) (fun _ _ => rfl)) ar)))) (bq _)))) (fun _ _ _ _ => (bN (ab (aG ax aF (EV.b (ae 0 (bv 0))) (EV.b aq) (fun _ _ => rfl)) (ab (aG ax aF (EV.b (ae 0 (bv 0))) (EV.b aq) (fun _ _ => rfl)) ar)))))))) a9)) yE))))
    (az (bg (oz (jb (mZ (k := 7) dw.nd rfl (Or.inl rfl) (aN.pX (N := ["_law_moment_here", "_law_number_here", "_law_page"]) (js := [none, none, some 2]) (ak bU) ["_law_hill_here", "_law_rest", "_law_page", "_law_names", "_law_found", "_law_at", "_law_w", "_law_further"] rfl rfl (by decide +kernel)) rfl (i7 (EV.b (ae 7 (bv 7)))) (fun _ _ _ _ => (sN (ks := [0, 1]) (kC rfl (de (aS (i := 0) (by decide : (["_law_moment_here", "_law_number_here", "_law_page"] : List Str).Nodup) rfl (Or.inl rfl)) (de (aS (i := 1) (by decide : (["_law_moment_here", "_law_number_here", "_law_page"] : List Str).Nodup) rfl (Or.inl rfl)) iL))))) (fun _ _ _ _ => (gy (bC (xp hr.vN) xk (EV.b (bN (ab (ae 0 (bv 0)) (ab (ae 1 (bv 1)) ar)))) (EV.b (bN (ab (aG ax aF (EV.b (ae 2 (bv 2))) (EV.b aq) (fun _ _ => rfl)) (ab (aG ax aF (EV.b (ae 2 (bv 2))) (EV.b aq) (fun _ _ => rfl)) ar)))) (bq _)))) (fun _ _ _ _ => (ae 0 (bv 0)))))))
    (aR (bQ (bR (bN (by refine ab (aY (eB dZ rfl T.jt PyProof.Rows.boot_tuple (aH (EV.b (EF.v (jF (bt tf rfl T.ju PyProof.Rows.boot_sorted (aH (EV.b (ae 4 (bv 4))) a9)) Ay))) a9)) mW) ?_; refine ab (aG ax aF (EV.b (ae 2 (bv 2))) (EV.b aq) (fun _ _ => rfl)) ?_; refine ab (aG ax aF (EV.b (EF.v (ku (ot i6 (EV.b (ae 7 (bv 7))) (EV.b (EF.v (cz (ab (bD cK dP (EV.b (aG ax aF (EV.b (ae 0 (bv 0))) (EV.b aq) (fun _ _ => rfl))) (EV.b aq)) ar)))))))) (EV.b aq) (fun _ _ => rfl)) ?_; exact ar)))))))))))
theorem Cj (iy : bu P w K mg base dF 1 awstart dwstart ["_law_script"] (oH K)) (je : bu P w K mg base dF 4 awhill dwhill ["_law_state", "_law_most", "_law_scale"] (fo (cH tb_law_book K) dD)) (iz : bu P w K mg base dF 4 awpages dwpages ["_law_state", "_law_hill_here", "_law_scale", "_law_many"] (fo (cH tb_law_book K) cV)) (av : bu P w K mg base dF 1 awpick dwpick ["_law_state", "_law_many"] (fo (cH tb_law_book K) af)) (lS : bu P w K mg base dF 3 a_reach d_reach ["hill", "book", "page"] (fo (cH tb_law_book K) dM)) (iM : bu P w K mg base dF 3 awdue dwdue ["_law_hill_here", "_law_rest", "_law_page"] (fo (cH tb_law_book K) ck)) (jf : bu P w K mg base dF 4 awbook dwbook ["_law_pages_here"] (fo (cH tb_law_book K) dE)) (hm : (kL ((List.replicate 8 un).set 1 (.val .bV))).wp 1000000 fun f _ => f = .rt (.bl true)) : bu P w K mg base dF 5 a_law d_law ["_law_script"] (jY K [tb_law_book]) := by
  have eb : aw gk = aw gk := rfl
  conv at eb => rhs; whnf
  have es : ak gk = ak gk := rfl
  conv at es => rhs; whnf
  refine L2.Ah (tabs := [(tb_law_book, (("_law_book" : Str) ++ ".<locals>." ++ "<lambda>"))]) (N := ["_law_script", "_law_state", "_law_scale", "_law_hill_here", "_law_pages_here", "_law_at", "_law_page", "_law_rest"]) (k := 4) (b := 1) (m := kL) T.Fe gD eb es (fun eF A outer s H E hr => ?_) (fun eF A outer s H E hr => ?_) hm (by decide) (by decide) (by decide)
  · exact (bo (i := 1) gD.nd rfl (Or.inl rfl) (aB iy (hr.mono (by decide)) rfl T.qG T.kX.kp T.rf .nil aT (fT (bv 0) iq)))
  · unfold kL
    exact (az (bg (bo (i := 2) gD.nd rfl (Or.inl rfl) (aG ax aF (EV.b (EF.v (cz (by refine ab aq ?_; refine ab aq ?_; refine ab aq ?_; exact ar)))) (EV.b (aE (aB av (hr.mono (by decide)) rfl T.aC T.af.kp T.aD .nil aT (ab (ae 1 (bv 1)) (ab aq ar))))) (fun _ _ => rfl))))
    (az (bg (bo (i := 3) gD.nd rfl (Or.inl rfl) (aE (aB je (hr.mono (by decide)) rfl T.fb T.dD.kp T.tw .nil aT (by refine ab (ae 1 (bv 1)) ?_; refine ab (aG ax aF (EV.b (EF.v (cz (by refine ab aq ?_; refine ab aq ?_; refine ab aq ?_; exact ar)))) (EV.b (aE (aB av (hr.mono (by decide)) rfl T.aC T.af.kp T.aD .nil aT (ab (ae 1 (bv 1)) (ab aq ar))))) (fun _ _ => rfl)) ?_; refine ab (ae 2 (bv 2)) ?_; exact ar)))))
    (az (bg (bo (i := 4) gD.nd rfl (Or.inl rfl) (aE (aB iz (hr.mono (by decide)) rfl T.eA T.cV.kp T.rg .nil aT (by refine ab (ae 1 (bv 1)) ?_; refine ab (ae 3 (bv 3)) ?_; refine ab (ae 2 (bv 2)) ?_; refine ab (bD cK dP (EV.b aq) (EV.b (aE (aB av (hr.mono (by decide)) rfl T.aC T.af.kp T.aD .nil aT (ab (ae 1 (bv 1)) (ab aq ar)))))) ?_; exact ar)))))
    (az (zi (ip PassesOwn.never rfl (Gh (Dd rfl T.kM (ab (ae 4 (bv 4)) ar))) (xU (ks := [5, 6]) (kC rfl (de (aS (i := 5) gD.nd rfl (Or.inl rfl)) (de (aS (i := 6) gD.nd rfl (Or.inl rfl)) iL)))) (az (bg (bo (i := 7) gD.nd rfl (Or.inl rfl) (EF.v (ku (ot i6 (EV.b (jB (jN zu (EV.b (ae 4 (bv 4))) lL (lK (EV.b (ae 5 (bv 5))))) zk)) (EV.b (jB (jN zu (EV.b (ae 4 (bv 4))) (lK (EV.b (bD cK dP (EV.b (ae 5 (bv 5))) (EV.b aq)))) lL) zk)))))))
    (aR (fM (fS (bC (Cg hr.units) (dU true) (EV.b (aY (bt (gQ hr.gd hr.units) rfl T.o4 PyProof.Rows.boot_repr (aH (EV.b (aE (aB lS (hr.mono (by decide)) rfl T.gI T.dM.kp T.uB .nil aT (by refine ab (ae 3 (bv 3)) ?_; refine ab (aE (aB jf (hr.mono (by decide)) rfl T.fe T.dE.kp T.tx .nil aT (ab (ae 7 (bv 7)) ar))) ?_; refine ab (ae 6 (bv 6)) ?_; exact ar)))) a9)) jJ)) (EV.b (aY (bt (gQ hr.gd hr.units) rfl T.o4 PyProof.Rows.boot_repr (aH (EV.b (aE (aB iM (hr.mono (by decide)) rfl T.fc T.ck.kp T.ou .nil aT (by refine ab (ae 3 (bv 3)) ?_; refine ab (ae 7 (bv 7)) ?_; refine ab (ae 6 (bv 6)) ?_; exact ar)))) a9)) jJ)) (bq _)) (aR (bQ (bR yg))) fm))))))
    (az (bg (bo (i := 6) gD.nd rfl (Or.inl rfl) (aG ax aF (EV.b (ae 4 (bv 4))) (EV.b aq) (fun _ _ => rfl))))
    (aR (bQ (bR (ij (cN hr.units) (dU false) (EV.b (aY (bt (gQ hr.gd hr.units) rfl T.o4 PyProof.Rows.boot_repr (aH (EV.b (aE (aB lS (hr.mono (by decide)) rfl T.gI T.dM.kp T.uB .nil aT (by refine ab (ae 3 (bv 3)) ?_; refine ab (bN ar) ?_; refine ab (ae 6 (bv 6)) ?_; exact ar)))) a9)) jJ)) (EV.b (aY (bt (gQ hr.gd hr.units) rfl T.o4 PyProof.Rows.boot_repr (aH (EV.b (aE (aB iM (hr.mono (by decide)) rfl T.fc T.ck.kp T.ou .nil aT (by refine ab (ae 3 (bv 3)) ?_; refine ab (EF.v (cz ar)) ?_; refine ab (ae 6 (bv 6)) ?_; exact ar)))) a9)) jJ)) (bq _))))))))))
end
theorem GN (i j:Int):eE false (.int i) (.int j)= .ret (.bl (i==j)):=by
 show M.ret (PV.bl (xor false (i==j)))=_
 simp
theorem sU (i j:Str):eE false (.str i) (.str j)= .ret (.bl (i==j)):=by
 show M.ret (PV.bl (xor false (i==j)))=_
 simp
theorem cx (h:m ρ= .ret (.nx ρ')) (h':(k ρ').bind ff=Y):(aJ m k ρ).bind ff=Y:=by
 unfold aJ;rw[h];exact h'
theorem gL (h:c ρ= .ret false):i8 c a b ρ=b ρ:=by unfold i8;rw[h];rfl
theorem jx (h:c ρ= .ret true):i8 c a b ρ=a ρ:=by unfold i8;rw[h];rfl
theorem dS (h:m (ρ.map Ent.freeze)= .ret y):cD m ρ= .ret (.rt y):=by unfold cD;rw[h];rfl
theorem fI {m:ao→M Fl} (h:m ρ= .ret (.rt y)):(m ρ).bind ff= .ret y:=by rw[h];rfl
theorem bT (y:PV) (ρ:ao):ag (.val y::ρ) 0= .ret y:=rfl
theorem cu (e:Ent) (ρ:ao) (i:Nat):ag (e::ρ) (i+1)=ag ρ i:=rfl
theorem vk (l:List PV) (ρ:ao):cQ (.own l::ρ) 0= .ret (.lst l):=rfl
theorem DC (e:Ent) (ρ:ao) (i:Nat):cQ (e::ρ) (i+1)=cQ ρ i:=rfl
theorem d9 {α:Type} {l:List α} {d:Int} (h0:0≤d) (h1:d < l.length): ∃ y∈l,ja l d=some y:=by
 have hd:d.toNat < l.length:=by lia
 have e:d=((d.toNat:Nat):Int):=by lia
 refine⟨l[d.toNat],HZ hd,?_⟩
 have q:=pQ (Hd hd)
 rw[←e] at q
 exact q
theorem gm: ∀ (ys:List Str),(∀ z∈ys,z.length=1)→(ys.map (·.length)).sum=ys.length
 |[],_=>rfl
 |y::r,h=>by
  have:=gm r fun z hz=>h z (Hj _ hz)
  rw[Hq,List.sum_cons,this,h y Hf,Hv]
  lia
theorem join_ones (ys:List Str) (h: ∀ z∈ys,z.length=1):(Txt.join (Str.ofString "") ys).length=ys.length:=by
 show (Builtin.Str.glued (Str.ofString "") ys).length=_
 rw[PySem.size_glued]
 have e:(Str.ofString "").length=0:=by decide
 rw[e]
 have:=gm ys h
 lia
def Lets (x:Str):Prop:= ∀ c∈x.cps.toList,97≤c∧c≤122
def One (y:PV):Prop:= ∃ c:Nat,y= .str ⟨#[c]⟩∧97≤c∧c≤122
theorem jk: ∀ (l:List PV),(∀ y∈l,One y)→∃ ys,strsOf l=some ys∧ys.length=l.length∧∀ z∈ys,z.length=1∧Lets z
 |[],_=>⟨[],rfl,rfl,fun z hz=>by simp at hz⟩
 |y::l,h=>by
  obtain⟨ys,e1,e2,e3⟩:=jk l fun y hy=>h y (Hj _ hy)
  obtain⟨c,rfl,hc⟩:=h y Hf
  exact⟨⟨#[c]⟩::ys,by simp[strsOf,e1],by simp[e2],fun u hu=>by
   rcases Hr.mp hu with rfl|hu
   ·exact⟨rfl,fun d hd=>by simp at hd;subst hd;exact hc⟩
   ·exact e3 u hu⟩
theorem gq (sep:Str) (hs:Lets sep): ∀ (ys:List Str) (acc:Array Nat),(∀ z∈ys,Lets z)→(∀ c∈acc.toList,97≤c∧c≤122)→∀ c∈(ys.foldl (fun acc p=>acc++sep.cps++p.cps) acc).toList,97≤c∧c≤122
 |[],acc,_,ha=>ha
 |y::ys,acc,h,ha=>by
  rw[Io]
  refine gq sep hs ys _ (fun z hz=>h z (Hj _ hz)) fun c hc=>?_
  rw[Array.toList_append,Array.toList_append,Ie,Ie] at hc
  rcases hc with(hc|hc)|hc
  ·exact ha c hc
  ·exact hs c hc
  ·exact h y Hf c hc
theorem nQ (ys:List Str) (h: ∀ z∈ys,Lets z):Lets (Txt.join (Str.ofString "") ys):=by
 have he:Lets (Str.ofString ""):=fun c hc=>by
  have:(Str.ofString "").cps.toList=[]:=by decide
  rw[this] at hc;simp at hc
 show Lets (Builtin.Str.glued (Str.ofString "") ys)
 unfold Builtin.Str.glued
 cases ys with
 |nil=>exact fun c hc=>by simp[Str.empty] at hc
 |cons y ys=>exact gq _ he ys _ (fun z hz=>h z (Hj _ hz)) (h y Hf)
theorem C2 (x:Str) (j:Int) (c:Nat) (hc:(c:Int)=if j < 0 then max 0 (j+x.length) else min j x.length):Txt.slice x none (some j)=⟨(x.cps.toList.take c).toArray⟩:=by
 have hle:c≤x.length:=by split at hc<;>lia
 have e:Builtin.Str.strSliceIndices none (some j) 1 x.length=Builtin.Str.strSliceIndices (some ((0:Nat):Int)) (some (c:Int)) 1 x.length:=by
  unfold Builtin.Str.strSliceIndices
  simp
  congr 1<;>lia
 have e2:=StrLaws.sliceText_nat x (HJ c) hle
 have e3:Txt.slice x none (some j)=StrLaws.sliceText x (some ((0:Nat):Int)) (some (c:Int)):=by
  unfold Txt.slice StrLaws.sliceText
  rw[e]
 rw[e3,e2,List.drop_zero,Nat.sub_zero]
theorem yA (h:Lets x) (c:Nat):Lets ⟨(x.cps.toList.take c).toArray⟩:=fun d hd=>h d (List.mem_of_mem_take (by simpa using hd))
theorem pG (x:Str) (c:Nat):(⟨(x.cps.toList.take c).toArray⟩:Str).length=min c x.length:=by
 show (x.cps.toList.take c).toArray.size=_
 rw[Hl,List.length_take]
 simp[Str.length]
theorem yN (hx:Lets x) (hy:Lets y):Lets (x++y):=fun c hc=>by
 have:c∈x.cps.toList++y.cps.toList:=by
  rw[←Array.toList_append];exact hc
 rcases Ie.mp this with h|h
 ·exact hx c h
 ·exact hy c h
theorem uC (x y:Str):(x++y).length=x.length+y.length:=Array.size_append
theorem dc {m k:ao→M Fl} {I:ao→Prop} (h:Gen (m ρ) c fun f=> ∃ ρ',f= .nx ρ'∧I ρ') (h': ∀ ρ',I ρ'→Gen ((k ρ').bind ff) d Pr):Gen ((aJ m k ρ).bind ff) (c+d) Pr:=by
 unfold aJ
 rw[M.bZ]
 refine Gen.bind h fun f hf=>?_
 obtain⟨ρ',rfl,hi⟩:=hf
 exact h' ρ' hi
theorem jz {m k:ao→M Fl} {I:ao→Prop} (h:Gen (m ρ) c fun f=> ∃ ρ',f= .nx ρ'∧I ρ') (h': ∀ ρ',I ρ'→Gen (k ρ') d Pr):Gen (aJ m k ρ) (c+d) Pr:=by
 unfold aJ
 refine Gen.bind h fun f hf=>?_
 obtain⟨ρ',rfl,hi⟩:=hf
 exact h' ρ' hi
theorem vE {m:ao→M Fl} {I:ao→Prop} (h:m ρ= .ret (.nx ρ')) (hi:I ρ'):Gen (m ρ) 0 fun f=> ∃ ρ',f= .nx ρ'∧I ρ':=Gen.eq h ⟨ρ',rfl,hi⟩
theorem yc {mb:ao→M Fl} {Iv:Nat→ao→Prop}: ∀ (l:List PV) (i:Nat) (ρ:ao),Iv i ρ→(∀ y∈l,∀ j < i+l.length,∀ ρ,Iv j ρ→Gen (mb (ρ.set k (.val y))) c fun f=> ∃ ρ',f= .nx ρ'∧Iv (j+1) ρ')→Gen (eD (aP k) mb l ρ) (l.length * c) fun f=> ∃ ρ',f= .nx ρ'∧Iv (i+l.length) ρ'
 |[],i,ρ,h,_=>Gen.le (Gen.ret ⟨ρ,rfl,h⟩) (by simp)
 |y::l,i,ρ,h,hb=>by
  unfold eD
  simp only[aP,rZ]
  refine Gen.le (Gen.bind (hb y Hf i (by simp) ρ h) fun f hf=>?_) (d:=(y::l).length * c) (Nat.le_of_eq (?_:c+l.length * c=_))
  ·obtain⟨ρ',rfl,h'⟩:=hf
   have q:=yc l (i+1) ρ' h' fun y' hy j hj=>hb y' (Hj _ hy) j (by simp only[Hv];lia)
   rw[show i+(y::l).length=i+1+l.length by simp only[Hv];lia]
   exact q
  ·simp only[Hv,Nat.succ_mul];lia
noncomputable def p3 (zs:List Str) (x:Str):Bool:=zs.any fun z=>z==x
theorem lO:p3 zs x=true↔x∈zs:=by
 unfold p3
 rw[List.any_eq_true]
 constructor
 ·rintro⟨z,hz,e⟩;rw[←eq_of_beq e];exact hz
 ·intro h;exact⟨x,h,Iu x⟩
theorem kq (zs:List Str):(zs.map PV.str).all bb=true:=by
 rw[List.all_eq_true]
 intro y hy
 obtain⟨z,_,rfl⟩:=Hu.mp hy
 rfl
theorem jw (x:Str) (zs:List Str) (b:Bool):pY b (.str x) (.lst (zs.map PV.str))= .ret (.bl (xor b (p3 zs x))):=by
 have e:ll (.str x) (zs.map PV.str)=p3 zs x:=by
  unfold ll p3
  rw[List.any_map]
  rfl
 unfold pY
 dsimp only
 rw[kq,e]
 simp[bb,toV,di]
theorem o2 (h0: -1000000000000 < a) (h1:a < 1000000000000):g8 (.int a) (.int b)= .ret (.int (a * b)):=by
 have e:(2:Int) ^ 64=18446744073709551616:=by decide
 unfold g8 sx
 dsimp only
 rw[Ig (show kI a b from Or.inl ⟨by lia,by lia⟩)]
theorem Cq (a b c:PV):aQ [a,b,c]= .ret [a,b,c]:=by simp[aQ]
theorem Aa (a b c d:PV):aQ [a,b,c,d]= .ret [a,b,c,d]:=by simp[aQ]
theorem Et (a:PV):aI [a]= .ret (.tup [a]):=by simp[aI]
theorem mE (a b:PV):aI [a,b]= .ret (.tup [a,b]):=by simp[aI]
theorem u6 (a b c:PV):aI [a,b,c]= .ret (.tup [a,b,c]):=by simp[aI]
theorem CP {l:List PV} {n:Int} (hn:(l.length:Int)=n) (h0:0 < l.length) (h1:l.length < 1000):Gen ((jG [.bV,.int n]).bind fun i=>aK (.lst l) i) 1 (fun y=>y∈l):=by
 refine Gen.le (Gen.bind (Gen.draw (by lia) (by lia)) (d:=0) ?_) (Hn _)
 rintro _ ⟨d,rfl,d0,d1⟩
 obtain⟨y,hy,e⟩:=d9 (l:=l) d0 (by lia)
 exact Gen.eq (y:=y) (by simp[aK,e,M.eV]) hy
theorem vF (a:PV) (r:List PV):ja (a::r) 0=some a:=by unfold ja xP;simp
def Sh (x:Str):Prop:=x.length≤8∧∀ c∈x.cps.toList,c < 16 ^ 8
instance (x:Str):Decidable (Sh x):=by unfold Sh;infer_instance
theorem ss (h:Sh x):p4 82 0 (.str x):=zq h.1 h.2
theorem si (h:i.natAbs < 10 ^ 61):p4 82 0 (.int i):=(zr h).mono (by lia) (Hn _)
theorem Am (x:Int) (ns:List Int):pY false (.int x) (.lst (ns.map PV.int))= .ret (.bl (decide (x∈ns))):=by
 have hf:(ns.map PV.int).all bb=true:=by
  rw[List.all_eq_true]
  intro y hy
  obtain⟨z,_,rfl⟩:=Hu.mp hy
  rfl
 have hm:ll (.int x) (ns.map PV.int)=decide (x∈ns):=by
  unfold ll
  rw[List.any_map]
  induction ns with
  |nil=>simp
  |cons a l ih=>
   rw[List.any_cons,ih (by
    rw[List.all_eq_true]
    intro y hy
    obtain⟨z,_,rfl⟩:=Hu.mp hy
    rfl)]
   by_cases c:a=x
   ·subst c;simp[toV,nY]
   ·have c': ¬ x=a:=fun z=>c z.symm
    simp[toV,nY,c,c']
 unfold pY
 dsimp only
 rw[hf,hm]
 simp[bb,toV,di]
theorem sub_len: ∀ (l m:List Int),l.Nodup→(∀ x∈l,x∈m)→l.length≤m.length
 |[],m,_,_=>HJ _
 |x::l,m,nd,hs=>by
  rw[List.nodup_cons] at nd
  have hx:=hs x Hf
  have:=sub_len l (m.erase x) nd.2 fun y hy=>(List.mem_erase_of_ne (fun z:y=x=>nd.1 (z▸hy))).mpr (hs y (Hj _ hy))
  rw[List.length_erase_of_mem hx] at this
  have hp:0 < m.length:=List.length_pos_of_mem hx
  rw[Hv]
  lia
theorem big {c:Nat} (h:p4 82 0 y):p4 2500 2 y:=h.mono (by lia) (by lia)
theorem Es (a b c d:PV):aI [a,b,c,d]= .ret (.tup [a,b,c,d]):=by simp[aI]
theorem Cp (a b c d e:PV):aI [a,b,c,d,e]= .ret (.tup [a,b,c,d,e]):=by simp[aI]
theorem Cr:aQ []= .ret []:=by simp[aQ]
theorem Eu:aI []= .ret (.tup []):=by simp[aI]
theorem Gd (l:List PV):eE true (.lst l) (.lst [])= .ret (.bl (!l.isEmpty)):=by cases l<;>rfl
theorem Er (a b c d e f:PV):aI [a,b,c,d,e,f]= .ret (.tup [a,b,c,d,e,f]):=by simp[aI]
theorem u7 (a:PV):aQ [a]= .ret [a]:=by simp[aQ]
theorem xD (a b:PV):aQ [a,b]= .ret [a,b]:=by simp[aQ]
def rA (n:Int) (y:PV):Prop:= ∃ (w z:Str) (m:Int) (r:List PV),y= .tup (.str w::.int n::.int m::.str z::r)∧((w="look"∧r=[])∨((w="read"∨w="rule")∧∃ v,r=[v]∧p4 2500 2 v∧Fs v=true))∧0≤m∧m≤1000000
def iw (l:List PV) (ns:List Int):Prop:=ns.length=l.length∧ns.Nodup∧(∀ n∈ns,0≤n∧n < 1000000)∧∀ (i:Nat) (n:Int) (z:PV),ns[i]?=some n→l[i]?=some z→rA n z
theorem iw.snoc (h:iw l ns) (hn:n∉ns) (h0:0≤n) (h1:n < 1000000) (hz:rA n z):iw (l++[z]) (ns++[n]):=by
 obtain⟨g1,g2,g3,g4⟩:=h
 refine⟨by simp[g1],?_,fun x hx=>?_,fun i x y hx hy=>?_⟩
 ·rw[List.nodup_append]
  exact⟨g2,by simp,fun a ha b hb=>by rw[HK.mp hb];exact fun e=>hn (e▸ha)⟩
 ·rcases Ie.mp hx with hx|hx
  ·exact g3 x hx
  ·rw[HK.mp hx];exact⟨h0,h1⟩
 ·by_cases c:i < l.length
  ·rw[HX (by lia)] at hx
   rw[HX c] at hy
   exact g4 i x y hx hy
  ·rw[List.getElem?_append_right (by lia)] at hx hy
   by_cases e:i - l.length=0
   ·rw[e] at hy
    rw[show i - ns.length=0 by lia] at hx
    simp at hx hy
    subst hx hy
    exact hz
   ·rw[IC (by simp;lia)] at hy
    cases hy
theorem rA.key (h:rA n y): ∃ m:Int,iS y=some (m,n)∧0≤m∧m≤1000000:=by
 obtain⟨w,z,m,r,rfl,_,m0,m1⟩:=h
 exact⟨m,rfl,m0,m1⟩
theorem iw.at (h:iw l ns) (hz:z∈l): ∃ n,rA n z∧0≤n∧n < 1000000:=by
 obtain⟨i,hi,e⟩:=List.getElem_of_mem hz
 have hi':i < ns.length:=by rw[h.1];exact hi
 have hn:=h.2.2.1 _ (HZ hi')
 exact⟨_,h.2.2.2 i _ z (Hd hi') (Hm.mpr ⟨hi,e⟩),hn⟩
theorem iw.nd (h:iw l ns):(l.map jQ).Nodup:=by
 unfold List.Nodup
 rw[List.pairwise_map,List.pairwise_iff_getElem]
 intro i j hi hj hij e
 have hi':i < ns.length:=by rw[h.1];exact hi
 have hj':j < ns.length:=by rw[h.1];exact hj
 obtain⟨m,e1,_⟩:=(h.2.2.2 i _ _ (Hd hi') (Hd hi)).key
 obtain⟨m',e2,_⟩:=(h.2.2.2 j _ _ (Hd hj') (Hd hj)).key
 have b1:=h.2.2.1 _ (HZ hi')
 have b2:=h.2.2.1 _ (HZ hj')
 have r1:jQ l[i]=m * 1000000+ns[i]:=by unfold jQ yV;rw[e1];rfl
 have r2:jQ l[j]=m' * 1000000+ns[j]:=by unfold jQ yV;rw[e2];rfl
 rw[r1,r2] at e
 exact List.pairwise_iff_getElem.mp h.2.1 i j hi' hj' hij (by lia)
noncomputable def hit (w z:Str) (t:Int) (y:PV):Bool:=match y with
 | .tup (.str w'::_::.int m::.str z'::_)=>w'==w&&(z'==z&&decide (m≤t))
 |_=>false
theorem Dg (a b:PV) (r:List PV):ja (a::b::r) 1=some b:=pP (k:=1) rfl
theorem fg (ha:a ρ= .ret x) (hb:b ρ= .ret y):iP a b ρ= .ret (x&&y):=by
 unfold iP;rw[ha];cases x<;>simp[hb]
abbrev oA:Str:="etaoinshrdlcumwfgypbvkjxqz"
theorem uD: ∀ c∈oA.cps.toList,97≤c∧c≤122:=by decide +kernel
theorem Di:oA.cps.toList.Nodup:=by decide +kernel
theorem rn:oA.cps.toList.length=26:=by decide +kernel
theorem yR (d:Int) (h0:0≤d) (h1:d < 26): ∃ y,aK (.str oA) (.int d)= .ret y∧One y:=by
 have hz:oA.length≤100000:=by decide +kernel
 obtain⟨c,hc,e⟩:=d9 (l:=oA.cps.toList) h0 (by rw[rn];exact h1)
 exact⟨.str ⟨#[c]⟩,by simp[aK,e,M.eV,hz],c,rfl,uD c hc⟩
def Wd (x:Str):Prop:=1≤x.length∧x.length≤8∧Lets x
theorem Wd.sh (h:Wd x):Sh x:=⟨h.2.1,fun c hc=>Nat.lt_of_le_of_lt (h.2.2 c hc).2 (by decide)⟩
theorem eJ: ∀ (l m:List Str),l.Nodup→(∀ x∈l,x∈m)→l.length≤m.length
 |[],m,_,_=>HJ _
 |x::l,m,nd,hs=>by
  rw[List.nodup_cons] at nd
  have hx:=hs x Hf
  have:=eJ l (m.erase x) nd.2 fun y hy=>(List.mem_erase_of_ne (fun z:y=x=>nd.1 (z▸hy))).mpr (hs y (Hj _ hy))
  rw[List.length_erase_of_mem hx] at this
  have hp:0 < m.length:=List.length_pos_of_mem hx
  rw[Hv]
  lia
noncomputable def hE (w:Str):List Str:=oA.cps.toList.map fun c=>(⟨(w.cps.toList.take (min 7 w.length)).toArray⟩:Str)++⟨#[c]⟩
theorem AD (w:Str):(hE w).Nodup:=by
 unfold hE List.Nodup
 rw[List.pairwise_map]
 refine List.Pairwise.imp ?_ Di
 intro a b ne e
 have e2:((⟨(w.cps.toList.take (min 7 w.length)).toArray⟩:Str)++(⟨#[a]⟩:Str)).cps.toList=((⟨(w.cps.toList.take (min 7 w.length)).toArray⟩:Str)++(⟨#[b]⟩:Str)).cps.toList:=by rw[e]
 have e3: ∀ x y:Str,(x++y).cps.toList=x.cps.toList++y.cps.toList:=fun x y=>by rw[←Array.toList_append];rfl
 rw[e3,e3] at e2
 have:=List.append_cancel_left e2
 simp at this
 exact ne this
theorem AA (hw:Wd w): ∀ x∈hE w,Wd x:=fun x hx=>by
 obtain⟨c,hc,rfl⟩:=Hu.mp hx
 refine⟨?_,?_,yN (yA hw.2.2 _) fun d hd=>?_⟩
 ·rw[uC,pG];show 1≤_+1;lia
 ·rw[uC,pG];show _+1≤8;lia
 ·simp at hd;subst hd;exact uD _ hc
noncomputable def vI:ao→M PV:=ah df (rD qe (fun ρ=>ag ρ 1) (fun _=>M.ret none) (fun ρ=>((fun _=>M.ret (.int 7)) ρ).bind fun y=>(ki y).bind fun i=>M.ret (some i))) (fun ρ=>ag ρ 0)
noncomputable def vH:ao→M Bool:=bO (ah (pY true) (fun ρ=>ag ρ 0) (fun ρ=>ag ρ 1))
theorem xW {zs:List Str} (hz:zs.length≤20):Gen (dC [.bV,.lst (zs.map PV.str)]) 9 (fun y=> ∃ x,y= .str x∧Wd x∧x∉zs):=by
 unfold dC eX
 show Gen ((aJ _ _ [val .bV,val (.lst (zs.map PV.str)),un,un,un]).bind ff) 9 _
 refine Gen.le (dc (c:=0) (d:=9) (I:=fun ρ=>ρ=[val .bV,val (.lst (zs.map PV.str)),val (.str oA),un,un]) (vE rfl rfl) ?_) (by decide)
 rintro _ rfl
 refine Gen.le (dc (c:=1) (d:=8) (I:=fun ρ=> ∃ k:Int,1≤k∧k≤8∧ρ=[val .bV,val (.lst (zs.map PV.str)),val (.str oA),val (.int k),un]) ?_ ?_) (by decide)
 ·simp only[aU,ah,aa,bT,cu,rZ,af,M.bZ]
  refine Gen.le (Gen.bind (Gen.draw (by lia) (by lia)) (d:=0) ?_) (by decide)
  rintro _ ⟨d,rfl,d0,d1⟩
  exact Gen.eq (y:=.nx _) rfl ⟨_,rfl,1+d,by lia,by lia,rfl⟩
 rintro _ ⟨k,k0,k1,rfl⟩
 refine Gen.le (dc (c:=8) (d:=0) (I:=fun ρ=> ∃ w:Str,Wd w∧ρ=[val .bV,val (.lst (zs.map PV.str)),val (.str oA),val (.int k),val (.str w)]) ?_ ?_) (by decide)
 ·have hlen:(cT 0 k.toNat).length=k.toNat:=by simp[cT]
  have er:dO [.int k]= .ret (cT 0 k.toNat):=by simp only[dO,Ig (by lia: -1000000≤k∧k≤100000)]
  have ec:gN [none,some 2,some 0] [val .bV,val (.lst (zs.map PV.str)),val (.str oA),val (.int k),un]=[un,val (.str oA),val .bV]:=rfl
  have et:tyP (.str "")="str":=rfl
  unfold aU Fx
  simp only[rZ,et,if_true]
  unfold aa aM bW
  simp only[aa,bT,cu,rZ,er,Ig (by lia:(cT 0 k.toNat).length≤100000),ec,M.bZ]
  refine Gen.le (Gen.bind (Gen.lc (ρ:=[un,val (.str oA),val .bV]) (c:=1) (Pr:=One) _ _ (fun _=>rfl) (fun y hy=>?_)) (d:=0) ?_) (by rw[hlen];lia)
  ·simp only[Ho,ah,bT,cu,rZ,af]
   refine Gen.le (Gen.bind (Gen.draw (by lia) (by lia)) (d:=0) ?_) (by decide)
   rintro _ ⟨d,rfl,d0,d1⟩
   obtain⟨y,e,o⟩:=yR d d0 d1
   exact Gen.eq e o
  ·rintro us ⟨z1,z2⟩
   obtain⟨ys,e1,e2,e3⟩:=jk us z2
   have e4:=gm ys fun z hz=>(e3 z hz).1
   have e5:(Str.ofString "").length=0:=by decide
   have e6:=join_ones ys fun z hz=>(e3 z hz).1
   have hs:(ys.map (·.length)).sum+ys.length * (Str.ofString "").length≤16777216:=by rw[e4,e5,e2,z1,hlen];lia
   refine Gen.eq (y:=.nx [val .bV,val (.lst (zs.map PV.str)),val (.str oA),val (.int k),val (.str (Txt.join (Str.ofString "") ys))]) ?_ ⟨_,rfl,_,⟨by rw[e6,e2,z1,hlen];lia,by rw[e6,e2,z1,hlen];lia,nQ ys fun z hz=>(e3 z hz).2⟩,rfl⟩
   simp only[rZ,nR,e1,M.eV,Ig hs]
   rfl
 rintro _ ⟨w,hw,rfl⟩
 have hsl:qe (.str w) none (some 7)= .ret (.str ⟨(w.cps.toList.take (min 7 w.length)).toArray⟩):=by
  have:w.length≤100000:=by have:=hw.2.1;lia
  unfold qe
  dsimp only
  rw[Ig this,C2 w 7 (min 7 w.length) (by rw[Ih (by decide)];lia)]
 have q1:=o6 (k:=0) (te:=vI) (f:=fun y=>match y with| .str c=>.str ((⟨(w.cps.toList.take (min 7 w.length)).toArray⟩:Str)++c)|_=>.bX) (ρ:=[un,val (.str w)]) (fW oA) [un,val (.str w)] (fun _=>rfl) (fun y hy=>by
   obtain⟨c,hc,rfl⟩:=Hu.mp hy
   have hz:(⟨(w.cps.toList.take (min 7 w.length)).toArray⟩:Str).length+(⟨#[c]⟩:Str).length≤100000:=by rw[pG];show _+1≤_;lia
   unfold vI
   simp only[Ho,ah,rD,bT,cu,rZ,ki,hsl,df,Ig hz])
 have em:((fW oA).map fun y=>match y with|PV.str c=>PV.str ((⟨(w.cps.toList.take (min 7 w.length)).toArray⟩:Str)++c)|_=>.bX)=(hE w).map PV.str:=by
  unfold fW hE
  rw[Ip,Ip]
  rfl
 rw[em] at q1
 have q2:=gJ (k:=0) (tt:=vH) (te:=fun ρ=>ag ρ 0) (p:=fun y=>match y with| .str x=>!(p3 zs x)|_=>false) (f:=id) (ρ:=[un,val (.lst (zs.map PV.str))]) ((w::hE w).map PV.str) [un,val (.lst (zs.map PV.str))] (fun _=>rfl) (fun y hy=>by
   obtain⟨x,hx,rfl⟩:=Hu.mp hy
   unfold vH
   simp only[bO,ah,Ho,bT,cu,rZ,jw]
   simp) (fun y hy _=>by simp only[bT,Ho];rfl)
 have hlen1:(fW oA).length≤100000:=by unfold fW;rw[Hg,rn];lia
 have hlen2:((w::hE w).map PV.str).length≤100000:=by unfold hE;simp only[Hg,Hv,rn];lia
 have hcat:[PV.str w].length+((hE w).map PV.str).length≤100000:=by unfold hE;simp only[Hg,Hv,List.length_nil,rn];lia
 obtain⟨x,hx,hnx⟩: ∃ x∈hE w,x∉zs:=by
  apply Classical.byContradiction
  intro hno
  have:=eJ (hE w) zs (AD w) fun x hx=>Classical.byContradiction fun hc=>hno ⟨x,hx,hc⟩
  unfold hE at this
  rw[Hg,rn] at this
  lia
 generalize hF:((w::hE w).map PV.str).filter (fun y=>match y with| .str x=>!(p3 zs x)|_=>false)=F at q2
 have hFx:PV.str x∈F:=by
  rw[←hF]
  refine Ic.mpr ⟨HM (Hj _ hx),?_⟩
  show (!(p3 zs x))=true
  cases c:p3 zs x with
  |false=>rfl
  |true=>exact absurd (lO.mp c) hnx
 match F,hF,hFx,q2 with
 |y::F,hF,_,q2=>
 have hy:y∈(w::hE w).map PV.str:=(Ic.mp (by rw[hF];exact Hf)).1
 obtain⟨v,hv,rfl⟩:=Hu.mp hy
 refine Gen.eq (y:=.str v) ?_ ⟨v,rfl,?_,?_⟩
 ·refine fI (dS ?_)
  have ec1:gN [none,some 4] [val .bV,val (.lst (zs.map PV.str)),val (.str oA),val (.int k),val (.str w)]=[un,val (.str w)]:=rfl
  have ec2:gN [none,some 1] [val .bV,val (.lst (zs.map PV.str)),val (.str oA),val (.int k),val (.str w)]=[un,val (.lst (zs.map PV.str))]:=rfl
  show (ah aK (aM (bW [none,some 1] (fun ρ=>((aM (gs (aM (fun ρ=>((aa (fun ρ=>ag ρ 4) (fun _=>M.ret [])) ρ).bind aQ)) (aM (bW [none,some 4] (fun ρ=>((fun ρ=>ag ρ 2) ρ).bind bf) (aP 0) cU vI)))) ρ).bind bf) (aP 0) vH (fun ρ=>ag ρ 0))) (fun _=>M.ret (.int 0))) [val .bV,val (.lst (zs.map PV.str)),val (.str oA),val (.int k),val (.str w)]=_
  simp only[ah,aM,bW,gs]
  simp only[aa,bT,cu,rZ,u7,bf,Ig hlen1,ec1,ec2]
  rw[q1]
  simp only[rZ,Ig hcat,List.cons_append,List.nil_append]
  have e9:PV.str w::(hE w).map PV.str=(w::hE w).map PV.str:=rfl
  rw[e9]
  simp only[bf,rZ]
  rw[Ig hlen2,q2]
  simp only[rZ,List.map_id,aK,vF,M.eV]
 ·rcases Hr.mp hv with rfl|hv
  ·exact hw
  ·exact AA hw v hv
 ·have h2:=(Ic.mp (by rw[hF];exact Hf:PV.str v∈((w::hE w).map PV.str).filter (fun y=>match y with| .str x=>!(p3 zs x)|_=>false))).2
  have h3:(!(p3 zs v))=true:=h2
  intro hm
  rw[lO.mpr hm] at h3
  cases h3
theorem km {k:Int} (k0:1≤k) (k1:k≤12):Gen (bE [.bV,.int k]) (k.toNat * 9) (fun y=> ∃ zs:List Str,y= .lst (zs.map PV.str)∧zs.length=k.toNat∧(∀ z∈zs,Wd z)∧zs.Nodup):=by
 unfold bE cS
 show Gen ((aJ _ _ [val .bV,val (.int k),un,un]).bind ff) _ _
 refine Gen.le (dc (c:=0) (d:=k.toNat * 9) (I:=fun ρ=>ρ=[val .bV,val (.int k),Ent.own [],un]) (vE (by simp[lg,aQ]) rfl) ?_) (by lia)
 rintro _ rfl
 have hint:(cT 0 k.toNat).length=k.toNat:=by simp[cT]
 have er:dO [.int k]= .ret (cT 0 k.toNat):=by simp only[dO,Ig (by lia: -1000000≤k∧k≤100000)]
 refine Gen.le (dc (c:=k.toNat * 9) (d:=0) (I:=fun ρ=> ∃ (zs:List Str) (e3:Ent),zs.length=k.toNat∧((∀ z∈zs,Wd z)∧zs.Nodup)∧ρ=[val .bV,val (.int k),Ent.own (zs.map PV.str),e3]) ?_ ?_) (by lia)
 ·simp only[el,aa,bT,cu,rZ,er]
  refine Gen.mono (yc (k:=3) (c:=9) (Iv:=fun i ρ=> ∃ (zs:List Str) (e3:Ent),zs.length=i∧((∀ z∈zs,Wd z)∧zs.Nodup)∧ρ=[val .bV,val (.int k),Ent.own (zs.map PV.str),e3]) (cT 0 k.toNat) 0 _ ⟨[],_,rfl,⟨fun z hz=>absurd hz Hs,List.nodup_nil⟩,rfl⟩ ?_) (by rw[hint];exact Hn _) ?_
  rotate_left
  ·rintro f ⟨ρ',rfl,zs,e3,hn,hw,rfl⟩
   rw[hint,Nat.zero_add] at hn
   exact⟨_,rfl,zs,e3,hn,hw,rfl⟩
  ·rintro y hy j hj _ ⟨zs,e3,hn,hw,rfl⟩
   rw[hint] at hj
   show Gen (f9 _ _ [val .bV,val (.int k),Ent.own (zs.map PV.str),val y]) 9 _
   simp only[f9,Hx,Hy,aa,bT,cu,vk,DC,rZ,M.bZ]
   refine Gen.le (Gen.bind (xW (zs:=zs) (by lia)) (d:=0) ?_) (by decide)
   rintro _ ⟨x,rfl,hx,hxn⟩
   have hl:(zs.map PV.str).length < 100000:=by rw[Hg];lia
   refine Gen.eq (y:=.nx [val .bV,val (.int k),Ent.own ((zs++[x]).map PV.str),val y]) ?_ ⟨_,rfl,zs++[x],_,by simp[hn],⟨fun z hz=>?_,?_⟩,rfl⟩
   ·have hf:mO (.str x)= .ret (.str x):=rfl
    simp only[hf,rZ,Ig hl,Im,Hq,List.map_nil]
    rfl
   ·rcases Ie.mp hz with hz|hz
    ·exact hw.1 z hz
    ·rw[HK.mp hz];exact hx
   ·refine List.nodup_append.mpr ⟨hw.2,by simp,fun a ha b hb=>?_⟩
    rw[HK.mp hb]
    exact fun z=>hxn (z▸ha)
 ·rintro _ ⟨zs,e3,hn,hw,rfl⟩
  exact Gen.eq (fI (dS rfl)) ⟨zs,rfl,hn,hw⟩
set_option genInjectivity true in
inductive Ru where
 |qM (a b:Int)|post (least:Bool) (p:Str) (n:Int)|looked (n:Int)|vz (o:Str)|never
noncomputable def Ru.pv:Ru→PV
 | .qM a b=>.tup [.str "hours",.int a,.int b]
 | .post true p n=>.tup [.str "least",.str p,.int n]
 | .post false p n=>.tup [.str "most",.str p,.int n]
 | .looked n=>.tup [.str "looked",.int n]
 | .vz o=>.tup [.str "with",.str o]
 | .never=>.tup [.str "never"]
def Reads (l:List PV):Prop:= ∀ n m z v,PV.tup [.str "read",.int n,.int m,.str z,v]∈l→∃ i:Int,v= .int i
theorem A9 {mb:ao→M Fl} {Iv:Nat→ao→Prop}: ∀ (l:List PV) (i:Nat) (ρ:ao),Iv i ρ→(∀ j y,l[j]?=some y→∀ ρ,Iv (i+j) ρ→Gen (mb (ρ.set k (.val y))) c fun f=> ∃ ρ',f= .nx ρ'∧Iv (i+j+1) ρ')→Gen (eD (aP k) mb l ρ) (l.length * c) fun f=> ∃ ρ',f= .nx ρ'∧Iv (i+l.length) ρ'
 |[],i,ρ,h,_=>Gen.le (Gen.eq rfl ⟨ρ,rfl,h⟩) (HJ _)
 |y::l,i,ρ,h,hs=>by
  unfold eD
  simp only[aP,rZ]
  refine Gen.le (Gen.bind (hs 0 y rfl ρ h) (d:=l.length * c) ?_) (by rw[Hv,Nat.add_mul];lia)
  rintro _ ⟨ρ',rfl,h'⟩
  have:=A9 (k:=k) (mb:=mb) (c:=c) (Iv:=Iv) l (i+1) ρ' h' fun j z hj ρ hi=>by
   have e:i+1+j=i+(j+1):=by lia
   rw[e] at hi ⊢
   exact hs (j+1) z hj ρ hi
  have e:i+1+l.length=i+(y::l).length:=by simp only[Hv];lia
  rw[e] at this
  exact this
def fJ (h:PV) (ws:List (Str×List PV)) (aV:Int):Prop:= ∃ hm,h= .tup [.tup (ws.map fun p=>.tup (.str p.1::p.2)),hm,.int aV]∧0 < ws.length∧ws.length≤12∧(∀ p∈ws,Wd p.1∧∃ (k:Str) (r:List PV),p.2= .str k::r)∧1≤aV∧aV≤1000000∧(ws.map (·.1)).Nodup
theorem pf (hn:(l.length:Int)=n) (h0:0 < l.length) (h1:l.length < 1000):Gen ((jG [.bV,.int n]).bind fun i=>aK (.lst l) i) 1 (fun y=>y∈l):=CP hn h0 h1
theorem xY {most sc:Int} (m0:1≤most) (m1:most≤12) (s0:1≤sc) (s1:sc≤33333):Gen (dD [.bV,.int most,.int sc]) 300 (fun h=> ∃ ws aV,fJ h ws aV):=by
 unfold dD fb
 show Gen ((aJ _ _ [val .bV,val (.int most),val (.int sc),un,un,un,un,un,un]).bind ff) 300 _
 refine Gen.le (dc (c:=1+5 * 9) (d:=200) (I:=fun ρ=> ∃ sp:List Str,2≤sp.length∧sp.length≤5∧ρ=[val .bV,val (.int most),val (.int sc),val (.lst (sp.map PV.str)),un,un,un,un,un]) ?_ ?_) (by decide)
 ·simp only[aU,ah,aa,bT,cu,rZ,af,M.bZ]
  refine Gen.le (Gen.bind (Gen.draw (by lia) (by lia)) (d:=5 * 9) ?_) (by decide)
  rintro _ ⟨d,rfl,d0,d1⟩
  have ea:df (.int 2) (.int d)= .ret (.int (2+d)):=rfl
  simp only[ea,rZ]
  refine Gen.le (Gen.bind (km (k:=2+d) (by lia) (by lia)) (d:=0) ?_) (by lia)
  rintro _ ⟨sp,rfl,hl,_⟩
  exact Gen.eq (y:=.nx _) rfl ⟨_,rfl,sp,by lia,by lia,rfl⟩
 rintro _ ⟨sp,p0,p1,rfl⟩
 refine Gen.le (dc (c:=1+12 * 9) (d:=90) (I:=fun ρ=> ∃ nm:List Str,1≤nm.length∧nm.length≤12∧((∀ z∈nm,Wd z)∧nm.Nodup)∧ρ=[val .bV,val (.int most),val (.int sc),val (.lst (sp.map PV.str)),val (.lst (nm.map PV.str)),un,un,un,un]) ?_ ?_) (by decide)
 ·simp only[aU,ah,aa,bT,cu,rZ,af,M.bZ]
  refine Gen.le (Gen.bind (Gen.draw (by lia) (by lia)) (d:=12 * 9) ?_) (by decide)
  rintro _ ⟨d,rfl,d0,d1⟩
  have ea:df (.int 1) (.int d)= .ret (.int (1+d)):=rfl
  simp only[ea,rZ]
  refine Gen.le (Gen.bind (km (k:=1+d) (by lia) (by lia)) (d:=0) ?_) (by lia)
  rintro _ ⟨nm,rfl,hl,hw⟩
  exact Gen.eq (y:=.nx _) rfl ⟨_,rfl,nm,by lia,by lia,hw,rfl⟩
 rintro _ ⟨nm,n0,n1,nw,rfl⟩
 refine Gen.le (dc (c:=0) (d:=90) (I:=fun ρ=>ρ=[val .bV,val (.int most),val (.int sc),val (.lst (sp.map PV.str)),val (.lst (nm.map PV.str)),Ent.own [],un,un,un]) (vE (by simp[lg,aQ]) rfl) ?_) (by decide)
 rintro _ rfl
 refine Gen.le (dc (c:=12 * 5) (d:=2) (I:=fun ρ=> ∃ (ws:List (Str×List PV)) (e6 e7 e8:Ent),ws.length=nm.length∧ws.map (·.1)=nm∧(∀ p∈ws,Wd p.1∧∃ (k:Str) (r:List PV),p.2= .str k::r)∧ρ=[val .bV,val (.int most),val (.int sc),val (.lst (sp.map PV.str)),val (.lst (nm.map PV.str)),Ent.own (ws.map fun p=>.tup (.str p.1::p.2)),e6,e7,e8]) ?_ ?_) (by decide)
 ·simp only[el,bT,cu,rZ,bf]
  refine Gen.mono (A9 (k:=6) (c:=5) (Iv:=fun i ρ=> ∃ (ws:List (Str×List PV)) (e6 e7 e8:Ent),ws.length=i∧ws.map (·.1)=nm.take i∧(∀ p∈ws,Wd p.1∧∃ (k:Str) (r:List PV),p.2= .str k::r)∧ρ=[val .bV,val (.int most),val (.int sc),val (.lst (sp.map PV.str)),val (.lst (nm.map PV.str)),Ent.own (ws.map fun p=>.tup (.str p.1::p.2)),e6,e7,e8]) (nm.map PV.str) 0 _ ⟨[],_,_,_,rfl,rfl,fun p hp=>absurd hp Hs,rfl⟩ ?_) (by rw[Hg];lia) ?_
  rotate_left
  ·rintro f ⟨ρ',rfl,ws,e6,e7,e8,hn,ht,hw,rfl⟩
   rw[Hg,Nat.zero_add] at hn ht
   rw[List.take_length] at ht
   exact⟨_,rfl,ws,e6,e7,e8,hn,ht,hw,rfl⟩
  ·rintro j y hy _ ⟨ws,e6,e7,e8,hn,ht,hw,rfl⟩
   rw[Nat.zero_add] at hn ht
   rw[HC] at hy
   obtain⟨z,hzj,rfl⟩:=HG.mp hy
   have hz:z∈nm:=List.mem_of_getElem? hzj
   have hj:j < nm.length:=(Hm.mp hzj).1
   show Gen (aJ _ _ [val .bV,val (.int most),val (.int sc),val (.lst (sp.map PV.str)),val (.lst (nm.map PV.str)),Ent.own (ws.map fun p=>.tup (.str p.1::p.2)),val (.str z),e7,e8]) 5 _
   refine Gen.le (jz (c:=1) (d:=4) (I:=fun ρ=> ∃ kd:Str,ρ=[val .bV,val (.int most),val (.int sc),val (.lst (sp.map PV.str)),val (.lst (nm.map PV.str)),Ent.own (ws.map fun p=>.tup (.str p.1::p.2)),val (.str z),val (.str kd),e8]) ?_ ?_) (by decide)
   ·simp only[aU,ah,aM,aa,bT,cu,rZ,Aa,af,M.bZ]
    refine Gen.le (Gen.bind (Gen.draw (by lia) (by lia)) (d:=0) ?_) (by decide)
    rintro _ ⟨d,rfl,d0,d1⟩
    obtain⟨v,hv,e⟩:=d9 (l:=[PV.str "slope",PV.str "slope",PV.str "lift",PV.str "path"]) d0 d1
    obtain⟨kd,rfl⟩: ∃ kd:Str,v= .str kd:=by
     simp only[Hr,Hs,or_false] at hv
     rcases hv with rfl|rfl|rfl|rfl<;>exact⟨_,rfl⟩
    exact Gen.eq (y:=.nx _) (by simp only[aK,e,M.eV,rZ];rfl) ⟨_,rfl,kd,rfl⟩
   rintro _ ⟨kd,rfl⟩
   refine Gen.le (jz (c:=2) (d:=2) (I:=fun ρ=> ∃ a b:PV,ρ=[val .bV,val (.int most),val (.int sc),val (.lst (sp.map PV.str)),val (.lst (nm.map PV.str)),Ent.own (ws.map fun p=>.tup (.str p.1::p.2)),val (.str z),val (.str kd),val (.lst [a,b])]) ?_ ?_) (by decide)
   ·have er:dO [.int 2]= .ret [.int 0,.int 1]:=rfl
    have ec:gN [none,some 3,some 0] [val .bV,val (.int most),val (.int sc),val (.lst (sp.map PV.str)),val (.lst (nm.map PV.str)),Ent.own (ws.map fun p=>.tup (.str p.1::p.2)),val (.str z),val (.str kd),e8]=[un,val (.lst (sp.map PV.str)),val .bV]:=rfl
    unfold aU aM bW
    simp only[aa,bT,cu,rZ,er,ec,M.bZ]
    rw[Ig (by decide)]
    refine Gen.le (Gen.bind (Gen.lc (ρ:=[un,val (.lst (sp.map PV.str)),val .bV]) (c:=1) (Pr:=fun _=>True) _ _ (fun _=>rfl) (fun y hy=>?_)) (d:=0) ?_) (by decide)
    ·simp only[Ho,ah,bT,cu,rZ,eM,af,Hg]
     refine Gen.mono (pf (l:=sp.map PV.str) (by rw[Hg]) (by rw[Hg];lia) (by rw[Hg];lia)) (Hn _) fun _ _=>trivial
    ·rintro us ⟨z1,_⟩
     match us,z1 with
     |[a,b],_=>exact Gen.eq (y:=.nx _) rfl ⟨_,rfl,a,b,rfl⟩
   rintro _ ⟨a,b,rfl⟩
   have i0:aK (.lst [a,b]) (.int 0)= .ret a:=rfl
   have i1:aK (.lst [a,b]) (.int 1)= .ret b:=rfl
   have hl:(ws.map fun p=>PV.tup (.str p.1::p.2)).length < 100000:=by rw[Hg];lia
   simp only[f9,Hx,Hy,aa,ah,bT,cu,rZ,i0,i1,af,M.bZ]
   refine Gen.le (Gen.bind (Gen.draw (by lia) (by lia)) (d:=1) ?_) (by decide)
   rintro _ ⟨u,rfl,u0,u1⟩
   rw[o2 (by lia) (by lia)]
   simp only[rZ]
   refine Gen.le (Gen.bind (Gen.draw (by lia) (by lia)) (d:=0) ?_) (by decide)
   rintro _ ⟨v,rfl,v0,v1⟩
   rw[o2 (by lia) (by lia)]
   refine Gen.eq (y:=.nx _) (by simp only[rZ,Er,Ig hl];rfl) ⟨_,rfl,ws++[(z,[.str kd,a,b,.int (sc * u),.int (sc * v)])],_,_,_,by simp[hn],by rw[Im,ht,Nat.zero_add,List.take_succ,hzj];rfl,fun p hp=>?_,by rw[Im];rfl⟩
   rcases Ie.mp hp with hp|hp
   ·exact hw p hp
   ·rw[HK.mp hp]
    exact⟨nw.1 z hz,kd,_,rfl⟩
 rintro _ ⟨ws,e6,e7,e8,hn,ht,hw,rfl⟩
 simp only[cD,Hq,List.map_nil,Ent.freeze,aa,ah,bT,cu,rZ,lb,eM,af,Hg,M.bZ]
 refine Gen.le (Gen.bind (Gen.draw (by lia) (by lia)) (d:=1) ?_) (by decide)
 rintro _ ⟨d,rfl,d0,d1⟩
 obtain⟨hm,_,e⟩:=d9 (l:=sp.map PV.str) d0 (by rw[Hg];exact d1)
 simp only[aK,e,M.eV,rZ]
 refine Gen.le (Gen.bind (Gen.draw (by lia) (by lia)) (d:=0) ?_) (by decide)
 rintro _ ⟨g,rfl,g0,g1⟩
 have ea:df (.int 1) (.int g)= .ret (.int (1+g)):=rfl
 have hp:0 < sc * (1+g):=Int.mul_pos (by lia) (by lia)
 have hq:sc * (1+g)≤33333 * 30:=Int.mul_le_mul s1 (by lia) (by lia) (by lia)
 rw[ea]
 simp only[rZ]
 rw[o2 (by lia) (by lia)]
 exact Gen.eq (y:=.tup [.tup (ws.map fun p=>.tup (.str p.1::p.2)),hm,.int (sc * (1+g))]) (by simp only[rZ,u6];rfl) ⟨ws,_,hm,rfl,by lia,by lia,hw,by lia,by lia,by rw[ht];exact nw.2⟩
theorem iJ (H:fJ h ws aV):aK h (.int 0)= .ret (.tup (ws.map fun p=>.tup (.str p.1::p.2)))∧aK h (.int 2)= .ret (.int aV):=by
 obtain⟨hm,rfl,_⟩:=H
 exact⟨rfl,rfl⟩
theorem sQ (H:fJ h ws aV) (s0:1≤sc) (s1:sc≤33333):Gen (cb [.bV,h,.int sc]) 2 (fun y=> ∃ i:Int,y= .int i∧0≤i∧i≤aV):=by
 obtain⟨_,h2⟩:=iJ H
 obtain⟨_,_,_,_,_,k0,k1⟩:=H
 unfold cb dI
 show Gen ((cD _ [val .bV,val h,val (.int sc)]).bind ff) 2 _
 have en:mD (.int 1)= .ret (.int (-1)):=rfl
 simp only[cD,Hq,List.map_nil,Ent.freeze,ah,aM,aa,bT,cu,rZ,h2,en,Aa,af,M.bZ]
 refine Gen.le (Gen.bind (Gen.draw (by lia) (by lia)) (d:=1) ?_) (by decide)
 rintro _ ⟨d,rfl,d0,d1⟩
 rw[o2 (by lia) (by lia)]
 simp only[rZ]
 refine Gen.le (Gen.bind (Gen.draw (by lia) (by lia)) (d:=0) ?_) (by decide)
 rintro _ ⟨g,rfl,g0,g1⟩
 obtain⟨y,hy,e⟩:=d9 (l:=[PV.int 0,PV.int 0,PV.int 1,PV.int (-1)]) g0 g1
 obtain⟨i,rfl⟩: ∃ i:Int,y= .int i:=by
  simp only[Hr,Hs,or_false] at hy
  rcases hy with rfl|rfl|rfl|rfl<;>exact⟨_,rfl⟩
 have ea:df (.int (sc * d)) (.int i)= .ret (.int (sc * d+i)):=rfl
 generalize sc * d+i=v at ea
 refine Gen.eq (y:=.int (if(if v > 0 then v else 0) < aV then(if v > 0 then v else 0) else aV)) (by simp only[aK,e,M.eV,rZ,ea,nM,qE];rfl) ⟨_,rfl,?_,?_⟩
 ·split<;>split<;>lia
 ·split<;>split<;>lia
theorem Bm (H:fJ h ws aV):Gen ((jG [.bV,.int ws.length]).bind fun i=>(aK (.tup (ws.map fun p=>.tup (.str p.1::p.2))) i).bind fun y=>aK y (.int 0)) 1 (fun y=> ∃ x,y= .str x∧Wd x):=by
 obtain⟨_,_,w0,w1,hw,_⟩:=H
 refine Gen.le (Gen.bind (Gen.draw (by lia) (by lia)) (d:=0) ?_) (by decide)
 rintro _ ⟨d,rfl,d0,d1⟩
 obtain⟨y,hy,e⟩:=d9 (l:=ws.map fun p=>PV.tup (.str p.1::p.2)) d0 (by rw[Hg];exact d1)
 obtain⟨p,hp,rfl⟩:=Hu.mp hy
 exact Gen.eq (y:=.str p.1) (by simp only[aK,e,M.eV,rZ,vF]) ⟨p.1,rfl,(hw p hp).1⟩
theorem y8 (H:fJ h ws aV):Gen ((jG [.bV,.int ws.length]).bind fun i=>(aK (.tup (ws.map fun p=>.tup (.str p.1::p.2))) i).bind fun y=>aK y (.int 0)) 1 (fun y=> ∃ x,y= .str x∧x∈ws.map (·.1)):=by
 obtain⟨_,_,w0,w1,hw,_⟩:=H
 refine Gen.le (Gen.bind (Gen.draw (by lia) (by lia)) (d:=0) ?_) (by decide)
 rintro _ ⟨d,rfl,d0,d1⟩
 obtain⟨y,hy,e⟩:=d9 (l:=ws.map fun p=>PV.tup (.str p.1::p.2)) d0 (by rw[Hg];exact d1)
 obtain⟨p,hp,rfl⟩:=Hu.mp hy
 exact Gen.eq (y:=.str p.1) (by simp only[aK,e,M.eV,rZ,vF]) ⟨p.1,rfl,HM hp⟩
def Bh (y:PV):Prop:=p4 400 1 y
theorem rt (hw:Sh w) (hr:r.length≤3) (h: ∀ x∈r,p4 82 0 x):Bh (.tup (.str w::r)):=by
 refine(lC (c:=82) (dp:=0) (n:=4) (fun z hz=>?_) (by simp;lia)).mono (by lia) (Hn _)
 rcases Hr.mp hz with rfl|hz
 ·exact ss hw
 ·exact h z hz
def DE (y:PV):Prop:=Bh y∧∃ r:Ru,y=r.pv
theorem xX {sc:Int} {ps:List Str} (H:fJ h ws aV) (s0:1≤sc) (s1:sc≤33333) (p0:0 < ps.length) (p1:ps.length≤20) (pw: ∀ z∈ps,Wd z):Gen (cX [.bV,h,.lst (ps.map PV.str),.int sc]) 7 DE:=by
 obtain⟨h0,_⟩:=iJ H
 have wa:=Bm H
 unfold cX eZ
 show Gen ((aJ _ _ [val .bV,val h,val (.lst (ps.map PV.str)),val (.int sc),un,un,un,un,un,un]).bind ff) 7 _
 refine Gen.le (dc (c:=1) (d:=6) (I:=fun ρ=> ∃ w:Int,0≤w∧w < 12∧ρ=[val .bV,val h,val (.lst (ps.map PV.str)),val (.int sc),val (.int w),un,un,un,un,un]) ?_ ?_) (by decide)
 ·simp only[aU,aa,bT,cu,rZ,af]
  refine Gen.le (Gen.bind (Gen.draw (by lia) (by lia)) (d:=0) ?_) (by decide)
  rintro _ ⟨w,rfl,w0,w1⟩
  exact Gen.eq (y:=.nx _) rfl ⟨_,rfl,w,w0,w1,rfl⟩
 rintro _ ⟨w,w0,w1,rfl⟩
 refine Gen.le (dc (c:=1) (d:=5) (I:=fun ρ=> ∃ x:Str,Wd x∧ρ=[val .bV,val h,val (.lst (ps.map PV.str)),val (.int sc),val (.int w),val (.str x),un,un,un,un]) ?_ ?_) (by decide)
 ·simp only[aU,ah,aa,bT,cu,rZ,eM,af,Hg,M.bZ]
  rw[←M.bZ]
  refine Gen.le (Gen.bind (pf (l:=ps.map PV.str) (by rw[Hg]) (by rw[Hg];lia) (by rw[Hg];lia)) (d:=0) ?_) (by decide)
  intro y hy
  obtain⟨x,hx,rfl⟩:=Hu.mp hy
  exact Gen.eq (y:=.nx _) rfl ⟨_,rfl,x,pw x hx,rfl⟩
 rintro _ ⟨x,hx,rfl⟩
 refine Gen.le (dc (c:=1) (d:=4) (I:=fun ρ=> ∃ n:Int,-3≤n∧n≤3∧ρ=[val .bV,val h,val (.lst (ps.map PV.str)),val (.int sc),val (.int w),val (.str x),val (.int n),un,un,un]) ?_ ?_) (by decide)
 ·simp only[aU,ah,aa,bT,cu,rZ,af,M.bZ]
  refine Gen.le (Gen.bind (Gen.draw (by lia) (by lia)) (d:=0) ?_) (by decide)
  rintro _ ⟨n,rfl,n0,n1⟩
  exact Gen.eq (y:=.nx _) rfl ⟨_,rfl,n - 3,by lia,by lia,rfl⟩
 rintro _ ⟨n,n0,n1,rfl⟩
 refine Gen.le (dc (c:=3) (d:=1) (I:=fun ρ=> ∃ a b:Int,0≤a∧a≤1000000∧-1≤b∧b≤1000000∧ρ=[val .bV,val h,val (.lst (ps.map PV.str)),val (.int sc),val (.int w),val (.str x),val (.int n),val (.int a),val (.int b),un]) ?_ ?_) (by decide)
 ·simp only[zL,ah,aa,bT,cu,rZ,af,M.bZ]
  refine Gen.le (Gen.bind (Gen.draw (by lia) (by lia)) (d:=2) ?_) (by decide)
  rintro _ ⟨a,rfl,a0,a1⟩
  rw[o2 (by lia) (by lia)]
  simp only[rZ]
  refine Gen.le (Gen.bind (Gen.draw (by lia) (by lia)) (d:=1) ?_) (by decide)
  rintro _ ⟨b,rfl,b0,b1⟩
  have ea:df (.int 1) (.int b)= .ret (.int (1+b)):=rfl
  rw[ea]
  simp only[rZ]
  rw[o2 (by lia) (by lia)]
  simp only[rZ]
  refine Gen.le (Gen.bind (Gen.draw (by lia) (by lia)) (d:=0) ?_) (by decide)
  rintro _ ⟨c,rfl,c0,c1⟩
  have q0:0≤sc * a:=Int.mul_nonneg (by lia) a0
  have q1:sc * a≤33333 * 30:=Int.mul_le_mul s1 (by lia) a0 (by lia)
  have q2:0≤sc * (1+b):=Int.mul_nonneg (by lia) (by lia)
  have q3:sc * (1+b)≤33333 * 12:=Int.mul_le_mul s1 (by lia) (by lia) (by lia)
  exact Gen.eq (y:=.nx _) rfl ⟨_,rfl,sc * a,sc * (1+b)+c - 1,q0,by lia,by lia,by lia,rfl⟩
 rintro _ ⟨a,b,a0,a1,b0,b1,rfl⟩
 refine Gen.le (dc (c:=1) (d:=0) (I:=fun ρ=> ∃ z:Str,Wd z∧ρ=[val .bV,val h,val (.lst (ps.map PV.str)),val (.int sc),val (.int w),val (.str x),val (.int n),val (.int a),val (.int b),val (.str z)]) ?_ ?_) (by decide)
 ·simp only[aU,ah,aa,bT,cu,rZ,h0,eM,af,Hg,M.bZ]
  have wa':Gen (((jG [.bV,.int ws.length]).bind fun i=>(aK (.tup (ws.map fun p=>.tup (.str p.1::p.2))) i).bind fun y=>aK y (.int 0)).bind fun y=>M.ret (Fl.nx ([val .bV,val h,val (.lst (ps.map PV.str)),val (.int sc),val (.int w),val (.str x),val (.int n),val (.int a),val (.int b),un].set 9 (val y)))) 1 (fun f=> ∃ ρ',f= .nx ρ'∧∃ z:Str,Wd z∧ρ'=[val .bV,val h,val (.lst (ps.map PV.str)),val (.int sc),val (.int w),val (.str x),val (.int n),val (.int a),val (.int b),val (.str z)]):=by
   refine Gen.le (Gen.bind wa (d:=0) ?_) (by decide)
   rintro _ ⟨z,rfl,hz⟩
   exact Gen.eq (y:=.nx _) rfl ⟨_,rfl,z,hz,rfl⟩
  simp only[M.bZ] at wa'
  exact wa'
 rintro _ ⟨z,hz,rfl⟩
 have lt: ∀ k:Int,bO (ah o5 (fun ρ=>ag ρ 4) (fun _=>M.ret (.int k))) [val .bV,val h,val (.lst (ps.map PV.str)),val (.int sc),val (.int w),val (.str x),val (.int n),val (.int a),val (.int b),val (.str z)]= .ret (decide (w < k)):=by intro k;simp[bO,ah,ag,o5,u4]
 have em:nM [.int 1,.int b]= .ret (.int (if b > 1 then b else 1)):=rfl
 have mb0:1≤(if b > 1 then b else 1)∧(if b > 1 then b else 1)≤1000000:=by split<;>lia
 generalize (if b > 1 then b else 1)=mb at em mb0
 by_cases c3:w < 3
 ·unfold aJ
  rw[jx (by rw[lt,Il c3])]
  have ea:df (.int a) (.int mb)= .ret (.int (a+mb)):=rfl
  have e2:qE [.int 1000001,.int (a+mb)]= .ret (.int (if a+mb < 1000001 then a+mb else 1000001)):=rfl
  refine Gen.eq (y:=.tup [.str "hours",.int a,.int (if a+mb < 1000001 then a+mb else 1000001)]) (by simp only[cD,Hq,List.map_nil,Ent.freeze,aa,ah,bT,cu,rZ,em,ea,e2,u6];rfl) ⟨rt (by decide) (by simp) fun v hv=>?_,.qM a _,rfl⟩
  simp only[Hr,Hs,or_false] at hv
  rcases hv with rfl|rfl
  ·exact si (by lia)
  ·exact si (by split<;>lia)
 refine Gen.le (dc (c:=0) (d:=0) (I:=fun ρ=>ρ=[val .bV,val h,val (.lst (ps.map PV.str)),val (.int sc),val (.int w),val (.str x),val (.int n),val (.int a),val (.int b),val (.str z)]) (vE (gL (by rw[lt,HH c3])) rfl) ?_) (by decide)
 rintro _ rfl
 by_cases c8:w < 8
 ·unfold aJ
  rw[jx (by rw[lt,Il c8])]
  have e2:qA (.int w) (.int 2)= .ret (.int (w % 2)):=by unfold qA su;simp
  obtain⟨v,hv,e⟩:=d9 (l:=[PV.tup [.str "least",.str x,.int n],PV.tup [.str "most",.str x,.int n]]) (d:=w % 2) (by lia) (by simp;lia)
  have hv':DE v:=by
   simp only[Hr,Hs,or_false] at hv
   rcases hv with rfl|rfl
   ·refine⟨rt (by decide) (by simp) fun u hu=>?_,.post true x n,rfl⟩
    simp only[Hr,Hs,or_false] at hu
    rcases hu with rfl|rfl
    ·exact ss hx.sh
    ·exact si (by lia)
   ·refine⟨rt (by decide) (by simp) fun u hu=>?_,.post false x n,rfl⟩
    simp only[Hr,Hs,or_false] at hu
    rcases hu with rfl|rfl
    ·exact ss hx.sh
    ·exact si (by lia)
  exact Gen.eq (y:=v) (by simp only[cD,Hq,List.map_nil,Ent.freeze,aM,aa,ah,bT,cu,rZ,u6,xD,e2,aK,e,M.eV];rfl) hv'
 refine Gen.le (dc (c:=0) (d:=0) (I:=fun ρ=>ρ=[val .bV,val h,val (.lst (ps.map PV.str)),val (.int sc),val (.int w),val (.str x),val (.int n),val (.int a),val (.int b),val (.str z)]) (vE (gL (by rw[lt,HH c8])) rfl) ?_) (by decide)
 rintro _ rfl
 by_cases c10:w < 10
 ·unfold aJ
  rw[jx (by rw[lt,Il c10])]
  refine Gen.eq (y:=.tup [.str "looked",.int mb]) (by simp only[cD,Hq,List.map_nil,Ent.freeze,aa,bT,cu,rZ,em,mE];rfl) ⟨rt (by decide) (by simp) fun v hv=>?_,.looked mb,rfl⟩
  simp only[Hr,Hs,or_false] at hv
  subst hv
  exact si (by lia)
 refine Gen.le (dc (c:=0) (d:=0) (I:=fun ρ=>ρ=[val .bV,val h,val (.lst (ps.map PV.str)),val (.int sc),val (.int w),val (.str x),val (.int n),val (.int a),val (.int b),val (.str z)]) (vE (gL (by rw[lt,HH c10])) rfl) ?_) (by decide)
 rintro _ rfl
 have eb: ∃ q:Bool,rm (ah (eE false) (fun ρ=>ag ρ 4) (fun _=>M.ret (.int 11))) (ah Ap (fun ρ=>ag ρ 6) (fun _=>M.ret (.int 0))) [val .bV,val h,val (.lst (ps.map PV.str)),val (.int sc),val (.int w),val (.str x),val (.int n),val (.int a),val (.int b),val (.str z)]= .ret (.bl q):=by
  have g1:ah Ap (fun ρ=>ag ρ 6) (fun _=>M.ret (.int 0)) [val .bV,val h,val (.lst (ps.map PV.str)),val (.int sc),val (.int w),val (.str x),val (.int n),val (.int a),val (.int b),val (.str z)]= .ret (.bl (decide (0 < n))):=by simp[ah,ag,Ap,u4]
  have g2:ah (eE false) (fun ρ=>ag ρ 4) (fun _=>M.ret (.int 11)) [val .bV,val h,val (.lst (ps.map PV.str)),val (.int sc),val (.int w),val (.str x),val (.int n),val (.int a),val (.int b),val (.str z)]= .ret (.bl (w==11)):=by simp[ah,ag,GN]
  cases c:(w==11) with
  |true=>
   refine⟨decide (0 < n),?_⟩
   unfold rm bO
   rw[g2,c]
   simp only[rZ,if_true]
   exact g1
  |false=>
   refine⟨false,?_⟩
   unfold rm bO
   rw[g2,c]
   simp only[rZ,HY,if_false]
 obtain⟨q,eb⟩:=eb
 have ei:sL [.bl q]= .ret (.int (if q then 1 else 0)):=rfl
 obtain⟨v,hv,e⟩:=d9 (l:=[PV.tup [.str "with",.str z],PV.tup [.str "never"]]) (d:=if q then 1 else 0) (by split<;>lia) (by simp;split<;>lia)
 have hv':DE v:=by
  simp only[Hr,Hs,or_false] at hv
  rcases hv with rfl|rfl
  ·refine⟨rt (by decide) (by simp) fun u hu=>?_,.vz z,rfl⟩
   simp only[Hr,Hs,or_false] at hu
   subst hu
   exact ss hz.sh
  ·exact⟨rt (by decide) (by simp) fun u hu=>absurd hu Hs,.never,rfl⟩
 refine Gen.eq (y:=v) (fI (dS ?_)) hv'
 simp only[Hq,List.map_nil,Ent.freeze]
 show ah aK (aM (fun ρ=>((aa (fun ρ=>((aa (fun _=>M.ret (.str "with")) (aa (fun ρ=>ag ρ 9) (fun _=>M.ret []))) ρ).bind aI) (aa (fun ρ=>((aa (fun _=>M.ret (.str "never")) (fun _=>M.ret [])) ρ).bind aI) (fun _=>M.ret []))) ρ).bind aQ)) (fun ρ=>(aa (rm (ah (eE false) (fun ρ=>ag ρ 4) (fun _=>M.ret (.int 11))) (ah Ap (fun ρ=>ag ρ 6) (fun _=>M.ret (.int 0)))) (fun _=>M.ret []) ρ).bind sL) _=_
 unfold ah
 rw[show aM (fun ρ=>((aa (fun ρ=>((aa (fun _=>M.ret (PV.str "with")) (aa (fun ρ=>ag ρ 9) (fun _=>M.ret []))) ρ).bind aI) (aa (fun ρ=>((aa (fun _=>M.ret (PV.str "never")) (fun _=>M.ret [])) ρ).bind aI) (fun _=>M.ret []))) ρ).bind aQ) [val .bV,val h,val (.lst (ps.map PV.str)),val (.int sc),val (.int w),val (.str x),val (.int n),val (.int a),val (.int b),val (.str z)]= .ret (.lst [.tup [.str "with",.str z],.tup [.str "never"]]) by simp only[aM,aa,bT,cu,rZ,mE,Et,xD]]
 rw[rZ]
 unfold aa
 unfold ah at eb
 dsimp only at eb ⊢
 rw[eb]
 simp only[rZ,ei,aK,e,M.eV]
theorem zW {ns:List Int} {n:Int} {k:Nat} (hk:k≤1000) (hl:ns.length < k) (h: ∀ t:Nat,t < k→(n+t) % 1000000∈ns):False:=by
 have:=sub_len ((List.range k).map fun t:Nat=>(n+t) % 1000000) ns (by
  unfold List.Nodup
  rw[List.pairwise_map]
  refine List.Pairwise.imp_of_mem ?_ List.nodup_range
  intro a b ha hb ne e
  rw[IF] at ha hb
  lia) (fun x hx=>by
  obtain⟨t,ht,rfl⟩:=Hu.mp hx
  exact h t (IF.mp ht))
 rw[Hg,List.length_range] at this
 lia
noncomputable def Cm:ao→M PV:=ah qA (ah df (fun ρ=>ag ρ 1) (fun ρ=>ag ρ 0)) (fun _=>M.ret (.int 1000000))
noncomputable def Ck:ao→M Bool:=bO (ah (pY true) (fun ρ=>ag ρ 0) (fun ρ=>ag ρ 1))
theorem xl (x:Int) (ns:List Int):pY true (.int x) (.lst (ns.map PV.int))= .ret (.bl (!decide (x∈ns))):=by
 have h:=Am x ns
 unfold pY at h ⊢
 dsimp only at h ⊢
 split at h
 ·rename_i c
  rw[Ig c]
  simp at h ⊢
  exact h
 ·cases h
theorem sP {ns:List Int} (hn:ns.length < 70):Gen (bY [.bV,.lst (ns.map PV.int)]) 2 (fun y=> ∃ n:Int,y= .int n∧n∉ns∧0≤n∧n < 1000000):=by
 unfold bY dH
 show Gen ((aJ _ _ [val .bV,val (.lst (ns.map PV.int)),un,un]).bind ff) 2 _
 refine Gen.le (dc (c:=2) (d:=0) (I:=fun ρ=> ∃ n:Int,ρ=[val .bV,val (.lst (ns.map PV.int)),val (.int n),un]) ?_ ?_) (by decide)
 ·simp only[aU,ah,aM,aa,bT,cu,rZ,xD,af,M.bZ]
  refine Gen.le (Gen.bind (Gen.draw (by lia) (by lia)) (d:=1) ?_) (by decide)
  rintro _ ⟨d,rfl,d0,d1⟩
  obtain⟨y,hy,e⟩:=d9 (l:=[PV.int 20,PV.int 1000000]) d0 d1
  obtain⟨m,rfl,m0,m1⟩: ∃ m:Int,y= .int m∧0 < m∧m≤1000000:=by
   simp only[Hr,Hs,or_false] at hy
   rcases hy with rfl|rfl<;>exact⟨_,rfl,by decide,by decide⟩
  simp only[aK,e,M.eV,rZ]
  refine Gen.le (Gen.bind (Gen.draw m0 (by lia)) (d:=0) ?_) (by decide)
  rintro _ ⟨n,rfl,n0,n1⟩
  exact Gen.eq (y:=.nx _) rfl ⟨_,rfl,n,rfl⟩
 rintro _ ⟨n,rfl⟩
 have q1:=o6 (k:=0) (te:=Cm) (f:=fun y=>match y with| .int t=>.int ((n+t) % 1000000)|_=>.bX) (ρ:=[un,val (.int n)]) (cT 0 70) [un,val (.int n)] (fun _=>rfl) (fun y hy=>by
   obtain⟨t,ht,rfl⟩:=Hu.mp hy
   have ea:df (.int n) (.int (0+(t:Nat)))= .ret (.int (n+(0+(t:Nat)))):=rfl
   have em:qA (.int (n+(0+(t:Nat)))) (.int 1000000)= .ret (.int ((n+(0+(t:Nat))) % 1000000)):=by unfold qA su;simp
   unfold Cm
   simp only[Ho,ah,bT,cu,rZ,ea,em])
 have em:((cT 0 70).map fun y=>match y with|PV.int t=>PV.int ((n+t) % 1000000)|_=>.bX)=((List.range 70).map fun t:Nat=>(n+t) % 1000000).map PV.int:=by
  unfold cT
  rw[Ip,Ip]
  apply IG
  intro t _
  show PV.int ((n+(0+(t:Nat))) % 1000000)=PV.int ((n+(t:Nat)) % 1000000)
  rw[Int.zero_add]
 rw[em] at q1
 generalize hC:((List.range 70).map fun t:Nat=>(n+t) % 1000000)=C at q1
 have q2:=gJ (k:=0) (tt:=Ck) (te:=fun ρ=>ag ρ 0) (p:=fun y=>match y with| .int x=>!decide (x∈ns)|_=>false) (f:=id) (ρ:=[un,val (.lst (ns.map PV.int))]) (C.map PV.int) [un,val (.lst (ns.map PV.int))] (fun _=>rfl) (fun y hy=>by
   obtain⟨x,hx,rfl⟩:=Hu.mp hy
   unfold Ck
   simp only[bO,ah,Ho,bT,cu,rZ,xl]) (fun y hy _=>by simp only[bT,Ho];rfl)
 have hCl:C.length=70:=by rw[←hC];simp
 obtain⟨x,hx,hnx⟩: ∃ x∈C,x∉ns:=by
  apply Classical.byContradiction
  intro hno
  refine zW (k:=70) (n:=n) (by decide) hn fun t ht=>Classical.byContradiction fun hc=>hno ⟨(n+t) % 1000000,?_,hc⟩
  rw[←hC]
  exact Hu.mpr ⟨t,IF.mpr ht,rfl⟩
 generalize hF:(C.map PV.int).filter (fun y=>match y with| .int x=>!decide (x∈ns)|_=>false)=F at q2
 have hFx:PV.int x∈F:=by
  rw[←hF]
  refine Ic.mpr ⟨HM hx,?_⟩
  show (!decide (x∈ns))=true
  rw[HH hnx]
  rfl
 match F,hF,hFx,q2 with
 |y::F,hF,_,q2=>
 have hy:=Ic.mp (show y∈(C.map PV.int).filter (fun y=>match y with| .int x=>!decide (x∈ns)|_=>false) by rw[hF];exact Hf)
 obtain⟨v,hv,rfl⟩:=Hu.mp hy.1
 have hvn:v∉ns:=by
  have:(!decide (v∈ns))=true:=hy.2
  simpa using this
 have hvb:0≤v∧v < 1000000:=by
  rw[←hC] at hv
  obtain⟨t,_,rfl⟩:=Hu.mp hv
  exact⟨Iy _ (by decide),Iw _ (by decide)⟩
 refine Gen.le (dc (c:=0) (d:=0) (I:=fun ρ=>ρ=[val .bV,val (.lst (ns.map PV.int)),val (.int n),val (.lst (C.map PV.int))]) ?_ ?_) (by decide)
 ·refine vE (I:=fun ρ=>ρ=_) ?_ rfl
  show aU 3 (aM (bW [none,some 2] (fun ρ=>((aa (fun _=>M.ret (.int 70)) (fun _=>M.ret [])) ρ).bind dO) (aP 0) cU Cm)) [val .bV,val (.lst (ns.map PV.int)),val (.int n),un]=_
  have er:dO [.int 70]= .ret (cT 0 70):=by simp only[dO];rfl
  have ec:gN [none,some 2] [val .bV,val (.lst (ns.map PV.int)),val (.int n),un]=[un,val (.int n)]:=rfl
  simp only[aU,aM,bW,aa,rZ,er,ec]
  rw[Ig (by simp[cT]),q1]
  rfl
 rintro _ rfl
 refine Gen.eq (y:=.int v) (fI (dS ?_)) ⟨v,rfl,hvn,hvb.1,hvb.2⟩
 show ah aK (aM (bW [none,some 1] (fun ρ=>((fun ρ=>ag ρ 3) ρ).bind bf) (aP 0) Ck (fun ρ=>ag ρ 0))) (fun _=>M.ret (.int 0)) [val .bV,val (.lst (ns.map PV.int)),val (.int n),val (.lst (C.map PV.int))]=_
 have ec:gN [none,some 1] [val .bV,val (.lst (ns.map PV.int)),val (.int n),val (.lst (C.map PV.int))]=[un,val (.lst (ns.map PV.int))]:=rfl
 simp only[ah,aM,bW,bT,cu,rZ,bf,ec]
 rw[Ig (by rw[Hg,hCl];decide),q2]
 simp only[rZ,List.map_id,aK,vF,M.eV]
def rB (ws:List (Str×List PV)) (y:PV):Prop:=(∃ (n m:Int) (z:Str) (rs:List Ru),y= .tup [.str "rule",.int n,.int m,.str z,.tup (rs.map Ru.pv)]∧rs.length≤6∧z∈ws.map (·.1))∨(∃ (n m:Int) (z:Str) (i:Int),y= .tup [.str "read",.int n,.int m,.str z,.int i])∨(∃ (n m:Int) (z:Str) (q:List PV),y= .tup [.str "look",.int n,.int m,.str z]∧(z,.str "slope"::q)∈ws)
def GR (ws:List (Str×List PV)) (l:List PV) (ns:List Int):Prop:=iw l ns∧∀ y∈l,rB ws y
noncomputable def xC:PV→Int
 | .tup (_::_::.int p::_)=>p
 |_=>0
def Gx (aV:Int) (l:List PV):Prop:= ∀ y∈l,0≤xC y∧xC y≤aV
def E3 (ws:List (Str×List PV)) (aV:Int) (l:List PV) (ns:List Int):Prop:=GR ws l ns∧Gx aV l
theorem Co (h:Gx aV l) (m0:0≤m) (m1:m≤aV) (e:xC y=m):Gx aV (l++[y]):=fun z hz=>by
 rcases Ie.mp hz with hz|hz
 ·exact h z hz
 ·rw[HK.mp hz];rw[e];exact ⟨m0,m1⟩
theorem xV (h: ∀ y∈l,rB ws y) (g:rB ws y): ∀ z∈l++[y],rB ws z:=fun z hz=>by
 rcases Ie.mp hz with hz|hz
 ·exact h z hz
 ·rw[HK.mp hz];exact g
theorem G1 (h: ∀ z∈rs,DE z): ∃ us:List Ru,rs=us.map Ru.pv:=by
 induction rs with
 |nil=>exact⟨[],rfl⟩
 |cons r rs ih=>
  obtain⟨us,rfl⟩:=ih fun z hz=>h z (Hj _ hz)
  obtain⟨_,u,rfl⟩:=h r Hf
  exact⟨u::us,rfl⟩
theorem Df (l:List α) (x:α):ja (l++[x]) (-1)=some x:=by
 unfold ja xP
 rw[Ih (by decide)]
 have h1:(l++[x]).length=l.length+1:=by simp
 by_cases c: -((l++[x]).length:Int)≤-1
 ·rw[Ig c]
  show (l++[x])[((-1:Int)+((l++[x]).length:Int)).toNat]?=some x
  rw[h1]
  have:((-1:Int)+((l.length+1:Nat):Int)).toNat=l.length:=by lia
  rw[this]
  simp
 ·rw[h1] at c
  lia
theorem uP (H:fJ h ws aV): ∃ sl:List Str,(∀ z∈sl,∃ q,(z,PV.str "slope"::q)∈ws)∧sl.length≤12∧jS (aP 0) (bO (ah (eE false) (ah aK (fun ρ=>ag ρ 0) (fun _=>M.ret (.int 1))) (fun _=>M.ret (.str "slope")))) (ah aK (fun ρ=>ag ρ 0) (fun _=>M.ret (.int 0))) (ws.map fun p=>.tup (.str p.1::p.2)) [un]= .ret (sl.map PV.str):=by
 obtain⟨_,_,_,w1,hw,_⟩:=H
 have q:=gJ (k:=0) (tt:=bO (ah (eE false) (ah aK (fun ρ=>ag ρ 0) (fun _=>M.ret (.int 1))) (fun _=>M.ret (.str "slope")))) (te:=ah aK (fun ρ=>ag ρ 0) (fun _=>M.ret (.int 0))) (p:=fun y=>match y with| .tup (_::.str k::_)=>k=="slope"|_=>false) (f:=fun y=>match y with| .tup (a::_)=>a|_=>.bX) (ρ:=[un]) (ws.map fun p=>PV.tup (.str p.1::p.2)) [un] (fun _=>rfl) (fun y hy=>by
  obtain⟨p,hp,rfl⟩:=Hu.mp hy
  obtain⟨_,k,r,e⟩:=hw p hp
  rw[e]
  simp only[bO,ah,Ho,bT,rZ,aK,Dg,M.eV,sU]) (fun y hy _=>by
  obtain⟨p,hp,rfl⟩:=Hu.mp hy
  simp only[ah,bT,Ho,rZ,aK,vF,M.eV])
 refine⟨(ws.filter fun p=>match p.2 with| .str k::_=>k=="slope"|_=>false).map (·.1),fun z hz=>?_,?_,?_⟩
 ·obtain⟨p,hp,rfl⟩:=Hu.mp hz
  obtain⟨hp1,hp2⟩:=Ic.mp hp
  obtain⟨_,k,r,e⟩:=hw p hp1
  rw[e] at hp2
  dsimp only at hp2
  rw[eq_of_beq hp2] at e
  exact⟨r,by rw[←e];exact hp1⟩
 ·rw[Hg]
  exact HD (List.length_filter_le _ _) w1
 ·rw[q,List.filter_map,Ip,Ip]
  congr 1
  have:((fun y=>match y with|PV.tup (_::.str k::_)=>k==("slope":Str)|_=>false)∘fun p:Str×List PV=>PV.tup (.str p.1::p.2))=(fun p:Str×List PV=>match p.2 with| .str k::_=>k==("slope":Str)|_=>false):=by
   funext p
   obtain⟨a,b⟩:=p
   cases b with
   |nil=>rfl
   |cons c d=>cases c<;>rfl
  rw[this]
  rfl
abbrev m7 (h:PV) (sc k:Int) (ps sl:List Str) (l:List PV) (ns:List Int) (r:List Ent):ao:=val .bV::val h::val (.int sc)::val (.int k)::val (.lst (ps.map PV.str))::val (.lst (sl.map PV.str))::Ent.own l::Ent.own (ns.map PV.int)::r
noncomputable def Fq:ao→M Fl:=(aJ (aU 9 (fun ρ=>((aa (fun ρ=>ag ρ 0) (aa (fun _=>M.ret (.int 8)) (fun _=>M.ret []))) ρ).bind af))
  (aJ (aU 10 (ah g8 (fun ρ=>((aa (fun ρ=>ag ρ 0) (aa (fun ρ=>ag ρ 1) (aa (fun ρ=>ag ρ 2) (fun _=>M.ret [])))) ρ).bind cb) (fun ρ=>((aa (ah Ap (fun ρ=>((aa (fun ρ=>ag ρ 0) (aa (fun _=>M.ret (.int 3)) (fun _=>M.ret []))) ρ).bind af) (fun _=>M.ret (.int 0))) (fun _=>M.ret [])) ρ).bind sL)))
  (aJ (f9 7 (fun ρ=>((aa (fun ρ=>ag ρ 0) (aa (fun ρ=>cQ ρ 7) (fun _=>M.ret []))) ρ).bind fun l=>(bY l).bind mO))
  (i8 (bO (ah o5 (fun ρ=>ag ρ 9) (fun _=>M.ret (.int 3))))
  (aJ (aU 11 (ah aK (ah aK (ah aK (fun ρ=>ag ρ 1) (fun _=>M.ret (.int 0))) (fun ρ=>((aa (fun ρ=>ag ρ 0) (aa (fun ρ=>((aa (ah aK (fun ρ=>ag ρ 1) (fun _=>M.ret (.int 0))) (fun _=>M.ret [])) ρ).bind eM) (fun _=>M.ret []))) ρ).bind af)) (fun _=>M.ret (.int 0))))
  (aJ (aU 12 (ah aK (aM (fun ρ=>((aa (fun _=>M.ret (.int 0)) (aa (fun _=>M.ret (.int 1)) (aa (fun _=>M.ret (.int 1)) (aa (fun _=>M.ret (.int 1)) (aa (fun _=>M.ret (.int 2)) (aa (fun _=>M.ret (.int 2)) (aa (fun _=>M.ret (.int 3)) (aa (fun _=>M.ret (.int 6)) (fun _=>M.ret []))))))))) ρ).bind aQ)) (fun ρ=>((aa (fun ρ=>ag ρ 0) (aa (fun _=>M.ret (.int 8)) (fun _=>M.ret []))) ρ).bind af)))
  (aJ (aU 13 (aM (bW [none,some 0,some 1,some 4,some 2] (fun ρ=>((aa (fun ρ=>ag ρ 12) (fun _=>M.ret [])) ρ).bind dO) (aP 0) cU (fun ρ=>((aa (fun ρ=>ag ρ 1) (aa (fun ρ=>ag ρ 2) (aa (fun ρ=>ag ρ 3) (aa (fun ρ=>ag ρ 4) (fun _=>M.ret []))))) ρ).bind cX))))
  (f9 6 (fun ρ=>((aa (fun _=>M.ret (.str "rule")) (aa (ah aK (fun ρ=>cQ ρ 7) (fun ρ=>((fun _=>M.ret (.int 1)) ρ).bind mD)) (aa (fun ρ=>ag ρ 10) (aa (fun ρ=>ag ρ 11) (aa (fun ρ=>((aa (fun ρ=>ag ρ 13) (fun _=>M.ret [])) ρ).bind lb) (fun _=>M.ret [])))))) ρ).bind aI)))))
  (i8 (Dw (bO (ah o5 (fun ρ=>ag ρ 9) (fun _=>M.ret (.int 6)))) (bO (ah (eE false) (fun ρ=>ag ρ 5) (aM (fun ρ=>((fun _=>M.ret []) ρ).bind aQ)))))
  (aJ (aU 14 (ah g8 (ah uM (fun ρ=>((aa (fun ρ=>ag ρ 0) (aa (fun _=>M.ret (.int 7)) (fun _=>M.ret []))) ρ).bind af) (fun _=>M.ret (.int 3))) (ah aK (aM (fun ρ=>((aa (fun _=>M.ret (.int 1)) (aa (fun _=>M.ret (.int 1)) (aa (fun _=>M.ret (.int 1)) (aa (ah wO (fun _=>M.ret (.int 10)) (fun _=>M.ret (.int 50))) (fun _=>M.ret []))))) ρ).bind aQ)) (fun ρ=>((aa (fun ρ=>ag ρ 0) (aa (fun _=>M.ret (.int 4)) (fun _=>M.ret []))) ρ).bind af))))
  (f9 6 (fun ρ=>((aa (fun _=>M.ret (.str "read")) (aa (ah aK (fun ρ=>cQ ρ 7) (fun ρ=>((fun _=>M.ret (.int 1)) ρ).bind mD)) (aa (fun ρ=>ag ρ 10) (aa (ah aK (fun ρ=>ag ρ 4) (fun ρ=>((aa (fun ρ=>ag ρ 0) (aa (fun ρ=>((aa (fun ρ=>ag ρ 4) (fun _=>M.ret [])) ρ).bind eM) (fun _=>M.ret []))) ρ).bind af)) (aa (fun ρ=>ag ρ 14) (fun _=>M.ret [])))))) ρ).bind aI)))
  (f9 6 (fun ρ=>((aa (fun _=>M.ret (.str "look")) (aa (ah aK (fun ρ=>cQ ρ 7) (fun ρ=>((fun _=>M.ret (.int 1)) ρ).bind mD)) (aa (fun ρ=>ag ρ 10) (aa (ah aK (fun ρ=>ag ρ 5) (fun ρ=>((aa (fun ρ=>ag ρ 0) (aa (fun ρ=>((aa (fun ρ=>ag ρ 5) (fun _=>M.ret [])) ρ).bind eM) (fun _=>M.ret []))) ρ).bind af)) (fun _=>M.ret []))))) ρ).bind aI)))))))
theorem Aq (H:fJ h ws aV) (s0:1≤sc) (s1:sc≤33333) (p0:0 < ps.length) (p1:ps.length≤20) (pw: ∀ z∈ps,Wd z) (sw: ∀ z∈sl,∃ q,(z,PV.str "slope"::q)∈ws) (sz:sl.length≤12) (hg':E3 ws aV l ns) (hl:l.length < 65):
  Gen (Fq (m7 h sc k ps sl l ns [e8,e9,e10,e11,e12,e13,e14])) 60 (fun f=> ∃ (l':List PV) (ns':List Int) (e9 e10 e11 e12 e13 e14:Ent),f= .nx (m7 h sc k ps sl l' ns' [e8,e9,e10,e11,e12,e13,e14])∧l'.length=l.length+1∧E3 ws aV l' ns'):=by
 obtain⟨h0,_⟩:=iJ H
 have hg:=hg'.1
 have hq:=hg'.2
 have dk1:aV≤1000000:=by obtain⟨_,_,_,_,_,_,k1,_⟩:=H;exact k1
 have hp:=hg.1
 have hgs:=hg.2
 have hnl:ns.length=l.length:=hp.1
 unfold Fq
 refine Gen.le (jz (c:=1) (d:=59) (I:=fun ρ=> ∃ w:Int,0≤w∧w < 8∧ρ=m7 h sc k ps sl l ns [e8,val (.int w),e10,e11,e12,e13,e14]) ?_ ?_) (by decide)
 ·simp only[aU,aa,bT,cu,rZ,af]
  refine Gen.le (Gen.bind (Gen.draw (by lia) (by lia)) (d:=0) ?_) (by decide)
  rintro _ ⟨w,rfl,w0,w1⟩
  exact Gen.eq (y:=.nx _) rfl ⟨_,rfl,w,w0,w1,rfl⟩
 rintro _ ⟨w,w0,w1,rfl⟩
 refine Gen.le (jz (c:=3) (d:=56) (I:=fun ρ=> ∃ m:Int,0≤m∧m≤aV∧ρ=m7 h sc k ps sl l ns [e8,val (.int w),val (.int m),e11,e12,e13,e14]) ?_ ?_) (by decide)
 ·simp only[aU,ah,aa,bT,cu,rZ,af,M.bZ]
  refine Gen.le (Gen.bind (sQ H s0 s1) (d:=1) ?_) (by decide)
  rintro _ ⟨m,rfl,m0,m1⟩
  refine Gen.le (Gen.bind (Gen.draw (by lia) (by lia)) (d:=0) ?_) (by decide)
  rintro _ ⟨d,rfl,d0,d1⟩
  have eg:Ap (.int d) (.int 0)= .ret (.bl (decide (0 < d))):=rfl
  have ei:sL [.bl (decide (0 < d))]= .ret (.int (if decide (0 < d) then 1 else 0)):=rfl
  simp only[eg,rZ,ei]
  rw[o2 (by lia) (by lia)]
  refine Gen.eq (y:=.nx _) rfl ⟨_,rfl,m * (if decide (0 < d) then 1 else 0),?_,?_,rfl⟩
  ·by_cases c:decide (0 < d)=true
   ·rw[Ig c];lia
   ·rw[Ih c];lia
  ·by_cases c:decide (0 < d)=true
   ·rw[Ig c];lia
   ·rw[Ih c];lia
 rintro _ ⟨m,m0,m1,rfl⟩
 refine Gen.le (jz (c:=2) (d:=54) (I:=fun ρ=> ∃ n:Int,n∉ns∧0≤n∧n < 1000000∧ρ=m7 h sc k ps sl l (ns++[n]) [e8,val (.int w),val (.int m),e11,e12,e13,e14]) ?_ ?_) (by decide)
 ·simp only[f9,Hx,Hy,aa,bT,cu,vk,DC,rZ,M.bZ]
  refine Gen.le (Gen.bind (sP (ns:=ns) (by lia)) (d:=0) ?_) (by decide)
  rintro _ ⟨n,rfl,nn,n0,n1⟩
  have hf:mO (.int n)= .ret (.int n):=rfl
  have hz:(ns.map PV.int).length < 100000:=by rw[Hg];lia
  exact Gen.eq (y:=.nx _) (by simp only[hf,rZ,Ig hz];rfl) ⟨_,rfl,n,nn,n0,n1,by simp[m7]⟩
 rintro _ ⟨n,nn,n0,n1,rfl⟩
 have ee:aK (.lst ((ns++[n]).map PV.int)) (.int (-1))= .ret (.int n):=by
  rw[Im]
  simp only[aK,Hq,List.map_nil,Df,M.eV]
 have en:mD (.int 1)= .ret (.int (-1)):=rfl
 have lt: ∀ q:Int,bO (ah o5 (fun ρ=>ag ρ 9) (fun _=>M.ret (.int q))) (m7 h sc k ps sl l (ns++[n]) [e8,val (.int w),val (.int m),e11,e12,e13,e14])= .ret (decide (w < q)):=by intro q;simp[bO,ah,ag,o5,u4]
 have hlz:l.length < 100000:=by lia
 by_cases c3:w < 3
 ·rw[jx (by rw[lt,Il c3])]
  refine Gen.le (jz (c:=1) (d:=53) (I:=fun ρ=> ∃ x:Str,x∈ws.map (·.1)∧ρ=m7 h sc k ps sl l (ns++[n]) [e8,val (.int w),val (.int m),val (.str x),e12,e13,e14]) ?_ ?_) (by decide)
  ·have wa:=y8 H
   simp only[aU,ah,aa,bT,cu,rZ,h0,eM,af,Hg,M.bZ]
   have wa':Gen (((jG [.bV,.int ws.length]).bind fun i=>(aK (.tup (ws.map fun p=>.tup (.str p.1::p.2))) i).bind fun y=>aK y (.int 0)).bind fun y=>M.ret (Fl.nx ((m7 h sc k ps sl l (ns++[n]) [e8,val (.int w),val (.int m),e11,e12,e13,e14]).set 11 (val y)))) 1 (fun f=> ∃ ρ',f= .nx ρ'∧∃ z:Str,z∈ws.map (·.1)∧ρ'=m7 h sc k ps sl l (ns++[n]) [e8,val (.int w),val (.int m),val (.str z),e12,e13,e14]):=by
    refine Gen.le (Gen.bind wa (d:=0) ?_) (by decide)
    rintro _ ⟨z,rfl,hz⟩
    exact Gen.eq (y:=.nx _) rfl ⟨_,rfl,z,hz,rfl⟩
   simp only[M.bZ] at wa'
   exact wa'
  rintro _ ⟨x,hx,rfl⟩
  have e8': ∀ a b c d e f g i:PV,aQ [a,b,c,d,e,f,g,i]= .ret [a,b,c,d,e,f,g,i]:=by intros;simp[aQ]
  refine Gen.le (jz (c:=1) (d:=52) (I:=fun ρ=> ∃ q:Int,0≤q∧q≤6∧ρ=m7 h sc k ps sl l (ns++[n]) [e8,val (.int w),val (.int m),val (.str x),val (.int q),e13,e14]) ?_ ?_) (by decide)
  ·simp only[aU,ah,aM,aa,bT,cu,rZ,e8',af,M.bZ]
   refine Gen.le (Gen.bind (Gen.draw (by lia) (by lia)) (d:=0) ?_) (by decide)
   rintro _ ⟨d,rfl,d0,d1⟩
   obtain⟨y,hy,e⟩:=d9 (l:=[PV.int 0,PV.int 1,PV.int 1,PV.int 1,PV.int 2,PV.int 2,PV.int 3,PV.int 6]) d0 d1
   obtain⟨q,rfl,q0,q1⟩: ∃ q:Int,y= .int q∧0≤q∧q≤6:=by
    simp only[Hr,Hs,or_false] at hy
    rcases hy with rfl|rfl|rfl|rfl|rfl|rfl|rfl|rfl<;>exact⟨_,rfl,by decide,by decide⟩
   exact Gen.eq (y:=.nx _) (by simp only[aK,e,M.eV,rZ];rfl) ⟨_,rfl,q,q0,q1,rfl⟩
  rintro _ ⟨q,q0,q1,rfl⟩
  refine Gen.le (jz (c:=42) (d:=0) (I:=fun ρ=> ∃ rs:List PV,rs.length≤6∧(∀ z∈rs,DE z)∧ρ=m7 h sc k ps sl l (ns++[n]) [e8,val (.int w),val (.int m),val (.str x),val (.int q),val (.lst rs),e14]) ?_ ?_) (by decide)
  ·have hlen:(cT 0 q.toNat).length=q.toNat:=by simp[cT]
   have er:dO [.int q]= .ret (cT 0 q.toNat):=by simp only[dO,Ig (by lia: -1000000≤q∧q≤100000)]
   have ec:gN [none,some 0,some 1,some 4,some 2] (m7 h sc k ps sl l (ns++[n]) [e8,val (.int w),val (.int m),val (.str x),val (.int q),e13,e14])=[un,val .bV,val h,val (.lst (ps.map PV.str)),val (.int sc)]:=rfl
   unfold aU aM bW
   simp only[aa,bT,cu,rZ,er,ec,Ig (by lia:(cT 0 q.toNat).length≤100000),M.bZ]
   refine Gen.le (Gen.bind (Gen.lc (ρ:=[un,val .bV,val h,val (.lst (ps.map PV.str)),val (.int sc)]) (c:=7) (Pr:=DE) _ _ (fun _=>rfl) (fun y hy=>?_)) (d:=0) ?_) (by rw[hlen];lia)
   ·simp only[Ho,bT,cu,rZ]
    exact xX H s0 s1 p0 p1 pw
   ·rintro rs ⟨z1,z2⟩
    exact Gen.eq (y:=.nx _) rfl ⟨_,rfl,rs,by rw[z1,hlen];lia,z2,rfl⟩
  rintro _ ⟨rs,r0,r1,rfl⟩
  obtain⟨us,hus⟩:=G1 r1
  have hrs:p4 2500 2 (.tup rs):=(lC (c:=400) (dp:=1) (n:=6) (fun z hz=>(r1 z hz).1) r0).mono (by lia) (by lia)
  refine Gen.eq (y:=.nx (m7 h sc k ps sl (l++[.tup [.str "rule",.int n,.int m,.str x,.tup rs]]) (ns++[n]) [e8,val (.int w),val (.int m),val (.str x),val (.int q),val (.lst rs),e14])) ?_ ⟨_,_,_,_,_,_,_,_,rfl,by simp,⟨⟨hp.snoc nn n0 n1 ⟨"rule",x,m,[.tup rs],rfl,.inr ⟨.inr rfl,_,rfl,hrs,rfl⟩,m0,Int.le_trans m1 dk1⟩,xV hgs (.inl ⟨n,m,x,us,by rw[←hus],by rw[hus,Hg] at r0;exact r0,hx⟩)⟩,Co hq m0 m1 (by rfl)⟩⟩
  simp only[f9,Hx,Hy,aa,ah,bT,cu,vk,DC,rZ,en,ee,lb,Cp,Ig hlz]
  rfl
 rw[gL (by rw[lt,HH c3])]
 have e6:bO (ah (eE false) (fun ρ=>ag ρ 5) (aM (fun ρ=>((fun _=>M.ret []) ρ).bind aQ))) (m7 h sc k ps sl l (ns++[n]) [e8,val (.int w),val (.int m),e11,e12,e13,e14])= .ret sl.isEmpty:=by
  simp only[bO,ah,aM,bT,cu,rZ,Cr]
  cases sl<;>rfl
 have eor:Dw (bO (ah o5 (fun ρ=>ag ρ 9) (fun _=>M.ret (.int 6)))) (bO (ah (eE false) (fun ρ=>ag ρ 5) (aM (fun ρ=>((fun _=>M.ret []) ρ).bind aQ)))) (m7 h sc k ps sl l (ns++[n]) [e8,val (.int w),val (.int m),e11,e12,e13,e14])= .ret (decide (w < 6)||sl.isEmpty):=by
  unfold Dw
  rw[lt,e6]
  cases decide (w < 6)<;>rfl
 cases c6:(decide (w < 6)||sl.isEmpty) with
 |true=>
  rw[jx (by rw[eor,c6])]
  refine Gen.le (jz (c:=2) (d:=1) (I:=fun ρ=> ∃ v:Int,v.natAbs < 10 ^ 61∧ρ=m7 h sc k ps sl l (ns++[n]) [e8,val (.int w),val (.int m),e11,e12,e13,val (.int v)]) ?_ ?_) (by decide)
  ·have ep:wO (.int 10) (.int 50)= .ret (.int (10 ^ 50)):=by
    unfold wO su
    dsimp only
    rw[Ig (by decide +kernel)]
    rfl
   simp only[aU,ah,aM,aa,bT,cu,rZ,ep,Aa,af,M.bZ]
   refine Gen.le (Gen.bind (Gen.draw (by lia) (by lia)) (d:=1) ?_) (by decide)
   rintro _ ⟨d,rfl,d0,d1⟩
   have es:uM (.int d) (.int 3)= .ret (.int (d - 3)):=rfl
   simp only[es,rZ]
   refine Gen.le (Gen.bind (Gen.draw (by lia) (by lia)) (d:=0) ?_) (by decide)
   rintro _ ⟨g,rfl,g0,g1⟩
   obtain⟨y,hy,e⟩:=d9 (l:=[PV.int 1,PV.int 1,PV.int 1,PV.int (10 ^ 50)]) g0 g1
   obtain⟨u,rfl,hu⟩: ∃ u:Int,y= .int u∧(u=1∨u=10 ^ 50):=by
    simp only[Hr,Hs,or_false] at hy
    rcases hy with rfl|rfl|rfl|rfl
    ·exact⟨_,rfl,.inl rfl⟩
    ·exact⟨_,rfl,.inl rfl⟩
    ·exact⟨_,rfl,.inl rfl⟩
    ·exact⟨_,rfl,.inr rfl⟩
   simp only[aK,e,M.eV,rZ]
   rw[o2 (by lia) (by lia)]
   refine Gen.eq (y:=.nx _) rfl ⟨_,rfl,(d - 3) * u,?_,rfl⟩
   rcases hu with rfl|rfl
   ·lia
   ·lia
  rintro _ ⟨v,hv,rfl⟩
  simp only[f9,Hx,Hy,aa,ah,bT,cu,vk,DC,rZ,en,ee,eM,af,Hg,M.bZ]
  rw[←M.bZ]
  refine Gen.le (Gen.bind (pf (l:=ps.map PV.str) (by rw[Hg]) (by rw[Hg];lia) (by rw[Hg];lia)) (d:=0) ?_) (by decide)
  intro y hy
  obtain⟨x,hx,rfl⟩:=Hu.mp hy
  refine Gen.eq (y:=.nx (m7 h sc k ps sl (l++[.tup [.str "read",.int n,.int m,.str x,.int v]]) (ns++[n]) [e8,val (.int w),val (.int m),e11,e12,e13,val (.int v)])) ?_ ⟨_,_,_,_,_,_,_,_,rfl,by simp,⟨⟨hp.snoc nn n0 n1 ⟨"read",x,m,[.int v],rfl,.inr ⟨.inl rfl,_,rfl,big (c:=0) (si hv),rfl⟩,m0,Int.le_trans m1 dk1⟩,xV hgs (.inr (.inl ⟨n,m,x,v,rfl⟩))⟩,Co hq m0 m1 (by rfl)⟩⟩
  simp only[rZ,Cp,Ig hlz]
  rfl
 |false=>
  rw[gL (by rw[eor,c6])]
  have hse:0 < sl.length:=by
   rw[Bool.or_eq_false_iff] at c6
   cases sl with
   |nil=>exact absurd c6.2 (by decide)
   |cons a b=>simp
  simp only[f9,Hx,Hy,aa,ah,bT,cu,vk,DC,rZ,en,ee,eM,af,Hg,M.bZ]
  rw[←M.bZ]
  refine Gen.le (Gen.bind (pf (l:=sl.map PV.str) (by rw[Hg]) (by rw[Hg];lia) (by rw[Hg];lia)) (d:=0) ?_) (by decide)
  intro y hy
  obtain⟨x,hx,rfl⟩:=Hu.mp hy
  refine Gen.eq (y:=.nx (m7 h sc k ps sl (l++[.tup [.str "look",.int n,.int m,.str x]]) (ns++[n]) [e8,val (.int w),val (.int m),e11,e12,e13,e14])) ?_ ⟨_,_,_,_,_,_,_,_,rfl,by simp,⟨⟨hp.snoc nn n0 n1 ⟨"look",x,m,[],rfl,.inl ⟨rfl,rfl⟩,m0,Int.le_trans m1 dk1⟩,xV hgs (.inr (.inr ((sw x hx).elim fun q hq=>⟨n,m,x,q,rfl,hq⟩)))⟩,Co hq m0 m1 (by rfl)⟩⟩
  simp only[rZ,Es,Ig hlz]
  rfl
theorem vi (H:fJ h ws aV) (s0:1≤sc) (s1:sc≤33333) (k0:0≤k) (k1:k≤60):Gen (cV [.bV,h,.int sc,.int k]) (29+k.toNat * 60) (fun y=> ∃ l ns,y= .lst l∧l.length=k.toNat∧E3 ws aV l ns):=by
 obtain⟨h0,_⟩:=iJ H
 obtain⟨p,ws',rfl⟩: ∃ p ws',ws=p::ws':=by
  obtain⟨_,_,w0,_⟩:=H
  match ws,w0 with
  |p::ws',_=>exact⟨p,ws',rfl⟩
 have hw0:Wd p.1:=by
  obtain⟨_,_,_,_,hw,_⟩:=H
  exact(hw p Hf).1
 unfold cV eA
 show Gen ((aJ _ _ [val .bV,val h,val (.int sc),val (.int k),un,un,un,un,un,un,un,un,un,un,un]).bind ff) _ _
 refine Gen.le (dc (c:=29) (d:=k.toNat * 60) (I:=fun ρ=> ∃ ps:List Str,0 < ps.length∧ps.length≤20∧(∀ z∈ps,Wd z)∧ρ=[val .bV,val h,val (.int sc),val (.int k),val (.lst (ps.map PV.str)),un,un,un,un,un,un,un,un,un,un]) ?_ ?_) (by lia)
 ·have i0:aK (.tup ((p::ws').map fun p=>PV.tup (.str p.1::p.2))) (.int 0)= .ret (.tup (.str p.1::p.2)):=by simp only[aK,Hq,vF,M.eV]
  have i1:aK (.tup (.str p.1::p.2)) (.int 0)= .ret (.str p.1):=by simp only[aK,vF,M.eV]
  simp only[aU,aM,gs,ah,aa,bT,cu,rZ,h0,i0,i1,u7,af,M.bZ]
  refine Gen.le (Gen.bind (Gen.draw (by lia) (by lia)) (d:=28) ?_) (by decide)
  rintro _ ⟨d,rfl,d0,d1⟩
  have ea:df (.int 1) (.int d)= .ret (.int (1+d)):=rfl
  simp only[ea,rZ]
  refine Gen.le (Gen.bind (km (k:=1+d) (by lia) (by lia)) (d:=1) ?_) (by lia)
  rintro _ ⟨zs,rfl,hl,hz,_⟩
  refine Gen.le (Gen.bind (Gen.draw (by lia) (by lia)) (d:=0) ?_) (by decide)
  rintro _ ⟨g,rfl,g0,g1⟩
  obtain⟨ps',hps',em⟩: ∃ ps':List Str,(ps'=[]∨ps'=[p.1])∧g8 (.lst [.str p.1]) (.int g)= .ret (.lst (ps'.map PV.str)):=by
   obtain rfl|rfl:g=0∨g=1:=by lia
   ·exact⟨[],.inl rfl,rfl⟩
   ·exact⟨[p.1],.inr rfl,rfl⟩
  have hlen:(zs.map PV.str).length+(ps'.map PV.str).length≤100000:=by
   rcases hps' with rfl|rfl<;>simp<;>lia
  refine Gen.eq (y:=.nx _) (by simp only[em,rZ,Ig hlen];rfl) ⟨_,rfl,zs++ps',?_,?_,fun z hz'=>?_,by rw[Im];rfl⟩
  ·rw[HI];lia
  ·rcases hps' with rfl|rfl<;>simp<;>lia
  ·rcases Ie.mp hz' with hz'|hz'
   ·exact hz z hz'
   ·rcases hps' with rfl|rfl
    ·exact absurd hz' Hs
    ·rw[HK.mp hz'];exact hw0
 rintro _ ⟨ps,p0,p1,pw,rfl⟩
 obtain⟨sl,sw,sz,esl⟩:=uP H
 refine Gen.le (dc (c:=0) (d:=k.toNat * 60) (I:=fun ρ=>ρ=[val .bV,val h,val (.int sc),val (.int k),val (.lst (ps.map PV.str)),val (.lst (sl.map PV.str)),un,un,un,un,un,un,un,un,un]) ?_ ?_) (by lia)
 ·refine vE (I:=fun ρ=>ρ=_) ?_ rfl
  have hwl:((p::ws').map fun p=>PV.tup (.str p.1::p.2)).length≤100000:=by
   obtain⟨_,_,_,w1,_⟩:=H
   rw[Hg];lia
  have ec:gN [none] [val .bV,val h,val (.int sc),val (.int k),val (.lst (ps.map PV.str)),un,un,un,un,un,un,un,un,un,un]=[un]:=rfl
  unfold aU aM bW
  dsimp only
  rw[show ((ah aK (fun ρ=>ag ρ 1) (fun _=>M.ret (.int 0))) [val .bV,val h,val (.int sc),val (.int k),val (.lst (ps.map PV.str)),un,un,un,un,un,un,un,un,un,un])= .ret (.tup ((p::ws').map fun p=>.tup (.str p.1::p.2))) by simp only[ah,bT,cu,rZ,h0]]
  simp only[rZ,bf,Ig hwl,ec]
  rw[esl]
  rfl
 rintro _ rfl
 refine Gen.le (dc (c:=0) (d:=k.toNat * 60) (I:=fun ρ=>ρ=[val .bV,val h,val (.int sc),val (.int k),val (.lst (ps.map PV.str)),val (.lst (sl.map PV.str)),Ent.own [],un,un,un,un,un,un,un,un]) (vE (by simp[lg,aQ]) rfl) ?_) (by lia)
 rintro _ rfl
 refine Gen.le (dc (c:=0) (d:=k.toNat * 60) (I:=fun ρ=>ρ=m7 h sc k ps sl [] [] [un,un,un,un,un,un,un]) (vE (by simp[lg,aQ]) rfl) ?_) (by lia)
 rintro _ rfl
 have hint:(cT 0 k.toNat).length=k.toNat:=by simp[cT]
 have er:dO [.int k]= .ret (cT 0 k.toNat):=by simp only[dO,Ig (by lia: -1000000≤k∧k≤100000)]
 refine Gen.le (dc (c:=k.toNat * 60) (d:=0) (I:=fun ρ=> ∃ (l:List PV) (ns:List Int) (r:List Ent),l.length=k.toNat∧E3 (p::ws') aV l ns∧ρ=m7 h sc k ps sl l ns r) ?_ ?_) (by lia)
 ·show Gen (el (fun ρ=>((aa (fun ρ=>ag ρ 3) (fun _=>M.ret [])) ρ).bind dO) (aP 8) Fq _) _ _
  unfold el
  simp only[aa,bT,cu,rZ,er]
  refine Gen.mono (yc (k:=8) (c:=60) (Iv:=fun i ρ=> ∃ (l:List PV) (ns:List Int) (e8 e9 e10 e11 e12 e13 e14:Ent),l.length=i∧E3 (p::ws') aV l ns∧ρ=m7 h sc k ps sl l ns [e8,e9,e10,e11,e12,e13,e14]) (cT 0 k.toNat) 0 _ ⟨[],[],_,_,_,_,_,_,_,rfl,⟨⟨⟨rfl,List.nodup_nil,fun z hz=>absurd hz Hs,fun i n z e=>by simp at e⟩,fun z hz=>absurd hz Hs⟩,fun z hz=>absurd hz Hs⟩,rfl⟩ ?_) (by rw[hint];exact Hn _) ?_
  rotate_left
  ·rintro f ⟨ρ',rfl,l,ns,e8,e9,e10,e11,e12,e13,e14,hl,hp,rfl⟩
   rw[hint,Nat.zero_add] at hl
   exact⟨_,rfl,l,ns,_,hl,hp,rfl⟩
  ·rintro y hy j hj _ ⟨l,ns,e8,e9,e10,e11,e12,e13,e14,hl,hp,rfl⟩
   rw[hint] at hj
   show Gen (Fq (m7 h sc k ps sl l ns [val y,e9,e10,e11,e12,e13,e14])) 60 _
   refine Gen.mono (Aq H s0 s1 p0 p1 pw sw sz hp (by lia)) (Hn _) ?_
   rintro f ⟨l',ns',e9,e10,e11,e12,e13,e14,rfl,hl',hp'⟩
   exact⟨_,rfl,l',ns',_,_,_,_,_,_,_,by lia,hp',rfl⟩
 ·rintro _ ⟨l,ns,r,hl,hp,rfl⟩
  exact Gen.eq (fI (dS rfl)) ⟨l,ns,rfl,hl,hp⟩
inductive Pa where
  | rule (n m : Int) (z : Str) (rs : List Ru)
  | read (n m : Int) (z : Str) (i : Int)
  | look (n m : Int) (z : Str)
noncomputable def Pa.pv : Pa → PV
  | .rule n m z rs => .tup [.str "rule", .int n, .int m, .str z, .tup (rs.map Ru.pv)]
  | .read n m z i => .tup [.str "read", .int n, .int m, .str z, .int i]
  | .look n m z => .tup [.str "look", .int n, .int m, .str z]
noncomputable def Pa.wd : Pa → Str
  | .rule .. => "rule"
  | .read .. => "read"
  | .look .. => "look"
noncomputable def Pa.nu : Pa → Int
  | .rule n _ _ _ => n
  | .read n _ _ _ => n
  | .look n _ _ => n
noncomputable def Pa.mo : Pa → Int
  | .rule _ m _ _ => m
  | .read _ m _ _ => m
  | .look _ m _ => m
noncomputable def Pa.nm : Pa → Str
  | .rule _ _ z _ => z
  | .read _ _ z _ => z
  | .look _ _ z => z
noncomputable def Pa.rl : Pa → List Ru
  | .rule _ _ _ rs => rs
  | _ => []
theorem Dv (p : Pa) : aK p.pv (.int 0) = .ret (.str p.wd) := by cases p <;> rfl
theorem FY (p : Pa) : aK p.pv (.int 1) = .ret (.int p.nu) := by cases p <;> rfl
theorem Du (p : Pa) : aK p.pv (.int 2) = .ret (.int p.mo) := by cases p <;> rfl
theorem Dt (p : Pa) : aK p.pv (.int 3) = .ret (.str p.nm) := by cases p <;> rfl
theorem GJ {n m : Int} {z : Str} {rs : List Ru} : aK (Pa.rule n m z rs).pv (.int 4) = .ret (.tup (rs.map Ru.pv)) := rfl
noncomputable def hG (N : List Str) : Pa → Prop
  | .rule _ _ z rs => rs.length ≤ 6 ∧ z ∈ N
  | .read .. => True
  | .look _ _ z => z ∈ N
noncomputable def tR (p : Pa) : Int := p.mo * 1000000 + p.nu
theorem qi (p : Pa) : jQ p.pv = tR p := by cases p <;> rfl
structure Bk (N : List Str) (ps : List Pa) : Prop where
  ok : ∀ p ∈ ps, hG N p
  nu : ∀ p ∈ ps, 0 ≤ p.nu ∧ p.nu < 1000000
  mo : ∀ p ∈ ps, 0 ≤ p.mo ∧ p.mo ≤ 1000000
  nd : (ps.map tR).Nodup
theorem Bk.sub {N : List Str} {ps qs : List Pa} (h : Bk N ps) (s : qs.Sublist ps) : Bk N qs :=
  ⟨fun p hp => h.ok p (s.mem hp), fun p hp => h.nu p (s.mem hp), fun p hp => h.mo p (s.mem hp), (s.map tR).nodup h.nd⟩
theorem Bk.perm {N : List Str} {ps qs : List Pa} (h : Bk N ps) (s : qs.Perm ps) : Bk N qs :=
  ⟨fun p hp => h.ok p (s.mem_iff.mp hp), fun p hp => h.nu p (s.mem_iff.mp hp), fun p hp => h.mo p (s.mem_iff.mp hp), ((s.map tR).nodup_iff).mpr h.nd⟩
theorem GI {ws : List (Str × List PV)} : ∀ (l : List PV), (∀ y ∈ l, rB ws y) → ∃ ps : List Pa, l = ps.map Pa.pv ∧ ∀ p ∈ ps, hG (ws.map (·.1)) p
  | [], _ => ⟨[], rfl, fun p hp => by cases hp⟩
  | y :: l, h => by
    obtain ⟨ps, rfl, g⟩ := GI l fun z hz => h z (Hj _ hz)
    obtain ⟨p, rfl, gp⟩ : ∃ p : Pa, y = p.pv ∧ hG (ws.map (·.1)) p := by
      rcases h y Hf with ⟨n, m, z, rs, rfl, a, b⟩ | ⟨n, m, z, i, rfl⟩ | ⟨n, m, z, q, rfl, a⟩
      · exact ⟨.rule n m z rs, rfl, a, b⟩
      · exact ⟨.read n m z i, rfl, trivial⟩
      · exact ⟨.look n m z, rfl, HM (f := (·.1)) a⟩
    exact ⟨p :: ps, rfl, fun q hq => by
      rcases Hr.mp hq with rfl | hq
      · exact gp
      · exact g q hq⟩
theorem G8 {ws : List (Str × List PV)} {l : List PV} {ns : List Int} (h : GR ws l ns) : ∃ ps : List Pa, l = ps.map Pa.pv ∧ Bk (ws.map (·.1)) ps := by
  obtain ⟨ps, rfl, g⟩ := GI l h.2
  have k : ∀ p ∈ ps, (0 ≤ p.nu ∧ p.nu < 1000000) ∧ 0 ≤ p.mo ∧ p.mo ≤ 1000000 := fun p hp => by
    obtain ⟨n, ⟨w, z, m, r, e, _, m0, m1⟩, n0, n1⟩ := h.1.at (HM hp)
    cases p <;> (unfold Pa.pv at e; injection e with e; injection e with _ e; injection e with e1 e; injection e with e2 e; injection e1 with e1; injection e2 with e2; subst e1; subst e2; exact ⟨⟨n0, n1⟩, m0, m1⟩)
  refine ⟨ps, rfl, g, fun p hp => (k p hp).1, fun p hp => (k p hp).2, ?_⟩
  have := h.1.nd
  rw [Ip] at this
  rw [show ps.map tR = ps.map (jQ ∘ Pa.pv) from IG fun p _ => (qi p).symm]
  exact this
theorem wX {α β : Type} {f : α → β} {m l' : List β} (h : m.Perm l') : ∀ l : List α, l' = l.map f → ∃ q : List α, m = q.map f ∧ q.Perm l := by
  induction h with
  | nil => intro l e; cases l with
    | nil => exact ⟨[], rfl, .refl _⟩
    | cons a l => cases e
  | cons x _ ih => intro l e; cases l with
    | nil => cases e
    | cons a l =>
      rw [Hq] at e
      injection e with e1 e2
      obtain ⟨q, rfl, p⟩ := ih l e2
      exact ⟨a :: q, by rw [Hq, e1], p.cons a⟩
  | swap x y l0 => intro l e; match l, e with
    | [], e => cases e
    | [a], e => cases e
    | a :: b :: l, e =>
      rw [Hq, Hq] at e
      injection e with e1 e2
      injection e2 with e2 e3
      exact ⟨b :: a :: l, by rw [Hq, Hq, e1, e2, e3], .swap _ _ _⟩
  | trans _ _ ih1 ih2 =>
    intro l e
    obtain ⟨q, e1, p1⟩ := ih2 l e
    obtain ⟨q2, e2, p2⟩ := ih1 q e1
    exact ⟨q2, e2, p2.trans p1⟩
theorem CM {N : List Str} {ps : List Pa} (b : Bk N ps) : ∃ qs : List Pa, lr (ps.map Pa.pv) = qs.map Pa.pv ∧ qs.Perm ps ∧ qs.Pairwise fun p q => tR p < tR q := by
  obtain ⟨qs, e, p⟩ := wX (iI (ps.map Pa.pv)) ps rfl
  refine ⟨qs, e, p, ?_⟩
  have u := o7 (ps.map Pa.pv) (by rw [Ip, show ps.map (jQ ∘ Pa.pv) = ps.map tR from IG fun p _ => qi p]; exact b.nd)
  rw [e, List.pairwise_map] at u
  exact u.imp fun {a c} h => by rw [← qi, ← qi]; exact h
theorem CF (p : Pa) : iS p.pv = some (p.mo, p.nu) := by cases p <;> rfl
theorem AF {N : List Str} {ps : List Pa} (b : Bk N ps) (hl : ps.length < 64) : dE [.lst (ps.map Pa.pv)] = .ret (.tup (lr (ps.map Pa.pv))) := by
  have cm : Dz (ps.map Pa.pv) = true := by
    unfold Dz
    simp only [HU, IA, List.all_eq_true]
    refine ⟨⟨by rw [Hg]; exact hl, fun z hz => ?_⟩, by rw [Ip, show ps.map (jQ ∘ Pa.pv) = ps.map tR from IG fun p _ => qi p]; exact b.nd⟩
    obtain ⟨p, hp, rfl⟩ := Hu.mp hz
    unfold En
    rw [CF]
    have := b.nu p hp
    simp [this.1, this.2]
  have es : nH (.lst (ps.map Pa.pv)) = .ret (lr (ps.map Pa.pv)) := by
    unfold nH
    show (if Dz (ps.map Pa.pv) then M.ret (lr (ps.map Pa.pv)) else .fail) = _
    rw [Ig cm]
  unfold dE fe
  show (cD _ [val (.lst (ps.map Pa.pv))]).bind ff = _
  refine fI (dS ?_)
  simp only [List.map, Ent.freeze, aM, aa, bT, cu, rZ, es, lb]
theorem nv {bd : PV → ao → M ao} {tt : ao → M Bool} {te : ao → M PV} {β : Type} {f : β → PV} {I : ao → Prop} {c : β → Bool} {g : β → PV} : ∀ (l : List β) (ρ : ao), I ρ → (∀ q ∈ l, ∀ ρ, I ρ → ∃ ρ1, bd (f q) ρ = .ret ρ1 ∧ tt ρ1 = .ret (c q) ∧ (c q = true → te ρ1 = .ret (g q)) ∧ I ρ1) → jS bd tt te (l.map f) ρ = .ret ((l.filter c).map g)
  | [], ρ, _, _ => rfl
  | q :: l, ρ, h, k => by
    obtain ⟨ρ1, e1, e2, e3, h1⟩ := k q Hf ρ h
    have ih := nv l ρ1 h1 fun q' hq => k q' (Hj _ hq)
    rw [Hq]
    unfold jS
    rw [e1, rZ, e2, rZ]
    cases c1 : c q with
    | true => rw [Ig rfl, e3 c1, rZ, ih, rZ, List.filter_cons_of_pos c1, Hq]
    | false => rw [Ih (by decide), ih, List.filter_cons_of_neg (by rw [c1]; decide)]
noncomputable def B2 (p : Pa) : List (Str × Ru) := p.rl.map fun r => (p.nm, r)
noncomputable def gZ (ps : List Pa) : List (Str × Ru) := ps.flatMap B2
noncomputable def jR (q : Str × Ru) : PV := .tup [.str q.1, q.2.pv]
theorem tK (p : Pa) : (p.wd == ("rule" : Str)) = true → ∃ n m z rs, p = .rule n m z rs := by
  cases p with
  | rule n m z rs => exact fun _ => ⟨n, m, z, rs, rfl⟩
  | read n m z i => intro h; exact absurd (show (("read" : Str) == "rule") = true from h) (by decide +kernel)
  | look n m z => intro h; exact absurd (show (("look" : Str) == "rule") = true from h) (by decide +kernel)
theorem AN (p : Pa) : (p.wd == ("rule" : Str)) = false → p.rl = [] := by
  cases p with
  | rule n m z rs => intro h; exact absurd (show (("rule" : Str) == "rule") = false from h) (by decide +kernel)
  | read n m z i => exact fun _ => rfl
  | look n m z => exact fun _ => rfl
theorem GF {n m : Int} {z : Str} {rs0 : List Ru} : ∀ (rs : List Ru) (e1 : Ent), ∃ e1', Cy (aP 1) cU (fun ρ => ((aa (ah aK (fun ρ => ag ρ 0) (fun _ => M.ret (.int 3))) (aa (fun ρ => ag ρ 1) (fun _ => M.ret []))) ρ).bind aI) (rs.map Ru.pv) [val (Pa.rule n m z rs0).pv, e1] = .ret (rs.map fun r => jR (z, r), [val (Pa.rule n m z rs0).pv, e1'])
  | [], e1 => ⟨e1, rfl⟩
  | r :: rs, e1 => by
    obtain ⟨e', ih⟩ := GF rs (val r.pv)
    refine ⟨e', ?_⟩
    rw [Hq]
    unfold Cy
    have eb : aP 1 r.pv [val (Pa.rule n m z rs0).pv, e1] = .ret [val (Pa.rule n m z rs0).pv, val r.pv] := rfl
    rw [eb, rZ]
    have et : cU [val (Pa.rule n m z rs0).pv, val r.pv] = .ret true := rfl
    rw [et, rZ, Ig rfl, ih]
    simp only [aa, ah, bT, cu, rZ, Dt, mE]
    rfl
theorem GG {N : List Str} : ∀ (ps : List Pa) (e0 e1 : Ent), (∀ p ∈ ps, hG N p) → mI (aP 0) (bO (ah (eE false) (ah aK (fun ρ => ag ρ 0) (fun _ => M.ret (.int 0))) (fun _ => M.ret (.str "rule")))) (fun ρ => ((ah aK (fun ρ => ag ρ 0) (fun _ => M.ret (.int 4))) ρ).bind bf) (aP 1) cU (fun ρ => ((aa (ah aK (fun ρ => ag ρ 0) (fun _ => M.ret (.int 3))) (aa (fun ρ => ag ρ 1) (fun _ => M.ret []))) ρ).bind aI) (ps.map Pa.pv) [e0, e1] = .ret ((gZ ps).map jR)
  | [], _, _, _ => rfl
  | p :: ps, e0, e1, h => by
    have ih := fun e0 e1 => GG ps e0 e1 fun q hq => h q (Hj _ hq)
    rw [Hq]
    unfold mI
    have eb : aP 0 p.pv [e0, e1] = .ret [val p.pv, e1] := rfl
    have et : bO (ah (eE false) (ah aK (fun ρ => ag ρ 0) (fun _ => M.ret (.int 0))) (fun _ => M.ret (.str "rule"))) [val p.pv, e1] = .ret (p.wd == "rule") := by
      simp only [bO, ah, bT, rZ, Dv, sU]
    rw [eb, rZ, et, rZ]
    have ep : gZ (p :: ps) = B2 p ++ gZ ps := rfl
    cases c : p.wd == ("rule" : Str) with
    | true =>
      obtain ⟨n, m, z, rs, rfl⟩ := tK p c
      have hr : rs.length ≤ 6 := (h _ Hf).1
      obtain ⟨e', er⟩ := GF (n := n) (m := m) (z := z) (rs0 := rs) rs e1
      have hi : bf (.tup (rs.map Ru.pv)) = .ret (rs.map Ru.pv) := rfl
      have em : ((ah aK (fun ρ => ag ρ 0) (fun _ => M.ret (.int 4))) [val (Pa.rule n m z rs).pv, e1]).bind bf = .ret (rs.map Ru.pv) := by
        simp only [ah, bT, rZ, GJ, hi]
      rw [Ig rfl, em, rZ, Ig (by rw [Hg]; omega), er, rZ]
      rw [ih, rZ, ep]
      show M.ret (_ ++ _) = M.ret (List.map jR (List.map _ rs ++ gZ ps))
      rw [Im, Ip]
      rfl
    | false =>
      rw [Ih (by decide), ih, ep]
      unfold B2
      rw [AN p c]
      rfl
theorem wo {N : List Str} {ps : List Pa} (h : ∀ p ∈ ps, hG N p) (hl : ps.length ≤ 1000) : fU [.tup (ps.map Pa.pv)] = .ret (.lst ((gZ ps).map jR)) := by
  unfold fU iF
  show (cD _ [val (.tup (ps.map Pa.pv))]).bind ff = _
  refine fI (dS ?_)
  have hi : bf (.tup (ps.map Pa.pv)) = .ret (ps.map Pa.pv) := rfl
  simp only [Hq, List.map_nil, Ent.freeze, aM, qB, bT, rZ, hi]
  rw [Ig (by rw [Hg]; omega)]
  show M.bind (mI _ _ _ _ _ _ (ps.map Pa.pv) [un, un]) _ = _
  rw [GG ps _ _ h]
  rfl
theorem tX {N : List Str} : ∀ {ps : List Pa}, (∀ p ∈ ps, hG N p) → (gZ ps).length ≤ 6 * ps.length
  | [], _ => Hn _
  | p :: ps, h => by
    have ih := tX fun q hq => h q (Hj _ hq)
    have : (B2 p).length ≤ 6 := by
      unfold B2
      rw [Hg]
      cases p with
      | rule n m z rs => exact (h _ Hf).1
      | read n m z i => exact HJ _
      | look n m z => exact HJ _
    show (B2 p ++ gZ ps).length ≤ _
    rw [HI, Hv]
    omega
noncomputable def Ru.of (z : Str) : Ru → Bool
  | .post _ p _ => p == z
  | _ => false
noncomputable def Ru.lk : Ru → Bool
  | .looked _ => true
  | _ => false
noncomputable def Ru.asks : Ru → Option Str
  | .vz o => some o
  | _ => none
noncomputable def gX (pr : List (Str × Ru)) : Pa → List Str
  | .rule _ _ z _ => [z]
  | .read _ _ z _ => (pr.filter fun q => q.2.of z).map (·.1)
  | .look _ _ z => (pr.filter fun q => q.2.lk && q.1 == z).map (·.1)
theorem Gv {a b : PV} {e0 e1 x : Ent} : fj [0, 1] (.tup [a, b]) [e0, e1, x] = .ret [val a, val b, x] := rfl
theorem zl {pr : List (Str × Ru)} (hl : pr.length ≤ 1000) (p : Pa) : bK [.lst (pr.map jR), p.pv] = .ret (.lst ((gX pr p).map PV.str)) := by
  unfold bK cB
  show (aJ _ _ [val (.lst (pr.map jR)), val p.pv, un, un]).bind ff = _
  refine cx (ρ' := [val (.lst (pr.map jR)), val p.pv, val (.str p.wd), val (.str p.nm)]) ?_ ?_
  · simp only [y9, aa, ah, bT, cu, rZ, Dv, Dt, mE]
    rfl
  have tst : ∀ s : Str, bO (ah (eE false) (fun ρ => ag ρ 2) (fun _ => M.ret (.str s))) [val (.lst (pr.map jR)), val p.pv, val (.str p.wd), val (.str p.nm)] = .ret (p.wd == s) := fun s => by
    simp only [bO, ah, bT, cu, rZ, sU]
  have hi : bf (.lst (pr.map jR)) = .ret (pr.map jR) := rfl
  have hn : (pr.map jR).length ≤ 100000 := by rw [Hg]; omega
  cases p with
  | rule n m z rs =>
    refine cx (ρ' := _) (by rw [gL (by exact (tst _).trans (congrArg M.ret (by decide +kernel : (("rule" : Str) == ("read" : Str)) = false)))]) ?_
    refine cx (ρ' := _) (by rw [gL (by exact (tst _).trans (congrArg M.ret (by decide +kernel : (("rule" : Str) == ("look" : Str)) = false)))]) ?_
    refine fI (dS ?_)
    simp only [Hq, List.map_nil, Ent.freeze, aM, aa, bT, cu, rZ, u7]
    rfl
  | read n m z i =>
    unfold aJ
    rw [jx (by exact (tst _).trans (congrArg M.ret (by decide +kernel : (("read" : Str) == ("read" : Str)) = true)))]
    rw [dS (y := .lst ((gX pr (.read n m z i)).map PV.str)) ?_]
    · rfl
    simp only [Hq, List.map_nil, Ent.freeze, aM, bW, bT, cu, rZ, hi, Ig hn]
    show M.bind (jS _ _ _ (pr.map jR) [un, un, val (.str z)]) _ = _
    rw [nv (I := fun ρ => ∃ e0 e1, ρ = [e0, e1, val (.str z)]) (c := fun q : Str × Ru => q.2.of z) (g := fun q => PV.str q.1) pr _ ⟨_, _, rfl⟩ (by
      rintro ⟨a, r⟩ hq _ ⟨e0, e1, rfl⟩
      refine ⟨_, Gv, ?_, fun _ => rfl, _, _, rfl⟩
      have e1 : aK r.pv (.int 0) = aK r.pv (.int 0) := rfl
      cases r with
      | post b q k =>
        cases b
        · rw [fg (x := true) (y := q == z) (by rfl) (by simp only [bO, ah, bT, cu, rZ, Ru.pv, aK, Dg, M.eV, sU])]; rfl
        · rw [fg (x := true) (y := q == z) (by rfl) (by simp only [bO, ah, bT, cu, rZ, Ru.pv, aK, Dg, M.eV, sU])]; rfl
      | _ => rfl)]
    simp only [rZ, gX, Ip]
    rfl
  | look n m z =>
    refine cx (ρ' := _) (by rw [gL (by exact (tst _).trans (congrArg M.ret (by decide +kernel : (("look" : Str) == ("read" : Str)) = false)))]) ?_
    unfold aJ
    rw [jx (by exact (tst _).trans (congrArg M.ret (by decide +kernel : (("look" : Str) == ("look" : Str)) = true)))]
    rw [dS (y := .lst ((gX pr (.look n m z)).map PV.str)) ?_]
    · rfl
    simp only [Hq, List.map_nil, Ent.freeze, aM, bW, bT, cu, rZ, hi, Ig hn]
    show M.bind (jS _ _ _ (pr.map jR) [un, un, val (.str z)]) _ = _
    rw [nv (I := fun ρ => ∃ e0 e1, ρ = [e0, e1, val (.str z)]) (c := fun q : Str × Ru => q.2.lk && q.1 == z) (g := fun q => PV.str q.1) pr _ ⟨_, _, rfl⟩ (by
      rintro ⟨a, r⟩ hq _ ⟨e0, e1, rfl⟩
      refine ⟨_, Gv, ?_, fun _ => rfl, _, _, rfl⟩
      cases r with
      | looked k => rw [fg (x := true) (y := a == z) (by rfl) (by simp only [bO, ah, bT, cu, rZ, sU])]; rfl
      | post b q k => cases b <;> rfl
      | _ => rfl)]
    simp only [rZ, gX, Ip]
    rfl
noncomputable def dT (f : List Str) : List (Key × PV) := f.map fun z => (.inr z, .bl true)
theorem yO (f : List Str) (w : Str) : ((dT f).any fun kv => decide (kv.1 = .inr w)) = decide (w ∈ f) := by
  unfold dT
  rw [List.any_map, Bool.eq_iff_iff, List.any_eq_true, IA]
  constructor
  · rintro ⟨x, hx, e⟩
    have : x = w := by simpa using e
    exact this ▸ hx
  · exact fun h => ⟨w, h, by simp⟩
theorem Bn (f : List Str) (w : Str) : (kZ (dT f) (.inr w)).isSome = decide (w ∈ f) := by
  unfold kZ
  rw [Option.isSome_map, ← yO, Bool.eq_iff_iff, List.find?_isSome, List.any_eq_true]
theorem wL (f : List Str) (w : Str) : qm (dT f) (.inr w) (.bl true) = dT (Cl.ins f w) := by
  unfold qm Cl.ins
  rw [yO]
  by_cases h : w ∈ f
  · rw [Ig (Il h), Ig h]
    unfold dT
    rw [Ip]
    refine IG fun x _ => ?_
    show (if (Sum.inr x : Key) = .inr w then ((Sum.inr x : Key), PV.bl true) else (.inr x, .bl true)) = _
    split <;> rfl
  · rw [Ih (by rw [HH h]; decide), Ih h]
    unfold dT
    rw [Im]
    rfl
theorem tW : ∀ (zs f : List Str), (zs.map fun z => ((.inr z : Key), PV.bl true)).foldl (fun t kv => qm t kv.1 kv.2) (dT f) = dT (zs.foldl Cl.ins f)
  | [], f => rfl
  | z :: zs, f => by
    rw [Hq, Io, wL, tW zs]
    rfl
theorem uh : ∀ (zs f : List Str) (x : Str), x ∈ zs.foldl Cl.ins f ↔ x ∈ f ∨ x ∈ zs
  | [], f, x => by simp
  | z :: zs, f, x => by rw [Io, uh zs, Cl.lN, Hr, or_assoc]
theorem ug : ∀ (zs f : List Str), f.Nodup → (zs.foldl Cl.ins f).Nodup
  | [], f, h => h
  | z :: zs, f, h => ug zs _ (Cl.sM h)
theorem Ee : ∀ zs : List Str, mn (zs.map fun z => PV.tup [.str z, .bl true]) = some (zs.map fun z => ((.inr z : Key), PV.bl true))
  | [] => rfl
  | z :: zs => by
    rw [Hq, Hq]
    unfold mn
    rw [Ee zs]
    rfl
theorem CY {mi : ao → M (List PV)} {ρ : ao} {zs : List Str} (h : mi ρ = .ret (zs.map PV.str)) (hl : zs.length ≤ 100000) : nL [none] mi (aP 0) cU (fun ρ => ag ρ 0) (fun _ => M.ret (.bl true)) ρ = .ret (dT (zs.foldl Cl.ins [])) := by
  unfold nL bW
  rw [h, rZ, Ig (by rw [Hg]; exact hl)]
  show M.bind (jS _ _ _ (zs.map PV.str) [un]) _ = _
  rw [nv (I := fun ρ => ∃ e0, ρ = [e0]) (c := fun _ => true) (g := fun z => PV.tup [.str z, .bl true]) zs _ ⟨_, rfl⟩ (by
    rintro z _ _ ⟨e0, rfl⟩
    exact ⟨_, rfl, rfl, fun _ => rfl, _, rfl⟩)]
  rw [rZ, List.filter_eq_self.mpr fun _ _ => rfl, Ee]
  exact congrArg M.ret (tW zs [])
noncomputable def asks (pr : List (Str × Ru)) : List (Str × Option Str) := pr.map fun q => (q.1, q.2.asks)
abbrev E7 (bk pg pr : PV) (f : List Str) (b : Int) (e5 e6 : Ent) : ao := [val bk, val pg, val pr, Ent.d7 (dT f), val (.int b), e5, e6]
noncomputable def Fv : ao → M Fl := (i8 (iP (bO (ah (eE false) (ah aK (fun ρ => ag ρ 6) (fun _ => M.ret (.int 0))) (fun _ => M.ret (.str "with")))) (bO (ah (sV false) (ah aK (fun ρ => ag ρ 6) (fun _ => M.ret (.int 1))) (fun ρ => cQ ρ 3))))
    (uo 3 (fun ρ => ag ρ 5) (fun _ => M.ret (.bl true)))
    (fun ρ => M.ret (.nx ρ)))
theorem CO {bk pg : PV} {b : Int} (pr0 : PV) (pr : List (Str × Ru)) (f : List Str) (e5 e6 : Ent) (hl : f.length + pr.length < 100000) : ∃ e5' e6', eD (fj [5, 6]) Fv (pr.map jR) (E7 bk pg pr0 f b e5 e6) = .ret (.nx (E7 bk pg pr0 (Cl.pass (asks pr) f) b e5' e6')) := by
  induction pr generalizing f e5 e6 with
  | nil => exact ⟨e5, e6, rfl⟩
  | cons q pr ih =>
    obtain ⟨a, r⟩ := q
    rw [Hv] at hl
    have hln : (Cl.iQ f (a, r.asks)).length ≤ f.length + 1 := by
      unfold Cl.iQ
      split
      · split
        · unfold Cl.ins
          split <;> simp
        · omega
      · omega
    obtain ⟨e5', e6', ih⟩ := ih (Cl.iQ f (a, r.asks)) (val (.str a)) (val r.pv) (by omega)
    refine ⟨e5', e6', ?_⟩
    have hb : Fv (E7 bk pg pr0 f b (val (.str a)) (val r.pv)) = .ret (.nx (E7 bk pg pr0 (Cl.iQ f (a, r.asks)) b (val (.str a)) (val r.pv))) := by
      unfold Fv
      cases r with
      | vz o =>
        have t1 : bO (ah (eE false) (ah aK (fun ρ => ag ρ 6) (fun _ => M.ret (.int 0))) (fun _ => M.ret (.str "with"))) (E7 bk pg pr0 f b (val (.str a)) (val (Ru.vz o).pv)) = .ret true := rfl
        have t2 : bO (ah (sV false) (ah aK (fun ρ => ag ρ 6) (fun _ => M.ret (.int 1))) (fun ρ => cQ ρ 3)) (E7 bk pg pr0 f b (val (.str a)) (val (Ru.vz o).pv)) = .ret (decide (o ∈ f)) := by
          have : sV false (.str o) (.iO (dT f)) = .ret (.bl (decide (o ∈ f))) := by
            show M.ret (PV.bl ((kZ (dT f) (.inr o)).isSome != false)) = _
            rw [Bn, Bool.bne_false]
          have i1 : aK (Ru.vz o).pv (.int 1) = .ret (.str o) := rfl
          have g3 : cQ (E7 bk pg pr0 f b (val (.str a)) (val (Ru.vz o).pv)) 3 = .ret (.iO (dT f)) := rfl
          simp only [bO, ah, cu, bT, rZ, i1, g3, this]
        by_cases ho : o ∈ f
        · rw [jx (by rw [fg t1 t2, Il ho]; rfl)]
          show (if (dT f).length < 100000 then M.ret (Fl.nx _) else .fail) = _
          rw [Ig (by unfold dT; rw [Hg]; omega), wL]
          unfold Cl.iQ Ru.asks
          dsimp only
          rw [Ig ho]
          rfl
        · rw [gL (by rw [fg t1 t2, HH ho]; rfl)]
          unfold Cl.iQ Ru.asks
          dsimp only
          rw [Ih ho]
      | post b' q k => cases b' <;> rfl
      | _ => rfl
    rw [Hq]
    unfold eD
    show M.bind (M.ret (E7 bk pg pr0 f b (val (.str a)) (val r.pv))) _ = _
    rw [rZ, hb, rZ]
    exact ih
noncomputable def Gk : ao → M Bool := bO (ah o5 (fun ρ => ag ρ 4) (fun ρ => ((aa (fun ρ => cQ ρ 3) (fun _ => M.ret [])) ρ).bind eM))
noncomputable def Gj : ao → M Fl := aJ (aU 4 (fun ρ => ((aa (fun ρ => cQ ρ 3) (fun _ => M.ret [])) ρ).bind eM)) (el (fun ρ => ((fun ρ => ag ρ 2) ρ).bind bf) (fj [5, 6]) Fv)
theorem yx (f : List Str) : (dT f).length = f.length := by unfold dT; rw [Hg]
theorem A7 {bk pg : PV} {pr : List (Str × Ru)} {N : List Str} (hN : ∀ q ∈ pr, q.1 ∈ N) (hz : N.length + pr.length < 1000) {own : Str → Prop} : ∀ (k : Nat) (f : List Str) (b : Int) (e5 e6 : Ent), f.Nodup → (∀ x ∈ f, x ∈ N) → (∀ x ∈ f, Cl.In own (fun w u => (w, some u) ∈ asks pr) x) → (∀ x, own x → x ∈ f) → (b = -1 ∨ ∃ f0 : List Str, (f0.length : Int) = b ∧ (∀ x, own x → x ∈ f0) ∧ f = Cl.pass (asks pr) f0) → b ≤ f.length → (if b < f.length then N.length - f.length + 2 else 1) ≤ k →
    ∃ (f' : List Str) (b' : Int) (e5' e6' : Ent), vA Gk Gj k (E7 bk pg (.lst (pr.map jR)) f b e5 e6) = .ret (.nx (E7 bk pg (.lst (pr.map jR)) f' b' e5' e6')) ∧ f'.Nodup ∧ (∀ x ∈ f', x ∈ N) ∧ ∀ w, w ∈ f' ↔ Cl.In own (fun w u => (w, some u) ∈ asks pr) w
  | 0, f, b, _, _, _, _, _, _, _, _, hk => by split at hk <;> omega
  | k + 1, f, b, e5, e6, nd, sub, cl, ow, ib, hb, hk => by
    have hfN : f.length ≤ N.length := eJ f N nd sub
    have et : Gk (E7 bk pg (.lst (pr.map jR)) f b e5 e6) = .ret (decide (b < f.length)) := by
      have g3 : cQ (E7 bk pg (.lst (pr.map jR)) f b e5 e6) 3 = .ret (.iO (dT f)) := rfl
      have l3 : eM [.iO (dT f)] = .ret (.int f.length) := by
        show M.ret (PV.int ((dT f).length : Int)) = _
        rw [yx]
      have lt : o5 (.int b) (.int f.length) = .ret (.bl (decide (b < f.length))) := rfl
      simp only [Gk, bO, ah, aa, cu, bT, rZ, g3, l3, lt]
    unfold vA
    rw [et, rZ]
    by_cases c : b < f.length
    · rw [Ig (Il c)]
      rw [Ig c] at hk
      obtain ⟨e5', e6', er⟩ := CO (bk := bk) (pg := pg) (b := f.length) (.lst (pr.map jR)) pr f e5 e6 (by omega)
      have eb : Gj (E7 bk pg (.lst (pr.map jR)) f b e5 e6) = .ret (.nx (E7 bk pg (.lst (pr.map jR)) (Cl.pass (asks pr) f) f.length e5' e6')) := by
        have l3 : eM [.iO (dT f)] = .ret (.int f.length) := by
          show M.ret (PV.int ((dT f).length : Int)) = _
          rw [yx]
        have s1 : aU 4 (fun ρ => ((aa (fun ρ => cQ ρ 3) (fun _ => M.ret [])) ρ).bind eM) (E7 bk pg (.lst (pr.map jR)) f b e5 e6) = .ret (.nx (E7 bk pg (.lst (pr.map jR)) f f.length e5 e6)) := by
          have g3 : cQ (E7 bk pg (.lst (pr.map jR)) f b e5 e6) 3 = .ret (.iO (dT f)) := rfl
          simp only [aU, aa, rZ, g3, l3]
          rfl
        unfold Gj aJ
        rw [s1]
        exact er
      rw [eb, rZ]
      have hle := Cl.lJ (asks pr) f
      have sub' : ∀ x ∈ Cl.pass (asks pr) f, x ∈ N := fun x hx => by
        have := Cl.oR (own := (· ∈ f)) (ask := fun w u => (w, some u) ∈ asks pr) (asks pr) (fun p hp u e => by rw [← e]; exact hp) (fun x hx => .own hx) x hx
        cases this with
        | own h => exact sub x h
        | ask h _ =>
          obtain ⟨q, hq, e⟩ := Hu.mp h
          injection e with e1 e2
          exact e1 ▸ hN q hq
      have nd' : (Cl.pass (asks pr) f).Nodup := Cl.t5 _ nd
      have hpN : (Cl.pass (asks pr) f).length ≤ N.length := eJ _ N nd' sub'
      exact A7 hN hz k (Cl.pass (asks pr) f) f.length e5' e6' nd' sub' (Cl.oR _ (fun p hp u e => by rw [← e]; exact hp) cl) (fun x hx => Cl.qp _ (ow x hx)) (.inr ⟨f, rfl, ow, rfl⟩) (by omega) (by split <;> omega)
    · rw [Ih (by rw [HH c]; decide)]
      refine ⟨f, b, e5, e6, rfl, nd, sub, fun w => ⟨cl w, fun hw => ?_⟩⟩
      rcases ib with rfl | ⟨f0, e0, o0, rfl⟩
      · omega
      · have hs : (Cl.pass (asks pr) f0).length = f0.length := by
          have := Cl.lJ (asks pr) f0
          omega
        rw [(Cl.j6 _ hs).1]
        exact Cl.xf o0 (fun w u h => h) hs w hw
theorem Ao {N : List Str} {bk : List Pa} {p : Pa} (b : Bk N bk) (hp : hG N p) (hl : bk.length ≤ 63) (hN : N.length ≤ 12) : ∃ f : List Str, eC [.tup (bk.map Pa.pv), p.pv] = .ret (.tup ((dR f).map PV.str)) ∧ f.Nodup ∧ (∀ x ∈ f, x ∈ N) ∧ ∀ w, w ∈ f ↔ Cl.In (· ∈ gX (gZ bk) p) (fun w u => (w, some u) ∈ asks (gZ bk)) w := by
  have kO := tX b.ok
  have hprN : ∀ q ∈ gZ bk, q.1 ∈ N := fun q hq => by
    obtain ⟨p', hp', h⟩ := List.mem_flatMap.mp hq
    obtain ⟨r, hr, rfl⟩ := Hu.mp h
    cases p' with
    | rule n m z rs => exact (b.ok _ hp').2
    | read n m z i => cases hr
    | look n m z => cases hr
  have hst : ∀ x ∈ gX (gZ bk) p, x ∈ N := fun x hx => by
    cases p with
    | rule n m z rs => rw [HK.mp hx]; exact hp.2
    | read n m z i =>
      obtain ⟨q, hq, rfl⟩ := Hu.mp hx
      exact hprN q (Ic.mp hq).1
    | look n m z =>
      obtain ⟨q, hq, rfl⟩ := Hu.mp hx
      exact hprN q (Ic.mp hq).1
  have hsl : (gX (gZ bk) p).length ≤ 1000 := by
    cases p with
    | rule n m z rs => show (1 : Nat) ≤ _; omega
    | read n m z i => show (List.map _ (List.filter _ _)).length ≤ _; rw [Hg]; have := List.length_filter_le (fun q : Str × Ru => q.2.of z) (gZ bk); omega
    | look n m z => show (List.map _ (List.filter _ _)).length ≤ _; rw [Hg]; have := List.length_filter_le (fun q : Str × Ru => q.2.lk && q.1 == z) (gZ bk); omega
  have r1 := wo b.ok (by omega)
  have r2 := zl (pr := gZ bk) (by omega) p
  have mem0 : ∀ x, x ∈ (gX (gZ bk) p).foldl Cl.ins [] ↔ x ∈ gX (gZ bk) p := fun x => by rw [uh]; simp
  obtain ⟨f, b', e5, e6, ew, nd, sub, iff⟩ := A7 (bk := .tup (bk.map Pa.pv)) (pg := p.pv) (pr := gZ bk) (N := N) hprN (by omega) (own := (· ∈ gX (gZ bk) p)) 1000 ((gX (gZ bk) p).foldl Cl.ins []) (-1) un un (ug _ _ .nil) (fun x hx => hst x ((mem0 x).mp hx)) (fun x hx => .own ((mem0 x).mp hx)) (fun x hx => (mem0 x).mpr hx) (.inl rfl) (by omega) (by split <;> omega)
  refine ⟨f, ?_, nd, sub, iff⟩
  unfold eC fE
  show (aJ _ _ [val (.tup (bk.map Pa.pv)), val p.pv, un, un, un, un, un]).bind ff = _
  refine cx (ρ' := [val (.tup (bk.map Pa.pv)), val p.pv, val (.lst ((gZ bk).map jR)), un, un, un, un]) ?_ ?_
  · simp only [aU, aa, bT, rZ, r1]
    rfl
  refine cx (ρ' := [val (.tup (bk.map Pa.pv)), val p.pv, val (.lst ((gZ bk).map jR)), Ent.d7 (dT ((gX (gZ bk) p).foldl Cl.ins [])), un, un, un]) ?_ ?_
  · unfold t6
    rw [CY (zs := gX (gZ bk) p) (by simp only [aa, bT, cu, rZ, r2]; rfl) (by omega)]
    rfl
  refine cx (ρ' := E7 (.tup (bk.map Pa.pv)) p.pv (.lst ((gZ bk).map jR)) ((gX (gZ bk) p).foldl Cl.ins []) (-1) un un) rfl ?_
  refine cx ew ?_
  have hf : f.length < 64 := by have := eJ f N nd sub; omega
  have kt : ∀ f : List Str, mJ (dT f) = some f := fun f => by
    induction f with
    | nil => rfl
    | cons z f ih =>
      unfold dT at ih ⊢
      rw [Hq]
      unfold mJ
      rw [ih]
      rfl
  have es : oJ [.iO (dT f)] = .ret ((dR f).map PV.str) := by
    show ((M.eV (mJ (dT f))).bind fun zs => if zs.length < 64 then M.ret ((dR zs).map PV.str) else .fail) = _
    rw [kt]
    show (if f.length < 64 then M.ret ((dR f).map PV.str) else .fail) = _
    rw [Ig hf]
  unfold CS
  refine fI (dS ?_)
  simp only [Hq, List.map_nil, Ent.freeze, aM, aa, bT, cu, rZ, es, lb]
noncomputable def aL (ps : List Pa) (w : Str) : List Ru := ps.flatMap fun p => if p.nm = w then p.rl else []
noncomputable def AR : ao → M Fl := (i8 (iP (bO (ah (eE false) (ah aK (fun ρ => ag ρ 3) (fun _ => M.ret (.int 0))) (fun _ => M.ret (.str "rule")))) (bO (ah (eE false) (ah aK (fun ρ => ag ρ 3) (fun _ => M.ret (.int 3))) (fun ρ => ag ρ 1))))
    (aU 2 (aM (gs (fun ρ => ag ρ 2) (aM (fun ρ => ((aa (ah aK (fun ρ => ag ρ 3) (fun _ => M.ret (.int 4))) (fun _ => M.ret [])) ρ).bind Ab)))))
    (fun ρ => M.ret (.nx ρ)))
theorem wu {N : List Str} {y : PV} {w : Str} : ∀ (ps : List Pa) (f : List Ru) (e3 : Ent), (∀ p ∈ ps, hG N p) → f.length + 6 * ps.length ≤ 100000 → ∃ e3', eD (aP 3) AR (ps.map Pa.pv) [val y, val (.str w), val (.lst (f.map Ru.pv)), e3] = .ret (.nx [val y, val (.str w), val (.lst ((f ++ aL ps w).map Ru.pv)), e3'])
  | [], f, e3, _, _ => ⟨e3, by simp [eD, aL]⟩
  | p :: ps, f, e3, h, hl => by
    rw [Hv] at hl
    have hp := h p Hf
    have ih := fun f e3 hl => wu (y := y) (w := w) ps f e3 (fun q hq => h q (Hj _ hq)) hl
    have e : aL (p :: ps) w = (if p.nm = w then p.rl else []) ++ aL ps w := rfl
    rw [Hq]
    unfold eD
    show ∃ e3', M.bind (M.ret [val y, val (.str w), val (.lst (f.map Ru.pv)), val p.pv]) _ = _
    rw [rZ]
    have t1 : bO (ah (eE false) (ah aK (fun ρ => ag ρ 3) (fun _ => M.ret (.int 0))) (fun _ => M.ret (.str "rule"))) [val y, val (.str w), val (.lst (f.map Ru.pv)), val p.pv] = .ret (p.wd == "rule") := by
      simp only [bO, ah, bT, cu, rZ, Dv, sU]
    have t2 : bO (ah (eE false) (ah aK (fun ρ => ag ρ 3) (fun _ => M.ret (.int 3))) (fun ρ => ag ρ 1)) [val y, val (.str w), val (.lst (f.map Ru.pv)), val p.pv] = .ret (p.nm == w) := by
      simp only [bO, ah, bT, cu, rZ, Dt, sU]
    have out : ∀ rs : List Ru, AR [val y, val (.str w), val (.lst (f.map Ru.pv)), val p.pv] = .ret (.nx [val y, val (.str w), val (.lst ((f ++ rs).map Ru.pv)), val p.pv]) → (if p.nm = w then p.rl else []) = rs → rs.length ≤ 6 → ∃ e3', ((AR [val y, val (.str w), val (.lst (f.map Ru.pv)), val p.pv]).bind fun f_1 => match f_1 with
      | .nx ρ2 => eD (aP 3) AR (ps.map Pa.pv) ρ2
      | .ct ρ2 => eD (aP 3) AR (ps.map Pa.pv) ρ2
      | .bk ρ2 => .ret (.nx ρ2)
      | .rt v => .ret (.rt v)) = .ret (.nx [val y, val (.str w), val (.lst ((f ++ aL (p :: ps) w).map Ru.pv)), e3']) := fun rs er e1 hr => by
      obtain ⟨e3', ih⟩ := ih (f ++ rs) (val p.pv) (by rw [HI]; omega)
      refine ⟨e3', ?_⟩
      rw [er, rZ, e, e1, ← List.append_assoc]
      exact ih
    cases c1 : p.wd == ("rule" : Str) with
    | false =>
      refine out [] ?_ ?_ (by simp)
      · unfold AR
        rw [gL (by rw [fg t1 t2, c1]; rfl), IE]
      · rw [AN p c1]
        split <;> rfl
    | true =>
      obtain ⟨n, m, z, rs, rfl⟩ := tK p c1
      by_cases c2 : z = w
      · refine out rs ?_ (Ig c2) hp.1
        unfold AR
        rw [jx (by rw [fg t1 t2, c1]; show M.ret (true && z == w) = _; rw [c2]; simp)]
        have hz : (f.map Ru.pv).length + (rs.map Ru.pv).length ≤ 100000 := by
          rw [Hg, Hg]
          have := hp.1
          omega
        have l4 : Ab [.tup (rs.map Ru.pv)] = .ret (rs.map Ru.pv) := rfl
        simp only [aU, aM, gs, aa, ah, bT, cu, rZ, GJ, l4, Ig hz]
        rw [Im]
        rfl
      · refine out [] ?_ (Ih c2) (by simp)
        unfold AR
        rw [gL (by rw [fg t1 t2, c1]; show M.ret (true && z == w) = _; rw [beq_false_of_ne c2]; rfl), IE]
theorem AQ {N : List Str} {ps : List Pa} (h : ∀ p ∈ ps, hG N p) (hl : ps.length ≤ 1000) (w : Str) : aZ [.lst (ps.map Pa.pv), .str w] = .ret (.lst ((aL ps w).map Ru.pv)) := by
  unfold aZ cq
  show (aJ _ _ [val (.lst (ps.map Pa.pv)), val (.str w), un, un]).bind ff = _
  refine cx (ρ' := [val (.lst (ps.map Pa.pv)), val (.str w), val (.lst (([] : List Ru).map Ru.pv)), un]) rfl ?_
  obtain ⟨e3, er⟩ := wu (y := .lst (ps.map Pa.pv)) (w := w) ps [] un h (by simp; omega)
  refine cx (ρ' := [val (.lst (ps.map Pa.pv)), val (.str w), val (.lst ((aL ps w).map Ru.pv)), e3]) ?_ (fI (dS rfl))
  exact er
theorem wt {N : List Str} : ∀ {ps : List Pa} {w : Str}, (∀ p ∈ ps, hG N p) → (aL ps w).length ≤ 6 * ps.length
  | [], w, _ => Hn _
  | p :: ps, w, h => by
    have ih := wt (w := w) fun q hq => h q (Hj _ hq)
    have hp := h p Hf
    have : (if p.nm = w then p.rl else []).length ≤ 6 := by
      split
      · cases p with
        | rule n m z rs => exact hp.1
        | read n m z i => exact HJ _
        | look n m z => exact HJ _
      · exact HJ _
    show ((if p.nm = w then p.rl else []) ++ aL ps w).length ≤ _
    rw [HI, Hv]
    omega
theorem wq {ps : List Pa} {w : Str} {r : Ru} : r ∈ aL ps w ↔ (w, r) ∈ gZ ps := by
  unfold aL gZ B2
  rw [List.mem_flatMap, List.mem_flatMap]
  constructor
  · rintro ⟨p, hp, h⟩
    refine ⟨p, hp, ?_⟩
    by_cases c : p.nm = w
    · rw [Ig c] at h
      exact Hu.mpr ⟨r, h, by rw [c]⟩
    · rw [Ih c] at h; cases h
  · rintro ⟨p, hp, h⟩
    obtain ⟨r', hr, e⟩ := Hu.mp h
    injection e with e1 e2
    subst e2
    exact ⟨p, hp, by rw [Ig e1]; exact hr⟩
theorem yk (k : Nat) (a b : Str) : kr k (.str a) (.str b) = some (a == b) := by rw [jC rfl rfl]; rfl
theorem kP (k : Nat) (a b c d : Str) : kr (k + 1) (.tup [.str a, .str b]) (.tup [.str c, .str d]) = some (a == c && b == d) := by
  show ((kr k (.str a) (.str c)).bind fun x => ((kr k (.str b) (.str d)).bind fun y => ((some true).bind fun z => some (y && z))).bind fun y => some (x && y)) = _
  rw [yk, yk]
  simp
noncomputable def lh (rest : List Pa) (w : Str) : Pa → Bool
  | .rule _ _ z _ => w == z
  | .read _ _ z _ => (aL rest w).any (·.of z)
  | .look _ _ z => w == z && (aL rest w).any (·.lk)
theorem zI (z : Str) (r : Ru) : ∃ l, qe r.pv none (some 2) = .ret (.tup l) ∧ An false (.tup l) (.lst [.tup [.str "least", .str z], .tup [.str "most", .str z]]) = .ret (.bl (r.of z)) := by
  have key : ∀ l : List PV, ∀ c : Bool, (∃ c1 c2, kr 20 (.tup [.str "least", .str z]) (.tup l) = some c1 ∧ kr 20 (.tup [.str "most", .str z]) (.tup l) = some c2 ∧ (c1 || c2) = c) → An false (.tup l) (.lst [.tup [.str "least", .str z], .tup [.str "most", .str z]]) = .ret (.bl c) := fun l c ⟨c1, c2, e1, e2, e3⟩ => by
    show ((M.eV (ic (.tup l) [.tup [.str "least", .str z], .tup [.str "most", .str z]])).bind fun c => M.ret (PV.bl (xor false c))) = _
    simp only [ic, e1, e2, Option.bind_some, Bool.or_false, M.eV, rZ, Bool.false_xor, e3]
  cases r with
  | qM a b => exact ⟨[.str "hours", .int a], rfl, key _ _ ⟨false, false, rfl, rfl, rfl⟩⟩
  | post b q n =>
    cases b
    · exact ⟨[.str "most", .str q], rfl, key _ _ ⟨_, _, kP _ _ _ _ _, kP _ _ _ _ _, by
        rw [show (("least" : Str) == "most") = false by decide +kernel, show (("most" : Str) == "most") = true by decide +kernel, Bool.false_and, Bool.true_and, Bool.false_or]
        show (z == q) = (q == z)
        exact Bool.beq_comm⟩⟩
    · exact ⟨[.str "least", .str q], rfl, key _ _ ⟨_, _, kP _ _ _ _ _, kP _ _ _ _ _, by
        rw [show (("most" : Str) == "least") = false by decide +kernel, show (("least" : Str) == "least") = true by decide +kernel, Bool.false_and, Bool.true_and, Bool.or_false]
        show (z == q) = (q == z)
        exact Bool.beq_comm⟩⟩
  | looked n => exact ⟨[.str "looked", .int n], rfl, key _ _ ⟨false, false, rfl, rfl, rfl⟩⟩
  | vz o => exact ⟨[.str "with", .str o], rfl, key _ _ ⟨_, _, kP _ _ _ _ _, kP _ _ _ _ _, by
      rw [show (("least" : Str) == "with") = false by decide +kernel, show (("most" : Str) == "with") = false by decide +kernel]
      rfl⟩⟩
  | never => exact ⟨[.str "never"], rfl, key _ _ ⟨false, false, rfl, rfl, rfl⟩⟩
noncomputable def Ru.hd : Ru → Str
  | .qM .. => "hours"
  | .post true _ _ => "least"
  | .post false _ _ => "most"
  | .looked _ => "looked"
  | .vz _ => "with"
  | .never => "never"
theorem G2 (r : Ru) : aK r.pv (.int 0) = .ret (.str r.hd) := by
  cases r with
  | post b q n => cases b <;> rfl
  | _ => rfl
theorem DU (r : Ru) : (r.hd == ("looked" : Str)) = r.lk := by
  cases r with
  | post b q n => cases b
                  · show (("most" : Str) == "looked") = false; decide +kernel
                  · show (("least" : Str) == "looked") = false; decide +kernel
  | qM a b => show (("hours" : Str) == "looked") = false; decide +kernel
  | looked n => show (("looked" : Str) == "looked") = true; decide +kernel
  | vz o => show (("with" : Str) == "looked") = false; decide +kernel
  | never => show (("never" : Str) == "looked") = false; decide +kernel
theorem yJ : ∀ bs : List Bool, kU (bs.map PV.bl) = some bs
  | [] => rfl
  | b :: bs => by
    rw [Hq]
    unfold kU
    rw [yJ bs]
    rfl
theorem Ca {N : List Str} {ps : List Pa} (h : ∀ p ∈ ps, hG N p) (hl : ps.length ≤ 1000) (p : Pa) (w : Str) : dN [.lst (ps.map Pa.pv), p.pv, .str w] = .ret (.bl (lh ps w p)) := by
  have hro := AQ h hl w
  have hrl := wt (w := w) h
  have hn : ((aL ps w).map Ru.pv).length ≤ 100000 := by rw [Hg]; omega
  unfold dN fD
  show (aJ _ _ [val (.lst (ps.map Pa.pv)), val p.pv, val (.str w), un]).bind ff = _
  refine cx (ρ' := [val (.lst (ps.map Pa.pv)), val p.pv, val (.str w), val (.lst ((aL ps w).map Ru.pv))]) ?_ ?_
  · simp only [aU, aa, bT, cu, rZ, hro]
    rfl
  have tst : ∀ s : Str, bO (ah (eE false) (ah aK (fun ρ => ag ρ 1) (fun _ => M.ret (.int 0))) (fun _ => M.ret (.str s))) [val (.lst (ps.map Pa.pv)), val p.pv, val (.str w), val (.lst ((aL ps w).map Ru.pv))] = .ret (p.wd == s) := fun s => by
    simp only [bO, ah, bT, cu, rZ, Dv, sU]
  have hi : bf (.lst ((aL ps w).map Ru.pv)) = .ret ((aL ps w).map Ru.pv) := rfl
  cases p with
  | rule n m z rs =>
    refine cx (ρ' := _) (by rw [gL (by exact (tst _).trans (congrArg M.ret (by decide +kernel : (("rule" : Str) == ("read" : Str)) = false)))]) ?_
    refine cx (ρ' := _) (by rw [gL (by exact (tst _).trans (congrArg M.ret (by decide +kernel : (("rule" : Str) == ("look" : Str)) = false)))]) ?_
    refine fI (dS ?_)
    simp only [Hq, List.map_nil, Ent.freeze, ah, bT, cu, rZ, Dt, sU]
    rfl
  | read n m z i =>
    unfold aJ
    rw [jx (by exact (tst _).trans (congrArg M.ret (by decide +kernel : (("read" : Str) == ("read" : Str)) = true)))]
    rw [dS (y := .bl (lh ps w (.read n m z i))) ?_]
    · rfl
    have elc : ∀ te, bW [none, some 1] (fun ρ => ((fun ρ => ag ρ 3) ρ).bind bf) (aP 0) cU te [val (.lst (ps.map Pa.pv)), val (Pa.read n m z i).pv, val (.str w), val (.lst ((aL ps w).map Ru.pv))] = jS (aP 0) cU te ((aL ps w).map Ru.pv) [un, val (Pa.read n m z i).pv] := fun te => by
      unfold bW
      simp only [bT, cu, rZ, hi, Ig hn]
      rfl
    show ((M.bind (M.bind (bW [none, some 1] (fun ρ => ((fun ρ => ag ρ 3) ρ).bind bf) (aP 0) cU _ [val (.lst (ps.map Pa.pv)), val (Pa.read n m z i).pv, val (.str w), val (.lst ((aL ps w).map Ru.pv))]) fun l => M.ret (PV.lst l)) fun y => M.bind (M.ret []) fun l => M.ret (y :: l)).bind yP) = _
    rw [elc]
    rw [nv (I := fun ρ => ∃ e0, ρ = [e0, val (Pa.read n m z i).pv]) (c := fun _ => true) (g := fun r : Ru => PV.bl (r.of z)) (aL ps w) _ ⟨_, rfl⟩ (by
      rintro r _ _ ⟨e0, rfl⟩
      refine ⟨_, rfl, rfl, fun _ => ?_, _, rfl⟩
      obtain ⟨l, e1, e2⟩ := zI z r
      have i3 : aK (Pa.read n m z i).pv (.int 3) = .ret (.str z) := rfl
      have e1' : qe r.pv none (some (2 : Int)) = .ret (.tup l) := e1
      have ei : ki (.int 2) = .ret 2 := rfl
      show ah (An false) _ _ [val r.pv, val (Pa.read n m z i).pv] = _
      simp only [ah, rD, aM, aa, bT, cu, rZ, i3, mE, xD, ei, e1', e2])]
    rw [List.filter_eq_self.mpr fun _ _ => rfl]
    simp only [rZ]
    unfold yP
    dsimp only
    have := yJ ((aL ps w).map (·.of z))
    rw [Ip] at this
    rw [show (aL ps w).map (fun r : Ru => PV.bl (r.of z)) = (aL ps w).map (PV.bl ∘ (·.of z)) from rfl, this]
    show M.ret (PV.bl (List.any _ id)) = _
    rw [List.any_map]
    rfl
  | look n m z =>
    refine cx (ρ' := _) (by rw [gL (by exact (tst _).trans (congrArg M.ret (by decide +kernel : (("look" : Str) == ("read" : Str)) = false)))]) ?_
    unfold aJ
    rw [jx (by exact (tst _).trans (congrArg M.ret (by decide +kernel : (("look" : Str) == ("look" : Str)) = true)))]
    rw [dS (y := .bl (lh ps w (.look n m z))) ?_]
    · rfl
    have i3 : aK (Pa.look n m z).pv (.int 3) = .ret (.str z) := rfl
    have eb : bO (ah (eE false) (fun ρ => ag ρ 2) (ah aK (fun ρ => ag ρ 1) (fun _ => M.ret (.int 3)))) [val (.lst (ps.map Pa.pv)), val (Pa.look n m z).pv, val (.str w), val (.lst ((aL ps w).map Ru.pv))] = .ret (w == z) := by
      simp only [bO, ah, bT, cu, rZ, i3, sU]
    simp only [Hq, List.map_nil, Ent.freeze]
    unfold rm
    rw [eb, rZ]
    cases c : w == z with
    | false =>
      rw [Ih (by decide)]
      show _ = M.ret (PV.bl (w == z && (aL ps w).any (·.lk)))
      rw [c]
      rfl
    | true =>
      rw [Ig rfl]
      simp only [ah, aM, bW, bT, cu, rZ, hi, Ig hn]
      show M.bind (M.bind (jS _ _ _ ((aL ps w).map Ru.pv) [un]) _) _ = _
      rw [nv (I := fun ρ => ∃ e0, ρ = [e0]) (c := fun _ => true) (g := fun r : Ru => PV.str r.hd) (aL ps w) _ ⟨_, rfl⟩ (by
        rintro r _ _ ⟨e0, rfl⟩
        refine ⟨_, rfl, rfl, fun _ => ?_, _, rfl⟩
        show ah aK (fun ρ => ag ρ 0) (fun _ => M.ret (.int 0)) [val r.pv] = _
        simp only [ah, bT, rZ, G2])]
      rw [List.filter_eq_self.mpr fun _ _ => rfl, rZ, rZ]
      have := jw "looked" ((aL ps w).map Ru.hd) false
      rw [Ip] at this
      rw [show (aL ps w).map (fun r : Ru => PV.str r.hd) = (aL ps w).map (PV.str ∘ Ru.hd) from rfl, this]
      show _ = M.ret (PV.bl (w == z && (aL ps w).any (·.lk)))
      unfold p3
      rw [c, List.any_map, Bool.false_xor, Bool.true_and]
      congr 2
      congr 1
      funext r
      exact DU r
noncomputable def lz (ps : List Pa) (w u : Str) : Bool := (aL ps w).any fun r => decide (r.asks = some u)
theorem eq_with (u : Str) (r : Ru) : kr 20 r.pv (.tup [.str "with", .str u]) = some (decide (r.asks = some u)) := by
  cases r with
  | vz o =>
    refine (kP 19 _ _ _ _).trans ?_
    rw [show (("with" : Str) == "with") = true by decide +kernel, Bool.true_and]
    congr 1
    rw [Bool.eq_iff_iff, beq_iff_eq, IA]
    exact ⟨fun e => by rw [e]; rfl, fun e => by injection e⟩
  | post b q n => cases b <;> rfl
  | _ => rfl
theorem qF (u : Str) : ∀ rs : List Ru, ic (.tup [.str "with", .str u]) (rs.map Ru.pv) = some (rs.any fun r => decide (r.asks = some u))
  | [] => rfl
  | r :: rs => by
    rw [Hq]
    unfold ic
    rw [eq_with, qF u rs]
    rfl
theorem AI (u : Str) (rs : List Ru) : An false (.tup [.str "with", .str u]) (.lst (rs.map Ru.pv)) = .ret (.bl (rs.any fun r => decide (r.asks = some u))) := by
  show ((M.eV (ic (.tup [.str "with", .str u]) (rs.map Ru.pv))).bind fun c => M.ret (PV.bl (xor false c))) = _
  rw [qF]
  show M.ret (PV.bl (xor false _)) = _
  rw [Bool.false_xor]
abbrev E8 (h rest pg : PV) (ns f : List Str) (a : Int) (e6 e7 : Ent) : ao := [val h, val rest, val pg, val (.lst (ns.map PV.str)), Ent.own (f.map PV.str), val (.int a), e6, e7]
noncomputable def EM : ao → M Fl := (i8 (iP (bO (ah (An false) (fun ρ => ((aa (fun _ => M.ret (.str "with")) (aa (ah aK (fun ρ => cQ ρ 4) (fun ρ => ag ρ 5)) (fun _ => M.ret []))) ρ).bind aI) (fun ρ => ((aa (aM (gs (fun ρ => ag ρ 1) (aM (fun ρ => ((aa (fun ρ => ag ρ 2) (fun _ => M.ret [])) ρ).bind aQ)))) (aa (fun ρ => ag ρ 6) (fun _ => M.ret []))) ρ).bind aZ))) (bO (ah (pY true) (fun ρ => ag ρ 6) (fun ρ => cQ ρ 4))))
    (f9 4 (fun ρ => ag ρ 6))
    (fun ρ => M.ret (.nx ρ)))
theorem yq {h : PV} {ps : List Pa} {p : Pa} {N : List Str} (ok : ∀ q ∈ ps ++ [p], hG N q) (hl : ps.length ≤ 900) {a : Nat} {u : Str} {ns0 : List Str} {e7 : Ent} : ∀ (ns f : List Str) (e6 : Ent), f[a]? = some u → f.length + ns.length < 100000 → ∃ e6', eD (aP 6) EM (ns.map PV.str) (E8 h (.lst (ps.map Pa.pv)) p.pv ns0 f a e6 e7) = .ret (.nx (E8 h (.lst (ps.map Pa.pv)) p.pv ns0 (Cl.qh (lz (ps ++ [p])) u ns f) a e6' e7))
  | [], f, e6, _, _ => ⟨e6, rfl⟩
  | w :: ns, f, e6, hu, hz => by
    rw [Hv] at hz
    have hro := AQ ok (by rw [HI]; show ps.length + 1 ≤ 1000; omega) w
    have hc : (ps.map Pa.pv).length + [p.pv].length ≤ 100000 := by rw [Hg]; show ps.length + 1 ≤ 100000; omega
    have ea : ps.map Pa.pv ++ [p.pv] = (ps ++ [p]).map Pa.pv := by rw [Im]; rfl
    have ix : aK (.lst (f.map PV.str)) (.int a) = .ret (.str u) := by
      unfold aK
      dsimp only
      rw [pP (k := a) (x := PV.str u) (by rw [HC, hu]; rfl)]
      rfl
    have gb : cQ (E8 h (.lst (ps.map Pa.pv)) p.pv ns0 f a (val (.str w)) e7) 4 = .ret (.lst (f.map PV.str)) := rfl
    have t1 : bO (ah (An false) (fun ρ => ((aa (fun _ => M.ret (.str "with")) (aa (ah aK (fun ρ => cQ ρ 4) (fun ρ => ag ρ 5)) (fun _ => M.ret []))) ρ).bind aI) (fun ρ => ((aa (aM (gs (fun ρ => ag ρ 1) (aM (fun ρ => ((aa (fun ρ => ag ρ 2) (fun _ => M.ret [])) ρ).bind aQ)))) (aa (fun ρ => ag ρ 6) (fun _ => M.ret []))) ρ).bind aZ)) (E8 h (.lst (ps.map Pa.pv)) p.pv ns0 f a (val (.str w)) e7) = .ret (lz (ps ++ [p]) w u) := by
      simp only [bO, ah, aa, aM, gs, bT, cu, gb, rZ, ix, mE, u7, Ig hc, ea, hro, AI]
      rfl
    have t2 : bO (ah (pY true) (fun ρ => ag ρ 6) (fun ρ => cQ ρ 4)) (E8 h (.lst (ps.map Pa.pv)) p.pv ns0 f a (val (.str w)) e7) = .ret (!decide (w ∈ f)) := by
      simp only [bO, ah, bT, cu, gb, rZ, jw]
      congr 1
      rw [Bool.true_xor]
      congr 1
      rw [Bool.eq_iff_iff, lO, IA]
    have out : ∃ f', f' = (if lz (ps ++ [p]) w u = true then Cl.ins f w else f) ∧ EM (E8 h (.lst (ps.map Pa.pv)) p.pv ns0 f a (val (.str w)) e7) = .ret (.nx (E8 h (.lst (ps.map Pa.pv)) p.pv ns0 f' a (val (.str w)) e7)) ∧ f'[a]? = some u ∧ f'.length ≤ f.length + 1 := by
      have hla : a < f.length := (Hm.mp hu).1
      unfold EM
      by_cases c1 : lz (ps ++ [p]) w u = true
      · by_cases c2 : w ∈ f
        · refine ⟨f, ?_, ?_, hu, by omega⟩
          · rw [Ig c1]; unfold Cl.ins; rw [Ig c2]
          · rw [gL (by rw [fg t1 t2, c1, Il c2]; rfl)]
        · refine ⟨f ++ [w], ?_, ?_, by rw [HX hla]; exact hu, by simp⟩
          · rw [Ig c1]; unfold Cl.ins; rw [Ih c2]
          · rw [jx (by rw [fg t1 t2, c1, HH c2]; rfl)]
            show (if (f.map PV.str).length < 100000 then M.ret (Fl.nx _) else .fail) = _
            rw [Ig (by rw [Hg]; omega)]
            have em : (f ++ [w]).map PV.str = f.map PV.str ++ [PV.str w] := by rw [Im]; rfl
            unfold E8
            rw [em]
            rfl
      · refine ⟨f, by rw [Ih c1], ?_, hu, by omega⟩
        rw [gL (by rw [fg t1 t2, Bool.not_eq_true _ |>.mp c1]; rfl)]
    obtain ⟨f', ef, ebd, hu', hl'⟩ := out
    obtain ⟨e6', ih⟩ := yq ok hl (ns0 := ns0) (e7 := e7) (h := h) ns f' (val (.str w)) hu' (by omega)
    refine ⟨e6', ?_⟩
    rw [Hq]
    unfold eD
    show M.bind (M.ret (E8 h (.lst (ps.map Pa.pv)) p.pv ns0 f a (val (.str w)) e7)) _ = _
    rw [rZ, ebd, rZ]
    refine ih.trans ?_
    unfold Cl.qh
    rw [Io, ← ef]
noncomputable def Gq : ao → M Bool := bO (ah o5 (fun ρ => ag ρ 5) (fun ρ => ((aa (fun ρ => cQ ρ 4) (fun _ => M.ret [])) ρ).bind eM))
noncomputable def Gp : ao → M Fl := aJ (el (fun ρ => ((fun ρ => ag ρ 3) ρ).bind bf) (aP 6) EM) (aU 5 (ah df (fun ρ => ag ρ 5) (fun _ => M.ret (.int 1))))
theorem Bb {h : PV} {ps : List Pa} {p : Pa} {N ns : List Str} (ok : ∀ q ∈ ps ++ [p], hG N q) (hl : ps.length ≤ 900) (hn : ns.length ≤ 100) {e7 : Ent} {own : Str → Prop} : ∀ (k : Nat) (f : List Str) (a : Nat) (e6 : Ent), Cl.St own (lz (ps ++ [p])) ns f a → ns.length < k + a →
    ∃ (f' : List Str) (a' : Nat) (e6' : Ent), vA Gq Gp k (E8 h (.lst (ps.map Pa.pv)) p.pv ns f a e6 e7) = .ret (.nx (E8 h (.lst (ps.map Pa.pv)) p.pv ns f' a' e6' e7)) ∧ f'.Nodup ∧ (∀ x ∈ f', x ∈ ns) ∧ ∀ w, w ∈ f' ↔ Cl.In own (fun w u => w ∈ ns ∧ lz (ps ++ [p]) w u = true) w
  | 0, f, a, _, s, hk => by
    have := eJ f ns s.nd s.sub
    have := s.le
    omega
  | k + 1, f, a, e6, s, hk => by
    have hfN : f.length ≤ ns.length := eJ f ns s.nd s.sub
    have et : Gq (E8 h (.lst (ps.map Pa.pv)) p.pv ns f a e6 e7) = .ret (decide ((a : Int) < f.length)) := by
      have gb : cQ (E8 h (.lst (ps.map Pa.pv)) p.pv ns f a e6 e7) 4 = .ret (.lst (f.map PV.str)) := rfl
      have l3 : eM [.lst (f.map PV.str)] = .ret (.int f.length) := by
        show M.ret (PV.int ((f.map PV.str).length : Int)) = _
        rw [Hg]
      have lt : o5 (.int a) (.int f.length) = .ret (.bl (decide ((a : Int) < f.length))) := rfl
      simp only [Gq, bO, ah, aa, cu, bT, rZ, gb, l3, lt]
    unfold vA
    rw [et, rZ]
    by_cases c : a < f.length
    · rw [Ig (Il (by omega))]
      have hu : f[a]? = some f[a] := Hd c
      obtain ⟨e6', er⟩ := yq (h := h) ok hl (ns0 := ns) (e7 := e7) ns f e6 hu (by omega)
      have hi : bf (.lst (ns.map PV.str)) = .ret (ns.map PV.str) := rfl
      have eb : Gp (E8 h (.lst (ps.map Pa.pv)) p.pv ns f a e6 e7) = .ret (.nx (E8 h (.lst (ps.map Pa.pv)) p.pv ns (Cl.qh (lz (ps ++ [p])) f[a] ns f) ((a + 1 : Nat) : Int) e6' e7)) := by
        unfold Gp aJ
        rw [show el (fun ρ => ((fun ρ => ag ρ 3) ρ).bind bf) (aP 6) EM (E8 h (.lst (ps.map Pa.pv)) p.pv ns f a e6 e7) = _ from er, rZ]
        rfl
      rw [eb, rZ]
      exact Bb ok hl hn k _ (a + 1) e6' (s.next hu) (by omega)
    · rw [Ih (by rw [HH (by omega)]; decide)]
      exact ⟨f, a, e6, rfl, s.nd, s.sub, fun w => s.all c w⟩
noncomputable def same (p o : Pa) : Bool := o.wd == p.wd && o.nm == p.nm
noncomputable def gtB (p o : Pa) : Bool := HT.lexLt [p.mo, p.nu] [o.mo, o.nu]
noncomputable def va (o : Pa) : PV := .tup [.int o.mo, .int o.nu]
theorem qa {α : Type} (r : α → Int) : ∀ (l m : List α), l.Pairwise (fun a b => r a < r b) → m.Pairwise (fun a b => r a ≤ r b) → l.Perm m → l = m
  | [], m, _, _, p => (List.nil_perm.mp p).symm
  | a :: l, [], _, _, p => absurd p.length_eq (by simp)
  | a :: l, b :: m, h1, h2, p => by
    have h1' := Ij.mp h1
    have h2' := Ij.mp h2
    have ea : a = b := by
      rcases Hr.mp (p.mem_iff.mp Hf) with e | ha
      · exact e
      rcases Hr.mp (p.mem_iff.mpr Hf) with e | hb
      · exact e.symm
      have x1 : r a < r b := h1'.1 b hb
      have x2 : r b ≤ r a := h2'.1 a ha
      omega
    subst ea
    rw [qa r l m h1'.2 h2'.2 (List.perm_cons a |>.mp p)]
noncomputable def rQ (y : PV) : Int := (kQ y).1 * 1000000 + (kQ y).2
theorem uU (l : List PV) : (qu l).Perm l := by
  unfold qu
  have hp : ((i5 (rk fun i => kQ (l.getD i .bX)) l.length).toList).Perm (List.range l.length) := by
    have := Array.perm_iff_toList_perm.mp (iE (rk fun i => kQ (l.getD i .bX)) l.length)
    simpa using this
  refine (hp.map _).trans (.of_eq ?_)
  apply List.ext_getElem?
  intro i
  rw [HC]
  by_cases hi : i < l.length
  · rw [List.getElem?_range hi, Hd hi]
    simp [hi]
  · rw [IC (by simpa using hi), IC (by simpa using hi)]
    rfl
theorem zN (l : List PV) : (qu l).Pairwise fun a b => rQ a ≤ rQ b := by
  have := zO (rk fun i => kQ (l.getD i .bX)) l.length
  unfold qu
  rw [List.pairwise_map] at this ⊢
  exact this
theorem EK (a b c d : Str) : eE false (.tup [.str a, .str b]) (.tup [.str c, .str d]) = .ret (.bl (a == c && b == d)) := by
  unfold eE
  rw [kP]
  show M.ret (PV.bl (xor false _)) = _
  rw [Bool.false_xor]
theorem EE (p o : Pa) : qN (.tup [.int o.mo, .int o.nu]) (.tup [.int p.mo, .int p.nu]) = .ret (.bl (gtB p o)) := rfl
noncomputable def mB (p : Pa) (aV : Int) : List Pa → Int
  | [] => aV + 1
  | o :: qs => if (same p o && gtB p o) = true then o.mo else mB p aV qs
noncomputable def zX : ao → M Fl := (i8 (iP (bO (ah (eE false) (ah aK (fun ρ => ag ρ 3) (fun _ => M.ret (.int 0))) (ah aK (fun ρ => ag ρ 2) (fun _ => M.ret (.int 0))))) (iP (bO (ah (eE false) (ah aK (fun ρ => ag ρ 3) (fun _ => M.ret (.int 3))) (ah aK (fun ρ => ag ρ 2) (fun _ => M.ret (.int 3))))) (bO (ah qN (fun ρ => ((aa (ah aK (fun ρ => ag ρ 3) (fun _ => M.ret (.int 2))) (aa (ah aK (fun ρ => ag ρ 3) (fun _ => M.ret (.int 1))) (fun _ => M.ret []))) ρ).bind aI) (fun ρ => ((aa (ah aK (fun ρ => ag ρ 2) (fun _ => M.ret (.int 2))) (aa (ah aK (fun ρ => ag ρ 2) (fun _ => M.ret (.int 1))) (fun _ => M.ret []))) ρ).bind aI)))))
    (cD (ah aK (fun ρ => ag ρ 3) (fun _ => M.ret (.int 2))))
    (fun ρ => M.ret (.nx ρ)))
theorem xA {h y : PV} {aV : Int} {p : Pa} (hh : aK h (.int 2) = .ret (.int aV)) : ∀ (qs : List Pa) (e3 : Ent), ((aJ (fun ρ => eD (aP 3) zX (qs.map Pa.pv) ρ) (cD (ah df (ah aK (fun ρ => ag ρ 0) (fun _ => M.ret (.int 2))) (fun _ => M.ret (.int 1))))) [val h, val y, val p.pv, e3]).bind ff = .ret (.int (mB p aV qs))
  | [], e3 => by
    refine cx (ρ' := [val h, val y, val p.pv, e3]) rfl (fI (dS ?_))
    simp only [Hq, List.map_nil, Ent.freeze, ah, bT, cu, rZ, hh]
    rfl
  | o :: qs, e3 => by
    have ih := xA (y := y) (p := p) hh qs (val o.pv)
    have t1 : bO (ah (eE false) (ah aK (fun ρ => ag ρ 3) (fun _ => M.ret (.int 0))) (ah aK (fun ρ => ag ρ 2) (fun _ => M.ret (.int 0)))) [val h, val y, val p.pv, val o.pv] = .ret (o.wd == p.wd) := by
      simp only [bO, ah, bT, cu, rZ, Dv, sU]
    have t2 : bO (ah (eE false) (ah aK (fun ρ => ag ρ 3) (fun _ => M.ret (.int 3))) (ah aK (fun ρ => ag ρ 2) (fun _ => M.ret (.int 3)))) [val h, val y, val p.pv, val o.pv] = .ret (o.nm == p.nm) := by
      simp only [bO, ah, bT, cu, rZ, Dt, sU]
    have t3 : bO (ah qN (fun ρ => ((aa (ah aK (fun ρ => ag ρ 3) (fun _ => M.ret (.int 2))) (aa (ah aK (fun ρ => ag ρ 3) (fun _ => M.ret (.int 1))) (fun _ => M.ret []))) ρ).bind aI) (fun ρ => ((aa (ah aK (fun ρ => ag ρ 2) (fun _ => M.ret (.int 2))) (aa (ah aK (fun ρ => ag ρ 2) (fun _ => M.ret (.int 1))) (fun _ => M.ret []))) ρ).bind aI)) [val h, val y, val p.pv, val o.pv] = .ret (gtB p o) := by
      simp only [bO, ah, aa, bT, cu, rZ, FY, Du, mE, EE]
    have tt := fg t1 (fg t2 t3)
    have ef : eD (aP 3) zX ((o :: qs).map Pa.pv) [val h, val y, val p.pv, e3] = ((zX [val h, val y, val p.pv, val o.pv]).bind fun f => match f with
      | .nx ρ2 => eD (aP 3) zX (qs.map Pa.pv) ρ2
      | .ct ρ2 => eD (aP 3) zX (qs.map Pa.pv) ρ2
      | .bk ρ2 => .ret (.nx ρ2)
      | .rt v => .ret (.rt v)) := rfl
    cases c : (o.wd == p.wd && (o.nm == p.nm && gtB p o)) with
    | true =>
      have en : zX [val h, val y, val p.pv, val o.pv] = .ret (.rt (.int o.mo)) := by
        unfold zX
        rw [jx (by rw [tt, c])]
        refine dS ?_
        simp only [Hq, List.map_nil, Ent.freeze, ah, bT, cu, rZ, Du]
      unfold aJ
      dsimp only
      rw [ef, en]
      unfold mB same
      rw [Bool.and_assoc, c]
      rfl
    | false =>
      have en : zX [val h, val y, val p.pv, val o.pv] = .ret (.nx [val h, val y, val p.pv, val o.pv]) := by
        unfold zX
        rw [gL (by rw [tt, c])]
      unfold aJ at ih ⊢
      dsimp only at ih ⊢
      rw [ef, en, rZ]
      refine ih.trans ?_
      unfold mB same
      rw [Bool.and_assoc, c]
      cases qs <;> rfl
theorem Eo {h : PV} {aV : Int} {p : Pa} (hh : aK h (.int 2) = .ret (.int aV)) (qs : List Pa) : cj [h, .tup (qs.map Pa.pv), p.pv] = .ret (.int (mB p aV qs)) := by
  unfold cj dh
  exact xA (y := .tup (qs.map Pa.pv)) hh qs un
theorem xw (p : Pa) (aV : Int) : ∀ qs : List Pa, ∃ r, ((((qs.filter (same p)).filter (gtB p)).map fun o => PV.int o.mo) ++ [PV.int (aV + 1)]) = .int (mB p aV qs) :: r
  | [] => ⟨[], rfl⟩
  | o :: qs => by
    obtain ⟨r, ih⟩ := xw p aV qs
    by_cases c1 : same p o = true
    · rw [List.filter_cons_of_pos c1]
      by_cases c2 : gtB p o = true
      · rw [List.filter_cons_of_pos c2]
        refine ⟨(((qs.filter (same p)).filter (gtB p)).map fun o => PV.int o.mo) ++ [PV.int (aV + 1)], ?_⟩
        have : mB p aV (o :: qs) = o.mo := by
          show (if (same p o && gtB p o) = true then o.mo else mB p aV qs) = _
          rw [c1, c2]
          rfl
        rw [this]
        rfl
      · rw [List.filter_cons_of_neg c2]
        refine ⟨r, ih.trans ?_⟩
        have : mB p aV (o :: qs) = mB p aV qs := by
          show (if (same p o && gtB p o) = true then o.mo else mB p aV qs) = _
          rw [Ih (by rw [HU]; exact fun z => c2 z.2)]
        rw [this]
    · rw [List.filter_cons_of_neg c1]
      refine ⟨r, ih.trans ?_⟩
      have : mB p aV (o :: qs) = mB p aV qs := by
        show (if (same p o && gtB p o) = true then o.mo else mB p aV qs) = _
        rw [Ih (by rw [HU]; exact fun z => c1 z.1)]
      rw [this]
theorem jl : ∀ zs : List Str, strsOf (zs.map PV.str) = some zs
  | [] => rfl
  | z :: zs => by
    rw [Hq]
    unfold strsOf
    rw [jl zs]
    rfl
theorem CV {h : PV} {ws : List (Str × List PV)} {aV : Int} (H : fJ h ws aV) {ps qs : List Pa} {p : Pa} (b : Bk (ws.map (·.1)) ps) (hp : hG (ws.map (·.1)) p) (hl : ps.length ≤ 63) (pm : qs.Perm ps) (up : qs.Pairwise fun p q => tR p < tR q) :
    ∃ f : List Str, ck [h, .lst (ps.map Pa.pv), p.pv] = .ret (.tup [.tup ((dR f).map PV.str), .int p.mo, .int (mB p aV qs)]) ∧ f.Nodup ∧ (∀ x ∈ f, x ∈ ws.map (·.1)) ∧ ∀ w, w ∈ f ↔ Cl.In (fun w => w ∈ ws.map (·.1) ∧ lh ps w p = true) (fun w u => w ∈ ws.map (·.1) ∧ lz (ps ++ [p]) w u = true) w := by
  obtain ⟨h0, h2⟩ := iJ H
  obtain ⟨_, _, w0, w1, hw, d0, d1, wn⟩ := H
  have hN : (ws.map (·.1)).length ≤ 12 := by rw [Hg]; exact w1
  have ok' : ∀ q ∈ ps ++ [p], hG (ws.map (·.1)) q := fun q hq => by
    rcases Ie.mp hq with hq | hq
    · exact b.ok q hq
    · rw [HK.mp hq]; exact hp
  have s0 : Cl.St (fun w => w ∈ ws.map (·.1) ∧ lh ps w p = true) (lz (ps ++ [p])) (ws.map (·.1)) ((ws.map (·.1)).filter fun w => lh ps w p) 0 :=
    ⟨wn.filter _, fun x hx => (Ic.mp hx).1, fun x hx => .own (Ic.mp hx), fun x hx => Ic.mpr hx, HJ _, fun i u hi => by omega⟩
  obtain ⟨f, a, e6, ew, nd, sub, iff⟩ := Bb (h := h) ok' (by omega) (by omega) (e7 := un) 1000 _ 0 un s0 (by omega)
  refine ⟨f, ?_, nd, sub, iff⟩
  have hf : f.length < 64 := by have := eJ f _ nd sub; omega
  unfold ck fc
  show (aJ _ _ [val h, val (.lst (ps.map Pa.pv)), val p.pv, un, un, un, un, un]).bind ff = _
  refine cx (ρ' := [val h, val (.lst (ps.map Pa.pv)), val p.pv, val (.lst ((ws.map (·.1)).map PV.str)), un, un, un, un]) ?_ ?_
  · have elc : bW [none] (fun ρ => ((ah aK (fun ρ => ag ρ 0) (fun _ => M.ret (.int 0))) ρ).bind bf) (aP 0) cU (ah aK (fun ρ => ag ρ 0) (fun _ => M.ret (.int 0))) [val h, val (.lst (ps.map Pa.pv)), val p.pv, un, un, un, un, un] = .ret ((ws.map (·.1)).map PV.str) := by
      unfold bW
      have hi : bf (.tup (ws.map fun p => .tup (.str p.1 :: p.2))) = .ret (ws.map fun p => .tup (.str p.1 :: p.2)) := rfl
      simp only [ah, bT, rZ, h0, hi]
      rw [Ig (by rw [Hg]; omega)]
      show jS _ _ _ (ws.map fun p => PV.tup (.str p.1 :: p.2)) [un] = _
      rw [nv (f := fun p : Str × List PV => PV.tup (.str p.1 :: p.2)) (I := fun ρ => ∃ e0, ρ = [e0]) (c := fun _ => true) (g := fun q => PV.str q.1) ws _ ⟨_, rfl⟩ (by
        rintro q _ _ ⟨e0, rfl⟩
        refine ⟨_, rfl, rfl, fun _ => ?_, _, rfl⟩
        show ah aK (fun ρ => ag ρ 0) (fun _ => M.ret (.int 0)) [val _] = _
        simp only [ah, bT, rZ, aK, vF, M.eV])]
      rw [List.filter_eq_self.mpr fun _ _ => rfl, Ip]
      rfl
    unfold aU aM
    rw [elc]
    rfl
  refine cx (ρ' := [val h, val (.lst (ps.map Pa.pv)), val p.pv, val (.lst ((ws.map (·.1)).map PV.str)), Ent.own (((ws.map (·.1)).filter fun w => lh ps w p).map PV.str), un, un, un]) ?_ ?_
  · have elc : bW [none, some 1, some 2] (fun ρ => ((fun ρ => ag ρ 3) ρ).bind bf) (aP 0) (bO (fun ρ => ((aa (fun ρ => ag ρ 1) (aa (fun ρ => ag ρ 2) (aa (fun ρ => ag ρ 0) (fun _ => M.ret [])))) ρ).bind dN)) (fun ρ => ag ρ 0) [val h, val (.lst (ps.map Pa.pv)), val p.pv, val (.lst ((ws.map (·.1)).map PV.str)), un, un, un, un] = .ret (((ws.map (·.1)).filter fun w => lh ps w p).map PV.str) := by
      unfold bW
      have hi : bf (.lst ((ws.map (·.1)).map PV.str)) = .ret ((ws.map (·.1)).map PV.str) := rfl
      simp only [bT, cu, rZ, hi]
      rw [Ig (by rw [Hg]; omega)]
      show jS _ _ _ ((ws.map (·.1)).map PV.str) [un, val (.lst (ps.map Pa.pv)), val p.pv] = _
      refine nv (I := fun ρ => ∃ e0, ρ = [e0, val (.lst (ps.map Pa.pv)), val p.pv]) (c := fun w => lh ps w p) (g := PV.str) (ws.map (·.1)) _ ⟨_, rfl⟩ ?_
      rintro w _ _ ⟨e0, rfl⟩
      refine ⟨[val (.str w), val (.lst (ps.map Pa.pv)), val p.pv], rfl, ?_, fun _ => rfl, _, rfl⟩
      simp only [bO, aa, bT, cu, rZ, Ca b.ok (show ps.length ≤ 1000 by omega)]
    unfold lg
    rw [elc]
    rfl
  refine cx (ρ' := E8 h (.lst (ps.map Pa.pv)) p.pv (ws.map (·.1)) ((ws.map (·.1)).filter fun w => lh ps w p) 0 un un) rfl ?_
  refine cx ew ?_
  have hfl : (ps.filter (same p)).length ≤ ps.length := List.length_filter_le _ _
  refine cx (ρ' := E8 h (.lst (ps.map Pa.pv)) p.pv (ws.map (·.1)) f a e6 (val (.lst ((qs.filter (same p)).map va)))) ?_ ?_
  · have elc : bW [none, some 2] (fun ρ => ((fun ρ => ag ρ 1) ρ).bind bf) (aP 0) (bO (ah (eE false) (fun ρ => ((aa (ah aK (fun ρ => ag ρ 0) (fun _ => M.ret (.int 0))) (aa (ah aK (fun ρ => ag ρ 0) (fun _ => M.ret (.int 3))) (fun _ => M.ret []))) ρ).bind aI) (fun ρ => ((aa (ah aK (fun ρ => ag ρ 1) (fun _ => M.ret (.int 0))) (aa (ah aK (fun ρ => ag ρ 1) (fun _ => M.ret (.int 3))) (fun _ => M.ret []))) ρ).bind aI))) (fun ρ => ((aa (ah aK (fun ρ => ag ρ 0) (fun _ => M.ret (.int 2))) (aa (ah aK (fun ρ => ag ρ 0) (fun _ => M.ret (.int 1))) (fun _ => M.ret []))) ρ).bind aI) (E8 h (.lst (ps.map Pa.pv)) p.pv (ws.map (·.1)) f a e6 un) = .ret ((ps.filter (same p)).map va) := by
      unfold bW
      have hi : bf (.lst (ps.map Pa.pv)) = .ret (ps.map Pa.pv) := rfl
      simp only [bT, cu, rZ, hi]
      rw [Ig (by rw [Hg]; omega)]
      show jS _ _ _ (ps.map Pa.pv) [un, val p.pv] = _
      refine nv (I := fun ρ => ∃ e0, ρ = [e0, val p.pv]) (c := same p) (g := va) ps _ ⟨_, rfl⟩ ?_
      rintro o _ _ ⟨e0, rfl⟩
      refine ⟨[val o.pv, val p.pv], rfl, ?_, fun _ => ?_, _, rfl⟩
      · simp only [bO, ah, aa, bT, cu, rZ, Dv, Dt, mE, EK]
        rfl
      · simp only [ah, aa, bT, cu, rZ, FY, Du, mE]
        rfl
    have es : tO [.lst ((ps.filter (same p)).map va)] = .ret ((qs.filter (same p)).map va) := by
      have e1 : (qs.filter (same p)).map va = qu ((ps.filter (same p)).map va) := by
        refine qa rQ _ _ ?_ (zN _) (((pm.filter _).map _).trans (uU _).symm)
        rw [List.pairwise_map]
        exact up.sublist List.filter_sublist
      rw [e1]
      have okq : ((ps.filter (same p)).map va).length < 64 ∧ ∀ z ∈ (ps.filter (same p)).map va, Dy z = true := by
        refine ⟨by rw [Hg]; omega, fun z hz => ?_⟩
        obtain ⟨o, ho, rfl⟩ := Hu.mp hz
        exact Il (b.nu o (Ic.mp ho).1)
      exact Ig okq
    unfold aU
    show M.bind (M.bind (M.bind (M.bind (M.bind (bW _ _ _ _ _ _) _) _) _) _) _ = _
    rw [elc]
    simp only [rZ]
    rw [es]
    rfl
  have hql : (qs.filter (same p)).length ≤ qs.length := List.length_filter_le _ _
  have hqs := pm.length_eq
  refine cx (ρ' := E8 h (.lst (ps.map Pa.pv)) p.pv (ws.map (·.1)) f a e6 (val (.lst (((qs.filter (same p)).filter (gtB p)).map fun o => PV.int o.mo)))) ?_ ?_
  · have elc : bW [none, none, some 2] (fun ρ => ((fun ρ => ag ρ 7) ρ).bind bf) (fj [0, 1]) (bO (ah qN (fun ρ => ((aa (fun ρ => ag ρ 0) (aa (fun ρ => ag ρ 1) (fun _ => M.ret []))) ρ).bind aI) (fun ρ => ((aa (ah aK (fun ρ => ag ρ 2) (fun _ => M.ret (.int 2))) (aa (ah aK (fun ρ => ag ρ 2) (fun _ => M.ret (.int 1))) (fun _ => M.ret []))) ρ).bind aI))) (fun ρ => ag ρ 0) (E8 h (.lst (ps.map Pa.pv)) p.pv (ws.map (·.1)) f a e6 (val (.lst ((qs.filter (same p)).map va)))) = .ret (((qs.filter (same p)).filter (gtB p)).map fun o => PV.int o.mo) := by
      unfold bW
      have hi : bf (.lst ((qs.filter (same p)).map va)) = .ret ((qs.filter (same p)).map va) := rfl
      simp only [bT, cu, rZ, hi]
      rw [Ig (by rw [Hg]; omega)]
      show jS _ _ _ ((qs.filter (same p)).map va) [un, un, val p.pv] = _
      refine nv (I := fun ρ => ∃ e0 e1, ρ = [e0, e1, val p.pv]) (c := gtB p) (g := fun o => PV.int o.mo) (qs.filter (same p)) _ ⟨_, _, rfl⟩ ?_
      rintro o _ _ ⟨e0, e1, rfl⟩
      refine ⟨_, Gv, ?_, fun _ => rfl, _, _, rfl⟩
      simp only [bO, ah, aa, bT, cu, rZ, FY, Du, mE, EE]
    unfold aU aM
    rw [elc]
    rfl
  refine fI (dS ?_)
  obtain ⟨r, er⟩ := xw p aV qs
  have es : qd [.lst (f.map PV.str)] = .ret ((dR f).map PV.str) := by
    show ((M.eV (strsOf (f.map PV.str))).bind fun zs => if zs.length < 64 then M.ret ((dR zs).map PV.str) else .fail) = _
    rw [jl]
    show (if f.length < 64 then M.ret ((dR f).map PV.str) else .fail) = _
    rw [Ig hf]
  have hc : (((qs.filter (same p)).filter (gtB p)).map fun o => PV.int o.mo).length + [PV.int (aV + 1)].length ≤ 100000 := by
    have := List.length_filter_le (gtB p) (qs.filter (same p))
    rw [Hg]
    show _ + 1 ≤ _
    omega
  have ad : df (.int aV) (.int 1) = .ret (.int (aV + 1)) := rfl
  have i0 : aK (.lst (.int (mB p aV qs) :: r)) (.int 0) = .ret (.int (mB p aV qs)) := by simp only [aK, vF, M.eV]
  simp only [Hq, List.map_nil, Ent.freeze, aM, gs, ah, aa, bT, cu, rZ, es, lb, Du, h2, ad, u7, Ig hc, er, i0, u6]
theorem wC {h : PV} {ws : List (Str × List PV)} {aV : Int} (H : fJ h ws aV) {qs : List Pa} {p : Pa} (b : Bk (ws.map (·.1)) qs) (hp : hG (ws.map (·.1)) p) (hl : qs.length ≤ 63) :
    ∃ f : List Str, dM [h, .tup (qs.map Pa.pv), p.pv] = .ret (.tup [.tup ((dR f).map PV.str), .int p.mo, .int (mB p aV qs)]) ∧ f.Nodup ∧ (∀ x ∈ f, x ∈ ws.map (·.1)) ∧ ∀ w, w ∈ f ↔ Cl.In (· ∈ gX (gZ qs) p) (fun w u => (w, some u) ∈ asks (gZ qs)) w := by
  obtain ⟨h0, h2⟩ := iJ H
  have w1 : ws.length ≤ 12 := by obtain ⟨_, _, _, w1, _⟩ := H; exact w1
  obtain ⟨f, e, nd, sub, iff⟩ := Ao b hp hl (by rw [Hg]; exact w1)
  refine ⟨f, ?_, nd, sub, iff⟩
  unfold dM gI
  show (cD _ [val h, val (.tup (qs.map Pa.pv)), val p.pv]).bind ff = _
  refine fI (dS ?_)
  simp only [Hq, List.map_nil, Ent.freeze, ah, aa, bT, cu, rZ, e, Du, Eo h2, u6]
theorem ED {N : List Str} {ps qs : List Pa} {p : Pa} (b : Bk N ps) (pm : qs.Perm ps) (hp : hG N p) (w : Str) : Cl.In (· ∈ gX (gZ qs) p) (fun w u => (w, some u) ∈ asks (gZ qs)) w ↔ Cl.In (fun w => w ∈ N ∧ lh ps w p = true) (fun w u => w ∈ N ∧ lz (ps ++ [p]) w u = true) w := by
  have hpr : ∀ w r, (w, r) ∈ gZ qs ↔ r ∈ aL ps w := fun w r => by
    rw [wq]
    unfold gZ
    rw [List.mem_flatMap, List.mem_flatMap]
    exact ⟨fun ⟨a, h1, h2⟩ => ⟨a, pm.mem_iff.mp h1, h2⟩, fun ⟨a, h1, h2⟩ => ⟨a, pm.mem_iff.mpr h1, h2⟩⟩
  have hN : ∀ w r, r ∈ aL ps w → w ∈ N := fun w r h => by
    rw [wq] at h
    obtain ⟨p', hp', h⟩ := List.mem_flatMap.mp h
    obtain ⟨r', hr, e⟩ := Hu.mp h
    injection e with e1 e2
    rw [← e1]
    cases p' with
    | rule n m z rs => exact (b.ok _ hp').2
    | read n m z i => cases hr
    | look n m z => cases hr
  have hask : ∀ w u, (w, some u) ∈ asks (gZ qs) ↔ ∃ r ∈ aL ps w, r.asks = some u := fun w u => by
    unfold asks
    rw [Hu]
    constructor
    · rintro ⟨⟨a, r⟩, hq, e⟩
      injection e with e1 e2
      have e1' : a = w := e1
      subst e1'
      exact ⟨r, (hpr _ _).mp hq, e2⟩
    · rintro ⟨r, hr, e⟩
      exact ⟨(w, r), (hpr _ _).mpr hr, by show (w, r.asks) = _; rw [e]⟩
  have hro : ∀ w, aL (ps ++ [p]) w = aL ps w ++ (if p.nm = w then p.rl else []) := fun w => by
    unfold aL
    rw [List.flatMap_append]
    simp
  have hown : ∀ w, w ∈ gX (gZ qs) p ↔ w ∈ N ∧ lh ps w p = true := fun w => by
    cases p with
    | rule n m z rs =>
      show w ∈ [z] ↔ w ∈ N ∧ (w == z) = true
      rw [HK, beq_iff_eq]
      exact ⟨fun e => ⟨e ▸ hp.2, e⟩, fun e => e.2⟩
    | read n m z i =>
      show w ∈ List.map _ (List.filter _ _) ↔ w ∈ N ∧ ((aL ps w).any fun r => r.of z) = true
      rw [Hu, List.any_eq_true]
      constructor
      · rintro ⟨⟨a, r⟩, hq, e⟩
        have e' : a = w := e
        subst e'
        obtain ⟨h1, h2⟩ := Ic.mp hq
        have := (hpr _ _).mp h1
        exact ⟨hN _ _ this, r, this, h2⟩
      · rintro ⟨_, r, hr, h2⟩
        exact ⟨(w, r), Ic.mpr ⟨(hpr _ _).mpr hr, h2⟩, rfl⟩
    | look n m z =>
      show w ∈ List.map _ (List.filter _ _) ↔ w ∈ N ∧ (w == z && (aL ps w).any fun r => r.lk) = true
      rw [Hu, HU, List.any_eq_true]
      constructor
      · rintro ⟨⟨a, r⟩, hq, e⟩
        have e' : a = w := e
        subst e'
        obtain ⟨h1, h2⟩ := Ic.mp hq
        have h2' : (r.lk && a == z) = true := h2
        rw [HU] at h2'
        have := (hpr _ _).mp h1
        exact ⟨hN _ _ this, h2'.2, r, this, h2'.1⟩
      · rintro ⟨_, h1, r, hr, h2⟩
        exact ⟨(w, r), Ic.mpr ⟨(hpr _ _).mpr hr, by show (r.lk && w == z) = true; rw [h1, h2]; rfl⟩, rfl⟩
  constructor
  · intro h
    induction h with
    | own h => exact .own ((hown _).mp h)
    | ask h _ ih =>
      obtain ⟨r, hr, e⟩ := (hask _ _).mp h
      refine .ask ⟨hN _ _ hr, ?_⟩ ih
      unfold lz
      rw [List.any_eq_true]
      exact ⟨r, by rw [hro]; exact List.mem_append_left _ hr, Il e⟩
  · intro h
    induction h with
    | own h => exact .own ((hown _).mpr h)
    | @ask w u h _ ih =>
      obtain ⟨h1, h2⟩ := h
      unfold lz at h2
      rw [List.any_eq_true] at h2
      obtain ⟨r, hr, e⟩ := h2
      rw [hro] at hr
      rcases Ie.mp hr with hr | hr
      · exact .ask ((hask _ _).mpr ⟨r, hr, of_decide_eq_true e⟩) ih
      · by_cases c : p.nm = w
        · rw [Ig c] at hr
          cases p with
          | rule n m z rs =>
            refine .own ?_
            show w ∈ [z]
            rw [HK]
            exact c.symm
          | read n m z i => cases hr
          | look n m z => cases hr
        · rw [Ih c] at hr; cases hr
theorem uy {h : PV} {ws : List (Str × List PV)} {aV : Int} (H : fJ h ws aV) {ps qs : List Pa} {p : Pa} (b : Bk (ws.map (·.1)) ps) (hp : hG (ws.map (·.1)) p) (hm : 0 ≤ p.mo ∧ p.mo ≤ 1000000) (hl : ps.length ≤ 63) (pm : qs.Perm ps) (up : qs.Pairwise fun p q => tR p < tR q) :
    ∃ (y : PV) (t : Str), dM [h, .tup (qs.map Pa.pv), p.pv] = .ret y ∧ ck [h, .lst (ps.map Pa.pv), p.pv] = .ret y ∧ gW [y] = .ret (.str t) := by
  obtain ⟨f, e1, n1, s1, i1⟩ := wC H (b.perm pm) hp (by rw [pm.length_eq]; exact hl)
  obtain ⟨f', e2, n2, s2, i2⟩ := CV H b hp hl pm up
  have hf : f.Perm f' := (List.perm_ext_iff_of_nodup n1 n2).mpr fun w => by rw [i1, i2]; exact ED b pm hp w
  rw [← rR hf] at e2
  have hw : ∀ z ∈ dR f, Wd z := fun z hz => by
    have := s1 z ((fC f).mem_iff.mp hz)
    obtain ⟨q, hq, rfl⟩ := Hu.mp this
    obtain ⟨_, _, _, _, hw, _⟩ := H
    exact (hw q hq).1
  have hfl : (dR f).length ≤ 12 := by
    rw [(fC f).length_eq]
    have := eJ f _ n1 s1
    rw [Hg] at this
    obtain ⟨_, _, _, w1, _⟩ := H
    omega
  have hnx : 0 ≤ mB p aV qs ∧ mB p aV qs ≤ 1000001 := by
    have hd : 1 ≤ aV ∧ aV ≤ 1000000 := by obtain ⟨_, _, _, _, _, d0, d1, _⟩ := H; exact ⟨d0, d1⟩
    have hq := (b.perm pm).mo
    clear e1 e2 i1 i2 up pm b
    induction qs with
    | nil => show 0 ≤ aV + 1 ∧ aV + 1 ≤ 1000001; omega
    | cons o qs ih =>
      show 0 ≤ (if (same p o && gtB p o) = true then o.mo else mB p aV qs) ∧ (if (same p o && gtB p o) = true then o.mo else mB p aV qs) ≤ 1000001
      split
      · have := hq o Hf
        omega
      · exact ih fun q hq' => hq q (Hj _ hq')
  have sm : p4 3100 2 (.tup [.tup ((dR f).map PV.str), .int p.mo, .int (mB p aV qs)]) := by
    refine (lC (c := 1011) (dp := 1) (n := 3) (fun z hz => ?_) (by simp)).mono (by omega) (by omega)
    simp only [Hr, Hs, or_false] at hz
    rcases hz with rfl | rfl | rfl
    · refine (lC (c := 82) (dp := 0) (n := 12) (fun z hz => ?_) (by rw [Hg]; exact hfl)).mono (by omega) (by omega)
      obtain ⟨x, hx, rfl⟩ := Hu.mp hz
      exact ss (hw x hx).sh
    · exact (si (by omega)).mono (by omega) (by omega)
    · exact (si (by omega)).mono (by omega) (by omega)
  obtain ⟨t, rt⟩ := wz sm rfl (by omega) (by omega)
  exact ⟨_, t, e1, e2, rt⟩
theorem um {bd : PV → ao → M ao} {mb : ao → M Fl} {I : ao → Prop} : ∀ (l : List PV) (ρ : ao), I ρ → (∀ y ∈ l, ∀ ρ, I ρ → ∃ ρ1 ρ2, bd y ρ = .ret ρ1 ∧ mb ρ1 = .ret (.nx ρ2) ∧ I ρ2) → ∃ ρ', eD bd mb l ρ = .ret (.nx ρ') ∧ I ρ'
  | [], ρ, h, _ => ⟨ρ, rfl, h⟩
  | y :: l, ρ, h, k => by
    obtain ⟨ρ1, ρ2, e1, e2, h2⟩ := k y Hf ρ h
    obtain ⟨ρ', e3, h3⟩ := um l ρ2 h2 fun y' hy => k y' (Hj _ hy)
    refine ⟨ρ', ?_, h3⟩
    unfold eD
    rw [e1, rZ, e2, rZ]
    exact e3
abbrev L8 (sc : Int) (h : PV) (l : List PV) (e5 e6 e7 : Ent) : ao := [un, val .bV, val (.int sc), val h, val (.lst l), e5, e6, e7]
noncomputable def Ft : ao → M Fl := (aJ (aU 7 (aM (gs (rD qe (fun ρ => ag ρ 4) (fun _ => M.ret none) (fun ρ => ((fun ρ => ag ρ 5) ρ).bind fun y => (ki y).bind fun i => M.ret (some i))) (rD qe (fun ρ => ag ρ 4) (fun ρ => ((ah df (fun ρ => ag ρ 5) (fun _ => M.ret (.int 1))) ρ).bind fun y => (ki y).bind fun i => M.ret (some i)) (fun _ => M.ret none)))))
    (i8 (bO (ah (eE true) (fun ρ => ((aa (fun ρ => ((aa (fun ρ => ag ρ 3) (aa (fun ρ => ((aa (fun ρ => ag ρ 7) (fun _ => M.ret [])) ρ).bind dE) (aa (fun ρ => ag ρ 6) (fun _ => M.ret [])))) ρ).bind dM) (fun _ => M.ret [])) ρ).bind gW) (fun ρ => ((aa (fun ρ => ((aa (fun ρ => ag ρ 3) (aa (fun ρ => ag ρ 7) (aa (fun ρ => ag ρ 6) (fun _ => M.ret [])))) ρ).bind ck) (fun _ => M.ret [])) ρ).bind gW)))
    (cD (fun _ => M.ret (.bl false)))
    (fun ρ => M.ret (.nx ρ))))
theorem yz (ps : List Pa) (i : Nat) (hi : i < ps.length) : jL (ps.map Pa.pv) none (some (i : Int)) ++ jL (ps.map Pa.pv) (some ((i : Int) + 1)) none = (ps.take i ++ ps.drop (i + 1)).map Pa.pv := by
  unfold jL
  rw [HT.hW, HT.jn, HT.hW, show ((i : Int) + 1) = ((i + 1 : Nat) : Int) by omega, HT.jn, Hg, List.drop_zero, Nat.min_eq_left (by omega), Nat.min_eq_left (by omega), Nat.sub_zero, Im, List.map_take, List.map_drop]
  congr 1
  rw [List.take_of_length_le]
  rw [List.length_drop, Hg]
  omega
theorem wy (ps : List Pa) (i : Nat) : (ps.take i ++ ps.drop (i + 1)).Sublist ps := by
  conv => rhs; rw [← List.take_append_drop i ps]
  refine List.Sublist.append (List.Sublist.refl _) ?_
  rw [show i + 1 = 1 + i by omega, Nat.add_comm 1 i, ← List.drop_drop]
  exact List.drop_sublist _ _
theorem Ep (t : Str) : eE true (.str t) (.str t) = .ret (.bl false) := by
  unfold eE
  rw [yk]
  show M.ret (PV.bl (xor true (t == t))) = _
  rw [Iu]
  rfl
theorem CA {h : PV} {ws : List (Str × List PV)} {aV sc : Int} (H : fJ h ws aV) {ps : List Pa} (b : Bk (ws.map (·.1)) ps) (hl : ps.length ≤ 60) {i : Nat} {p : Pa} (hi : ps[i]? = some p) (e7 : Ent) : ∃ e7', Ft (L8 sc h (ps.map Pa.pv) (val (.int i)) (val p.pv) e7) = .ret (.nx (L8 sc h (ps.map Pa.pv) (val (.int i)) (val p.pv) e7')) := by
  have il : i < ps.length := (Hm.mp hi).1
  have pm : p ∈ ps := List.mem_of_getElem? hi
  have hs := wy ps i
  have br := b.sub hs
  have hrl := hs.length_le
  obtain ⟨qs, eq, pq, uq⟩ := CM br
  obtain ⟨y, t, e1, e2, e3⟩ := uy H br (b.ok p pm) (b.mo p pm) (by omega) pq uq
  have ebk := AF br (by omega)
  rw [eq] at ebk
  refine ⟨val (.lst ((ps.take i ++ ps.drop (i + 1)).map Pa.pv)), ?_⟩
  unfold Ft aJ
  have ec := yz ps i il
  have s1 : qe (.lst (ps.map Pa.pv)) none (some (i : Int)) = .ret (.lst (jL (ps.map Pa.pv) none (some (i : Int)))) := rfl
  have s2 : qe (.lst (ps.map Pa.pv)) (some ((i : Int) + 1)) none = .ret (.lst (jL (ps.map Pa.pv) (some ((i : Int) + 1)) none)) := rfl
  have hz : (jL (ps.map Pa.pv) none (some (i : Int))).length + (jL (ps.map Pa.pv) (some ((i : Int) + 1)) none).length ≤ 100000 := by
    rw [← HI, ec, Hg]
    omega
  have eI : ∀ j : Int, ki (.int j) = .ret j := fun j => rfl
  have ad : df (.int i) (.int 1) = .ret (.int ((i : Int) + 1)) := rfl
  have st : aU 7 (aM (gs (rD qe (fun ρ => ag ρ 4) (fun _ => M.ret none) (fun ρ => ((fun ρ => ag ρ 5) ρ).bind fun y => (ki y).bind fun i => M.ret (some i))) (rD qe (fun ρ => ag ρ 4) (fun ρ => ((ah df (fun ρ => ag ρ 5) (fun _ => M.ret (.int 1))) ρ).bind fun y => (ki y).bind fun i => M.ret (some i)) (fun _ => M.ret none)))) (L8 sc h (ps.map Pa.pv) (val (.int i)) (val p.pv) e7) = .ret (.nx (L8 sc h (ps.map Pa.pv) (val (.int i)) (val p.pv) (val (.lst ((ps.take i ++ ps.drop (i + 1)).map Pa.pv))))) := by
    simp only [aU, aM, gs, rD, ah, bT, cu, rZ, eI, ad, s1, s2, Ig hz, ec]
    rfl
  rw [st, rZ]
  dsimp only
  rw [gL]
  simp only [bO, ah, aa, bT, cu, rZ, ebk, e1, e2, e3, Ep]
theorem CB {h : PV} {ws : List (Str × List PV)} {aV sc : Int} (H : fJ h ws aV) {p : Pa} {ps : List Pa} (b : Bk (ws.map (·.1)) (p :: ps)) : ∃ (y : PV) (t : Str), dM [h, .tup [], p.pv] = .ret y ∧ ck [h, .lst [], p.pv] = .ret y ∧ gW [y] = .ret (.str t) :=
  uy H (ps := []) (qs := []) ⟨(fun p hp => nomatch hp), (fun p hp => nomatch hp), (fun p hp => nomatch hp), List.Pairwise.nil⟩ (b.ok p Hf) (b.mo p Hf) (by simp) (.refl _) List.Pairwise.nil
theorem xI : (kL ((List.replicate 8 un).set 1 (.val .bV))).wp 1000000 fun f _ => f = .rt (.bl true) := by
  have g : Gen (kL ((List.replicate 8 un).set 1 (.val .bV))) 2200 (fun f => f = .rt (.bl true)) := by
    show Gen (kL [un, val .bV, un, un, un, un, un, un]) 2200 _
    unfold kL
    refine Gen.le (jz (c := 1) (d := 2100) (I := fun ρ => ∃ sc : Int, 1 ≤ sc ∧ sc ≤ 33333 ∧ ρ = [un, val .bV, val (.int sc), un, un, un, un, un]) ?_ ?_) (by decide)
    · simp only [aU, ah, aM, aa, bT, cu, rZ, Cq, af, M.bZ]
      refine Gen.le (Gen.bind (Gen.draw (by omega) (by omega)) (d := 0) ?_) (by decide)
      rintro _ ⟨d, rfl, k0, k1⟩
      obtain ⟨y, hy, e⟩ := d9 (l := [PV.int 1, PV.int 7, PV.int 33333]) k0 k1
      obtain ⟨q, rfl, q0, q1⟩ : ∃ q : Int, y = .int q ∧ 1 ≤ q ∧ q ≤ 33333 := by
        simp only [Hr, Hs, or_false] at hy
        rcases hy with rfl | rfl | rfl <;> exact ⟨_, rfl, by decide, by decide⟩
      exact Gen.eq (y := .nx _) (by simp only [aK, e, M.eV, rZ]; rfl) ⟨_, rfl, q, q0, q1, rfl⟩
    rintro _ ⟨sc, s0, s1, rfl⟩
    refine Gen.le (jz (c := 301) (d := 1700) (I := fun ρ => ∃ (h : PV) (ws : List (Str × List PV)) (aV : Int), fJ h ws aV ∧ ρ = [un, val .bV, val (.int sc), val h, un, un, un, un]) ?_ ?_) (by decide)
    · simp only [aU, ah, aM, aa, bT, cu, rZ, Cq, af, M.bZ]
      refine Gen.le (Gen.bind (Gen.draw (by omega) (by omega)) (d := 300) ?_) (by decide)
      rintro _ ⟨d, rfl, k0, k1⟩
      obtain ⟨y, hy, e⟩ := d9 (l := [PV.int 3, PV.int 6, PV.int 12]) k0 k1
      obtain ⟨q, rfl, q0, q1⟩ : ∃ q : Int, y = .int q ∧ 1 ≤ q ∧ q ≤ 12 := by
        simp only [Hr, Hs, or_false] at hy
        rcases hy with rfl | rfl | rfl <;> exact ⟨_, rfl, by decide, by decide⟩
      simp only [aK, e, M.eV, rZ]
      refine Gen.le (Gen.bind (xY q0 q1 s0 s1) (d := 0) ?_) (by decide)
      rintro h ⟨ws, aV, H⟩
      exact Gen.eq (y := .nx _) rfl ⟨_, rfl, h, ws, aV, H, rfl⟩
    rintro _ ⟨h, ws, aV, H, rfl⟩
    refine Gen.le (jz (c := 1600) (d := 100) (I := fun ρ => ∃ (p : Pa) (ps : List Pa), (p :: ps).length ≤ 20 ∧ Bk (ws.map (·.1)) (p :: ps) ∧ ρ = L8 sc h ((p :: ps).map Pa.pv) un un un) ?_ ?_) (by decide)
    · simp only [aU, ah, aa, bT, cu, rZ, af, M.bZ]
      refine Gen.le (Gen.bind (Gen.draw (by omega) (by omega)) (d := 1599) ?_) (by decide)
      rintro _ ⟨k, rfl, k0, k1⟩
      have ad : df (.int 1) (.int k) = .ret (.int (1 + k)) := rfl
      simp only [ad, rZ]
      refine Gen.le (Gen.bind (vi (k := 1 + k) H s0 s1 (by omega) (by omega)) (d := 0) ?_) (by omega)
      rintro _ ⟨l, ns, rfl, hl, hg⟩
      obtain ⟨ps, rfl, b⟩ := G8 hg.1
      rw [Hg] at hl
      cases ps with
      | nil => simp at hl; omega
      | cons p ps => exact Gen.eq (y := .nx _) rfl ⟨_, rfl, p, ps, by omega, b, rfl⟩
    rintro _ ⟨p, ps, hl, b, rfl⟩
    refine Gen.le (jz (c := 0) (d := 0) (I := fun ρ => ∃ e5 e6 e7, ρ = L8 sc h ((p :: ps).map Pa.pv) e5 e6 e7) ?_ ?_) (by decide)
    · obtain ⟨ρ', e1, hI⟩ := um (bd := fj [5, 6]) (mb := Ft) (I := fun ρ => ∃ e5 e6 e7, ρ = L8 sc h ((p :: ps).map Pa.pv) e5 e6 e7) (jD ((p :: ps).map Pa.pv)) (L8 sc h ((p :: ps).map Pa.pv) un un un) ⟨_, _, _, rfl⟩ (by
        rintro y hy _ ⟨e5, e6, e7, rfl⟩
        unfold jD at hy
        obtain ⟨i, hi, rfl⟩ := List.mem_mapIdx.mp hy
        rw [Hg] at hi
        have hp : (p :: ps)[i]? = some (p :: ps)[i] := Hd hi
        obtain ⟨e7', e⟩ := CA (sc := sc) H b (by omega) hp e7
        rw [List.getElem_map]
        exact ⟨_, _, rfl, e, _, _, _, rfl⟩)
      exact vE (show el _ (fj [5, 6]) Ft _ = _ from e1) hI
    rintro _ ⟨e5, e6, e7, rfl⟩
    obtain ⟨y, t, r1, r2, r3⟩ := CB (sc := sc) H b
    have i0 : aK (.lst ((p :: ps).map Pa.pv)) (.int 0) = .ret p.pv := by simp only [aK, Hq, vF, M.eV]
    refine Gen.eq (y := .rt (.bl true)) ?_ rfl
    unfold aJ
    rw [show aU 6 (ah aK (fun ρ => ag ρ 4) (fun _ => M.ret (.int 0))) (L8 sc h ((p :: ps).map Pa.pv) e5 e6 e7) = .ret (.nx (L8 sc h ((p :: ps).map Pa.pv) e5 (val p.pv) e7)) by
      simp only [aU, ah, bT, cu, rZ, i0]
      rfl, rZ]
    refine dS ?_
    have et : eE false (.str t) (.str t) = .ret (.bl true) := by rw [sU, Iu]
    show ah (eE false) _ _ [_, _, _, val h, val (.lst ((p :: ps).map Pa.pv)), _, val p.pv, _] = _
    simp only [ah, aa, aM, bT, cu, rZ, Eu, Cr, r1, r2, r3, et]
  exact M.wp_mono (g.h 1000000 (by decide)) fun f n h => h.2
theorem all_mk {l : PySem.W.OpenLaw} {w : World} {K : Frag} {h : Heap} {mg : Str → Option Value} {q : Program} {fa a_next_moment a_ruled a_hang_straight a_hanging a_reach awstart awpick awword awwords awhill awmoment awrule awnumber awpages awbook awrules_of awown awdue a_law cb_law_book tb_law_book : Addr} (X : K.In h) (G : h.Ns mainGlobals mg) (hfa : mg "law" = some (.ref fa))
    {od0 an0 od1 an1 od2 an2 od3 an3 od4 an4 od5 an5 od6 an6 od7 an7 od8 an8 od9 an9 od10 an10 od11 an11 od12 an12 od13 an13 od14 an14 od15 an15 od16 an16 od17 an17 od18 an18 : Option Addr} {sl0 sl1 sl2 rD sl4 sl5 sl6 sl7 sl8 sl9 sl10 sl11 sl12 sl13 sl14 sl15 sl16 sl17 sl18 : Array (Option Value)} {oc0 kV0 dc0 pm0 cd0 ct0 oc1 kV1 dc1 pm1 cd1 ct1 oc2 kV2 dc2 pm2 cd2 ct2 oc3 kV3 dc3 pm3 cd3 ct3 oc4 kV4 dc4 pm4 cd4 ct4 oc5 kV5 dc5 pm5 cd5 ct5 oc6 kV6 dc6 pm6 cd6 ct6 oc7 kV7 dc7 pm7 cd7 ct7 oc8 kV8 dc8 pm8 cd8 ct8 oc9 kV9 dc9 pm9 cd9 ct9 oc10 kV10 dc10 pm10 cd10 ct10 oc11 kV11 dc11 pm11 cd11 ct11 oc12 kV12 dc12 pm12 cd12 ct12 oc13 kV13 dc13 pm13 cd13 ct13 oc14 kV14 dc14 pm14 cd14 ct14 oc15 kV15 dc15 pm15 cd15 ct15 oc16 kV16 dc16 pm16 cd16 ct16 oc17 kV17 dc17 pm17 cd17 ct17 oc18 kV18 dc18 pm18 cd18 ct18 : Value}
    (x0 : nsIn K mainGlobals "next_moment" = some (some (.ref a_next_moment))) (l0 : K.lookup a_next_moment = some ⟨oc0, od0, .func (fnOf "next_moment" "next_moment" (bA bH) (aw bH) (ak bH) .none kV0 dc0 pm0 an0 cd0 ct0), sl0⟩) (c0 : codeIn K cd0 "next_moment" = true) (k0 : keepIn K (.ref a_next_moment) = true)
    (x1 : nsIn K mainGlobals "ruled" = some (some (.ref a_ruled))) (l1 : K.lookup a_ruled = some ⟨oc1, od1, .func (fnOf "ruled" "ruled" (bA eK) (aw eK) (ak eK) .none kV1 dc1 pm1 an1 cd1 ct1), sl1⟩) (c1 : codeIn K cd1 "ruled" = true) (k1 : keepIn K (.ref a_ruled) = true)
    (x2 : nsIn K mainGlobals "hang_straight" = some (some (.ref a_hang_straight))) (l2 : K.lookup a_hang_straight = some ⟨oc2, od2, .func (fnOf "hang_straight" "hang_straight" (bA aW) (aw aW) (ak aW) .none kV2 dc2 pm2 an2 cd2 ct2), sl2⟩) (c2 : codeIn K cd2 "hang_straight" = true) (k2 : keepIn K (.ref a_hang_straight) = true)
    (x3 : nsIn K mainGlobals "hanging" = some (some (.ref a_hanging))) (l3 : K.lookup a_hanging = some ⟨oc3, od3, .func (fnOf "hanging" "hanging" (bA cM) (aw cM) (ak cM) .none kV3 dc3 pm3 an3 cd3 ct3), rD⟩) (c3 : codeIn K cd3 "hanging" = true) (k3 : keepIn K (.ref a_hanging) = true)
    (x4 : nsIn K mainGlobals "reach" = some (some (.ref a_reach))) (l4 : K.lookup a_reach = some ⟨oc4, od4, .func (fnOf "reach" "reach" (bA fh) (aw fh) (ak fh) .none kV4 dc4 pm4 an4 cd4 ct4), sl4⟩) (c4 : codeIn K cd4 "reach" = true) (k4 : keepIn K (.ref a_reach) = true)
    (x5 : nsIn K mainGlobals "_law_start" = some (some (.ref awstart))) (l5 : K.lookup awstart = some ⟨oc5, od5, .func (fnOf "_law_start" "_law_start" (bA cR) (aw cR) (ak cR) .none kV5 dc5 pm5 an5 cd5 ct5), sl5⟩) (c5 : codeIn K cd5 "_law_start" = true) (k5 : keepIn K (.ref awstart) = true)
    (x6 : nsIn K mainGlobals "_law_pick" = some (some (.ref awpick))) (l6 : K.lookup awpick = some ⟨oc6, od6, .func (fnOf "_law_pick" "_law_pick" (bA eU) (aw eU) (ak eU) .none kV6 dc6 pm6 an6 cd6 ct6), sl6⟩) (c6 : codeIn K cd6 "_law_pick" = true) (k6 : keepIn K (.ref awpick) = true)
    (x7 : nsIn K mainGlobals "_law_word" = some (some (.ref awword))) (l7 : K.lookup awword = some ⟨oc7, od7, .func (fnOf "_law_word" "_law_word" (bA bM) (aw bM) (ak bM) .none kV7 dc7 pm7 an7 cd7 ct7), sl7⟩) (c7 : codeIn K cd7 "_law_word" = true) (k7 : keepIn K (.ref awword) = true)
    (x8 : nsIn K mainGlobals "_law_words" = some (some (.ref awwords))) (l8 : K.lookup awwords = some ⟨oc8, od8, .func (fnOf "_law_words" "_law_words" (bA cc) (aw cc) (ak cc) .none kV8 dc8 pm8 an8 cd8 ct8), sl8⟩) (c8 : codeIn K cd8 "_law_words" = true) (k8 : keepIn K (.ref awwords) = true)
    (x9 : nsIn K mainGlobals "_law_hill" = some (some (.ref awhill))) (l9 : K.lookup awhill = some ⟨oc9, od9, .func (fnOf "_law_hill" "_law_hill" (bA cn) (aw cn) (ak cn) .none kV9 dc9 pm9 an9 cd9 ct9), sl9⟩) (c9 : codeIn K cd9 "_law_hill" = true) (k9 : keepIn K (.ref awhill) = true)
    (x10 : nsIn K mainGlobals "_law_moment" = some (some (.ref awmoment))) (l10 : K.lookup awmoment = some ⟨oc10, od10, .func (fnOf "_law_moment" "_law_moment" (bA bP) (aw bP) (ak bP) .none kV10 dc10 pm10 an10 cd10 ct10), sl10⟩) (c10 : codeIn K cd10 "_law_moment" = true) (k10 : keepIn K (.ref awmoment) = true)
    (x11 : nsIn K mainGlobals "_law_rule" = some (some (.ref awrule))) (l11 : K.lookup awrule = some ⟨oc11, od11, .func (fnOf "_law_rule" "_law_rule" (bA cE) (aw cE) (ak cE) .none kV11 dc11 pm11 an11 cd11 ct11), sl11⟩) (c11 : codeIn K cd11 "_law_rule" = true) (k11 : keepIn K (.ref awrule) = true)
    (x12 : nsIn K mainGlobals "_law_number" = some (some (.ref awnumber))) (l12 : K.lookup awnumber = some ⟨oc12, od12, .func (fnOf "_law_number" "_law_number" (bA bz) (aw bz) (ak bz) .none kV12 dc12 pm12 an12 cd12 ct12), sl12⟩) (c12 : codeIn K cd12 "_law_number" = true) (k12 : keepIn K (.ref awnumber) = true)
    (x13 : nsIn K mainGlobals "_law_pages" = some (some (.ref awpages))) (l13 : K.lookup awpages = some ⟨oc13, od13, .func (fnOf "_law_pages" "_law_pages" (bA bJ) (aw bJ) (ak bJ) .none kV13 dc13 pm13 an13 cd13 ct13), sl13⟩) (c13 : codeIn K cd13 "_law_pages" = true) (k13 : keepIn K (.ref awpages) = true)
    (x14 : nsIn K mainGlobals "_law_book" = some (some (.ref awbook))) (l14 : K.lookup awbook = some ⟨oc14, od14, .func (fnOf "_law_book" "_law_book" (bA cp) (aw cp) (ak cp) .none kV14 dc14 pm14 an14 cd14 ct14), sl14⟩) (c14 : codeIn K cd14 "_law_book" = true) (k14 : keepIn K (.ref awbook) = true)
    (x15 : nsIn K mainGlobals "_law_rules_of" = some (some (.ref awrules_of))) (l15 : K.lookup awrules_of = some ⟨oc15, od15, .func (fnOf "_law_rules_of" "_law_rules_of" (bA bw) (aw bw) (ak bw) .none kV15 dc15 pm15 an15 cd15 ct15), sl15⟩) (c15 : codeIn K cd15 "_law_rules_of" = true) (k15 : keepIn K (.ref awrules_of) = true)
    (x16 : nsIn K mainGlobals "_law_own" = some (some (.ref awown))) (l16 : K.lookup awown = some ⟨oc16, od16, .func (fnOf "_law_own" "_law_own" (bA cA) (aw cA) (ak cA) .none kV16 dc16 pm16 an16 cd16 ct16), sl16⟩) (c16 : codeIn K cd16 "_law_own" = true) (k16 : keepIn K (.ref awown) = true)
    (x17 : nsIn K mainGlobals "_law_due" = some (some (.ref awdue))) (l17 : K.lookup awdue = some ⟨oc17, od17, .func (fnOf "_law_due" "_law_due" (bA bU) (aw bU) (ak bU) .none kV17 dc17 pm17 an17 cd17 ct17), sl17⟩) (c17 : codeIn K cd17 "_law_due" = true) (k17 : keepIn K (.ref awdue) = true)
    (x18 : nsIn K mainGlobals "law" = some (some (.ref a_law))) (l18 : K.lookup a_law = some ⟨oc18, od18, .func (fnOf "law" "law" (bA gk) (aw gk) (ak gk) .none kV18 dc18 pm18 an18 cd18 ct18), sl18⟩) (c18 : codeIn K cd18 "law" = true) (k18 : keepIn K (.ref a_law) = true)
    (z0 : nsIn K mainGlobals "len" = some none)
    (z1 : nsIn K mainGlobals "abs" = some none)
    (z2 : nsIn K mainGlobals "any" = some none)
    (z3 : nsIn K mainGlobals "list" = some none)
    (z4 : nsIn K mainGlobals "range" = some none)
    (z5 : nsIn K mainGlobals "int" = some none)
    (z6 : nsIn K mainGlobals "tuple" = some none)
    (z7 : nsIn K mainGlobals "max" = some none)
    (z8 : nsIn K mainGlobals "min" = some none)
    (z9 : nsIn K mainGlobals "sorted" = some none)
    (z10 : nsIn K mainGlobals "enumerate" = some none)
    (z11 : nsIn K mainGlobals "reversed" = some none)
    (z12 : nsIn K mainGlobals "repr" = some none)
    {ov14 : Value} {oo14 : Option Addr} {fv14 : Array Value} {os14 : Array (Option Value)} (tc14 : cd14 = .ref cb_law_book) (tv14 : K.lookup cb_law_book = some ⟨ov14, oo14, .fields fv14, os14⟩) (tw14 : fv14[11]? = some (Value.ref tb_law_book)) (tt14 : PySem.W.tabIn K "_law_book" = some (cb_law_book, tb_law_book)) (th14 : PySem.W.codeHdIn K cb_law_book tb_law_book = true) (tn14 : K.lookup tb_law_book = none) (tr14 : ((recsOf q).find? fun r => r.name == ("_law_book" : Str)).isSome = true) :
    ∃ (fd : FuncData) (ts : List (Str × Addr × Addr)), (∀ e ∈ ts, PySem.W.tabIn K e.1 = some e.2 ∧ K.lookup e.2.2 = none ∧ ((recsOf q).find? fun r => r.name == e.1).isSome = true) ∧ (∀ (s : Shared) (v : Value), BindsTo s fd ⟨[v], []⟩ [("_law_script", v)]) ∧ ∀ base : Heap, K.In base → base.Ns mainGlobals mg → AM base mg → bu l.prog w K mg base dF 5 fa fd ["_law_script"] (jY K (ts.map (·.2.2))) := by
  subst tc14
  have e := hfa.symm.trans (Ib X G x18)
  cases e
  have F0 := cW (st := bH) l0 c0 k0
  have b0 := F0.binds (ps := ["hill", "book", "page"]) fun _ _ _ _ _ _ us hl => match us, hl with | [_, _, _], _ => rfl
  have F1 := cW (st := eK) l1 c1 k1
  have b1 := F1.binds (ps := ["book"]) fun _ _ _ _ _ _ us hl => match us, hl with | [_], _ => rfl
  have F2 := cW (st := aW) l2 c2 k2
  have b2 := F2.binds (ps := ["pairs", "page"]) fun _ _ _ _ _ _ us hl => match us, hl with | [_, _], _ => rfl
  have F3 := cW (st := cM) l3 c3 k3
  have b3 := F3.binds (ps := ["book", "page"]) fun _ _ _ _ _ _ us hl => match us, hl with | [_, _], _ => rfl
  have F4 := cW (st := fh) l4 c4 k4
  have b4 := F4.binds (ps := ["hill", "book", "page"]) fun _ _ _ _ _ _ us hl => match us, hl with | [_, _, _], _ => rfl
  have F5 := cW (st := cR) l5 c5 k5
  have b5 := F5.binds (ps := ["_law_script"]) fun _ _ _ _ _ _ us hl => match us, hl with | [_], _ => rfl
  have F6 := cW (st := eU) l6 c6 k6
  have b6 := F6.binds (ps := ["_law_state", "_law_many"]) fun _ _ _ _ _ _ us hl => match us, hl with | [_, _], _ => rfl
  have F7 := cW (st := bM) l7 c7 k7
  have b7 := F7.binds (ps := ["_law_state", "_law_taken"]) fun _ _ _ _ _ _ us hl => match us, hl with | [_, _], _ => rfl
  have F8 := cW (st := cc) l8 c8 k8
  have b8 := F8.binds (ps := ["_law_state", "_law_many"]) fun _ _ _ _ _ _ us hl => match us, hl with | [_, _], _ => rfl
  have F9 := cW (st := cn) l9 c9 k9
  have b9 := F9.binds (ps := ["_law_state", "_law_most", "_law_scale"]) fun _ _ _ _ _ _ us hl => match us, hl with | [_, _, _], _ => rfl
  have F10 := cW (st := bP) l10 c10 k10
  have b10 := F10.binds (ps := ["_law_state", "_law_hill_here", "_law_scale"]) fun _ _ _ _ _ _ us hl => match us, hl with | [_, _, _], _ => rfl
  have F11 := cW (st := cE) l11 c11 k11
  have b11 := F11.binds (ps := ["_law_state", "_law_hill_here", "_law_posts", "_law_scale"]) fun _ _ _ _ _ _ us hl => match us, hl with | [_, _, _, _], _ => rfl
  have F12 := cW (st := bz) l12 c12 k12
  have b12 := F12.binds (ps := ["_law_state", "_law_taken"]) fun _ _ _ _ _ _ us hl => match us, hl with | [_, _], _ => rfl
  have F13 := cW (st := bJ) l13 c13 k13
  have b13 := F13.binds (ps := ["_law_state", "_law_hill_here", "_law_scale", "_law_many"]) fun _ _ _ _ _ _ us hl => match us, hl with | [_, _, _, _], _ => rfl
  have F14 := cW (st := cp) l14 c14 k14
  have b14 := F14.binds (ps := ["_law_pages_here"]) fun _ _ _ _ _ _ us hl => match us, hl with | [_], _ => rfl
  have F15 := cW (st := bw) l15 c15 k15
  have b15 := F15.binds (ps := ["_law_pages_here", "_law_w"]) fun _ _ _ _ _ _ us hl => match us, hl with | [_, _], _ => rfl
  have F16 := cW (st := cA) l16 c16 k16
  have b16 := F16.binds (ps := ["_law_rest", "_law_page", "_law_w"]) fun _ _ _ _ _ _ us hl => match us, hl with | [_, _, _], _ => rfl
  have F17 := cW (st := bU) l17 c17 k17
  have b17 := F17.binds (ps := ["_law_hill_here", "_law_rest", "_law_page"]) fun _ _ _ _ _ _ us hl => match us, hl with | [_, _, _], _ => rfl
  have F18 := cW (st := gk) l18 c18 k18
  have b18 := F18.binds (ps := ["_law_script"]) fun _ _ _ _ _ _ us hl => match us, hl with | [_], _ => rfl
  have T : Txt K mg _ _ _ _ _ _ _ _ _ _ _ _ _ _ _ _ _ _ _ cb_law_book tb_law_book _ _ _ _ _ _ _ _ _ _ _ _ _ _ _ _ _ _ _ := ⟨F0, Ib X G x0, b0, F1, Ib X G x1, b1, F2, Ib X G x2, b2, F3, Ib X G x3, b3, F4, Ib X G x4, b4, F5, Ib X G x5, b5, F6, Ib X G x6, b6, F7, Ib X G x7, b7, F8, Ib X G x8, b8, F9, Ib X G x9, b9, F10, Ib X G x10, b10, F11, Ib X G x11, b11, F12, Ib X G x12, b12, F13, Ib X G x13, b13, F14, Ib X G x14, b14, F15, Ib X G x15, b15, F16, Ib X G x16, b16, F17, Ib X G x17, b17, F18, Ib X G x18, b18, Ia X G z0, Ia X G z1, Ia X G z2, Ia X G z3, Ia X G z4, Ia X G z5, Ia X G z6, Ia X G z7, Ia X G z8, Ia X G z9, Ia X G z10, Ia X G z11, Ia X G z12, ⟨⟨_, _, _, _, _, _, _, _, rfl, l14, c14⟩, th14⟩⟩
  refine ⟨fnOf "law" "law" (bA gk) (aw gk) (ak gk) .none kV18 dc18 pm18 an18 cd18 ct18, [("_law_book", cb_law_book, tb_law_book)], ?_, fun s v => .of_eq rfl, fun base kb _ hB => ?_⟩
  · intro e he
    simp only [Hr, Hs, or_false] at he
    rcases he with rfl
    · exact ⟨tt14, tn14, tr14⟩
  show bu _ _ _ _ _ _ _ _ _ _ (jY K [tb_law_book])
  have av := vm (φ := cH tb_law_book K) (zU (P := l.prog) (w := w) (base := base) T)
  have iy := xt (P := l.prog) (w := w) (base := base) T
  have gc := mz (P := l.prog) (w := w) (base := base) T 
  have pU := xu (P := l.prog) (w := w) (base := base) T 
  have fv := j9 (P := l.prog) (w := w) (base := base) T 
  have kG := sk (P := l.prog) (w := w) (base := base) T pU fv
  have lS := xv (P := l.prog) (w := w) (base := base) T kG gc
  have jc := qv (P := l.prog) (w := w) (base := base) T av
  have dB := oW (P := l.prog) (w := w) (base := base) T jc
  have je := qx (P := l.prog) (w := w) (base := base) T dB av
  have gU := nr (P := l.prog) (w := w) (base := base) T av
  have jd := qw (P := l.prog) (w := w) (base := base) T av
  have gT := nk (P := l.prog) (w := w) (base := base) T av
  have iz := oX (P := l.prog) (w := w) (base := base) T dB av gU gT jd
  have jf := qy (P := l.prog) (w := w) (base := base) T kb hB 
  have cO := lj (P := l.prog) (w := w) (base := base) T 
  have kF := sg (P := l.prog) (w := w) (base := base) T cO
  have iM := sj (P := l.prog) (w := w) (base := base) T kF cO
  exact Cj T iy je iz av lS iM jf xI
theorem walk {l : PySem.W.OpenLaw} {q : Program} {loose : List Str} {XP : (Str → Option Value) → Heap → Prop} {YP : World → Heap → Prop} {d : DefRec} {K : Params → Frag} (hn : l.most = some 63) (hdf : d.params.defaults = [])
    (hY : ∀ (w : World) (h : Heap), YP w h → (K w.params).In h)
    (F : ∀ (w : World) (mg : Str → Option Value) (fa : Addr) (h : Heap), (K w.params).In h → h.Ns mainGlobals mg → mg d.name = some (.ref fa) →
      ∃ (fd : FuncData) (ts : List (Str × Addr × Addr)), (∀ e ∈ ts, PySem.W.tabIn (K w.params) e.1 = some e.2 ∧ (K w.params).lookup e.2.2 = none ∧ ((recsOf q).find? fun r => r.name == e.1).isSome = true) ∧ (∀ (s : Shared) (u : Value), BindsTo s fd ⟨[u], []⟩ [("_law_script", u)]) ∧
        ∀ base : Heap, (K w.params).In base → base.Ns mainGlobals mg → AM base mg → bu l.prog w (K w.params) mg base dF 5 fa fd ["_law_script"] (jY (K w.params) (ts.map (·.2.2)))) :
    PySem.W.WalkO q loose XP YP l.row.toRowW d [] (fun f vs => PySem.call f vs) :=
  L2.uG (n := 63) (k := 5) (x := "_law_script") (CX := fun _ => dF) (sp := fun w tbs => jY (K w.params) tbs) hn (by decide) hdf ⟨rfl, by decide, by decide, rfl⟩ hY F (fun _ _ a ns tbs hl ht hS => ⟨a, ns, rfl, hS, hl, ht, fun _ => rfl⟩) fun _ _ _ _ _ z => z
end K54
end
open PySem PySem.W PyProof.Rows
set_option maxRecDepth 100000 in
set_option maxHeartbeats 0 in
theorem PySem.Challenge.cw_homeslopes_k54_reach_holds : PySem.Challenge.rw_homeslopes_k54_reach.Holds := by
  w_on; o_law; k_head; (case hw => w_witness2)
  k_fill
  refine K54.walk (l := PySem.Challenge.rw_homeslopes_k54_reach) rfl rfl (fun w h Y => PySem.W.km_in_of Y) ?F
  case F =>
    intro w mg fa h KX G hmg
    refine' K54.all_mk KX G hmg ?x0 ?l0 ?c0 ?k0 ?x1 ?l1 ?c1 ?k1 ?x2 ?l2 ?c2 ?k2 ?x3 ?l3 ?c3 ?k3 ?x4 ?l4 ?c4 ?k4 ?x5 ?l5 ?c5 ?k5 ?x6 ?l6 ?c6 ?k6 ?x7 ?l7 ?c7 ?k7 ?x8 ?l8 ?c8 ?k8 ?x9 ?l9 ?c9 ?k9 ?x10 ?l10 ?c10 ?k10 ?x11 ?l11 ?c11 ?k11 ?x12 ?l12 ?c12 ?k12 ?x13 ?l13 ?c13 ?k13 ?x14 ?l14 ?c14 ?k14 ?x15 ?l15 ?c15 ?k15 ?x16 ?l16 ?c16 ?k16 ?x17 ?l17 ?c17 ?k17 ?x18 ?l18 ?c18 ?k18 ?z0 ?z1 ?z2 ?z3 ?z4 ?z5 ?z6 ?z7 ?z8 ?z9 ?z10 ?z11 ?z12   ?tc14 ?tv14 ?tw14 ?tt14 ?th14 ?tn14 ?tr14
    (case x0 => k_is); (case l0 => k_is); (case c0 => k_is); (case k0 => k_is)
    (case x1 => k_is); (case l1 => k_is); (case c1 => k_is); (case k1 => k_is)
    (case x2 => k_is); (case l2 => k_is); (case c2 => k_is); (case k2 => k_is)
    (case x3 => k_is); (case l3 => k_is); (case c3 => k_is); (case k3 => k_is)
    (case x4 => k_is); (case l4 => k_is); (case c4 => k_is); (case k4 => k_is)
    (case x5 => k_is); (case l5 => k_is); (case c5 => k_is); (case k5 => k_is)
    (case x6 => k_is); (case l6 => k_is); (case c6 => k_is); (case k6 => k_is)
    (case x7 => k_is); (case l7 => k_is); (case c7 => k_is); (case k7 => k_is)
    (case x8 => k_is); (case l8 => k_is); (case c8 => k_is); (case k8 => k_is)
    (case x9 => k_is); (case l9 => k_is); (case c9 => k_is); (case k9 => k_is)
    (case x10 => k_is); (case l10 => k_is); (case c10 => k_is); (case k10 => k_is)
    (case x11 => k_is); (case l11 => k_is); (case c11 => k_is); (case k11 => k_is)
    (case x12 => k_is); (case l12 => k_is); (case c12 => k_is); (case k12 => k_is)
    (case x13 => k_is); (case l13 => k_is); (case c13 => k_is); (case k13 => k_is)
    (case x14 => k_is); (case l14 => k_is); (case c14 => k_is); (case k14 => k_is)
    (case x15 => k_is); (case l15 => k_is); (case c15 => k_is); (case k15 => k_is)
    (case x16 => k_is); (case l16 => k_is); (case c16 => k_is); (case k16 => k_is)
    (case x17 => k_is); (case l17 => k_is); (case c17 => k_is); (case k17 => k_is)
    (case x18 => k_is); (case l18 => k_is); (case c18 => k_is); (case k18 => k_is)
    (case z0 => k_is)
    (case z1 => k_is)
    (case z2 => k_is)
    (case z3 => k_is)
    (case z4 => k_is)
    (case z5 => k_is)
    (case z6 => k_is)
    (case z7 => k_is)
    (case z8 => k_is)
    (case z9 => k_is)
    (case z10 => k_is)
    (case z11 => k_is)
    (case z12 => k_is)
    (case tc14 => rfl); (case tv14 => k_is); (case tw14 => rfl); (case tt14 => kernel_rfl); (case th14 => kernel_rfl); (case tn14 => kernel_rfl); (case tr14 => rfl)
