import PyProof.Rows.All
import PyProof.StrLawsIdx
import Wide.All
import OpenK.AllK
import Wide.FinOn
import Lean
import PyProof.EqAt
import PyProof.EqKinds
import PyProof.TupleCall
import PyProof.NeKinds
import PySem.Challenge.RW_homeslopes_k65_books_written_and_read
set_option Elab.async false
set_option linter.all false
set_option maxRecDepth 100000
set_option maxHeartbeats 4000000
set_option genSizeOf false
set_option genInjectivity false
noncomputable section
open PySem PySem.Spec PyProof.Rows
open PySem.W (Frag nsIn keepIn codeIn fnOf)
abbrev Lx:=@List.getElem?_eq_getElem
abbrev Ly:=@wpAny_bind
abbrev Lz:=@List.mem_cons_self
abbrev LA:=@List.length_map
abbrev LB:=@Heap.get?_push_of_some
abbrev LC:=@List.mem_cons_of_mem
abbrev LD:=@wpAny_pure
abbrev LF:=@List.size_toArray
abbrev LG:=@List.getElem?_eq_some_iff
abbrev LH:=@Nat.le_refl
abbrev LI:=@List.set_cons_zero
abbrev LJ:=@List.map_cons
abbrev LK:=@List.mem_cons
abbrev LL:=@List.not_mem_nil
abbrev LM:=@List.mem_map
abbrev LN:=@List.length_cons
abbrev LO:=@Heap.get?_push_size
abbrev LP:=@List.getElem?_cons_zero
abbrev LQ:=@Heap.lt_size
abbrev LR:=@List.getD_eq_getElem?_getD
abbrev LS:=@List.mem_append_right
abbrev LU:=@List.getElem?_map
abbrev LV:=@Nat.le_trans
abbrev LW:=@Array.getD_eq_getD_getElem?
abbrev LX:=@Nat.lt_of_lt_of_le
abbrev LY:=@Option.map_eq_some_iff
abbrev LZ:=@decide_eq_false
abbrev L0:=@List.length_append
abbrev L1:=@Nat.zero_le
abbrev L3:=@List.mem_singleton
abbrev L4:=@Nat.ne_of_lt
abbrev L5:=@List.mem_map_of_mem
abbrev L6:=@PySem.F.plainAttrs_list
abbrev L7:=@List.getElem?_set_ne
abbrev L8:=@PySem.F.type_list_append
abbrev L9:=@PySem.F.slot_list_append
abbrev Ma:=@Array.length_toList
abbrev Mb:=@Bool.and_eq_true
abbrev Mc:=@List.eq_nil_of_length_eq_zero
abbrev Md:=@sizeLine_eq
abbrev Me:=@List.getElem?_append_left
abbrev Mf:=@Bool.false_eq_true
abbrev Mg:=@List.getElem_mem
abbrev Mh:=@PySem.W.mg_none_of
abbrev Mi:=@PySem.W.mg_of
abbrev Mj:=@List.mem_append
abbrev Mk:=@if_pos
abbrev Ml:=@if_neg
abbrev Mm:=@List.getElem?_set_self
abbrev Mn:=@List.pairwise_cons
abbrev Mo:=@Option.some.inj
abbrev Mp:=@decide_eq_true
abbrev Mq:=@List.map_append
abbrev Mr:=@List.foldl_cons
abbrev Ms:=@List.map_map
abbrev Mt:=@Bool.false_ne_true
abbrev Mu:=@Option.getD_some
abbrev Mv:=@beq_self_eq_true
abbrev Mw:=@Int.emod_lt_of_pos
abbrev Mx:=@Int.emod_nonneg
abbrev My:=@of_decide_eq_true
abbrev Mz:=@PySem.W.kia_one
abbrev MA:=@decide_eq_true_eq
abbrev MB:=@List.getElem?_replicate
abbrev MC:=@List.getElem?_eq_none
abbrev MD:=@List.append_nil
abbrev ME:=@List.mem_range
section
namespace L2
abbrev Key:=Sum Int Str
noncomputable def qY : Key -> Value -> Bool
  | .inl k, v=>Value.isInt k v
  | .inr x, v=>Value.isStrOf x v
def KQ (w : World) : Key -> Int
  | .inl k=>hashInt k
  | .inr x=>hashStr w x
theorem ey : ∀ {k : Key} {v : Value}, qY k v = true -> (∃ i t, k = Sum.inl i /\ v = Value.int i t) \/ (∃ x t, k = Sum.inr x /\ v = Value.str x t)
  | .inl i, v, h=>by
    obtain ⟨t, e⟩:=Value.isInt_shape (k:=i) (v:=v) h
    exact .inl ⟨i, t, rfl, e⟩
  | .inr x, v, h=>by
    obtain ⟨t, e⟩:=Value.isStrOf_shape (x:=x) (v:=v) h;exact .inr ⟨x, t, rfl, e⟩
def sV (i : Int) (t : Tok) : qY (.inl i) (.int i t) = true:=by simp [qY, Value.isInt]
def sU (x : Str) (t : Tok) : qY (.inr x) (.str x t) = true:=by simp [qY, Value.isStrOf]
def Hr (a b : Int) : decide ((Sum.inl a : Key) = Sum.inl b) = (a == b):=by
  by_cases e : a = b
  · subst e; simp
  · have h : ¬ (Sum.inl a : Key) = Sum.inl b:=λq=>e (Sum.inl.inj q);rw [LZ h];exact (beq_eq_false_iff_ne.mpr e).symm
def Hm (a b : Str) : decide ((Sum.inr a : Key) = Sum.inr b) = decide (a = b):=by
  by_cases e : a = b
  · subst e; simp
  · have h : ¬ (Sum.inr a : Key) = Sum.inr b:=λq=>e (Sum.inr.inj q);rw [LZ h, LZ e]
def Hq (a : Int) (b : Str) : decide ((Sum.inl a : Key) = Sum.inr b) = false:=LZ (λq=>nomatch q)
def Hn (a : Str) (b : Int) : decide ((Sum.inr a : Key) = Sum.inl b) = false:=LZ (λq=>nomatch q)
def fP (prog : Program) (w : World) : PySem.KeyKind prog w Key where
  is:=qY
  hash:=KQ w
  inj:=λv a b ha hb=>by
    rcases ey ha with ⟨i, t, rfl, rfl⟩ | ⟨x, t, rfl, rfl⟩
    · rcases ey hb with ⟨j, u, rfl, e⟩ | ⟨y, u, rfl, e⟩
      · injection e with e1 _; rw [e1]
      · exact nomatch e
    · rcases ey hb with ⟨j, u, rfl, e⟩ | ⟨y, u, rfl, e⟩
      · exact nomatch e
      · injection e with e1 _; rw [e1]
  byValue:=λk v h=>by
    rcases ey h with ⟨i, t, rfl, rfl⟩ | ⟨x, t, rfl, rfl⟩ <;> rfl
  pyHash:=λhv h=>by
    rcases ey hv with ⟨i, t, rfl, rfl⟩ | ⟨x, t, rfl, rfl⟩
    · exact wpAny_pyHash_int h
    · exact wpAny_pyHash_str h
  eqBool:=λhu hv h=>by
    rcases ey hu with ⟨i, t, rfl, rfl⟩ | ⟨x, t, rfl, rfl⟩
    · rcases ey hv with ⟨j, u, rfl, rfl⟩ | ⟨y, u, rfl, rfl⟩
      · rw [Hr] at h; exact wpAny_eqBool_int h
      · rw [Hq] at h; exact SeqAt.EqAt.int_str i t y u _ _ _ _ h
    · rcases ey hv with ⟨j, u, rfl, rfl⟩ | ⟨y, u, rfl, rfl⟩
      · rw [Hn] at h; exact SeqAt.EqAt.str_int x t j u _ _ _ _ h
      · rw [Hm] at h; exact wpAny_eqBool_str h
  «strs»:=λk x t v h=>by
    rcases ey h with ⟨i, u, rfl, e⟩ | ⟨y, u, rfl, e⟩
    · exact nomatch e
    · injection e with e1 _;subst e1;cases v <;> rfl
def wc (prog : Program) (w : World) (i : Int) (t : Tok) : (fP prog w).is (.inl i) (.int i t) = true:=sV i t
def wb (prog : Program) (w : World) (x : Str) (t : Tok) : (fP prog w).is (.inr x) (.str x t) = true:=sU x t
set_option genInjectivity true in
inductive V where
  | cB | bl (b : Bool) | int (i : Int) | str (x : Str) | DK (b : Array UInt8) | Ie (b : UInt64) | ref (a : Addr) | ty (n : String)
  deriving DecidableEq
def RelV : V -> Value -> Prop
  | .cB, u=>u = Value.none
  | .bl b, u=>u = Value.bool b
  | .int i, u=>∃ t, u = Value.int i t
  | .str x, u=>∃ t, u = Value.str x t
  | .DK b, u=>∃ t, u = Value.bytes b t
  | .Ie b, u=>∃ t, u = Value.float b t
  | .ref a, u=>u = Value.ref a
  | .ty n, u=>u = Value.type n
abbrev Vals : List V -> List Value -> Prop:=Paired RelV
theorem Vals.length {xs : List V} {us : List Value} (r : Vals xs us) : xs.length = us.length:=Paired.length r
theorem Vals.get : ∀ {xs : List V} {us : List Value} {i : Nat} {x : V}, Vals xs us -> xs[i]? = some x -> ∃ u, us[i]? = some u /\ RelV x u
  | _, _, _, _, .nil, e=>by simp at e
  | _, _, 0, _, .cons r _, e=>by simp at e; subst e; exact ⟨_, rfl, r⟩
  | _, _, i + 1, x, .cons _ t, e=>by
    obtain ⟨u, h1, h2⟩:=Vals.get (i:=i) (x:=x) t (by simpa using e);exact ⟨u, by simpa using h1, h2⟩
theorem Vals.set {x : V} {u : Value} (r : RelV x u) : ∀ {xs : List V} {us : List Value} (i : Nat), Vals xs us -> Vals (xs.set i x) (us.set i u)
  | _, _, _, .nil=>.nil
  | _, _, 0, .cons _ t=>.cons r t
  | _, _, i + 1, .cons q t=>.cons q (Vals.set r i t)
theorem Vals.append : ∀ {xs ys : List V} {us ws : List Value}, Vals xs us -> Vals ys ws -> Vals (xs ++ ys) (us ++ ws)
  | _, _, _, _, .nil, s=>s
  | _, _, _, _, .cons r t, s=>.cons r (Vals.append t s)
theorem Vals.take : ∀ {xs : List V} {us : List Value} (n : Nat), Vals xs us -> Vals (xs.take n) (us.take n)
  | _, _, 0, _=>.nil
  | _, _, _ + 1, .nil=>.nil
  | _, _, n + 1, .cons r t=>.cons r (Vals.take n t)
theorem Vals.drop : ∀ {xs : List V} {us : List Value} (n : Nat), Vals xs us -> Vals (xs.drop n) (us.drop n)
  | _, _, 0, r=>r
  | _, _, _ + 1, .nil=>.nil
  | _, _, n + 1, .cons _ t=>Vals.drop n t
def HZ : Option V -> Option Value -> Prop
  | some v, some u=>RelV v u
  | none, none=>True
  | _, _=>False
def KV {κ : Type} : List (κ × V) -> List (κ × Value) -> Prop:=Paired λ(p : κ × V) (q : κ × Value)=>p.1 = q.1 /\ RelV p.2 q.2
def kV : Key -> V
  | .inl i=>.int i
  | .inr x=>.str x
inductive HO where
    | lst (xs : List V)
    | tup (xs : List V)
    | dK (kvs : List (Key × V)) | dT (kvs : List (List Key × V))
    | set (S : Int -> Bool) (n : Nat)
    | ins (C dx : Addr) (fs : List (Str × V))
    | own (x : Addr)
    | xd (fs : List (Str × V))
    | met (f x : Addr)
    | vF (lo hi : Int)
    | og (o : Obj) (u : HO)
    | qc (ps : Array Value)
    | ext (φ : Heap -> Prop)
abbrev Hp:=Addr -> Option HO
noncomputable def upd (H : Hp) (a : Addr) (o : HO) : Hp:=λb=>if b = a then some o else H b
def aA {H : Hp} {a : Addr} {o : HO} : upd H a o a = some o:=by unfold upd; rw [Mk rfl]
def az {H : Hp} {a b : Addr} {o : HO} (h : b ≠ a) : upd H a o b = H b:=by unfold upd; rw [Ml h]
def tV {H : Hp} {a : Addr} {o u : HO} : upd (upd H a o) a u = upd H a u:=by
  funext b; unfold upd; split <;> rfl
def FX {H : Hp} {a b : Addr} {o u : HO} (h : H a = some o) (h' : H b = some u) (d : o ≠ u) : a ≠ b:=by
  intro e; subst e; rw [h] at h'; exact d (Mo h')
def bx {H : Hp} {a b : Addr} {o : HO} (h : H a = some o) (h' : H b = none) : a ≠ b:=by
  intro e; subst e; rw [h] at h'; cases h'
def lh (h : Heap) (a : Addr) (items : Array Value) : Prop:=∃ n, h.get? a = some { cls:=.type "tuple", data:=.seq items n }
def lh.is {h : Heap} {a : Addr} {items : Array Value} (p : lh h a items) : IsTup h a items:=by
  obtain ⟨n, e⟩:=p;exact ⟨_, e, rfl, n, rfl⟩
def lh.new (h : Heap) (items : Array Value) : lh (h.push { cls:=.type "tuple", data:=.seq items }) h.objs.size items:=⟨_, LO _ rfl⟩
section
variable (P : Program) (w : World)
def fE (H : Hp) (h : Heap) (a : Addr) : HO -> Prop
  | .lst xs=>xs.length <= sizeLine /\ ∃ (aY : List Value) (n : Nat), Vals xs aY /\ h.get? a = some { cls:=.type "list", data:=.seq aY.toArray n }
  | .tup xs=>xs.length <= sizeLine /\ ∃ aY : List Value, Vals xs aY /\ lh h a aY.toArray
  | .dK kvs=>kvs.length <= sizeLine /\ (a == sysModules) = false /\ ∃ vs, KV kvs vs /\ h.DictOf (fP P w) a vs
  | .dT kvs=>kvs.length <= sizeLine /\ (a == sysModules) = false /\ ∃ xs : List (List Key × Addr × Value),
      Paired (λ(p : List Key × V) (q : List Key × Addr × Value)=>p.1 = q.1 /\ H q.2.1 = some (.tup (p.1.map kV)) /\ RelV p.2 q.2.2) kvs xs /\
      ∃ o es ep, h.get? a = some o /\ o.ExactDict /\ o.data = .dict es ep /\ es.toList = xs.map (entryOfKey (tupleKind (fP P w))) /\ (xs.map (·.1)).Nodup
  | .set S n=>h.SetOf (intKind P w) a S n
  | .ins C dx fs=>H dx = some (.own a) /\ fs.length <= 1000 /\ dx ≠ a /\ h.get? a = some (PySem.W.instObj C dx) /\
      ∃ mA, h.Ns1 dx mA /\ (∀ f, HZ (fs.lookup f) (mA f)) /\ PySem.Within mA (fs.map (·.1))
  | .own _=>∃ o, h.get? a = some o
  | .xd fs=>∃ mA, h.Ns1 a mA /\ ∀ f, HZ (fs.lookup f) (mA f)
  | .vF lo hi=>∃ t u v, h.get? a = some { cls:=.type "range", data:=.fields #[.int lo t, .int hi u, .int 1 v] }
  | .og o u=>h.get? a = some o /\ fE H h a u
  | .qc ps=>h.get? a = some { cls:=.none, data:=.fields ps }
  | .met f x=>h.get? a = some (PySem.W.methodObj (.ref f) (.ref x))
  | .ext φ=>φ h /\ (∃ o, h.get? a = some o) /\ ∀ h1 h2 : Heap, φ h1 -> (∀ o, h1.get? a = some o -> h2.get? a = some o) -> φ h2
def lO (H : Hp) (h : Heap) : Prop:=∀ a o, H a = some o -> fE P w H h a o
end
section
variable {P : Program} {w : World} {H H' : Hp} {h h' : Heap} {a : Addr} {o : HO}
theorem fE.lt (x : fE P w H h a o) : a < h.objs.size:=by
  cases o with
  | lst xs=>obtain ⟨_, _, _, _, e⟩:=x; exact LQ e
  | tup xs=>obtain ⟨_, _, _, p⟩:=x; exact p.is.lt
  | dK kvs=>obtain ⟨_, _, _, _, o, _, _, e, _⟩:=x; exact LQ e
  | dT kvs=>obtain ⟨_, _, _, _, o, _, _, e, _⟩:=x; exact LQ e
  | set S n=>obtain ⟨o, _, _, _, e, _⟩:=x; exact LQ e
  | ins C dx fs=>obtain ⟨_, _, _, e, _⟩:=x; exact LQ e
  | own y=>obtain ⟨_, e⟩:=x; exact LQ e
  | xd fs=>obtain ⟨_, ⟨_, _, _, e, _⟩, _⟩:=x; exact LQ e
  | vF lo hi=>obtain ⟨_, _, _, e⟩:=x; exact LQ e
  | og ob u=>obtain ⟨e, _⟩:=x; exact LQ e
  | qc ps=>exact LQ (show h.get? a = some _ from x)
  | met f y=>exact LQ (show h.get? a = some _ from x)
  | ext φ=>obtain ⟨_, ⟨_, e⟩, _⟩:=x; exact LQ e
theorem Paired.Jr {α β : Type} {F G : α -> β -> Prop} : ∀ {l₁ : List α} {l₂ : List β}, Paired F l₁ l₂ -> (∀ a b, F a b -> G a b) -> Paired G l₁ l₂
  | _, _, .nil, _=>.nil
  | _, _, .cons r t, f=>.cons (f _ _ r) (Paired.Jr t f)
def fE.rV (x : fE P w H h a o) (k : ∀ b u, (b = a \/ H b = some (.own a)) -> h.get? b = some u -> h'.get? b = some u)
    (ho : ∀ b, H b = some (.own a) -> H' b = some (.own a)) (ht : ∀ b xs, H b = some (.tup xs) -> H' b = some (.tup xs)) : fE P w H' h' a o:=by
  induction o with
  | lst xs=>obtain ⟨z, aY, n, r, e⟩:=x; exact ⟨z, aY, n, r, k _ _ (.inl rfl) e⟩
  | tup xs=>obtain ⟨z, aY, r, n, e⟩:=x; exact ⟨z, aY, r, n, k _ _ (.inl rfl) e⟩
  | dK kvs=>obtain ⟨z, y, vs, r, ob, es, ep, e, c⟩:=x; exact ⟨z, y, vs, r, ob, es, ep, k _ _ (.inl rfl) e, c⟩
  | dT kvs=>
    obtain ⟨z, y, xs, r, ob, es, ep, e, c⟩:=x
    exact ⟨z, y, xs, Paired.Jr r λp q z=>⟨z.1, ht _ _ z.2.1, z.2.2⟩, ob, es, ep, k _ _ (.inl rfl) e, c⟩
  | set S n=>obtain ⟨ob, es, ep, t, e, c⟩:=x; exact ⟨ob, es, ep, t, k _ _ (.inl rfl) e, c⟩
  | ins C dx fs=>
    obtain ⟨d, z, ne, e, mA, ⟨od, es, ep, e2, c⟩, r⟩:=x
    exact ⟨ho _ d, z, ne, k _ _ (.inl rfl) e, mA, ⟨od, es, ep, k _ _ (.inr d) e2, c⟩, r⟩
  | own y=>obtain ⟨ob, e⟩:=x; exact ⟨ob, k _ _ (.inl rfl) e⟩
  | xd fs=>obtain ⟨mA, ⟨od, es, ep, e, c⟩, r⟩:=x; exact ⟨mA, ⟨od, es, ep, k _ _ (.inl rfl) e, c⟩, r⟩
  | vF lo hi=>obtain ⟨t, u, v, e⟩:=x; exact ⟨t, u, v, k _ _ (.inl rfl) e⟩
  | og ob u ih=>obtain ⟨e, q⟩:=x; exact ⟨k _ _ (.inl rfl) e, ih q⟩
  | qc ps=>
    have e : h.get? a = some { cls:=.none, data:=.fields ps }:=x;show h'.get? a = some { cls:=.none, data:=.fields ps }
    exact k a _ (.inl rfl) e
  | met f y=>
    have e : h.get? a = some (PySem.W.methodObj (.ref f) (.ref y)):=x;show h'.get? a = some (PySem.W.methodObj (.ref f) (.ref y))
    exact k a _ (.inl rfl) e
  | ext φ=>obtain ⟨p, ⟨o, e⟩, st⟩:=x; exact ⟨st _ _ p λo q=>k _ _ (.inl rfl) q, ⟨o, k _ _ (.inl rfl) e⟩, st⟩
theorem lO.lt (x : lO P w H h) (e : H a = some o) : a < h.objs.size:=(x a o e).lt
def lO.fresh (x : lO P w H h) (e : h.objs.size <= a) : H a = none:=by
  cases q : H a with
  | none=>rfl
  | some u=>exact absurd (LX (x.lt q) e) (Nat.lt_irrefl _)
def lO.kept (x : lO P w H h) (k : ∀ b u, h.get? b = some u -> h'.get? b = some u) : lO P w H h':=λa o e=>
  (x a o e).rV (λb u _ q=>k b u q) (λ_ q=>q) λ_ _ q=>q
def lO.laid (x : lO P w H h) (k : ∀ b u, h.get? b = some u -> h'.get? b = some u) (hp : h.objs.size <= a) (new : fE P w (upd H a o) h' a o) : lO P w (upd H a o) h':=λb u e=>by
  have hn:=x.fresh hp;by_cases hb : b = a
  · subst hb; rw [aA] at e; cases e; exact new
  · rw [az hb] at e;exact (x b u e).rV (λc v _ q=>k c v q) (λc q=>by rw [az (bx q hn)]; exact q) λc xs q=>by rw [az (bx q hn)]; exact q
end
def Rd (H : Hp) (a : Addr) (u : HO) : Prop:=H a = some u \/ ∃ o, H a = some (.og o u)
def Rd.ok {P : Program} {w : World} {H : Hp} {h : Heap} {a : Addr} {u : HO} (r : Rd H a u) (x : lO P w H h) : fE P w H h a u:=by
  rcases r with r | ⟨o, r⟩
  · exact x a u r
  · obtain ⟨_, q⟩:=x a _ r;exact q
def Kn : Option HO -> Prop
  | some (.lst _)=>True
  | some (.dK _)=>True
  | some (.dT _)=>True
  | some (.set _ _)=>True
  | some (.ins _ _ _)=>True
  | some (.ext _)=>True
  | _=>False
section
variable {P : Program} {w : World} {H : Hp} {h h' : Heap} {x e : Addr} {o' : HO}
def lO.write (ok : lO P w H h) (mu : Kn (H x)) (he : e = x \/ H e = some (.own x)) (k : ∀ b u, b ≠ e -> h.get? b = some u -> h'.get? b = some u) (heo : ∃ u, h'.get? e = some u)
    (new : fE P w (upd H x o') h' x o') : lO P w (upd H x o') h':=λb u q=>by
  have nown : ∀ c y, H c = some (.own y) -> c ≠ x:=λc y r z=>by subst z; rw [r] at mu; exact mu
  have ntup : ∀ c xs, H c = some (.tup xs) -> c ≠ x:=λc xs r z=>by subst z; rw [r] at mu; exact mu
  by_cases hb : b = x
  · subst hb; rw [aA] at q; cases q; exact new
  · rw [az hb] at q;by_cases hbe : b = e
    · have q' : H b = some (.own x):=by
        rcases he with z | z
        · exact absurd (hbe.trans z) hb
        · rw [hbe]; exact z
      rw [q] at q'; cases q'
      obtain ⟨v, hv⟩:=heo;exact ⟨v, by rw [hbe]; exact hv⟩
    · refine (ok b u q).rV (λc v hc r=>k c v ?_ r) (λc r=>by rw [az (nown c b r)]; exact r) λc xs r=>by rw [az (ntup c xs r)]; exact r
      rcases hc with rfl | hc
      · exact hbe
      · rintro rfl;rcases he with z | z
        · exact nown c b hc z
        · rw [hc] at z; cases z; exact hb rfl
end
structure Un (fs ex : List Addr) (H H' : Hp) (h h' : Heap) : Prop where
  keep : ∀ b o, h.get? b = some o -> H b = none -> b ∉ fs -> b ∉ ex -> h'.get? b = some o
  slot : ∀ b o, h.get? b = some o -> H b = none -> b ∈ fs -> b ∉ ex -> ∃ sl, h'.get? b = some { o with slots:=sl }
  free : ∀ b o, h.get? b = some o -> H b = none -> b ∉ ex -> H' b = none
  there : ∀ b o, h.get? b = some o -> b ∉ ex -> ∃ o', h'.get? b = some o'
  mq : ∀ b xs, H b = some (.tup xs) -> H' b = some (.tup xs)
  lK : ∀ b o u, H b = some (.og o u) -> H' b = some (.og o u)
  lC : ∀ b ps, H b = some (.qc ps) -> ∃ more, H' b = some (.qc (ps ++ more))
section
variable {fs fs' ex ex' : List Addr} {H H1 H2 : Hp} {h h1 h2 h' : Heap} {a x e : Addr} {o : HO}
def Un.any (u : Un fs ex H H1 h h1) {b : Addr} {ob : Obj} (q : h.get? b = some ob) (n : H b = none) (hx : b ∉ ex) : ∃ sl, h1.get? b = some { ob with slots:=sl }:=by
  by_cases hb : b ∈ fs
  · exact u.slot b ob q n hb hx
  · exact ⟨ob.slots, u.keep b ob q n hb hx⟩
def Un.trans (a : Un fs ex H H1 h h1) (b : Un fs ex H1 H2 h1 h2) : Un fs ex H H2 h h2 where
  keep:=λc ob q n hc hx=>b.keep c ob (a.keep c ob q n hc hx) (a.free c ob q n hx) hc hx
  slot:=λc ob q n hc hx=>by
    obtain ⟨sl, e1⟩:=a.slot c ob q n hc hx;obtain ⟨sl', e2⟩:=b.slot c _ e1 (a.free c ob q n hx) hc hx;exact ⟨sl', e2⟩
  free:=λc ob q n hx=>by
    obtain ⟨o', e1⟩:=a.there c ob q hx;exact b.free c o' e1 (a.free c ob q n hx) hx
  there:=λc ob q hx=>by
    obtain ⟨o', e1⟩:=a.there c ob q hx;exact b.there c o' e1 hx
  mq:=λc xs q=>b.mq c xs (a.mq c xs q)
  lK:=λc ob xs q=>b.lK c ob xs (a.lK c ob xs q)
  lC:=λc ps q=>by
    obtain ⟨m1, e1⟩:=a.lC c ps q;obtain ⟨m2, e2⟩:=b.lC c _ e1;exact ⟨m1 ++ m2, by rw [e2, Array.append_assoc]⟩
def Un.kept (k : ∀ b u, h.get? b = some u -> h'.get? b = some u) : Un fs ex H H h h':=
  ⟨λb ob q _ _ _=>k b ob q, λb ob q _ _ _=>⟨ob.slots, k b ob q⟩, λ_ _ _ n _=>n, λb ob q _=>⟨ob, k b ob q⟩, λ_ _ q=>q, λ_ _ _ q=>q, λ_ ps q=>⟨#[], by rw [q]; simp⟩⟩
def Un.refl : Un fs ex H H h h:=Un.kept λ_ _ q=>q
def Un.laid (k : ∀ b u, h.get? b = some u -> h'.get? b = some u) (hp : h.objs.size <= a) (hn : H a = none) : Un fs ex H (upd H a o) h h' where
  keep:=λb u q _ _ _=>k b u q
  slot:=λb u q _ _ _=>⟨u.slots, k b u q⟩
  free:=λb u q n _=>by rw [az (L4 (LX (LQ q) hp))]; exact n
  there:=λb u q _=>⟨u, k b u q⟩
  mq:=λb xs q=>by rw [az (bx q hn)]; exact q
  lK:=λb u xs q=>by rw [az (bx q hn)]; exact q
  lC:=λb ps q=>⟨#[], by rw [az (bx q hn), q]; simp⟩
def Un.write (mu : Kn (H x)) (he : e = x \/ H e = some (.own x)) (k : ∀ b u, b ≠ e -> h.get? b = some u -> h'.get? b = some u) (heo : ∃ u, h'.get? e = some u) : Un fs ex H (upd H x o) h h':=by
  have hx : ∀ b, H b = none -> b ≠ x:=λb n z=>by subst z; rw [n] at mu; exact mu
  have hb : ∀ b, H b = none -> b ≠ e:=λb n z=>by
    subst z;rcases he with r | r
    · exact hx b n r
    · rw [n] at r; cases r
  have hm : ∀ b u, H b = some u -> ¬ Kn (some u) -> b ≠ x:=λb u q nm z=>by subst z; rw [q] at mu; exact nm mu
  refine ⟨λb u q n _ _=>k b u (hb b n) q, λb u q n _ _=>⟨u.slots, k b u (hb b n) q⟩, λb u q n _=>by rw [az (hx b n)]; exact n, λb u q _=>?_,
    λb xs q=>by rw [az (hm b _ q λz=>z)]; exact q, λb u xs q=>by rw [az (hm b _ q λz=>z)]; exact q, λb ps q=>⟨#[], by rw [az (hm b _ q λz=>z), q]; simp⟩⟩
  by_cases hbe : b = e
  · subst hbe; exact heo
  · exact ⟨u, k b u hbe q⟩
def Un.mono (u : Un fs ex H H1 h h1) (hs : ∀ b ∈ fs, b ∈ fs') (hx : ∀ b ∈ ex, b ∈ ex') : Un fs' ex' H H1 h h1:=
  ⟨λb ob q n hb he=>u.keep b ob q n (λz=>hb (hs b z)) λz=>he (hx b z), λ_ _ q n _ he=>u.any q n λz=>he (hx _ z), λb ob q n he=>u.free b ob q n λz=>he (hx b z), λb ob q he=>u.there b ob q λz=>he (hx b z), u.mq, u.lK, u.lC⟩
end
noncomputable def Kc (h : Heap) (H : Hp) : List Addr:=(List.range h.objs.size).filter λa=>(H a).isSome
def uR (h : Heap) (H : Hp) : Heap:=PySem.W.hideAll h (Kc h H)
def AR (h : Heap) (H : Hp) : (uR h H).objs.size = h.objs.size:=PySem.W.hideAll_size _ _
def rh {h : Heap} {H : Hp} {b : Addr} {o : Obj} (e : h.get? b = some o) (n : H b = none) : (uR h H).get? b = some o:=
  PySem.W.hideAll_get _ e λhm=>by
    have q : (H b).isSome = true:=(List.mem_filter.mp hm).2;rw [n] at q; simp at q
def EL {h : Heap} {H : Hp} {b : Addr} {o : Obj} (e : (uR h H).get? b = some o) : h.get? b = some o /\ H b = none:=by
  have e' : h.get? b = some o:=PySem.W.of_hideAll (Kc h H) e;refine ⟨e', ?_⟩
  cases q : H b with
  | none=>rfl
  | some x=>
    have hm : b ∈ Kc h H:=List.mem_filter.mpr ⟨ME.mpr (LQ e'), by simp [q]⟩;have z : (uR h H).get? b = none:=PySem.W.hideAll_none (Kc h H) hm;rw [z] at e; cases e
noncomputable def Ft (g h : Heap) (L : Addr) : List (Addr × Obj):=(List.range h.objs.size).filterMap λa=>if a = L \/ (g.get? a).isSome = true then none else (h.get? a).map λo=>(a, o)
def rest (g h : Heap) (L d : Addr) : List (Addr × Obj):=(Ft g h L).filter λp=>decide (p.1 ≠ d)
structure Mod (K : Frag) (mg : Str -> Option Value) (base : Heap) : Prop where
  JA : K.In base
  glob : base.Ns mainGlobals mg
  blt : ∃ mb, base.Ns builtinsNs mb /\ ∀ x : Str, x ≠ "__name__" -> mb x = bootBuiltins x
  nolimit : base.NoLimit
structure Cx where
  prog : Program
  w : World
  K : Frag
  mg : Str -> Option Value
  base : Heap
  A : Around
  N : List Str
  s₀ : Shared
  H₀ : Hp
  env : Env
  outer : List Env
  stack : List Env
  ex : List Addr
  fn : Str -> Bool
  calm : Bool
  pn : List (Addr × Obj)
  xe : Value -> Shared -> Prop
noncomputable def o7 (l : List Env) : List Addr:=l.filterMap (·.frame)
abbrev Cx.fs (X : Cx) : List Addr:=o7 X.outer
def Kk (sc : Scope) (x : Str) : Prop:=sc.names.lookup x = some .local \/ sc.names.lookup x = some .cell \/ sc.names.lookup x = some .free
def Loc (sc : Scope) (x : Str) : Prop:=sc.names.lookup x = some .local \/ sc.names.lookup x = some .cell
def Look (env : Env) (h : Heap) (m : Str -> Option Value) (x : Str) (u : Value) : Prop:=
  (env.kindOf x = some .local /\ m x = some u) \/ ((env.kindOf x = some .cell \/ env.kindOf x = some .free) /\ ∃ c, env.cells.lookup x = some c /\ h.IsCell c (some u))
structure Cx.Ok (X : Cx) : Prop where
  mod : Mod X.K X.mg X.base
  kind : X.env.scope.kind = .function
  glob : X.env.globals = mainGlobals
  blt : X.env.builtins = builtinsNs
  above : X.s₀.heap.objs.size <= X.env.locals
  inj : ∀ x y c, X.env.cells.lookup x = some c -> X.env.cells.lookup y = some c -> x = y
  has : ∀ x, (X.env.kindOf x = some .cell \/ X.env.kindOf x = some .free) -> ∃ c, X.env.cells.lookup x = some c
  Gk : ∀ x c, X.fn x = true -> X.env.cells.lookup x = some c -> X.s₀.heap.objs.size <= c
  hd : X.calm = true -> X.A.handled = none
  frames : X.A.frames = some X.stack
  GF : X.stack = X.outer \/ (X.stack = X.env :: X.outer /\ X.env.frame = some X.env.locals)
  Ki : ∀ b ∈ X.ex, b ≠ X.env.locals /\ ∀ x c, X.env.cells.lookup x = some c -> c ≠ b
  bs : ∀ b o, X.base.get? b = some o -> X.s₀.heap.get? b = some o /\ X.H₀ b = none
  Bo : X.base.objs.size <= X.s₀.heap.objs.size
  xV : ∀ b o, X.base.get? b = some o -> b ∉ X.ex
  AZ : ∀ b ∈ X.ex, b ∉ X.fs
  lJ : X.s₀.heap.FunFrames X.base X.outer
  DW : ∀ b ∈ X.fs, X.H₀ b = none
structure Inv (X : Cx) (pZ : List (Addr × Obj)) (σ : List (Option V)) (H : Hp) (s : Shared) : Prop where
  ok : X.Ok
  os : s.os = X.s₀.os
  bare : AllBare s.gens
  base : Un X.fs X.ex X.H₀ H X.s₀.heap s.heap
  loc : ∃ m, s.heap.Ns X.env.locals m /\ ∀ (i : Nat) (x : Str) (v : V), X.N[i]? = some x -> σ[i]? = some (some v) -> Kk X.env.scope x -> ∃ u, RelV v u /\ Look X.env s.heap m x u
  cell : ∀ x c, X.env.cells.lookup x = some c -> ∃ v, s.heap.IsCell c v
  free : H X.env.locals = none
  iD : ∀ x c, X.env.cells.lookup x = some c -> H c = none
  pin : ∀ p ∈ X.pn ++ pZ, s.heap.get? p.1 = some p.2 /\ H p.1 = none /\ p.1 ≠ X.env.locals /\ p.1 ∉ X.fs /\ ∀ v, p.2.data ≠ .cell v
  dz : lO X.prog X.w H s.heap
  len : σ.length = X.N.length
section
variable {X : Cx} {pZ : List (Addr × Obj)} {σ : List (Option V)} {H H' : Hp} {s : Shared} {h' : Heap}
def Cx.Ok.KL (ok : X.Ok) {b : Addr} {o : Obj} (e : X.base.get? b = some o) : b ∉ X.fs:=λhb=>by
  have:=(ok.lJ.mem hb).1;rw [e] at this; cases this
theorem Inv.bs (I : Inv X pZ σ H s) : ∀ b o, X.base.get? b = some o -> s.heap.get? b = some o /\ H b = none:=λb o e=>
  ⟨I.base.keep b o (I.ok.bs b o e).1 (I.ok.bs b o e).2 (I.ok.KL e) (I.ok.xV b o e), I.base.free b o (I.ok.bs b o e).1 (I.ok.bs b o e).2 (I.ok.xV b o e)⟩
def Inv.bk (I : Inv X pZ σ H s) : ∀ b o, X.base.get? b = some o -> s.heap.get? b = some o:=λb o e=>(I.bs b o e).1
theorem Inv.mod (I : Inv X pZ σ H s) : Mod X.K X.mg X.base:=I.ok.mod
def Inv.sW (I : Inv X pZ σ H s) : X.K.In s.heap:=I.ok.mod.JA.keeps I.bk
theorem Inv.lt (I : Inv X pZ σ H s) : X.env.locals < s.heap.objs.size:=let ⟨_, hn, _⟩:=I.loc; hn.lt
def Inv.sz (I : Inv X pZ σ H s) : X.s₀.heap.objs.size <= s.heap.objs.size:=LV I.ok.above (Nat.le_of_lt I.lt)
def Inv.KJ (I : Inv X pZ σ H s) {a : Addr} (h : s.heap.objs.size <= a) : a ∉ X.fs:=λhb=>by
  obtain ⟨_, o, ho, _⟩:=I.ok.lJ.mem hb;exact absurd (LX (LQ ho) (LV I.sz h)) (Nat.lt_irrefl _)
def Inv.Fm (I : Inv X pZ σ H s) : ∀ x c, X.env.cells.lookup x = some c -> c ≠ X.env.locals:=λx c e z=>by
  obtain ⟨v, o, ho, hd⟩:=I.cell x c e;obtain ⟨m, ⟨o', es, ep, ho', hd', _⟩, _⟩:=I.loc;rw [z, ho'] at ho; cases ho; rw [hd'] at hd; cases hd
theorem Inv.lJ (I : Inv X pZ σ H s) : s.heap.FunFrames X.base X.outer:=by
  have all : ∀ (l : List Env), (∀ b ∈ o7 l, b ∈ X.fs) -> X.s₀.heap.FunFrames X.base l -> s.heap.FunFrames X.base l:=by
    intro l
    induction l with
    | nil=>intro _ _; trivial
    | cons env r ih=>
      intro hs hl;obtain ⟨hk, ⟨L, o, hf, hn, ho, hd⟩, hr⟩:=hl;have hL : L ∈ X.fs:=hs L (by unfold o7; rw [List.filterMap_cons, hf]; exact Lz);obtain ⟨sl, e⟩:=I.base.slot L o ho (I.ok.DW L hL) hL λz=>I.ok.AZ L z hL;exact ⟨hk, ⟨L, _, hf, hn, e, hd⟩, ih (λb hb=>hs b (by unfold o7; rw [List.filterMap_cons, hf]; exact LC _ hb)) hr⟩
  exact all X.outer (λ_ hb=>hb) I.ok.lJ
def Inv.stack (I : Inv X pZ σ H s) : s.heap.FunFrames X.base X.stack:=by
  rcases I.ok.GF with e | ⟨e, hf⟩
  · rw [e]; exact I.lJ
  · rw [e];obtain ⟨m, hn, _⟩:=I.loc;refine .cons (by rw [I.ok.kind]; decide) hf hn ?_ I.lJ;exact Heap.get?_none_of_le (LV I.ok.Bo I.ok.above)
def Inv.oI (I : Inv X pZ σ H s) : ∀ b ∈ o7 X.stack, b ∈ X.env.locals :: X.fs:=λb hb=>by
  rcases I.ok.GF with e | ⟨e, hf⟩
  · rw [e] at hb; exact LC _ hb
  · rw [e] at hb;unfold o7 at hb;rw [List.filterMap_cons, hf] at hb;exact hb
def Inv.qd (I : Inv X pZ σ H s) : ∀ b ∈ o7 X.stack, H b = none:=λb hb=>by
  rcases LK.mp (I.oI b hb) with e | hb
  · rw [e]; exact I.free
  · obtain ⟨_, o, ho, _⟩:=I.ok.lJ.mem hb;exact I.base.free b o ho (I.ok.DW b hb) λz=>I.ok.AZ b z hb
def Inv.step {g' : Array GenState} {t' : Nat} {d' : Drawn} {ch : List Addr} (I : Inv X pZ σ H s)
    (hch : ∀ b ∈ ch, (b ∈ X.ex \/ X.s₀.heap.objs.size <= b) /\ b ≠ X.env.locals /\ (∀ x c, X.env.cells.lookup x = some c -> c ≠ b) /\ ∀ p ∈ X.pn ++ pZ, p.1 ≠ b)
    (keep : ∀ b o, b ≠ X.env.locals -> b ∉ X.fs -> b ∉ ch -> s.heap.get? b = some o -> H b = none -> h'.get? b = some o)
    (slot : ∀ b o, b ≠ X.env.locals -> b ∈ X.fs -> b ∉ ch -> s.heap.get? b = some o -> H b = none -> ∃ sl, h'.get? b = some { o with slots:=sl }) (free : ∀ b o, b ∉ ch -> s.heap.get? b = some o -> H b = none -> H' b = none)
    (there : ∀ b o, b ∉ ch -> s.heap.get? b = some o -> ∃ o', h'.get? b = some o')
    (mq : ∀ b xs, H b = some (.tup xs) -> H' b = some (.tup xs)) (lK : ∀ b o u, H b = some (.og o u) -> H' b = some (.og o u)) (lC : ∀ b ps, H b = some (.qc ps) -> ∃ more, H' b = some (.qc (ps ++ more)))
    (ns : ∀ m, s.heap.Ns X.env.locals m -> h'.Ns X.env.locals m) (dz : lO X.prog X.w H' h') (hg : AllBare g') :
    Inv X pZ σ H' { s with heap:=h', gens:=g', drawn:=d', toks:=t' }:=by
  have Jo : ∀ b o, X.s₀.heap.get? b = some o -> b ≠ X.env.locals:=λb o e=>L4 (LX (LQ e) I.ok.above)
  have neC : ∀ b o, X.s₀.heap.get? b = some o -> b ∉ X.ex -> b ∉ ch:=λb o e hx hb=>by
    rcases (hch b hb).1 with z | z
    · exact hx z
    · exact absurd (LX (LQ e) z) (Nat.lt_irrefl _)
  have cellK : ∀ x c, X.env.cells.lookup x = some c -> ∀ v, s.heap.IsCell c v -> h'.IsCell c v:=λx c e v ⟨o, ho, hd⟩=>by
    have nch : c ∉ ch:=λz=>(hch c z).2.2.1 x c e rfl;by_cases hc : c ∈ X.fs
    · obtain ⟨sl, q⟩:=slot c o (I.Fm x c e) hc nch ho (I.iD x c e);exact ⟨_, q, hd⟩
    · exact ⟨o, keep c o (I.Fm x c e) hc nch ho (I.iD x c e), hd⟩
  refine ⟨I.ok, I.os, hg, ⟨λb o e n hb hx=>?_, λb o e n hb hx=>?_, λb o e n hx=>?_, λb o e hx=>?_, λb xs e=>mq b xs (I.base.mq b xs e), λb o xs e=>lK b o xs (I.base.lK b o xs e), λb ps e=>?_⟩, ?_, λx c e=>?_, ?_, λx c e=>?_, λp hp=>?_, dz, I.len⟩
  · exact keep b o (Jo b o e) hb (neC b o e hx) (I.base.keep b o e n hb hx) (I.base.free b o e n hx)
  · obtain ⟨sl, e1⟩:=I.base.slot b o e n hb hx;obtain ⟨sl', e2⟩:=slot b _ (Jo b o e) hb (neC b o e hx) e1 (I.base.free b o e n hx);exact ⟨sl', e2⟩
  · obtain ⟨o', e1⟩:=I.base.there b o e hx;exact free b o' (neC b o e hx) e1 (I.base.free b o e n hx)
  · obtain ⟨o', e1⟩:=I.base.there b o e hx;exact there b o' (neC b o e hx) e1
  · obtain ⟨m1, e1⟩:=I.base.lC b ps e;obtain ⟨m2, e2⟩:=lC b _ e1;exact ⟨m1 ++ m2, by rw [e2, Array.append_assoc]⟩
  · obtain ⟨m, hn, hl⟩:=I.loc;refine ⟨m, ns m hn, λi x v e1 e2 e3=>?_⟩;obtain ⟨u, r, l⟩:=hl i x v e1 e2 e3;refine ⟨u, r, ?_⟩;rcases l with l | ⟨k, c, e, z⟩
    · exact .inl l
    · exact .inr ⟨k, c, e, cellK x c e _ z⟩
  · obtain ⟨v, z⟩:=I.cell x c e;exact ⟨v, cellK x c e v z⟩
  · obtain ⟨m, ⟨o, _, _, ho, _⟩, _⟩:=I.loc;exact free _ o (λz=>(hch _ z).2.1 rfl) ho I.free
  · obtain ⟨v, o, ho, hd⟩:=I.cell x c e;exact free c o (λz=>(hch c z).2.2.1 x c e rfl) ho (I.iD x c e)
  · obtain ⟨e, n, ne, nf, d⟩:=I.pin p hp;have nch : p.1 ∉ ch:=λz=>(hch p.1 z).2.2.2 p hp rfl;exact ⟨keep p.1 p.2 ne nf nch e n, free p.1 p.2 nch e n, ne, nf, d⟩
def Inv.un {t' : Nat} (I : Inv X pZ σ H s) (u : Un X.fs [] H H' s.heap h') (dz : lO X.prog X.w H' h') : Inv X pZ σ H' { s with heap:=h', toks:=t' }:=by
  obtain ⟨m, ⟨o, es, ep, ho, r⟩, _⟩:=id I.loc;obtain ⟨sl, hL⟩:=u.any ho I.free (by simp)
  exact I.step (g':=s.gens) (d':=s.drawn) (ch:=[]) (λ_ z=>nomatch z) (λb o _ hb _ e n=>u.keep b o e n hb (by simp)) (λb o _ hb _ e n=>u.slot b o e n hb (by simp)) (λb o _ e n=>u.free b o e n (by simp)) (λb o _ e=>u.there b o e (by simp)) u.mq u.lK u.lC (λm' hm=>by
    obtain ⟨o', es', ep', ho', r'⟩:=hm;rw [ho] at ho'; cases ho'
    exact ⟨_, es', ep', hL, r'⟩) dz I.bare
def Inv.call {g' : Array GenState} {t' : Nat} {d' : Drawn} {ch : List Addr} (I : Inv X pZ σ H s) (u : Un (o7 X.stack) ch H H' s.heap h') (dz : lO X.prog X.w H' h') (hg : AllBare g')
    (hch : ∀ b ∈ ch, (b ∈ X.ex \/ X.s₀.heap.objs.size <= b) /\ b ≠ X.env.locals /\ (∀ x c, X.env.cells.lookup x = some c -> c ≠ b) /\ ∀ p ∈ X.pn ++ pZ, p.1 ≠ b) :
    Inv X pZ σ H' { s with heap:=h', gens:=g', drawn:=d', toks:=t' }:=by
  obtain ⟨m, ⟨o, es, ep, ho, r⟩, _⟩:=id I.loc;obtain ⟨sl, hL⟩:=u.any ho I.free λz=>(hch _ z).2.1 rfl
  exact I.step (ch:=ch) hch (λb o hL hb hc e n=>u.keep b o e n (λz=>(LK.mp (I.oI b z)).elim hL hb) hc) (λb o _ _ hc e n=>u.any e n hc) (λb o hc e n=>u.free b o e n hc) (λb o hc e=>u.there b o e hc) u.mq u.lK u.lC (λm' hm=>by
    obtain ⟨o', es', ep', ho', r'⟩:=hm;rw [ho] at ho'; cases ho'
    exact ⟨_, es', ep', hL, r'⟩) dz hg
def Inv.turned {t' : Nat} {it : Addr} (I : Inv X pZ σ H s) (k : ∀ b o, b ≠ it -> s.heap.get? b = some o -> h'.get? b = some o) (hn : H it = none) (hL : it ≠ X.env.locals)
    (h1 : it ∈ X.ex \/ X.s₀.heap.objs.size <= it) (h2 : ∀ x c, X.env.cells.lookup x = some c -> c ≠ it) (h3 : ∀ p ∈ X.pn ++ pZ, p.1 ≠ it) : Inv X pZ σ H { s with heap:=h', toks:=t' }:=by
  have nit : ∀ b u, H b = some u -> b ≠ it:=λb u e z=>by rw [z, hn] at e; cases e
  refine I.step (g':=s.gens) (d':=s.drawn) (ch:=[it]) (λb hb=>?_) (λb o _ _ hc e _=>k b o (λz=>hc (by simp [z])) e) (λb o _ _ hc e _=>⟨o.slots, k b o (λz=>hc (by simp [z])) e⟩) (λ_ _ _ _ n=>n)
    (λb o hc e=>⟨o, k b o (λz=>hc (by simp [z])) e⟩) (λ_ _ e=>e) (λ_ _ _ e=>e) (λb ps e=>⟨#[], by rw [e]; simp⟩) (λm hm=>?_) (λb u e=>?_) I.bare
  · have e : b = it:=by simpa using hb
    subst e;exact ⟨h1, hL, h2, h3⟩
  · obtain ⟨o, es, ep, ho, r⟩:=hm;exact ⟨o, es, ep, k _ o (Ne.symm hL) ho, r⟩
  · refine (I.dz b u e).rV (λc v hc q=>k c v ?_ q) (λ_ q=>q) λ_ _ q=>q;rcases hc with z | z
    · rw [z]; exact nit b u e
    · exact nit c _ z
def Inv.tok (I : Inv X pZ σ H s) (t : Nat) : Inv X pZ σ H { s with toks:=t }:=I.un (h':=s.heap) (t':=t) Un.refl I.dz
theorem Inv.kept {t' : Nat} (I : Inv X pZ σ H s) (k : ∀ b u, s.heap.get? b = some u -> h'.get? b = some u) : Inv X pZ σ H { s with heap:=h', toks:=t' }:=I.un (Un.kept k) (I.dz.kept k)
theorem Inv.laid {a : Addr} {o : HO} {t' : Nat} (I : Inv X pZ σ H s) (k : ∀ b u, s.heap.get? b = some u -> h'.get? b = some u) (hp : s.heap.objs.size <= a) (new : fE X.prog X.w (upd H a o) h' a o) :
    Inv X pZ σ (upd H a o) { s with heap:=h', toks:=t' }:=I.un (Un.laid k hp (I.dz.fresh hp)) (I.dz.laid k hp new)
theorem Inv.write {x e : Addr} {o : HO} {t' : Nat} (I : Inv X pZ σ H s) (mu : Kn (H x)) (he : e = x \/ H e = some (.own x)) (k : ∀ b u, b ≠ e -> s.heap.get? b = some u -> h'.get? b = some u) (heo : ∃ u, h'.get? e = some u)
    (new : fE X.prog X.w (upd H x o) h' x o) : Inv X pZ σ (upd H x o) { s with heap:=h', toks:=t' }:=I.un (Un.write mu he k heo) (I.dz.write mu he k heo new)
def Inv.qg {nN : List (Addr × Obj)} (I : Inv X pZ σ H s) (h : ∀ p ∈ nN, s.heap.get? p.1 = some p.2 /\ H p.1 = none /\ p.1 ≠ X.env.locals /\ p.1 ∉ X.fs /\ ∀ v, p.2.data ≠ .cell v) : Inv X nN σ H s:=
  ⟨I.ok, I.os, I.bare, I.base, I.loc, I.cell, I.free, I.iD, λp hp=>(Mj.mp hp).elim (λz=>I.pin p (List.mem_append_left _ z)) (h p), I.dz, I.len⟩
def qN {N : List Str} (hN : N.Nodup) {i j : Nat} {x : Str} (a : N[i]? = some x) (b : N[j]? = some x) : i = j:=by
  obtain ⟨h1, e1⟩:=LG.mp a;obtain ⟨h2, e2⟩:=LG.mp b;exact (List.getElem_inj hN).mp (e1.trans e2.symm)
def sN {M : Model} {A : Around} {E : Value -> Shared -> Prop} {i : Nat} {x : Str} {v : V} {u : Value} {Q : Unit -> Shared -> Prop} (I : Inv X pZ σ H s) (hN : X.N.Nodup) (hi : X.N[i]? = some x) (hx : Loc X.env.scope x) (r : RelV v u)
    (h : ∀ s', Inv X pZ (σ.set i (some v)) H s' -> (∃ a, Heap.SameBut a s.heap s'.heap /\ (a = X.env.locals \/ X.env.cells.lookup x = some a)) -> Q () s') (hf : X.fn x = true \/ X.env.scope.names.lookup x = some .local:=by first | exact .inl rfl | exact .inr rfl | assumption) : wpAny M A (storeName X.env x u) Q E s:=by
  obtain ⟨m, hn, hl⟩:=id I.loc;have hcls : (X.env.scope.kind == .class || (X.env.scope.kind == .module && X.env.locals != X.env.globals)) = false:=by rw [I.ok.kind]; rfl
  have hiσ : i < σ.length:=by rw [I.len]; exact (LG.mp hi).1
  have Fm:=I.Fm
  have tracked : ∀ {a : Addr} {h' : Heap}, (∃ o, s.heap.get? a = some o /\ H a = none) -> Heap.SameBut a s.heap h' -> lO X.prog X.w H h':=λ{a h'} ha hs b ob e=>by
    obtain ⟨_, _, hfree⟩:=ha;refine (I.dz b ob e).rV (λc w' hc q=>(hs.2 c ?_).trans q) (λ_ q=>q) λ_ _ q=>q;rintro rfl;rcases hc with rfl | hc
    · rw [hfree] at e; cases e
    · rw [hfree] at hc; cases hc
  rcases hx with hk | hk
  · refine wpAny_storeName_local hk hn (λh' hn' hs=>?_) hcls;obtain ⟨oL, _, _, hoL, _⟩:=id hn;refine h _ ⟨I.ok, I.os, I.bare, ⟨λb o e n hb hx=>?_, λb o e n hb hx=>?_, I.base.free, λb o e hx=>?_, I.base.mq, I.base.lK, I.base.lC⟩, ⟨_, hn', λj y v' e1 e2 e3=>?_⟩, λy c e=>?_, I.free, I.iD, λp hp=>?_, tracked ⟨oL, hoL, I.free⟩ hs, by simpa using I.len⟩ ⟨_, hs, .inl rfl⟩
    · exact (hs.2 b (L4 (LX (LQ e) I.ok.above))).trans (I.base.keep b o e n hb hx)
    · obtain ⟨sl, e1⟩:=I.base.slot b o e n hb hx;exact ⟨sl, (hs.2 b (L4 (LX (LQ e) I.ok.above))).trans e1⟩
    · obtain ⟨o', e1⟩:=I.base.there b o e hx;exact ⟨o', (hs.2 b (L4 (LX (LQ e) I.ok.above))).trans e1⟩
    · by_cases hj : j = i
      · subst hj;rw [hi] at e1; cases e1
        rw [Mm hiσ] at e2;cases e2;exact ⟨u, r, .inl ⟨hk, by simp⟩⟩
      · rw [L7 (Ne.symm hj)] at e2;obtain ⟨u', r', q⟩:=hl j y v' e1 e2 e3;refine ⟨u', r', ?_⟩;rcases q with ⟨k, e⟩ | ⟨k, c, e, z⟩
        · refine .inl ⟨k, ?_⟩;have : y ≠ x:=λe=>hj (qN hN e1 (e ▸ hi));simp [this, e]
        · exact .inr ⟨k, c, e, z.sameBut hs (Fm y c e)⟩
    · obtain ⟨w', z⟩:=I.cell y c e;exact ⟨w', z.sameBut hs (Fm y c e)⟩
    · obtain ⟨e, n, ne, nf, d⟩:=I.pin p hp;exact ⟨(hs.2 p.1 ne).trans e, n, ne, nf, d⟩
  · have hfn : X.fn x = true:=by
      rcases hf with z | z
      · exact z
      · rw [z] at hk; cases hk
    obtain ⟨c, hc⟩:=I.ok.has x (.inl hk);obtain ⟨w', z⟩:=I.cell x c hc;refine wpAny_storeName_cell I.ok.kind hk hc z (λh' hc' hs=>?_);obtain ⟨oc, hoc, hocd⟩:=id z;refine h { s with heap:=h' } ⟨I.ok, I.os, I.bare, ⟨λb o e n hb hx=>?_, λb o e n hb hx=>?_, I.base.free, λb o e hx=>?_, I.base.mq, I.base.lK, I.base.lC⟩, ⟨m, hn.sameBut hs (Ne.symm (Fm x c hc)), λj y v' e1 e2 e3=>?_⟩, λy c' e=>?_, I.free, I.iD, λp hp=>?_, tracked ⟨oc, hoc, I.iD x c hc⟩ hs, by simpa using I.len⟩ ⟨c, hs, .inr hc⟩
    · exact (hs.2 b (L4 (LX (LQ e) (I.ok.Gk x c hfn hc)))).trans (I.base.keep b o e n hb hx)
    · obtain ⟨sl, e1⟩:=I.base.slot b o e n hb hx;exact ⟨sl, (hs.2 b (L4 (LX (LQ e) (I.ok.Gk x c hfn hc)))).trans e1⟩
    · obtain ⟨o', e1⟩:=I.base.there b o e hx;exact ⟨o', (hs.2 b (L4 (LX (LQ e) (I.ok.Gk x c hfn hc)))).trans e1⟩
    · by_cases hj : j = i
      · subst hj;rw [hi] at e1; cases e1
        rw [Mm hiσ] at e2;cases e2;exact ⟨u, r, .inr ⟨.inl hk, c, hc, hc'⟩⟩
      · rw [L7 (Ne.symm hj)] at e2;obtain ⟨u', r', q⟩:=hl j y v' e1 e2 e3;refine ⟨u', r', ?_⟩;rcases q with q | ⟨k, c', e, z'⟩
        · exact .inl q
        · refine .inr ⟨k, c', e, z'.sameBut hs ?_⟩;rintro rfl;exact hj (qN hN e1 (I.ok.inj _ _ _ e hc ▸ hi))
    · by_cases hcc : c' = c
      · subst hcc; exact ⟨_, hc'⟩
      · obtain ⟨w2, z2⟩:=I.cell y c' e;exact ⟨w2, z2.sameBut hs hcc⟩
    · obtain ⟨e, n, ne, nf, d⟩:=I.pin p hp;refine ⟨(hs.2 p.1 ?_).trans e, n, ne, nf, d⟩;intro q;rw [q, hoc] at e;have q' : oc = p.2:=Mo e;exact d w' (by rw [<- q']; exact hocd)
def i7 {M : Model} {A : Around} {E : Value -> Shared -> Prop} {i : Nat} {x : Str} {v : V} {u : Value} {Q : Unit -> Shared -> Prop} (I : Inv X pZ σ H s) (hN : X.N.Nodup) (hi : X.N[i]? = some x) (hx : Loc X.env.scope x) (r : RelV v u)
    (h : ∀ s', Inv X pZ (σ.set i (some v)) H s' -> Q () s') (hf : X.fn x = true \/ X.env.scope.names.lookup x = some .local:=by first | exact .inl rfl | exact .inr rfl | assumption) : wpAny M A (storeName X.env x u) Q E s:=
  sN I hN hi hx r (λs' I' _=>h s' I') hf
def Inv.DJ {s' : Shared} {ch : List Addr} (I : Inv X pZ σ H s) (ho : s'.os = s.os) (u : Un (o7 X.stack) ch H H' s.heap s'.heap) (dz : lO X.prog X.w H' s'.heap) (hg : AllBare s'.gens)
    (hch : ∀ b ∈ ch, (b ∈ X.ex \/ X.s₀.heap.objs.size <= b) /\ b ≠ X.env.locals /\ (∀ x c, X.env.cells.lookup x = some c -> c ≠ b) /\ ∀ p ∈ X.pn ++ pZ, p.1 ≠ b) : Inv X pZ σ H' s':=by
  obtain ⟨h', g', d', t', o'⟩:=s';have e : o' = s.os:=ho;subst e;exact I.call (g':=g') (t':=t') (d':=d') u dz hg hch
end
abbrev XK:=Value -> Option Addr -> Hp -> Prop
abbrev St:=List (Option V)
abbrev VK:=V -> Hp -> Prop
abbrev TE:=St -> Hp -> VK -> Prop
abbrev TT:=St -> Hp -> (Bool -> Hp -> Prop) -> Prop
abbrev TA:=St -> Hp -> (List V -> Hp -> Prop) -> Prop
structure Ends where
  nx : St -> Hp -> Prop
  rt : VK
  bk : St -> Hp -> Prop:=λ_ _=>False
  ct : St -> Hp -> Prop:=λ_ _=>False
abbrev TS:=Ends -> St -> Hp -> Prop
def EP (X : Cx) (pZ : List (Addr × Obj)) (σ : St) (Q : VK) (u : Value) (s' : Shared) : Prop:=∃ v H', Inv X pZ σ H' s' /\ RelV v u /\ Q v H'
def TP (X : Cx) (pZ : List (Addr × Obj)) (σ : St) (Q : Bool -> Hp -> Prop) (b : Bool) (s' : Shared) : Prop:=∃ H', Inv X pZ σ H' s' /\ Q b H'
def AP (X : Cx) (pZ : List (Addr × Obj)) (σ : St) (Q : List V -> Hp -> Prop) (us : List Value) (s' : Shared) : Prop:=∃ vs H', Inv X pZ σ H' s' /\ Vals vs us /\ Q vs H'
def SP (X : Cx) (pZ : List (Addr × Obj)) (D : Ends) (f : Flow) (s' : Shared) : Prop:=
  match f with
  | .next=>∃ σ' H', Inv X pZ σ' H' s' /\ D.nx σ' H'
  | .brk=>∃ σ' H', Inv X pZ σ' H' s' /\ D.bk σ' H'
  | .cont=>∃ σ' H', Inv X pZ σ' H' s' /\ D.ct σ' H'
  | .ret u=>∃ v σ' H', Inv X pZ σ' H' s' /\ RelV v u /\ D.rt v H'
def PE (X : Cx) (e : Expr) (t : TE) : Prop:=
  ∀ (pZ : List (Addr × Obj)) (s : Shared) (σ : St) (H : Hp) (Q : VK), Inv X pZ σ H s -> t σ H Q -> wpAny (model X.prog X.w) X.A (eval e X.env) (EP X pZ σ Q) X.xe s
def PT (X : Cx) (e : Expr) (t : TT) : Prop:=
  ∀ (pZ : List (Addr × Obj)) (s : Shared) (σ : St) (H : Hp) (Q : Bool -> Hp -> Prop), Inv X pZ σ H s -> t σ H Q -> wpAny (model X.prog X.w) X.A (isTrue e X.env (eval e X.env)) (TP X pZ σ Q) X.xe s
def PW (X : Cx) (e : Expr) (t : TT) : Prop:=
  ∀ (whole : Sem Value) (pZ : List (Addr × Obj)) (s : Shared) (σ : St) (H : Hp) (Q : Bool -> Hp -> Prop), Inv X pZ σ H s -> t σ H Q -> wpAny (model X.prog X.w) X.A (isTrue e X.env whole) (TP X pZ σ Q) X.xe s
def PW.pt {X : Cx} {e : Expr} {t : TT} (h : PW X e t) : PT X e t:=h _
def PA (X : Cx) (es : List Expr) (t : TA) : Prop:=
  ∀ (pos : Pos) (pZ : List (Addr × Obj)) (s : Shared) (σ : St) (H : Hp) (Q : List V -> Hp -> Prop), Inv X pZ σ H s -> t σ H Q -> wpAny (model X.prog X.w) X.A (spliced (backTo pos (starEach es X.env))) (AP X pZ σ Q) X.xe s
def PS (X : Cx) (st : Stmt) (t : TS) : Prop:=
  ∀ (pZ : List (Addr × Obj)) (s : Shared) (σ : St) (H : Hp) (D : Ends), Inv X pZ σ H s -> t D σ H -> wpAny (model X.prog X.w) X.A (exec st X.env) (SP X pZ D) X.xe s
def xg (X : Cx) (st : List Stmt) (t : TS) : Prop:=
  ∀ (pZ : List (Addr × Obj)) (s : Shared) (σ : St) (H : Hp) (D : Ends), Inv X pZ σ H s -> t D σ H -> wpAny (model X.prog X.w) X.A (execs st X.env) (SP X pZ D) X.xe s
def eg {α : Type} {t : Sem α} {Q Q' : α -> Shared -> Prop} {M : Model} {A : Around} {E : Value -> Shared -> Prop} {s : Shared} (h : wpAny M A t Q E s) (hQ : ∀ a s, Q a s -> Q' a s) : wpAny M A t Q' E s:=wpAny_mono h hQ λ_ _ x=>x
section
variable {X : Cx}
def p6 (i : Nat) : TE:=λσ H Q=>∃ v, σ[i]? = some (some v) /\ Q v H
def tC (v : V) : TE:=λ_ H Q=>Q v H
def xD {i : Nat} {x : Str} {pos : Pos} (hN : X.N[i]? = some x) (hv : Kk X.env.scope x) (hd : (x == ("__debug__" : Str)) = false:=by decide) (hcd : (x == ("__classdict__" : Str)) = false:=by decide) : PE X (.Name x pos) (p6 i):=by
  intro pZ s σ H Q I h;obtain ⟨v, e, h⟩:=h;obtain ⟨m, hn, hl⟩:=I.loc;obtain ⟨u, r, l⟩:=hl i x v hN e hv;have fin : EP X pZ σ Q u s:=⟨v, H, I, r, h⟩;rcases l with ⟨hk, hm⟩ | ⟨hk, c, hc, hcell⟩
  · exact wpAny_Name (wpAny_loadName_local I.ok.kind hk hn hm fin) hd
  · rcases hk with hk | hk
    · exact wpAny_Name (wpAny_loadName_cell I.ok.kind hk hc hcell fin) hd
    · exact wpAny_Name (wpAny_loadName_free I.ok.kind hk hc hcell fin hcd) hd
def aJ {i j pos} : PE X (.Constant (.int i) j pos) (tC (.int i)):=λ_ _ _ H _ I h=>wpAny_Constant_int ⟨.int i, H, I.tok _, ⟨_, rfl⟩, h⟩
def Jh {b j pos} : PE X (.Constant (.bool b) j pos) (tC (.bl b)):=λ_ _ _ H _ I h=>Constant_bool ⟨.bl b, H, I, rfl, h⟩
def G3 {j pos} : PE X (.Constant .none j pos) (tC .cB):=λ_ _ _ H _ I h=>Constant_none ⟨.cB, H, I, rfl, h⟩
def Cy {x j pos} : PE X (.Constant (.str x) j pos) (tC (.str x)):=λ_ _ _ H _ I h=>Calls.Constant_str ⟨.str x, H, I.tok _, ⟨_, rfl⟩, h⟩
def Gl (X : Cx) (x : Str) : Prop:=X.env.kindOf x = some .globalImplicit
def nZ {E : Value -> Shared -> Prop} {pZ : List (Addr × Obj)} {s : Shared} {σ : St} {H : Hp} {x : Str} {u : Value} {pos : Pos} {Q : Value -> Shared -> Prop} (I : Inv X pZ σ H s) (hg : Gl X x) (hm : X.mg x = some u) (h : Q u s)
    (hd : (x == ("__debug__" : Str)) = false:=by decide) : wpAny (model X.prog X.w) X.A (eval (.Name x pos) X.env) Q E s:=
  Calls.Name_function_global I.ok.kind hg (Calls.loadGlobal_global (by rw [I.ok.glob]; exact I.mod.glob.keeps I.bk) hm h) hd
def qW {E : Value -> Shared -> Prop} {pZ : List (Addr × Obj)} {s : Shared} {σ : St} {H : Hp} {x : Str} {u : Value} {pos : Pos} {Q : Value -> Shared -> Prop} (I : Inv X pZ σ H s) (hg : Gl X x) (hm : X.mg x = none) (hv : bootBuiltins x = some u) (h : Q u s)
    (hn : x ≠ "__name__":=by decide) (hd : (x == ("__debug__" : Str)) = false:=by decide) : wpAny (model X.prog X.w) X.A (eval (.Name x pos) X.env) Q E s:=by
  obtain ⟨mb, h1, h2⟩:=I.mod.blt;exact Calls.Name_function_global I.ok.kind hg (Calls.loadGlobal_builtin (by rw [I.ok.glob]; exact I.mod.glob.keeps I.bk) hm (by rw [I.ok.blt]; exact h1.keeps I.bk) ((h2 x hn).trans hv) h) hd
def y8 {x : Str} {v : V} {u : Value} {pos : Pos} (hg : Gl X x) (hm : X.mg x = some u) (r : RelV v u) (hd : (x == ("__debug__" : Str)) = false:=by decide) : PE X (.Name x pos) (tC v):=
  λ_ _ _ H _ I h=>nZ I hg hm ⟨v, H, I, r, h⟩ hd
def Ez {x : Str} {v : V} {u : Value} {pos : Pos} (hg : Gl X x) (hm : X.mg x = none) (hv : bootBuiltins x = some u) (r : RelV v u) (hn : x ≠ "__name__":=by decide) (hd : (x == ("__debug__" : Str)) = false:=by decide) : PE X (.Name x pos) (tC v):=
  λ_ _ _ H _ I h=>qW I hg hm hv ⟨v, H, I, r, h⟩ hn hd
variable {a b : Expr} {ta tb : TE} {pos : Pos}
def tB (t : TE) : TT:=λσ H Q=>t σ H λx H1=>∃ c, x = .bl c /\ Q c H1
def GR {e : Expr} {t : TE} (h : PE X e t) (he : ∀ whole, isTrue e X.env whole = (do let v <- whole; standAt e.pos; holding [v] (truthy v)):=by intro _; rfl) : PT X e (tB t):=by
  intro pZ s σ H Q I hw;refine isTrue_plain (eg (h pZ s σ H _ I hw) λv s1 ⟨x, H1, I1, r1, q1⟩=>?_) (he _);obtain ⟨d, rfl, q⟩:=q1;cases r1;exact wpAny_truthy_bool ⟨H1, I1, q⟩
variable {tA tB' : TT} {rest : List Expr}
def Kz (t u : TT) : TT:=λσ H Q=>t σ H λc H1=>if c = true then u σ H1 Q else Q false H1
def Lm (t u : TT) : TT:=λσ H Q=>t σ H λc H1=>if c = true then Q true H1 else u σ H1 Q
def Kx (t : TT) : TT:=λσ H Q=>t σ H λc H1=>Q (!c) H1
def yV (ha : PT X a tA) : PW X (.BoolOp .And [a] pos) tA:=by
  intro wh pZ s σ H Q I h;refine isTrue_and (eg (ha pZ s σ H Q I h) λc s1 e=>?_)
  cases c with
  | true=>exact isTrue_and_nil e
  | false=>exact e
def GQ (ha : PT X a tA) : PW X (.BoolOp .Or [a] pos) tA:=by
  intro wh pZ s σ H Q I h;refine isTrue_or (eg (ha pZ s σ H Q I h) λc s1 e=>?_)
  cases c with
  | false=>exact isTrue_or_nil e
  | true=>exact e
def Cn (ha : PT X a tA) (hb : PW X (.BoolOp .And (b :: rest) pos) tB') : PW X (.BoolOp .And (a :: b :: rest) pos) (Kz tA tB'):=by
  intro wh pZ s σ H Q I h;refine isTrue_and (eg (ha pZ s σ H _ I h) λc s1 ⟨H1, I1, q1⟩=>?_)
  cases c with
  | true=>exact hb wh pZ s1 σ H1 Q I1 q1
  | false=>exact ⟨H1, I1, q1⟩
def I0 (ha : PT X a tA) (hb : PW X (.BoolOp .Or (b :: rest) pos) tB') : PW X (.BoolOp .Or (a :: b :: rest) pos) (Lm tA tB'):=by
  intro wh pZ s σ H Q I h;refine isTrue_or (eg (ha pZ s σ H _ I h) λc s1 ⟨H1, I1, q1⟩=>?_)
  cases c with
  | true=>exact ⟨H1, I1, q1⟩
  | false=>exact hb wh pZ s1 σ H1 Q I1 q1
def GU (ha : PT X a tA) : PT X (.UnaryOp .Not a pos) (Kx tA):=by
  intro pZ s σ H Q I h;exact isTrue_not (ha pZ s σ H (λc H1=>Q (!c) H1) I h)
def IA (ta tb : TE) : TE:=λσ H Q=>ta σ H λx H1=>∃ c, x = .bl c /\ if c = true then tb σ H1 Q else Q (.bl false) H1
def Kw (ta tb : TE) : TE:=λσ H Q=>ta σ H λx H1=>∃ c, x = .bl c /\ if c = true then Q (.bl true) H1 else tb σ H1 Q
def Iw (ta : TE) : TE:=λσ H Q=>ta σ H λx H1=>∃ c, x = .bl c /\ Q (.bl (!c)) H1
def G1 {op} {t : TE} (h : PE X a t) : PE X (.BoolOp op [a] pos) t:=λpZ s σ H Q I hw=>BoolOp_one (h pZ s σ H Q I hw)
def G4 (ha : PE X a ta) (hb : PE X (.BoolOp .And (b :: rest) pos) tb) : PE X (.BoolOp .And (a :: b :: rest) pos) (IA ta tb):=by
  intro pZ s σ H Q I h;refine BoolOp_and (eg (ha pZ s σ H _ I h) λv s1 ⟨x, H1, I1, r1, q1⟩=>?_);obtain ⟨c, rfl, q1⟩:=q1;cases r1;refine wpAny_truthy_bool ?_
  cases c with
  | true=>exact hb pZ s1 σ H1 Q I1 q1
  | false=>exact ⟨.bl false, H1, I1, rfl, q1⟩
def Je (ha : PE X a ta) (hb : PE X (.BoolOp .Or (b :: rest) pos) tb) : PE X (.BoolOp .Or (a :: b :: rest) pos) (Kw ta tb):=by
  intro pZ s σ H Q I h;refine BoolOp_or (eg (ha pZ s σ H _ I h) λv s1 ⟨x, H1, I1, r1, q1⟩=>?_);obtain ⟨c, rfl, q1⟩:=q1;cases r1;refine wpAny_truthy_bool ?_
  cases c with
  | false=>exact hb pZ s1 σ H1 Q I1 q1
  | true=>exact ⟨.bl true, H1, I1, rfl, q1⟩
def G2 (ha : PE X a ta) : PE X (.UnaryOp .Not a pos) (Iw ta):=by
  intro pZ s σ H Q I h;refine UnaryOp_ (eg (ha pZ s σ H _ I h) λv s1 ⟨x, H1, I1, r1, q1⟩=>?_);obtain ⟨c, rfl, q1⟩:=q1;cases r1;exact not_of (wpAny_truthy_bool ⟨.bl (!c), H1, I1, rfl, q1⟩)
def Ln (t : TT) (ta tb : TE) : TE:=λσ H Q=>t σ H λc H1=>if c = true then ta σ H1 Q else tb σ H1 Q
def vO {c : Expr} (hc : PT X c tA) (ha : PE X a ta) (hb : PE X b tb) : PE X (.IfExp c a b pos) (Ln tA ta tb):=by
  intro pZ s σ H Q I h;refine wpAny_IfExp (eg (hc pZ s σ H _ I h) λd s1 ⟨H1, I1, q1⟩=>?_)
  cases d with
  | true=>exact ha pZ s1 σ H1 Q I1 q1
  | false=>exact hb pZ s1 σ H1 Q I1 q1
end
def fk (K : Frag) (H : Hp) (a : Addr) (xs : List V) : Prop:=
  Rd H a (.lst xs) \/
    ∃ (o : Obj) (aY : Array Value) (n : Nat), K.lookup a = some o /\ o.cls = .type "list" /\ o.dict = none /\ o.data = .seq aY n /\ aY.size <= sizeLine /\ Vals xs aY.toList
def ji (K : Frag) (H : Hp) (a : Addr) (xs : List V) : Prop:=
  Rd H a (.tup xs) \/
    ∃ (o : Obj) (aY : Array Value) (n : Nat), K.lookup a = some o /\ o.cls = .type "tuple" /\ o.data = .seq aY n /\ aY.size <= sizeLine /\ Vals xs aY.toList
noncomputable def K8 : Value -> Option V
  | .none=>some .cB
  | .bool b=>some (.bl b)
  | .int i _=>some (.int i)
  | .str x _=>some (.str x)
  | .bytes b _=>some (.DK b)
  | .float b _=>some (.Ie b)
  | .ref a=>some (.ref a)
  | .type n=>some (.ty n)
  | _=>none
def RelV.abs {x : V} {u : Value} (r : RelV x u) : K8 u = some x:=by
  cases x with
  | cB=>cases r; rfl
  | bl _=>cases r; rfl
  | int _=>obtain ⟨t, rfl⟩:=r; rfl
  | str _=>obtain ⟨t, rfl⟩:=r; rfl
  | DK _=>obtain ⟨t, rfl⟩:=r; rfl
  | Ie _=>obtain ⟨t, rfl⟩:=r; rfl
  | ref _=>cases r; rfl
  | ty _=>cases r; rfl
def RelV.inj {x y : V} {u : Value} (r : RelV x u) (q : RelV y u) : x = y:=Mo (r.abs.symm.trans q.abs)
theorem Vals.inj : ∀ {xs ys : List V} {us : List Value}, Vals xs us -> Vals ys us -> xs = ys
  | _, _, _, .nil, .nil=>rfl
  | _, _, _, .cons r t, .cons r' t'=>by rw [r.inj r', Vals.inj t t']
section
variable {X : Cx} {pZ : List (Addr × Obj)} {σ : St} {H : Hp} {s : Shared} {a : Addr} {xs ys : List V}
def fk.of {K : Frag} (h : H a = some (.lst xs)) : fk K H a xs:=.inl (.inl h)
def ji.of {K : Frag} (h : H a = some (.tup xs)) : ji K H a xs:=.inl (.inl h)
def Inv.list (I : Inv X pZ σ H s) (h : fk X.K H a xs) : ∃ aY : List Value, Vals xs aY /\ PlainL s.heap a aY.toArray /\ xs.length <= sizeLine:=by
  rcases h with h | ⟨o, aY, n, hk, hc, hd, hs, hz, r⟩
  · obtain ⟨z, aY, n, r, e⟩:=h.ok I.dz;exact ⟨aY, r, ⟨_, n, e, rfl, rfl, rfl⟩, z⟩
  · refine ⟨aY.toList, r, ⟨o, n, I.sW a o hk, hc, hd, by simpa using hs⟩, ?_⟩;have e:=r.length;simp only [Ma] at e;omega
def Inv.tuple (I : Inv X pZ σ H s) (h : ji X.K H a xs) : ∃ aY : List Value, Vals xs aY /\ IsTup s.heap a aY.toArray /\ xs.length <= sizeLine:=by
  rcases h with h | ⟨o, aY, n, hk, hc, hs, hz, r⟩
  · obtain ⟨z, aY, r, p⟩:=h.ok I.dz;exact ⟨aY, r, p.is, z⟩
  · refine ⟨aY.toList, r, ⟨o, I.sW a o hk, hc, n, by simpa using hs⟩, ?_⟩;have e:=r.length;simp only [Ma] at e;omega
def Inv.C0 (I : Inv X pZ σ H s) (h : fk X.K H a xs) (h' : fk X.K H a ys) : xs = ys:=by
  obtain ⟨aY, r, ⟨o, n, e, _, _, d⟩, _⟩:=I.list h;obtain ⟨cL, r', ⟨o', n', e', _, _, d'⟩, _⟩:=I.list h';rw [e] at e'; cases e'
  rw [d] at d';injection d' with d1 _;have : aY = cL:=by simpa using congrArg Array.toList d1
  subst this;exact r.inj r'
def Inv.zX (I : Inv X pZ σ H s) (h : ji X.K H a xs) (h' : ji X.K H a ys) : xs = ys:=by
  obtain ⟨aY, r, ⟨o, e, _, n, d⟩, _⟩:=I.tuple h;obtain ⟨cL, r', ⟨o', e', _, n', d'⟩, _⟩:=I.tuple h';rw [e] at e'; cases e'
  rw [d] at d';injection d' with d1 _;have : aY = cL:=by simpa using congrArg Array.toList d1
  subst this;exact r.inj r'
end
abbrev Cx.nF (X : Cx) (E : Value -> Shared -> Prop) : Cx:={ X with xe:=E }
abbrev Cx.mW (X : Cx) : Cx:=X.nF λ_ _=>False
def Cx.Ok.nF {X : Cx} (ok : X.Ok) (E : Value -> Shared -> Prop) : (X.nF E).Ok:=
  ⟨ok.mod, ok.kind, ok.glob, ok.blt, ok.above, ok.inj, ok.has, ok.Gk, ok.hd, ok.frames, ok.GF, ok.Ki, ok.bs, ok.Bo, ok.xV, ok.AZ, ok.lJ, ok.DW⟩
def Cx.Ok.jk {X : Cx} {E : Value -> Shared -> Prop} (ok : (X.nF E).Ok) : X.Ok:=
  ⟨ok.mod, ok.kind, ok.glob, ok.blt, ok.above, ok.inj, ok.has, ok.Gk, ok.hd, ok.frames, ok.GF, ok.Ki, ok.bs, ok.Bo, ok.xV, ok.AZ, ok.lJ, ok.DW⟩
section
variable {X : Cx} {pZ : List (Addr × Obj)} {σ : St} {H : Hp} {s : Shared} {E : Value -> Shared -> Prop}
theorem Inv.nF (I : Inv X pZ σ H s) (E : Value -> Shared -> Prop) : Inv (X.nF E) pZ σ H s:=⟨I.ok.nF E, I.os, I.bare, I.base, I.loc, I.cell, I.free, I.iD, I.pin, I.dz, I.len⟩
theorem Inv.jk (I : Inv (X.nF E) pZ σ H s) : Inv X pZ σ H s:=⟨I.ok.jk, I.os, I.bare, I.base, I.loc, I.cell, I.free, I.iD, I.pin, I.dz, I.len⟩
theorem SP.jk {D : Ends} {f : Flow} {s' : Shared} (h : SP (X.nF E) pZ D f s') : SP X pZ D f s':=by
  cases f with
  | next=>obtain ⟨σ', H', I, q⟩:=h; exact ⟨σ', H', I.jk, q⟩
  | brk=>obtain ⟨σ', H', I, q⟩:=h; exact ⟨σ', H', I.jk, q⟩
  | cont=>obtain ⟨σ', H', I, q⟩:=h; exact ⟨σ', H', I.jk, q⟩
  | ret u=>obtain ⟨v, σ', H', I, r, q⟩:=h; exact ⟨v, σ', H', I.jk, r, q⟩
def PE.mW {e : Expr} {t : TE} (h : PE X.mW e t) : PE X e t:=λpZ s σ H Q I hw=>
  wpAny_mono (h pZ s σ H Q (I.nF _) hw) (λ_ _ ⟨v, H', I', r, q⟩=>⟨v, H', I'.jk, r, q⟩) λ_ _ z=>False.elim z
def PT.mW {e : Expr} {t : TT} (h : PT X.mW e t) : PT X e t:=λpZ s σ H Q I hw=>
  wpAny_mono (h pZ s σ H Q (I.nF _) hw) (λ_ _ ⟨H', I', q⟩=>⟨H', I'.jk, q⟩) λ_ _ z=>False.elim z
def xg.mW {st : List Stmt} {t : TS} (h : xg X.mW st t) : xg X st t:=λpZ s σ H D I hw=>
  wpAny_mono (h pZ s σ H D (I.nF _) hw) (λ_ _ q=>q.jk) λ_ _ z=>False.elim z
end
section
variable {X : Cx} {st : Stmt} {rest : List Stmt} {t u : TS} {e : Expr} {te : TE} {pos : Pos}
def BM : TS:=λD σ H=>D.nx σ H
def tZ (t u : TS) : TS:=λD σ H=>t { D with nx:=u D } σ H
def qf : xg X [] BM:=λ_ _ σ H _ I h=>wpAny_execs_nil ⟨σ, H, I, h⟩
def cA (h1 : PS X st t) (h2 : xg X rest u) : xg X (st :: rest) (tZ t u):=by
  intro pZ s σ H D I h;refine wpAny_execs_cons (eg (h1 pZ s σ H { D with nx:=u D } I h) λf s1 q=>?_)
  cases f with
  | next=>
    obtain ⟨σ', H', I', q⟩:=q
    exact h2 pZ s1 σ' H' D I' q
  | ret v=>exact q
  | brk=>exact q
  | cont=>exact q
def iX (h1 : PS X st t) : xg X [st] t:=by
  intro pZ s σ H D I h;refine wpAny_execs_cons (eg (h1 pZ s σ H D I h) λf s1 q=>?_)
  cases f with
  | next=>exact wpAny_execs_nil q
  | ret v=>exact q
  | brk=>exact q
  | cont=>exact q
def Inv.quiet {pZ : List (Addr × Obj)} {σ : St} {H : Hp} {s : Shared} (I : Inv X pZ σ H s) : interactive X.env = false:=by simp [interactive, I.ok.kind]
def BQ (te : TE) : TS:=λD σ H=>te σ H λ_ H1=>D.nx σ H1
def Es (he : PE X e te) (hs : swapsWith e none pos.line X.env = pure false:=by rfl) : PS X (.Expr e pos) (BQ te):=by
  intro pZ s σ H D I h;exact wpAny_Expr_any (eg (he pZ s σ H _ I h) λv s1 ⟨x, H1, I1, r1, q1⟩=>⟨σ, H1, I1, q1⟩) I.quiet hs
def D6 (te : TE) : TS:=λD σ H=>te σ H D.rt
def qC (he : PE X e te) : PS X (.Return (some e) pos) (D6 te):=by
  intro pZ s σ H D I h;exact wpAny_Return_some (eg (he pZ s σ H _ I h) λv s1 ⟨x, H1, I1, r1, q1⟩=>⟨x, σ, H1, I1, r1, q1⟩)
def BN (c : TT) (t u : TS) : TS:=λD σ H=>c σ H λb H1=>if b = true then t D σ H1 else u D σ H1
def yX {c : Expr} {a b : List Stmt} {tc : TT} (hc : PT X c tc) (ha : xg X a t) (hb : xg X b u) : PS X (.If c a b pos) (BN tc t u):=by
  intro pZ s σ H D I h;refine wpAny_If (eg (hc pZ s σ H _ I h) λd s1 ⟨H1, I1, q1⟩=>?_)
  cases d with
  | true=>exact ha pZ s1 σ H1 D I1 q1
  | false=>exact hb pZ s1 σ H1 D I1 q1
end
abbrev TG:=V -> St -> Hp -> (St -> Hp -> Prop) -> Prop
abbrev HX:=List V -> St -> Hp -> (St -> Hp -> Prop) -> Prop
def PG (X : Cx) (target : Expr) (t : TG) : Prop:=
  ∀ (pZ : List (Addr × Obj)) (s : Shared) (σ : St) (H : Hp) (v : V) (u : Value) (Q : St -> Hp -> Prop), Inv X pZ σ H s -> RelV v u -> t v σ H Q ->
    wpAny (model X.prog X.w) X.A (assign target X.env u) (λ_ s'=>∃ σ' H', Inv X pZ σ' H' s' /\ Q σ' H') X.xe s
def Km (X : Cx) (ts : List Expr) (t : HX) : Prop:=
  ∀ (pZ : List (Addr × Obj)) (s : Shared) (σ : St) (H : Hp) (vs : List V) (us : List Value) (Q : St -> Hp -> Prop), Inv X pZ σ H s -> Vals vs us -> t vs σ H Q ->
    wpAny (model X.prog X.w) X.A (assignInOrder ((assignEach ts X.env).map (·.2)) us) (λ_ s'=>∃ σ' H', Inv X pZ σ' H' s' /\ Q σ' H') X.xe s
abbrev HW:=V -> V -> V -> Hp -> (Hp -> Prop) -> Prop
def J4 (X : Cx) (t : HW) : Prop:=
  ∀ (pZ : List (Addr × Obj)) (s : Shared) (σ : St) (H : Hp) (o i v : V) (ov iv u : Value) (Q : Hp -> Prop), Inv X pZ σ H s -> RelV o ov -> RelV i iv -> RelV v u -> t o i v H Q ->
    wpAny (model X.prog X.w) X.A (setItem ov iv u) (λ_ s'=>∃ H', Inv X pZ σ H' s' /\ Q H') X.xe s
section
variable {X : Cx} {pos : Pos}
def jc (i : Nat) : TG:=λv σ H Q=>Q (σ.set i (some v)) H
def nQ {i : Nat} {x : Str} (hN : X.N.Nodup) (hi : X.N[i]? = some x) (hx : Loc X.env.scope x) (hf : X.fn x = true \/ X.env.scope.names.lookup x = some .local:=by first | exact .inl rfl | exact .inr rfl | assumption) : PG X (.Name x pos) (jc i):=by
  intro pZ s σ H v u Q I r h;exact wpAny_assign_Name (i7 I hN hi hx r (λs' I'=>⟨_, H, I', h⟩) hf)
def K3 : HX:=λvs σ H Q=>vs = [] /\ Q σ H
def JH (t : TG) (u : HX) : HX:=λvs σ H Q=>∃ v r, vs = v :: r /\ t v σ H λσ' H'=>u r σ' H' Q
def Ew : Km X [] K3:=by
  intro pZ s σ H vs us Q I r h;obtain ⟨e, h⟩:=h;subst e;cases r;exact assignInOrder_nil ⟨σ, H, I, h⟩
def vM {e : Expr} {es : List Expr} {t : TG} {u : HX} (h1 : PG X e t) (h2 : Km X es u)
    (hs : (assignEach (e :: es) X.env).map (·.2) = assign e X.env :: (assignEach es X.env).map (·.2):=by rfl) : Km X (e :: es) (JH t u):=by
  intro pZ s σ H vs us Q I r h;obtain ⟨v, vr, e1, h⟩:=h;subst e1
  cases r with
  | cons r rr=>
    rw [hs];refine assignInOrder_cons (eg (h1 pZ s σ H _ _ _ I r h) λ_ s1 ⟨σ1, H1, I1, q1⟩=>?_);exact h2 pZ s1 σ1 H1 _ _ Q I1 rr q1
def K1 (K : Frag) (n : Nat) (t : HX) : TG:=λv σ H Q=>∃ a xs, v = .ref a /\ ji K H a xs /\ xs.length = n /\ t xs σ H Q
def G0 {es : List Expr} {k : Nat} {t : HX} {n : Nat} (hc : X.calm = true) (h : Km X es t)
    (hn : (assignEach es X.env).length = n:=by rfl) (hst : (assignEach es X.env).findIdx? (·.1) = none:=by rfl) : PG X (.Tuple es k pos) (K1 X.K n t):=by
  intro pZ s σ H v u Q I r hw;obtain ⟨a, xs, e1, hq, hl, hw⟩:=hw;subst e1;cases r;obtain ⟨aY, rv, ht, hz⟩:=I.tuple hq;refine assign_Tuple_tuple (I.ok.hd hc) ht (by simp [hn, <- hl, rv.length]) hst λh' hx=>?_;have I1 : Inv X pZ σ H { s with heap:=h' }:=I.kept (t':=s.toks) λb o e=>hx b o (L4 (LQ e)) e;exact h pZ _ σ H xs _ Q I1 (by simpa using rv) hw
def K2 (to ti : TE) (t : HW) : TG:=λv σ H Q=>to σ H λo H1=>ti σ H1 λi H2=>t o i v H2 λH3=>Q σ H3
def qG {o i : Expr} {to ti : TE} {t : HW} (ho : PE X o to) (hi : PE X i ti) (hs : J4 X t)
    (ha : ∀ v, assign (.Subscript o i pos) X.env v = (do
      let ov <- holding [v] (eval o X.env);let iv <- holding [v, ov] (eval i X.env)
      standAt pos
      holding [v, ov, iv] (setItem ov iv v)
      release [v, ov, iv] []):=by intro _; rfl) : PG X (.Subscript o i pos) (K2 to ti t):=by
  intro pZ s σ H v u Q I r h;rw [ha];refine Ly (wpAny_holding (eg (ho pZ s σ H _ I h) λov s1 ⟨x, H1, I1, r1, q1⟩=>?_));refine Ly (wpAny_holding (eg (hi pZ s1 σ H1 _ I1 q1) λiv s2 ⟨y, H2, I2, r2, q2⟩=>?_));refine Ly (wpAny_standAt (Ly (wpAny_holding (eg (hs pZ s2 σ H2 x y v ov iv u _ I2 r1 r2 r q2) λ_ s3 ⟨H3, I3, q3⟩=>?_))));exact wpAny_release ⟨σ, H3, I3, q3⟩
def nG (te : TE) (g : TG) : TS:=λD σ H=>te σ H λx H1=>g x σ H1 D.nx
def oO {tg e : Expr} {te : TE} {g : TG} (he : PE X e te) (hg : PG X tg g) (hs : swapsWithSole [tg] e pos.line X.env = pure false:=by rfl) (hw : swappedStores [tg] e X.env = pure none:=by rfl)
    (h1 : (assignEach [tg] X.env).map (·.2) = [assign tg X.env]:=by rfl) : PS X (.Assign [tg] e pos) (nG te g):=by
  intro pZ s σ H D I h;refine wpAny_Assign_stores (eg (he pZ s σ H _ I h) λv s1 ⟨x, H1, I1, r1, q1⟩=>?_) hs hw;rw [h1];exact eg (hg pZ s1 σ H1 x v _ I1 r1 q1) λ_ s2 q=>q
def mS {i : Nat} {x : Str} {e : Expr} {te : TE} {pos' : Pos} (hN : X.N.Nodup) (hi : X.N[i]? = some x) (hx : Loc X.env.scope x) (he : PE X e te) (hs : swapsWith e (some (.Name x pos')) pos.line X.env = pure false:=by rfl) (hf : X.fn x = true \/ X.env.scope.names.lookup x = some .local:=by first | exact .inl rfl | exact .inr rfl | assumption) :
    PS X (.Assign [.Name x pos'] e pos) (nG te (jc i)):=by
  intro pZ s σ H D I h;refine wpAny_Assign_Name (eg (he pZ s σ H _ I h) λv s1 ⟨y, H1, I1, r1, q1⟩=>?_) hs;exact i7 I1 hN hi hx r1 (λs2 I2=>⟨_, H1, I2, q1⟩) hf
def BK (i j : Nat) (ta : TA) : TS:=λD σ H=>ta σ H λvs H1=>∃ v w, vs = [v, w] /\ D.nx ((σ.set i (some v)).set j (some w)) H1
def GY {i j : Nat} {x y : Str} {a b : Expr} {ta : TA} {px py pt : Pos} {kt k2 pt2} (hc : X.calm = true) (hN : X.N.Nodup) (hi : X.N[i]? = some x) (hj : X.N[j]? = some y) (hij : i ≠ j)
    (hx : X.env.scope.names.lookup x = some .local) (hy : X.env.scope.names.lookup y = some .local) (ha : PA X [a, b] ta)
    (hw : swappedStores [.Tuple [.Name x px, .Name y py] kt pt] (.Tuple [a, b] k2 pt2) X.env = pure (some [x, y]))
    (hs : swapsWithSole [.Tuple [.Name x px, .Name y py] kt pt] (.Tuple [a, b] k2 pt2) pos.line X.env = pure false:=by rfl) :
    PS X (.Assign [.Tuple [.Name x px, .Name y py] kt pt] (.Tuple [a, b] k2 pt2) pos) (BK i j ta):=by
  intro pZ s σ H D I h;rw [exec_Assign_arm];refine Ly (wpAny_standAt ?_);rw [hs];refine Ly (LD ?_);rw [Ml (by decide)];refine Ly (Tuple_ (eg (ha _ pZ s σ H _ I h) λus s1 ⟨vs, H1, I1, r1, q1⟩=>?_));obtain ⟨v, w, e1, q1⟩:=q1;subst e1
  obtain ⟨u1, u2, rfl, rv, rw'⟩ : ∃ u1 u2, us = [u1, u2] /\ RelV v u1 /\ RelV w u2:=by
    cases r1 with
    | cons p q=>
      cases q with
      | cons p' q'=>
        cases q';exact ⟨_, _, rfl, p, p'⟩
  refine wpAny_newObj_type ?_ (by show 2 <= sizeLine; decide);have I2 : Inv X pZ σ H1 { s1 with heap:=s1.heap.push { cls:=.type "tuple", data:=.seq [u1, u2].toArray } }:=I1.kept (t':=s1.toks) λb o e=>LB _ e;rw [hw];refine Ly (LD ?_);show wpAny (model X.prog X.w) X.A (do rule "assign.swapped-stores"; let items <- unpackItems (.ref s1.heap.objs.size) 2 none; assignInOrder [λv=>bindName X.env y v, λv=>bindName X.env x v] items.reverse; pure Flow.next) _ _ _;refine Ly (wpAny_rule (Ly (unpackItems_tuple (items:=#[u1, u2]) (I.ok.hd hc) (IsTup.new s1.heap _) λh' hx'=>?_)));have I3:=I2.kept (h':=h') (t':=s1.toks) λb o e=>hx' b o (L4 (LQ e)) e;show wpAny _ _ (assignInOrder [λv=>bindName X.env y v, λv=>bindName X.env x v] [u2, u1] >>= λ_=>pure Flow.next) _ _ _;refine Ly (assignInOrder_cons (wpAny_bindName (i7 I3 hN hj (.inl hy) rw' (λs2 I4=>?_) (.inr hy))));refine assignInOrder_cons (wpAny_bindName (i7 I4 hN hi (.inl hx) rv (λs3 I5=>assignInOrder_nil (LD ?_)) (.inr hx)));rw [List.set_comm _ _ (Ne.symm hij)] at I5;exact ⟨_, H1, I5, q1⟩
end
structure It where
  go : Nat -> Hp -> Prop
  Fw : Nat -> Hp -> V -> Hp -> Prop
  stop : Nat -> Hp -> Prop
def gX (X : Cx) (pZ : List (Addr × Obj)) (H : Hp) (b : Addr) : Prop:=
  H b = none /\ b ≠ X.env.locals /\ b ∉ X.fs /\ (b ∈ X.ex \/ X.s₀.heap.objs.size <= b) /\ (∀ x c, X.env.cells.lookup x = some c -> c ≠ b) /\ ∀ p ∈ X.pn ++ pZ, p.1 ≠ b
def Inv.yf {X : Cx} {pZ : List (Addr × Obj)} {σ : St} {H H' : Hp} {s : Shared} {b : Addr} (I : Inv X pZ σ H s) (hb : s.heap.objs.size <= b) (hn : H' b = none) : gX X pZ H' b:=by
  refine ⟨hn, Nat.ne_of_gt (LX I.lt hb), I.KJ hb, .inr (LV I.sz hb), λx c e z=>?_, λp hp z=>?_⟩
  · obtain ⟨v, q⟩:=I.cell x c e;exact absurd (LX q.lt (by rw [z]; exact hb)) (Nat.lt_irrefl _)
  · exact absurd (LX (LQ (I.pin p hp).1) (by rw [z]; exact hb)) (Nat.lt_irrefl _)
structure Turn (P : Program) (w : World) (K : Frag) (tg : Expr) (J : It) (fp : List Addr) (it : Addr) (tn : Nat -> Heap -> Prop) : Prop where
  mem : it ∈ fp
  obj : ∀ i h, tn i h -> ∀ b ∈ fp, ∃ o, h.get? b = some o /\ ∀ v, o.data ≠ .cell v
  keep : ∀ i h h', tn i h -> (∀ b ∈ fp, ∀ o, h.get? b = some o -> h'.get? b = some o) -> tn i h'
  item : ∀ (X : Cx), X.prog = P -> X.w = w -> X.K = K -> X.calm = true -> ∀ (i : Nat) (pZ : List (Addr × Obj)) (s : Shared) (σ : St) (H : Hp) (E : Value -> Shared -> Prop), Inv X pZ σ H s -> (∀ b ∈ fp, gX X pZ H b) -> tn i s.heap -> J.go i H ->
    wpAny (model P w) X.A (pyNext (.ref it)) (λr s1=>∃ u, r = some u /\
      wpAny (model P w) X.A (letOwnedTupleGo tg (.ref it) u) (λ_ s2=>∃ x H', Inv X pZ σ H' s2 /\ RelV x u /\ J.Fw i H x H' /\ tn (i + 1) s2.heap /\ ∀ b ∈ fp, H' b = none) E s1) E s
  done : ∀ (X : Cx), X.prog = P -> X.w = w -> X.K = K -> X.calm = true -> ∀ (i : Nat) (pZ : List (Addr × Obj)) (s : Shared) (σ : St) (H : Hp) (E : Value -> Shared -> Prop), Inv X pZ σ H s -> (∀ b ∈ fp, gX X pZ H b) -> tn i s.heap -> J.stop i H ->
    wpAny (model P w) X.A (pyNext (.ref it)) (λr s1=>r = none /\ Inv X pZ σ H s1) E s
  self : ∀ (A : Around) (i : Nat) (s : Shared) (Q : Value -> Shared -> Prop) (E : Value -> Shared -> Prop), tn i s.heap -> Q (.ref it) s -> wpAny (model P w) A (pyIter (.ref it)) Q E s
abbrev TI:=St -> Hp -> (It -> Hp -> Prop) -> Prop
def K9 (X : Cx) (pZ : List (Addr × Obj)) (σ : St) (tg : Expr) (R : It -> Hp -> Prop) (itv : Value) (s2 : Shared) : Prop:=
  ∃ (it : Addr) (fp : List Addr) (tn : Nat -> Heap -> Prop) (J : It) (H' : Hp), itv = .ref it /\ Inv X pZ σ H' s2 /\ Turn X.prog X.w X.K tg J fp it tn /\ tn 0 s2.heap /\ (∀ b ∈ fp, gX X pZ H' b) /\ R J H'
def PI (X : Cx) (tg iter : Expr) (wi : TI) : Prop:=
  ∀ (pZ : List (Addr × Obj)) (s : Shared) (σ : St) (H : Hp) (R : It -> Hp -> Prop), Inv X pZ σ H s -> wi σ H R ->
    wpAny (model X.prog X.w) X.A (eval iter X.env) (λv s1=>wpAny (model X.prog X.w) X.A (pyIter v) (K9 X pZ σ tg R) X.xe s1) X.xe s
def zx {M : Model} {A : Around} {E : Value -> Shared -> Prop} {s : Shared} {tg : Expr} {it : Addr} {u : Value} {o : Obj} {n : String} {vs : Array Value} {Q : Unit -> Shared -> Prop} (ho : s.heap.get? it = some o) (hc : o.cls = .type n) (hd : o.data = .fields vs)
    (hn : ["enumerate", "zip", "dict_itemiterator", "dict_reverseitemiterator", "odict_iterator", "itertools.zip_longest", "itertools.pairwise"].contains n = false) (hQ : Q () s) : wpAny M A (letOwnedTupleGo tg (.ref it) u) Q E s:=by
  unfold letOwnedTupleGo
  cases tg <;> first
    | exact LD hQ
    | (cases u <;> first
        | exact LD hQ
        | (refine Ly (wpAny_load ho ?_)
           rw [hc, hd];show wpAny M A (if (["enumerate", "zip", "dict_itemiterator", "dict_reverseitemiterator", "odict_iterator", "itertools.zip_longest", "itertools.pairwise"].contains n && vs[0]? == some (rawInt _)) = true then _ else _) Q E s;rw [Ml (by intro h; rw [hn, Bool.false_and] at h; cases h)]
           exact LD hQ))
noncomputable def Fu (K : Frag) (a : Addr) : It:=
  ⟨λi H=>∃ xs x, fk K H a xs /\ xs[i]? = some x, λi H x H'=>H' = H /\ ∀ xs, fk K H a xs -> xs[i]? = some x, λi H=>∃ xs, fk K H a xs /\ xs.length <= i⟩
def Kr (K : Frag) (a : Addr) : It:=
  ⟨λi H=>∃ xs x, ji K H a xs /\ xs[i]? = some x, λi H x H'=>H' = H /\ ∀ xs, ji K H a xs -> xs[i]? = some x, λi H=>∃ xs, ji K H a xs /\ xs.length <= i⟩
noncomputable def Ii (lo : Int) (n : Nat) : It:=⟨λi _=>i < n, λi H x H'=>H' = H /\ x = .int (lo + i), λi _=>n <= i⟩
def sI {P : Program} {w : World} {K : Frag} {tg : Expr} (a it : Addr) : Turn P w K tg (Fu K a) [it] it (λi h=>h.IsListIter it a i) where
  mem:=by simp
  obj:=λi h st b hb=>by
    have e : b = it:=by simpa using hb
    subst e;obtain ⟨o, e, c, d⟩:=st;exact ⟨o, e, λv z=>by rw [d] at z; cases z⟩
  keep:=λi h h' st k=>st.at λo e=>k it (by simp) o e
  item:=by
    intro X hP hw hK hc i pZ s σ H E I hf st hg;subst hP hw hK;obtain ⟨xs, x, hq, hx⟩:=hg;obtain ⟨aY, rv, p, hz⟩:=I.list hq;obtain ⟨u, hu, ru⟩:=rv.get hx;obtain ⟨f0, f1, f2, f3, f4, f5⟩:=hf it (by simp);refine wpAny_pyNext_list_item st p.isList (x:=u) (by simpa using hu) λh' st' sb=>?_;have I1 : Inv X pZ σ H { s with heap:=h' }:=I.turned (t':=s.toks) (λb o hb e=>(sb.2 b hb).trans e) f0 f1 f3 f4 f5;obtain ⟨o, e, c, d⟩:=id st';exact ⟨u, rfl, zx (s:={ s with heap:=h' }) e c d (by decide) ⟨x, H, I1, ru, ⟨rfl, λys hy=>by rw [I.C0 hy hq]; exact hx⟩, st', λb hb=>(hf b hb).1⟩⟩
  done:=by
    intro X hP hw hK hc i pZ s σ H E I hf st hg;subst hP hw hK;obtain ⟨xs, hq, hx⟩:=hg;obtain ⟨aY, rv, p, hz⟩:=I.list hq;obtain ⟨f0, f1, f2, f3, f4, f5⟩:=hf it (by simp);have hl:=rv.length;exact wpAny_pyNext_list_end (I.ok.hd hc) st p.isList (by simp; omega) λh' eb=>⟨rfl, I.turned (t':=s.toks) (λb o hb e=>eb b o hb e) f0 f1 f3 f4 f5⟩
  self:=λ_ _ _ _ _ st h=>wpAny_pyIter_listiter st h
def xj {P : Program} {w : World} {K : Frag} {tg : Expr} (a it : Addr) : Turn P w K tg (Kr K a) [it] it (λi h=>h.IsTupleIter it a i) where
  mem:=by simp
  obj:=λi h st b hb=>by
    have e : b = it:=by simpa using hb
    subst e;obtain ⟨o, e, c, d⟩:=st;exact ⟨o, e, λv z=>by rw [d] at z; cases z⟩
  keep:=λi h h' st k=>st.at λo e=>k it (by simp) o e
  item:=by
    intro X hP hw hK hc i pZ s σ H E I hf st hg;subst hP hw hK;obtain ⟨xs, x, hq, hx⟩:=hg;obtain ⟨aY, rv, p, hz⟩:=I.tuple hq;obtain ⟨u, hu, ru⟩:=rv.get hx;obtain ⟨f0, f1, f2, f3, f4, f5⟩:=hf it (by simp);refine wpAny_pyNext_tuple_item st (show s.heap.IsTuple a aY.toArray from p) (x:=u) (by simpa using hu) λh' st' sb=>?_;have I1 : Inv X pZ σ H { s with heap:=h' }:=I.turned (t':=s.toks) (λb o hb e=>(sb.2 b hb).trans e) f0 f1 f3 f4 f5;obtain ⟨o, e, c, d⟩:=id st';exact ⟨u, rfl, zx (s:={ s with heap:=h' }) e c d (by decide) ⟨x, H, I1, ru, ⟨rfl, λys hy=>by rw [I.zX hy hq]; exact hx⟩, st', λb hb=>(hf b hb).1⟩⟩
  done:=by
    intro X hP hw hK hc i pZ s σ H E I hf st hg;subst hP hw hK;obtain ⟨xs, hq, hx⟩:=hg;obtain ⟨aY, rv, p, hz⟩:=I.tuple hq;obtain ⟨f0, f1, f2, f3, f4, f5⟩:=hf it (by simp);have hl:=rv.length;exact wpAny_pyNext_tuple_end (I.ok.hd hc) st (show s.heap.IsTuple a aY.toArray from p) (by simp; omega) λh' eb=>⟨rfl, I.turned (t':=s.toks) (λb o hb e=>eb b o hb e) f0 f1 f3 f4 f5⟩
  self:=λ_ _ _ _ _ st h=>wpAny_pyIter_tupleiter st h
def xk {P : Program} {w : World} {K : Frag} {tg : Expr} (it : Addr) (lo : Int) (n : Nat) : Turn P w K tg (Ii lo n) [it] it (λi h=>IsRangeIter h it (lo + (i : Nat) * 1) ((n : Int) - (i : Nat)) 1) where
  mem:=by simp
  obj:=λi h st b hb=>by
    have e : b = it:=by simpa using hb
    subst e
    exact ⟨_, st, λv z=>by
      have z' : Data.fields _ = Data.cell v:=z
      cases z'⟩
  keep:=λi h h' st k=>k it (by simp) _ st
  item:=by
    intro X hP hw hK hc i pZ s σ H E I hf st hg;subst hP hw hK;obtain ⟨f0, f1, f2, f3, f4, f5⟩:=hf it (by simp);have W:=Walks.range (prog:=X.prog) (w:=X.w) (I.ok.hd hc) it lo 1 n;refine W.item i s _ _ hg st λv h' tk hv st' kk=>?_;obtain ⟨t, rfl⟩:=hv;have I1 : Inv X pZ σ H { s with heap:=h', toks:=tk }:=I.turned (λb o hb e=>kk b o (by simpa using hb) e) f0 f1 f3 f4 f5;refine ⟨_, rfl, zx (s:={ s with heap:=h', toks:=tk }) (n:="range_iterator") st' rfl rfl (by decide) ⟨.int (lo + i), H, I1, ⟨t, ?_⟩, ⟨rfl, rfl⟩, st', λb hb=>(hf b hb).1⟩⟩;rw [Int.mul_one]
  done:=by
    intro X hP hw hK hc i pZ s σ H E I hf st hg;subst hP hw hK;obtain ⟨f0, f1, f2, f3, f4, f5⟩:=hf it (by simp);exact wpAny_pyNext_range_end (I.ok.hd hc) st (by have : n <= i:=hg; omega) λh' eb=>⟨rfl, I.turned (t':=s.toks) (λb o hb e=>eb b o hb e) f0 f1 f3 f4 f5⟩
  self:=λ_ _ _ _ _ st h=>wpAny_pyIter_rangeiter st h
section
variable {X : Cx} {tg : Expr}
def JD (K : Frag) (tl : TE) : TI:=λσ H R=>tl σ H λx H1=>∃ a, x = .ref a /\ (∃ xs, fk K H1 a xs) /\ R (Fu K a) H1
def y6 {l : Expr} {tl : TE} (hl : PE X l tl) : PI X tg l (JD X.K tl):=by
  intro pZ s σ H R I h;refine eg (hl pZ s σ H _ I h) λv s1 ⟨x, H1, I1, r1, q1⟩=>?_;obtain ⟨a, e, ⟨xs, hq⟩, q⟩:=q1;subst e;cases r1;obtain ⟨aY, rv, p, hz⟩:=I1.list hq;refine wpAny_pyIter_list p.isList ?_;refine ⟨s1.heap.objs.size, [s1.heap.objs.size], _, _, H1, rfl, I1.kept (t':=s1.toks) λb o e=>LB _ e, sI a _, ⟨_, LO _ rfl, rfl, rfl⟩, λb hb=>?_, q⟩;have e : b = s1.heap.objs.size:=by simpa using hb
  subst e;exact I1.yf (LH _) (I1.dz.fresh (LH _))
def Cf {pZ : List (Addr × Obj)} {σ : St} {H : Hp} {s : Shared} {R : It -> Hp -> Prop} {E : Value -> Shared -> Prop} {lo hi : Int} {t u v : Tok} {tk : Nat} (I : Inv X pZ σ H s) (h1 : -(2 ^ 62) <= lo) (h2 : lo < 2 ^ 62) (h3 : -(2 ^ 62) <= hi) (h4 : hi < 2 ^ 62)
    (q : R (Ii lo (hi - lo).toNat) H) : wpAny (model X.prog X.w) X.A (pyIter (.ref s.heap.objs.size)) (K9 X pZ σ tg R) E { s with heap:=s.heap.push { cls:=.type "range", data:=.fields #[.int lo t, .int hi u, .int 1 v] }, toks:=tk }:=by
  refine wpAny_pyIter_range (IsRange.new ..) (small_one h1 h2 h3 h4) ?_;have I1 : Inv X pZ σ H { s with heap:=s.heap.push { cls:=.type "range", data:=.fields #[.int lo t, .int hi u, .int 1 v] }, toks:=tk }:=I.kept λb o e=>LB _ e
  refine ⟨(s.heap.push { cls:=.type "range", data:=.fields #[.int lo t, .int hi u, .int 1 v] }).objs.size, [(s.heap.push { cls:=.type "range", data:=.fields #[.int lo t, .int hi u, .int 1 v] }).objs.size], _, _, H, rfl,
    I1.kept (t':=tk) λb o e=>LB _ e, xk _ lo (hi - lo).toNat, ?_, λb hb=>?_, q⟩
  · have e1 : lo + ((0 : Nat) : Int) * 1 = lo:=by simp
    have e2 : (((hi - lo).toNat : Nat) : Int) - ((0 : Nat) : Int) = Builtin.Range.rangeSize lo hi 1:=by rw [rangeSize_one]; split <;> omega
    show IsRangeIter _ _ (lo + ((0 : Nat) : Int) * 1) ((((hi - lo).toNat : Nat) : Int) - ((0 : Nat) : Int)) 1;rw [e1, e2];exact LO _ rfl
  · have e : b = (s.heap.push { cls:=.type "range", data:=.fields #[.int lo t, .int hi u, .int 1 v] }).objs.size:=by simpa using hb
    subst e;exact I1.yf (LH _) (I1.dz.fresh (LH _))
def zw (ta : TA) : TI:=λσ H R=>ta σ H λvs H1=>∃ j : Int, vs = [.int j] /\ -(2 ^ 62) <= j /\ j < 2 ^ 62 /\ R (Ii 0 j.toNat) H1
def An {a : Expr} {ta : TA} {p pos : Pos} (hg : Gl X "range") (hm : X.mg "range" = none) (ha : PA X [a] ta) (hs : starEach [a] X.env = [(false, eval a X.env)]:=by rfl) : PI X tg (.Call (.Name "range" p) [a] [] pos) (zw ta):=by
  intro pZ s σ H R I h;refine Call_ (qW I hg hm boot_range (PyProof.Rows.callWith_type1 (eg (ha pos pZ s σ H _ I h) λus s1 ⟨vs, H1, I1, r1, q1⟩=>?_) hs rfl));obtain ⟨j, e, q1, q2, q⟩:=q1;subst e
  cases r1 with
  | cons r rr=>
    cases rr;obtain ⟨t, rfl⟩:=r;exact call_range_1 (Cf I1 (by omega) (by omega) q1 q2 (by simpa using q))
noncomputable def BP (wi : TI) (g : TG) (tb : TS) : TS:=λD σ H=>wi σ H λJ H1=>∃ W : Nat -> Nat -> St -> Hp -> Prop, (∃ m, W 0 m σ H1) /\ ∀ i m σ H, W i m σ H ->
  (J.stop i H /\ D.nx σ H) \/ (J.go i H /\ ∃ N : St -> Hp -> Prop, (∀ σ' H', N σ' H' -> ∃ m', m' < m /\ W (i + 1) m' σ' H') /\ ∀ x H', J.Fw i H x H' -> g x σ H' λσ2 H2=>tb { D with nx:=N, ct:=N, bk:=D.nx } σ2 H2)
def oR (fp : List Addr) (h : Heap) : List (Addr × Obj):=fp.filterMap λb=>(h.get? b).map λo=>(b, o)
def iI {fp : List Addr} {h : Heap} {b : Addr} {o : Obj} (hb : b ∈ fp) (e : h.get? b = some o) : (b, o) ∈ oR fp h:=List.mem_filterMap.mpr ⟨b, hb, by rw [e]; rfl⟩
def Aw {fp : List Addr} {h : Heap} {p : Addr × Obj} (hp : p ∈ oR fp h) : p.1 ∈ fp /\ h.get? p.1 = some p.2:=by
  obtain ⟨b, hb, e⟩:=List.mem_filterMap.mp hp
  cases q : h.get? b with
  | none=>rw [q] at e; cases e
  | some o=>
    rw [q] at e;have e' : (b, o) = p:=Mo e;subst e';exact ⟨hb, q⟩
def Inv.pinned {pZ : List (Addr × Obj)} {σ : St} {H : Hp} {s : Shared} {fp : List Addr} (I : Inv X pZ σ H s) (hf : ∀ b ∈ fp, gX X pZ H b) (ho : ∀ b ∈ fp, ∃ o, s.heap.get? b = some o /\ ∀ v, o.data ≠ .cell v) : Inv X (pZ ++ oR fp s.heap) σ H s:=
  I.qg λp hp=>(Mj.mp hp).elim (λz=>I.pin p (LS _ z)) λz=>by
    obtain ⟨hb, e⟩:=Aw z;obtain ⟨f0, f1, f2, _⟩:=hf p.1 hb;obtain ⟨o, e', d⟩:=ho p.1 hb;rw [e] at e'; cases e'
    exact ⟨e, f0, f1, f2, d⟩
def Inv.ly {pZ pl : List (Addr × Obj)} {σ : St} {H : Hp} {s : Shared} (I : Inv X (pZ ++ pl) σ H s) : Inv X pZ σ H s:=I.qg λp hp=>I.pin p (LS _ (List.mem_append_left _ hp))
def Cq {iter : Expr} {body : List Stmt} {wi : TI} {g : TG} {tb : TS} {pos : Pos} (hp : PassesOwn (model X.prog X.w) X.A X.env X.xe) (hc : X.calm = true) (hi : PI X tg iter wi) (hg : PG X tg g) (hb : xg X body tb)
    (hs : ∀ x, foldedSetIterable iter X.env x = pure x:=by intro _; rfl) : PS X (.For tg iter body [] pos) (BP wi g tb):=by
  intro pZ s σ H D I h;refine wpAny_For (eg (hi pZ s σ H _ I h) λv s1 h1=>eg h1 λitv s2 h2=>?_) hs;obtain ⟨it, fp, tn, J, H2, e, I2, T, st2, f2, W, ⟨m0, w0⟩, turn⟩:=h2;subst e;have qq : ∀ {H' : Hp}, (∀ b ∈ fp, H' b = none) -> ∀ b ∈ fp, gX X pZ H' b:=λhn b hb=>⟨hn b hb, (f2 b hb).2⟩;refine codeAny_forLoop_any (λn s'=>∃ i σ' H', Inv X pZ σ' H' s' /\ tn i s'.heap /\ (∀ b ∈ fp, H' b = none) /\ W i n σ' H') ?_ m0 ⟨0, σ, H2, I2, st2, λb hb=>(f2 b hb).1, w0⟩;rintro n s3 ⟨i, σ3, H3, I3, st3, fr3, w3⟩;rcases turn i n σ3 H3 w3 with ⟨stop, qn⟩ | ⟨go, N, hN, step⟩
  · refine wpAny_passesOwn hp (eg (T.done X rfl rfl rfl hc i pZ s3 σ3 H3 X.xe I3 (qq fr3) st3 stop) λr s4 ⟨hr, I4⟩=>?_);subst hr;exact wpAny_execs_nil ⟨σ3, H3, I4, qn⟩
  · refine wpAny_passesOwn hp (eg (T.item X rfl rfl rfl hc i pZ s3 σ3 H3 X.xe I3 (qq fr3) st3 go) λr s4 ⟨u, hr, h4⟩=>?_);subst hr;refine wpAny_passesOwn hp (eg h4 λ_ s5 ⟨x, H5, I5, r5, y5, st5, fr5⟩=>?_);have I5':=I5.pinned (qq fr5) (T.obj _ _ st5);refine wpAny_passesOwn hp (eg (hg _ s5 σ3 H5 x u _ I5' r5 (step x H5 y5)) λ_ s6 ⟨σ6, H6, I6, q6⟩=>?_);refine wpAny_passesOwn hp (eg (hb _ s6 σ6 H6 _ I6 q6) λf s7 q7=>?_)
    have again : ∀ {σ7 : St} {H7 : Hp}, Inv X (pZ ++ oR fp s5.heap) σ7 H7 s7 -> N σ7 H7 -> ∃ m, m < n /\ ∃ i σ' H', Inv X pZ σ' H' s7 /\ tn i s7.heap /\ (∀ b ∈ fp, H' b = none) /\ W i m σ' H':=λ{σ7 H7} I7 n7=>by
      obtain ⟨m', hm, w7⟩:=hN σ7 H7 n7;refine ⟨m', hm, i + 1, σ7, H7, I7.ly, T.keep _ _ _ st5 λb hb o e=>(I7.pin (b, o) (LS _ (LS _ (iI hb e)))).1, λb hb=>?_, w7⟩;obtain ⟨o, e, d⟩:=T.obj _ _ st5 b hb;exact (I7.pin (b, o) (LS _ (LS _ (iI hb e)))).2.1
    cases f with
    | next=>obtain ⟨σ7, H7, I7, n7⟩:=q7; exact again I7 n7
    | cont=>obtain ⟨σ7, H7, I7, n7⟩:=q7; exact again I7 n7
    | brk=>obtain ⟨σ7, H7, I7, q7⟩:=q7; exact ⟨σ7, H7, I7.ly, q7⟩
    | ret v=>obtain ⟨x7, σ7, H7, I7, r7, q7⟩:=q7; exact ⟨x7, σ7, H7, I7.ly, r7, q7⟩
end
def Dq {K : Frag} {a : Addr} {xs : List V} {g : TG} {tb : TS} {D : Ends} {σ : St} {H : Hp} (Pv : Nat -> St -> Hp -> Prop) (h0 : Pv 0 σ H) (hl : ∀ i σ H, i <= xs.length -> Pv i σ H -> fk K H a xs)
    (hs : ∀ i x σ H, xs[i]? = some x -> Pv i σ H -> g x σ H λσ2 H2=>tb { D with nx:=Pv (i + 1), ct:=Pv (i + 1), bk:=D.nx } σ2 H2) (hd : ∀ σ H, Pv xs.length σ H -> D.nx σ H) :
    ∃ W : Nat -> Nat -> St -> Hp -> Prop, (∃ m, W 0 m σ H) /\ ∀ i m σ H, W i m σ H ->
      ((Fu K a).stop i H /\ D.nx σ H) \/ ((Fu K a).go i H /\ ∃ N : St -> Hp -> Prop, (∀ σ' H', N σ' H' -> ∃ m', m' < m /\ W (i + 1) m' σ' H') /\ ∀ x H', (Fu K a).Fw i H x H' -> g x σ H' λσ2 H2=>tb { D with nx:=N, ct:=N, bk:=D.nx } σ2 H2):=by
  refine ⟨λi m σ H=>m = xs.length - i /\ i <= xs.length /\ Pv i σ H, ⟨xs.length, by simp, L1 _, h0⟩, ?_⟩;rintro i m σ H ⟨rfl, hi, p⟩;have q:=hl i σ H hi p;by_cases kY : i < xs.length
  · refine .inr ⟨⟨xs, xs[i], q, by simp [kY]⟩, Pv (i + 1), λσ' H' p'=>⟨xs.length - (i + 1), by omega, rfl, kY, p'⟩, λx H' y=>?_⟩;obtain ⟨e, y⟩:=y;subst e;exact hs i x σ _ (y xs q) p
  · have e : i = xs.length:=by omega
    subst e;exact .inl ⟨⟨xs, q, LH _⟩, hd σ H p⟩
abbrev R2:=V -> V -> Hp -> VK -> Prop
def jj (X : Cx) (f : Value -> Value -> Sem Value) (r : R2) : Prop:=
  ∀ (pZ : List (Addr × Obj)) (s : Shared) (σ : St) (H : Hp) (x y : V) (v u : Value) (Q : VK), Inv X pZ σ H s -> RelV x v -> RelV y u -> r x y H Q ->
    wpAny (model X.prog X.w) X.A (f v u) (EP X pZ σ Q) X.xe s
def Kl (X : Cx) (f : Value -> Sem Value) (r : V -> Hp -> VK -> Prop) : Prop:=
  ∀ (pZ : List (Addr × Obj)) (s : Shared) (σ : St) (H : Hp) (x : V) (v : Value) (Q : VK), Inv X pZ σ H s -> RelV x v -> r x H Q ->
    wpAny (model X.prog X.w) X.A (f v) (EP X pZ σ Q) X.xe s
def iF (X : Cx) (f : Value) (r : List V -> Hp -> VK -> Prop) : Prop:=
  ∀ (pZ : List (Addr × Obj)) (s : Shared) (σ : St) (H : Hp) (xs : List V) (us : List Value) (Q : VK), Inv X pZ σ H s -> Vals xs us -> r xs H Q ->
    wpAny (model X.prog X.w) X.A (call f us) (EP X pZ σ Q) X.xe s
def GA (r : R2) (ta tb : TE) : TE:=λσ H Q=>ta σ H λx H1=>tb σ H1 λy H2=>r x y H2 Q
def Ku (r : V -> Hp -> VK -> Prop) (ta : TE) : TE:=λσ H Q=>ta σ H λx H1=>r x H1 Q
def rI (C : Int -> Int -> Prop) (g : Int -> Int -> V) : R2:=λx y H Q=>∃ i j, x = .int i /\ y = .int j /\ C i j /\ Q (g i j) H
noncomputable def yT (g : Int -> Int -> V) : R2:=λx y H Q=>∃ i j, x = .int i /\ y = .int j /\ Q (g i j) H
def rU (g : Int -> V) : V -> Hp -> VK -> Prop:=λx H Q=>∃ i, x = .int i /\ Q (g i) H
section
variable {X : Cx} {a b c : Expr} {ta tb tc : TE} {pos : Pos}
def HN (ha : PE X a ta) (hb : PE X b tb) {pZ : List (Addr × Obj)} {s : Shared} {σ : St} {H : Hp} {R : V -> V -> Hp -> Prop} (I : Inv X pZ σ H s)
    (h : ta σ H λx H1=>tb σ H1 λy H2=>R x y H2) {Q : Value -> Shared -> Prop} {f : Value -> Value -> Sem Value}
    (hf : ∀ v u s2 x y H2, Inv X pZ σ H2 s2 -> RelV x v -> RelV y u -> R x y H2 -> wpAny (model X.prog X.w) X.A (f v u) Q X.xe s2) :
    wpAny (model X.prog X.w) X.A (eval a X.env) (λv s₁=>wpAny (model X.prog X.w) X.A (eval b X.env) (λu s₂=>wpAny (model X.prog X.w) X.A (f v u) Q X.xe s₂) X.xe s₁) X.xe s:=by
  refine eg (ha pZ s σ H _ I h) λv s1 ⟨x, H1, I1, r1, q1⟩=>?_;refine eg (hb pZ s1 σ H1 _ I1 q1) λu s2 ⟨y, H2, I2, r2, q2⟩=>?_;exact hf v u s2 x y H2 I2 r1 r2 q2
def cg {op : Operator} {r : R2} (ho : jj X (binaryOp op) r) (ha : PE X a ta) (hb : PE X b tb) : PE X (.BinOp a op b pos) (GA r ta tb):=by
  intro pZ s σ H Q I h;exact wpAny_BinOp (HN ha hb I h λv u s2 x y H2 I2 rx ry q=>ho pZ s2 σ H2 x y v u Q I2 rx ry q)
def Jc {op : UnaryOp} {r : V -> Hp -> VK -> Prop} (ho : Kl X (unaryOp op) r) (ha : PE X a ta) : PE X (.UnaryOp op a pos) (Ku r ta):=by
  intro pZ s σ H Q I h;exact UnaryOp_ (eg (ha pZ s σ H _ I h) λv s1 ⟨x, H1, I1, r1, q1⟩=>ho pZ s1 σ H1 x v Q I1 r1 q1)
def Ic {f : Value -> Value -> Sem Value} {C : Int -> Int -> Prop} {g : Int -> Int -> Int}
    (rule : ∀ (i j : Int) (t u : Tok) (s : Shared) (Q : Value -> Shared -> Prop) (E : Value -> Shared -> Prop), C i j -> Q (.int (g i j) s.toks) { s with toks:=s.toks + 1 } -> wpAny (model X.prog X.w) X.A (f (.int i t) (.int j u)) Q E s) :
    jj X f (rI C λi j=>.int (g i j)):=by
  intro pZ s σ H x y v u Q I rx ry h;obtain ⟨i, j, rfl, rfl, hc, q⟩:=h;obtain ⟨t, rfl⟩:=rx;obtain ⟨t', rfl⟩:=ry;exact rule i j t t' s _ _ hc ⟨.int (g i j), H, I.tok _, ⟨_, rfl⟩, q⟩
def Jl {f : Value -> Value -> Sem Value} {g : Int -> Int -> Int}
    (rule : ∀ (i j : Int) (t u : Tok) (s : Shared) (Q : Value -> Shared -> Prop) (E : Value -> Shared -> Prop), Q (.int (g i j) s.toks) { s with toks:=s.toks + 1 } -> wpAny (model X.prog X.w) X.A (f (.int i t) (.int j u)) Q E s) :
    jj X f (yT λi j=>.int (g i j)):=by
  intro pZ s σ H x y v u Q I rx ry h;obtain ⟨i, j, rfl, rfl, q⟩:=h;obtain ⟨t, rfl⟩:=rx;obtain ⟨t', rfl⟩:=ry;exact rule i j t t' s _ _ ⟨.int (g i j), H, I.tok _, ⟨_, rfl⟩, q⟩
def EJ {f : Value -> Value -> Sem Value} {g : Int -> Int -> Bool}
    (rule : ∀ (i j : Int) (t u : Tok) (s : Shared) (Q : Value -> Shared -> Prop) (E : Value -> Shared -> Prop), Q (.bool (g i j)) s -> wpAny (model X.prog X.w) X.A (f (.int i t) (.int j u)) Q E s) :
    jj X f (yT λi j=>.bl (g i j)):=by
  intro pZ s σ H x y v u Q I rx ry h;obtain ⟨i, j, rfl, rfl, q⟩:=h;obtain ⟨t, rfl⟩:=rx;obtain ⟨t', rfl⟩:=ry;exact rule i j t t' s _ _ ⟨.bl (g i j), H, I, rfl, q⟩
def Bi (i j : Int) : Prop:=0 < j /\ j < 1073741824
def DV (i j : Int) : Prop:=0 <= j /\ j <= 1000000 /\ i.natAbs < 2 ^ 64
def qa (i j : Int) : Prop:=(-(2 ^ 64) < i /\ i < 2 ^ 64) \/ (-(2 ^ 64) < j /\ j < 2 ^ 64)
def qa.ok {i j : Int} (h : qa i j) : IntMulOk i j:=by
  rcases h with ⟨h1, h2⟩ | ⟨h1, h2⟩
  · exact .of_left (intBits_le_64 h1 h2)
  · exact .of_right (intBits_le_64 h1 h2)
def jT : jj X (binaryOp .Add) (yT λi j=>.int (i + j)):=Jl λ_ _ _ _ _ _ _ q=>add_int q
def km : jj X (binaryOp .Sub) (yT λi j=>.int (i - j)):=Jl λ_ _ _ _ _ _ _ q=>sub_int q
def oV : jj X (binaryOp .Mult) (rI qa λi j=>.int (i * j)):=Ic λ_ _ _ _ _ _ _ hc q=>mul_int q hc.ok
def nV : jj X (binaryOp .FloorDiv) (rI Bi λi j=>.int (i / j)):=Ic λi j _ _ _ _ _ hc q=>by
  have h1 : (0 : Int) < j:=hc.1;have h2 : j < 1073741824:=hc.2;exact floordiv_int (by omega) (by rw [Int.fdiv_eq_ediv_of_nonneg i (by omega)]; exact q) (.inl (PyProof.noPylong_small (by omega)))
def jr : jj X (binaryOp .Mod) (rI (λ_ j=>0 < j) λi j=>.int (i % j)):=Ic λi j _ _ _ _ _ hc q=>by
  have h1 : (0 : Int) < j:=hc;exact mod_int' (by omega) (by rw [Int.fmod_eq_emod_of_nonneg i (by omega)]; exact q)
def xI : jj X (binaryOp .Pow) (rI DV λi j=>.int (i ^ j.toNat)):=Ic λ_ _ _ _ _ _ _ hc q=>pow_int_small hc.1 hc.2.1 hc.2.2 q
def Ll {f : Value -> Sem Value} {g : Int -> Int}
    (rule : ∀ (i : Int) (t : Tok) (s : Shared) (Q : Value -> Shared -> Prop) (E : Value -> Shared -> Prop), Q (.int (g i) s.toks) { s with toks:=s.toks + 1 } -> wpAny (model X.prog X.w) X.A (f (.int i t)) Q E s) :
    Kl X f (rU λi=>.int (g i)):=by
  intro pZ s σ H x v Q I rx h;obtain ⟨i, rfl, q⟩:=h;obtain ⟨t, rfl⟩:=rx;exact rule i t s _ _ ⟨.int (g i), H, I.tok _, ⟨_, rfl⟩, q⟩
def tW : Kl X (unaryOp .USub) (rU λi=>.int (-i)):=Ll λ_ _ _ _ _ q=>neg_int q
end
noncomputable def KD : V -> V -> Bool
  | .cB, .cB=>true | .cB, .int _=>true | .int _, .cB=>true | .cB, .bl _=>true | .bl _, .cB=>true | .cB, .str _=>true | .str _, .cB=>true
  | .int _, .int _=>true | .bl _, .bl _=>true | .str _, .str _=>true | .DK _, .DK _=>true
  | .int _, .str _=>true | .str _, .int _=>true | .bl _, .str _=>true | .str _, .bl _=>true
  | _, _=>false
def Lo : R2:=λx y H Q=>KD x y = true /\ Q (.bl (decide (x = y))) H
def Fh {i j : Int} : decide (V.int i = V.int j) = (i == j):=by
  rw [Bool.eq_iff_iff];simp
def HI {i j : Bool} : decide (V.bl i = V.bl j) = (i == j):=by
  rw [Bool.eq_iff_iff];simp
def Fg {i j : Str} : decide (V.str i = V.str j) = (i == j):=by
  rw [Bool.eq_iff_iff];simp
def Fi {i j : Array UInt8} : decide (V.DK i = V.DK j) = (i.toList == j.toList):=by
  rw [Bool.eq_iff_iff];cases i;cases j;simp
section
variable {X : Cx} {a b c : Expr} {ta tb tc : TE} {pos : Pos}
def ff {pZ : List (Addr × Obj)} {σ : St} {H : Hp} {s : Shared} {Q : VK} {k k' : Bool} (I : Inv X pZ σ H s) (q : Q (.bl k) H) (e : k = k') : EP X pZ σ Q (.bool k') s:=by
  subst e;exact ⟨.bl k, H, I, rfl, q⟩
def Jk : jj X (compareOp .Eq) Lo:=by
  intro pZ s σ H x y v u Q I rx ry h;obtain ⟨hs, q⟩:=h
  cases x with
  | cB=>
    cases rx
    cases y with
    | cB=>cases ry; exact PySem.EqNone.eq_none_none (ff I q (by simp))
    | bl j=>cases ry; exact PySem.EqNone.eq_none_bool (ff I q (by simp))
    | int j=>obtain ⟨t', rfl⟩:=ry; exact PySem.EqNone.eq_none_int (ff I q (by simp))
    | str j=>obtain ⟨t', rfl⟩:=ry; exact PySem.EqNone.eq_none_str (ff I q (by simp))
    | _=>exact absurd (show false = true from hs) Mt
  | bl i=>
    cases rx
    cases y with
    | cB=>cases ry; exact PySem.EqNone.eq_bool_none (ff I q (by simp))
    | bl j=>cases ry; exact eq_bool (ff I q HI)
    | str j=>obtain ⟨t', rfl⟩:=ry; exact PySem.EqMixed.eq_bool_str (ff I q (by simp))
    | _=>exact absurd (show false = true from hs) Mt
  | int i=>
    obtain ⟨t, rfl⟩:=rx
    cases y with
    | cB=>cases ry; exact PySem.EqNone.eq_int_none (ff I q (by simp))
    | int j=>obtain ⟨t', rfl⟩:=ry; exact eq_int (ff I q Fh)
    | str j=>obtain ⟨t', rfl⟩:=ry; exact PySem.EqMixed.eq_int_str (ff I q (by simp))
    | _=>exact absurd (show false = true from hs) Mt
  | str i=>
    obtain ⟨t, rfl⟩:=rx
    cases y with
    | cB=>cases ry; exact PySem.EqNone.eq_str_none (ff I q (by simp))
    | bl j=>cases ry; exact PySem.EqMixed.eq_str_bool (ff I q (by simp))
    | int j=>obtain ⟨t', rfl⟩:=ry; exact PySem.EqMixed.eq_str_int (ff I q (by simp))
    | str j=>obtain ⟨t', rfl⟩:=ry; exact eq_str (ff I q Fg)
    | _=>exact absurd (show false = true from hs) Mt
  | DK i=>
    obtain ⟨t, rfl⟩:=rx
    cases y with
    | DK j=>obtain ⟨t', rfl⟩:=ry; exact PySem.W.eq_bytes (ff I q Fi)
    | _=>exact absurd (show false = true from hs) Mt
  | _=>cases y <;> exact absurd (show false = true from hs) Mt
def vS : jj X (compareOp .Lt) (yT λi j=>.bl (decide (i < j))):=EJ λ_ _ _ _ _ _ _ q=>lt_int q
def Ji : jj X (compareOp .LtE) (yT λi j=>.bl (decide (i <= j))):=EJ λ_ _ _ _ _ _ _ q=>le_int q
def vT : jj X (compareOp .Gt) (yT λi j=>.bl (decide (j < i))):=EJ λ_ _ _ _ _ _ _ q=>gt_int q
def Jj : jj X (compareOp .GtE) (yT λi j=>.bl (decide (j <= i))):=EJ λ_ _ _ _ _ _ _ q=>ge_int q
def As : jj X (compareOp .In) (λx y H Q=>∃ i j, x = .str i /\ y = .str j /\ Q (.bl (!(Builtin.Str.occurrences j i 0 j.length 1).isEmpty)) H):=by
  intro pZ s σ H x y v u Q I rx ry h;obtain ⟨i, j, rfl, rfl, q⟩:=h;obtain ⟨t, rfl⟩:=rx;obtain ⟨t', rfl⟩:=ry;exact in_str (ff I q rfl)
def EG : jj X (compareOp .IsNot) (λx y H Q=>y = .cB /\ Q (.bl (!decide (x = .cB))) H):=by
  intro pZ s σ H x y v u Q I rx ry h;obtain ⟨rfl, q⟩:=h;cases ry;refine isnot_none_gen (ff I q ?_)
  cases x <;> first
    | (cases rx; rfl)
    | (obtain ⟨t, rfl⟩:=rx; rfl)
def jj.or {f : Value -> Value -> Sem Value} {r r' : R2} (h : jj X f r) (h' : jj X f r') : jj X f (λx y H Q=>r x y H Q \/ r' x y H Q):=by
  intro pZ s σ H x y v u Q I rx ry q;rcases q with q | q
  · exact h pZ s σ H x y v u Q I rx ry q
  · exact h' pZ s σ H x y v u Q I rx ry q
def aW (b : Expr) {op : CmpOp} (h : op ≠ .In:=by decide) (h2 : op ≠ .NotIn:=by decide) : behindInMarks op b = false:=by
  have e1 : (op == CmpOp.In) = false:=by cases op <;> first | rfl | exact absurd rfl h
  have e2 : (op == CmpOp.NotIn) = false:=by cases op <;> first | rfl | exact absurd rfl h2
  cases b <;> simp [behindInMarks, e1, e2]
def Ex {op : CmpOp} {r : R2} (ho : jj X (compareOp op) r) (ha : PE X a ta) (hb : PE X b tb) (hm : behindInMarks op b = false) : PE X (.Compare a [op] [b] pos) (GA r ta tb):=by
  intro pZ s σ H Q I h;exact wpAny_Compare1 (HN ha hb I h λv u s2 x y H2 I2 rx ry q=>ho pZ s2 σ H2 x y v u Q I2 rx ry q) hm
def FA (t : TE) : TT:=λσ H Q=>t σ H λx H'=>∃ k, x = .bl k /\ Q k H'
def nM {op : CmpOp} {r : R2} (ho : jj X (compareOp op) r) (ha : PE X a ta) (hb : PE X b tb) (hm : behindInMarks op b = false) : PT X (.Compare a [op] [b] pos) (FA (GA r ta tb)):=by
  intro pZ s σ H Q I h
  refine wpAny_isTrue_Compare1 (eg (ha pZ s σ H _ I h) λv s1 ⟨x, H1, I1, r1, q1⟩=>eg (hb pZ s1 σ H1 _ I1 q1) λu s2 ⟨y, H2, I2, r2, q2⟩=>
    eg (ho pZ s2 σ H2 x y v u _ I2 r1 r2 q2) λc s3 ⟨z, H3, I3, r3, k, e, q3⟩=>?_) hm
  subst e;cases r3;exact wpAny_truthy_bool ⟨H3, I3, q3⟩
def xo (r r' : R2) (ta tb tc : TE) : TE:=λσ H Q=>ta σ H λx H1=>tb σ H1 λy H2=>r x y H2 λz H3=>∃ k, z = .bl k /\
  (if k = true then tc σ H3 λw' H4=>r' y w' H4 Q else Q (.bl false) H3)
def CA {op op' : CmpOp} {r r' : R2} (ho : jj X (compareOp op) r) (ho' : jj X (compareOp op') r') (ha : PE X a ta) (hb : PE X b tb) (hc : PE X c tc)
    (hm : lastMarks [op, op'] [b, c] = false:=by with_unfolding_all rfl) : PE X (.Compare a [op, op'] [b, c] pos) (xo r r' ta tb tc):=by
  intro pZ s σ H Q I h
  refine Compare_chain (eg (ha pZ s σ H _ I h) λv s1 ⟨x, H1, I1, r1, q1⟩=>chain_link (eg (hb pZ s1 σ H1 _ I1 q1) λu s2 ⟨y, H2, I2, r2, q2⟩=>
    eg (ho pZ s2 σ H2 x y v u _ I2 r1 r2 q2) λd s3 ⟨z, H3, I3, r3, k, e, q3⟩=>?_)) hm
  subst e;cases r3;refine wpAny_truthy_bool ?_
  cases k with
  | false=>exact ite_ff ⟨.bl false, H3, I3, rfl, q3⟩
  | true=>exact ite_tt (chain_last (eg (hc pZ s3 σ H3 _ I3 q3) λw' s4 ⟨z', H4, I4, r4, q4⟩=>ho' pZ s4 σ H4 y z' u w' Q I4 r2 r4 q4))
def Co {op op' : CmpOp} {r r' : R2} (ho : jj X (compareOp op) r) (ho' : jj X (compareOp op') r') (ha : PE X a ta) (hb : PE X b tb) (hc : PE X c tc)
    (hm : lastMarks [op, op'] [b, c] = false:=by with_unfolding_all rfl) : PT X (.Compare a [op, op'] [b, c] pos) (FA (xo r r' ta tb tc)):=by
  intro pZ s σ H Q I h
  refine isTrue_chain (eg (ha pZ s σ H _ I h) λv s1 ⟨x, H1, I1, r1, q1⟩=>test_link (eg (hb pZ s1 σ H1 _ I1 q1) λu s2 ⟨y, H2, I2, r2, q2⟩=>
    eg (ho pZ s2 σ H2 x y v u _ I2 r1 r2 q2) λd s3 ⟨z, H3, I3, r3, k, e, q3⟩=>?_)) hm
  subst e;cases r3;refine wpAny_truthy_bool ?_
  cases k with
  | false=>
    obtain ⟨k', e', q'⟩:=q3;cases e'
    exact ite_ff ⟨H3, I3, q'⟩
  | true=>
    refine ite_tt (test_last (eg (hc pZ s3 σ H3 _ I3 q3) λw' s4 ⟨z', H4, I4, r4, q4⟩=>eg (ho' pZ s4 σ H4 y z' u w' _ I4 r2 r4 q4) λd' s5 ⟨z2, H5, I5, r5, k2, e2, q5⟩=>?_));subst e2;cases r5;exact wpAny_truthy_bool ⟨H5, I5, q5⟩
def qV : (sizeLine : Nat) < 2 ^ 63:=by rw [Md]; decide
def xJ : jj X (binaryOp .Add) (λx y H Q=>∃ i j, x = .str i /\ y = .str j /\ i.length + j.length <= sizeLine /\ Q (.str (i ++ j)) H):=by
  intro pZ s σ H x y v u Q I rx ry h;obtain ⟨i, j, rfl, rfl, hz, q⟩:=h;obtain ⟨t, rfl⟩:=rx;obtain ⟨t', rfl⟩:=ry;exact add_str (λt' tk=>⟨.str (i ++ j), H, I.tok _, ⟨_, rfl⟩, q⟩) hz
def vals1 {x : V} {us : List Value} (r : Vals [x] us) : ∃ u, us = [u] /\ RelV x u:=by
  cases r with
  | cons r1 r2=>cases r2; exact ⟨_, rfl, r1⟩
def vals2 {x y : V} {us : List Value} (r : Vals [x, y] us) : ∃ u w', us = [u, w'] /\ RelV x u /\ RelV y w':=by
  cases r with
  | cons r1 r2=>
    cases r2 with
    | cons r3 r4=>cases r4; exact ⟨_, _, rfl, r1, r3⟩
def DI : iF X (.builtin "abs") (λxs H Q=>∃ i, xs = [.int i] /\ Q (.int (if i < 0 then -i else i)) H):=by
  intro pZ s σ H xs us Q I r h;obtain ⟨i, rfl, q⟩:=h;obtain ⟨u, rfl, t, rfl⟩:=vals1 r;exact call_abs_int λu tk=>⟨.int (if i < 0 then -i else i), H, I.tok _, ⟨_, rfl⟩, q⟩
def tG (hc : X.calm = true) : iF X (.builtin "max") (λxs H Q=>∃ i j, xs = [.int i, .int j] /\ Q (.int (if j > i then j else i)) H):=by
  intro pZ s σ H xs us Q I r h;obtain ⟨i, j, rfl, q⟩:=h;obtain ⟨u, w', rfl, ⟨t, rfl⟩, ⟨t', rfl⟩⟩:=vals2 r;refine max_two_ints (I.ok.hd hc) λh' tk k=>⟨_, H, I.kept k, ?_, q⟩;by_cases hj : j > i
  · rw [Mk hj, Mk hj]; exact ⟨_, rfl⟩
  · rw [Ml hj, Ml hj]; exact ⟨_, rfl⟩
def A3 (hc : X.calm = true) : iF X (.builtin "min") (λxs H Q=>∃ i j, xs = [.int i, .int j] /\ Q (.int (if j < i then j else i)) H):=by
  intro pZ s σ H xs us Q I r h;obtain ⟨i, j, rfl, q⟩:=h;obtain ⟨u, w', rfl, ⟨t, rfl⟩, ⟨t', rfl⟩⟩:=vals2 r;refine min_two_ints (I.ok.hd hc) λh' tk k=>⟨_, H, I.kept k, ?_, q⟩;by_cases hj : j < i
  · rw [Mk hj, Mk hj]; exact ⟨_, rfl⟩
  · rw [Ml hj, Ml hj]; exact ⟨_, rfl⟩
def J6 (K : Frag) (x : V) (H : Hp) (n : Nat) : Prop:=
  match x with
  | .str y=>y.length <= sizeLine /\ n = y.length
  | .DK y=>y.size <= sizeLine /\ n = y.size
  | .ref p=>(∃ xs, fk K H p xs /\ n = xs.length) \/ ∃ xs, ji K H p xs /\ n = xs.length
  | _=>False
def wO : iF X (.builtin "len") (λxs H Q=>∃ x n, xs = [x] /\ J6 X.K x H n /\ Q (.int n) H):=by
  intro pZ s σ H xs us Q I r h;obtain ⟨x, n, rfl, e, q⟩:=h;obtain ⟨u, rfl, rx⟩:=vals1 r;have hl:=qV;have hs : sizeLine = 16777216:=Md
  cases x with
  | str y=>
    obtain ⟨t, rfl⟩:=rx;obtain ⟨hy, e'⟩ : y.length <= sizeLine /\ n = y.length:=e;subst e'
    exact len_str (by omega) ⟨.int _, H, I.tok _, ⟨_, rfl⟩, q⟩
  | DK y=>
    obtain ⟨t, rfl⟩:=rx;obtain ⟨hy, e'⟩ : y.size <= sizeLine /\ n = y.size:=e;subst e'
    exact PySem.W.len_bytes (by omega) ⟨.int _, H, I.tok _, ⟨_, rfl⟩, q⟩
  | ref p=>
    cases rx;have e' : (∃ xs, fk X.K H p xs /\ n = xs.length) \/ ∃ xs, ji X.K H p xs /\ n = xs.length:=e;rcases e' with ⟨xs, hx, e'⟩ | ⟨xs, hx, e'⟩
    · subst e';obtain ⟨aY, r', pl, hz⟩:=I.list hx;have hlen:=r'.length;exact Calls.call_len_list pl.isList (by simp only [LF]; omega) ⟨.int xs.length, H, I.tok _, ⟨_, by simp only [LF]; rw [hlen]⟩, q⟩
    · subst e';obtain ⟨aY, r', pl, hz⟩:=I.tuple hx;have hlen:=r'.length
      exact len_tuple pl (by simp only [LF]; omega) ⟨.int xs.length, H, I.tok _, ⟨_, by simp only [LF]; rw [hlen]⟩, q⟩
  | _=>exact (show False from e).elim
end
structure Ia (h : Heap) (x dx C : Addr) (mA : Str -> Option Value) : Prop where
  obj : h.get? x = some (PySem.W.instObj C dx)
  ns : h.Ns1 dx mA
  ne : dx ≠ x
def AA {h : Heap} {dx : Addr} {mA : Str -> Option Value} (n : h.Ns1 dx mA) : ∃ od, h.get? dx = some od /\ ∀ name, PySem.W.lookIn name od = some (mA name):=by
  obtain ⟨o, es, ep, ho, hd, hk, _, hm⟩:=n;refine ⟨o, ho, λname=>?_⟩;have e:=hm name;unfold nsFind findBy at e;rw [<- Array.find?_toList] at e;unfold PySem.W.lookIn;rw [hd];dsimp only;split
  · rename_i y q;rw [q] at e;exact congrArg some e
  · rename_i q;rw [q] at e
    have a : es.toList.any (·.refKey) = false:=by
      rw [List.any_eq_false];intro y hy;obtain ⟨z, t, Di⟩:=hk y (Array.mem_toList_iff.mp hy);simp [DictEntry.refKey, Di]
    have a' : ¬ es.toList.any (·.refKey) = true:=by rw [a]; exact Mt
    rw [Ml a'];exact congrArg some e
def Ia.look {h : Heap} {x dx C : Addr} {mA : Str -> Option Value} (I : Ia h x dx C mA) : ∃ od, PySem.W.InstAt h x (PySem.W.instObj C dx) C (some od) /\ ∀ name, PySem.W.lookIn name od = some (mA name):=
  let ⟨od, ho, hl⟩:=AA I.ns
  ⟨od, ⟨I.obj, rfl, rfl, ho⟩, hl⟩
section
variable {P : Program} {w : World} {H H' : Hp} {h h' : Heap} {a C dx : Addr} {fs fs' : List (Str × V)}
def E3 (dz : lO P w H h) (e : H a = some (.ins C dx fs)) : ∃ mA, Ia h a dx C mA /\ (∀ f, HZ (fs.lookup f) (mA f)) /\ PySem.Within mA (fs.map (·.1)) /\ fs.length <= 1000 /\ H dx = some (.own a):=by
  obtain ⟨d, z, ne, ob, mA, n, r, q⟩:=(show fE P w H h a (.ins C dx fs) from dz a _ e);exact ⟨mA, ⟨ob, n, ne⟩, r, q, z, d⟩
end
structure Lb (K : Frag) (C : Addr) : Prop where
  pg : PySem.W.plainGet K C Str.empty = true
  hd : PySem.W.hasDictIn K C = true
  po : PySem.W.plainOver K C = true
  sa : PySem.W.findIn K (.ref C) "__setattr__" = some (some (.builtin "object.__setattr__"))
def Lb.get {K : Frag} {C : Addr} (c : Lb K C) (f : Str) : PySem.W.plainGet K C f = true:=c.pg
section
variable {X : Cx} {pZ : List (Addr × Obj)} {σ : St} {H : Hp} {s : Shared} {A : Around} {E : Value -> Shared -> Prop} {Q : Value -> Shared -> Prop} {c : Value} {b : Bool}
inductive nc (K : Frag) (H : Hp) : V -> Value -> Prop where
  | cB : nc K H .cB (.type "NoneType")
  | bl (x : Bool) : nc K H (.bl x) (.type "bool")
  | int (i : Int) : nc K H (.int i) (.type "int")
  | str (x : Str) : nc K H (.str x) (.type "str")
  | Ie (x : UInt64) : nc K H (.Ie x) (.type "float")
  | lst {a : Addr} {xs : List V} (e : H a = some (.lst xs)) : nc K H (.ref a) (.type "list")
  | og {a : Addr} {o : Obj} {xs : List V} (e : H a = some (.og o (.lst xs))) : nc K H (.ref a) (.type "list")
  | tup {a : Addr} {xs : List V} (e : H a = some (.tup xs)) : nc K H (.ref a) (.type "tuple")
  | dK {a : Addr} {kvs : List (Key × V)} (e : Rd H a (.dK kvs)) : nc K H (.ref a) (.type "dict")
  | dT {a : Addr} {kvs : List (List Key × V)} (e : Rd H a (.dT kvs)) : nc K H (.ref a) (.type "dict")
  | ins {a C dx : Addr} {fs : List (Str × V)} (e : H a = some (.ins C dx fs)) (cl : Lb K C) (ha : PySem.W.findIn K (.ref C) "__class__" = some (some (.builtin "object.__class__")))
      (hn : PySem.W.specialIn K (.builtin "object.__class__") "__get__" = some (some (.builtin "getset_descriptor.__get__"))) (htk : PySem.W.takesIn K (.builtin "object.__class__") = some true)
      (hm : PySem.W.mroIn K C (.type "object") = some true) : nc K H (.ref a) (.ref C)
def AK {x : V} {u t : Value} (I : Inv X pZ σ H s) (rx : RelV x u) (ty : nc X.K H x t) (e : PySem.W.kitOne X.K t c = some b) (h : ∀ tk, Q (.bool b) { s with toks:=tk }) :
    wpAny (model X.prog X.w) A (call (.builtin "isinstance") [u, c]) Q E s:=by
  cases ty with
  | cB=>cases (show u = Value.none from rx); exact Mz PySem.W.kitx_none I.sW True.intro e (λz=>nomatch z) h
  | bl y=>cases (show u = Value.bool y from rx); exact Mz PySem.W.kitx_bool I.sW True.intro e (λz=>nomatch z) h
  | int i=>obtain ⟨t, q⟩:=(show ∃ t, u = Value.int i t from rx); cases q; exact Mz PySem.W.kitx_int I.sW True.intro e (λz=>nomatch z) h
  | str y=>obtain ⟨t, q⟩:=(show ∃ t, u = Value.str y t from rx); cases q; exact Mz PySem.W.kitx_str I.sW True.intro e (λz=>nomatch z) h
  | Ie y=>obtain ⟨t, q⟩:=(show ∃ t, u = Value.float y t from rx); cases q; exact Mz PySem.W.kitx_float I.sW True.intro e (λz=>nomatch z) h
  | @lst a xs ea=>
    cases (show u = Value.ref a from rx);obtain ⟨_, _, n, _, h1⟩:=(show fE X.prog X.w H s.heap a (.lst xs) from I.dz a _ ea)
    exact Mz PySem.W.kitx_list I.sW ⟨_, h1, rfl⟩ e (λz=>nomatch z) h
  | @og a ob xs ea=>
    cases (show u = Value.ref a from rx);obtain ⟨_, _, _, n, _, h1⟩:=(show fE X.prog X.w H s.heap a (.og ob (.lst xs)) from I.dz a _ ea)
    exact Mz PySem.W.kitx_list I.sW ⟨_, h1, rfl⟩ e (λz=>nomatch z) h
  | @tup a xs ea=>
    cases (show u = Value.ref a from rx);obtain ⟨_, _, _, p⟩:=(show fE X.prog X.w H s.heap a (.tup xs) from I.dz a _ ea);obtain ⟨o, h1, h2, _⟩:=p.is
    exact Mz PySem.W.kitx_tuple I.sW ⟨o, h1, h2⟩ e (λz=>nomatch z) h
  | @dK a kvs ea=>
    cases (show u = Value.ref a from rx);obtain ⟨_, _, vs, _, p⟩:=(show fE X.prog X.w H s.heap a (.dK kvs) from ea.ok I.dz);obtain ⟨o, es, ep, h1, h2, _⟩:=p
    exact Mz PySem.W.kitx_dict I.sW ⟨o, h1, h2.1⟩ e (λz=>nomatch z) h
  | @dT a kvs ea=>
    cases (show u = Value.ref a from rx);obtain ⟨_, _, xs, _, o, es, ep, h1, h2, _⟩:=(show fE X.prog X.w H s.heap a (.dT kvs) from ea.ok I.dz)
    exact Mz PySem.W.kitx_dict I.sW ⟨o, h1, h2.1⟩ e (λz=>nomatch z) h
  | @ins a C dx fs ea cl ha hn htk hm=>
    cases (show u = Value.ref a from rx);obtain ⟨mA, O, _⟩:=E3 I.dz ea;obtain ⟨od, J, _⟩:=O.look;exact Mz (PySem.W.kitx_own (cl.get _) cl.hd ha hn htk hm) I.sW J e (λz=>nomatch z) h
end
structure fR (k : Nat) (A : Around) : Prop where
  hd : A.handled = none
  dp : A.depth + 3 * k + 5 < recursionLimit
  un : A.units + 16 * k + 200 < cLine
  gd : A.guards = some []
def fR.mono {j k : Nat} {A : Around} (r : fR k A) (h : j <= k) : fR j A:=⟨r.hd, by have:=r.dp; omega, by have:=r.un; omega, r.gd⟩
def fR.deeper {k : Nat} {A : Around} (r : fR (k + 1) A) (env : Env) : fR k (A.deeper env):=
  ⟨r.hd, by have:=r.dp; show A.depth + 1 + 3 * k + 5 < _; omega, by have:=r.un; show A.units + 3 + 16 * k + 200 < _; omega, r.gd⟩
theorem fR.in1 {k : Nat} {A : Around} (r : fR (k + 1) A) : fR k A.in1:=
  ⟨r.hd, by have:=r.dp; show A.depth + 3 * k + 5 < _; omega, by have:=r.un; show A.units + 1 + 16 * k + 200 < _; omega, by first | exact r.gd | (simp [Around.in1, r.gd])⟩
def fR.depth {k : Nat} {A : Around} (r : fR k A) : A.depth < recursionLimit:=by have:=r.dp; omega
def fR.units {k : Nat} {A : Around} (r : fR k A) : A.units + 64 < cLine:=by have:=r.un; omega
def mM : TA:=λ_ H Q=>Q [] H
def fU (ta : TE) (tr : TA) : TA:=λσ H Q=>ta σ H λx H1=>tr σ H1 λxs H2=>Q (x :: xs) H2
section
variable {X : Cx} {e : Expr} {es : List Expr} {te : TE} {t : TA} {pos : Pos}
def jq : PA X [] mM:=λ_ _ _ _ H Q I h=>Calls.spliced_nil ⟨[], H, I, .nil, h⟩
def fO (ha : PE X e te) (hr : PA X es t) (hs : starEach (e :: es) X.env = (false, eval e X.env) :: starEach es X.env:=by rfl) : PA X (e :: es) (fU te t):=by
  intro pos pZ s σ H Q I h;rw [hs];show wpAny _ _ (spliced ((false, eval e X.env) :: backTo pos (starEach es X.env))) _ _ s;refine Calls.spliced_cons (eg (ha pZ s σ H _ I h) λu s1 ⟨x, H1, I1, r1, q1⟩=>?_);exact eg (hr pos pZ s1 σ H1 _ I1 q1) λus s2 ⟨xs, H2, I2, r2, q2⟩=>⟨x :: xs, H2, I2, .cons r1 r2, q2⟩
def Iq (t : TA) : TE:=λσ H Q=>t σ H λxs H1=>xs.length <= sizeLine /\ ∀ p, H1 p = none -> Q (.ref p) (upd H1 p (.tup xs))
def Ky (t : TA) : TE:=λσ H Q=>t σ H λxs H1=>xs.length <= sizeLine /\ ∀ p, H1 p = none -> Q (.ref p) (upd H1 p (.lst xs))
def uu {x1} (h : PA X es t) : PE X (.Tuple es x1 pos) (Iq t):=by
  intro pZ s σ H Q I hq;refine wpAny_Tuple_spliced (eg (h pos pZ s σ H _ I hq) λus s1 ⟨xs, H1, I1, r, z, q⟩=>⟨by rw [<- r.length]; exact z, ?_⟩);have hf : H1 s1.heap.objs.size = none:=I1.dz.fresh (LH _);refine ⟨.ref s1.heap.objs.size, upd H1 s1.heap.objs.size (.tup xs), I1.laid (t':=s1.toks) (λb u e=>LB _ e) (LH _) ?_, rfl, q _ hf⟩;exact ⟨z, us, r, ⟨_, LO _ rfl⟩⟩
def Cz (h : PA X es t) : PE X (.List es pos) (Ky t):=by
  intro pZ s σ H Q I hq;refine wpAny_List_spliced (eg (h pos pZ s σ H _ I hq) λus s1 ⟨xs, H1, I1, r, z, q⟩=>⟨by rw [<- r.length]; exact z, ?_⟩);have hf : H1 s1.heap.objs.size = none:=I1.dz.fresh (LH _);refine ⟨.ref s1.heap.objs.size, upd H1 s1.heap.objs.size (.lst xs), I1.laid (t':=s1.toks) (λb u e=>LB _ e) (LH _) ?_, rfl, q _ hf⟩;exact ⟨z, us, 0, r, LO _ rfl⟩
end
abbrev Sp:=List V -> Hp -> VK -> XK -> Prop
abbrev zV:=List Env -> Hp -> Shared -> XK -> Value -> Shared -> Prop
structure Bh (P : Program) (w : World) (K : Frag) (mg : Str -> Option Value) (base : Heap) (A : Around) (outer : List Env) (s : Shared) (H : Hp) : Prop where
  frames : A.frames = some outer
  mod : Mod K mg base
  bs : ∀ b o, base.get? b = some o -> s.heap.get? b = some o /\ H b = none
  Bo : base.objs.size <= s.heap.objs.size
  lJ : s.heap.FunFrames base outer
  DW : ∀ b ∈ o7 outer, H b = none
  dz : lO P w H s.heap
  bare : AllBare s.gens
def CE (outer : List Env) (P : Program) (w : World) (H : Hp) (s : Shared) (Q : VK) (u : Value) (s' : Shared) : Prop:=
  ∃ v H', s'.os = s.os /\ AllBare s'.gens /\ Un (o7 outer) [] H H' s.heap s'.heap /\ lO P w H' s'.heap /\ RelV v u /\ Q v H'
def CR (CX : zV) (outer : List Env) (P : Program) (w : World) (H : Hp) (s : Shared) (Q : VK) (E : XK) (r : Result) (s' : Shared) : Prop:=
  match r with
  | .ok (.ret u)=>CE outer P w H s Q u s'
  | .ok _=>False
  | .error e=>CX outer H s E e s'
structure aI (P : Program) (w : World) (K : Frag) (mg : Str -> Option Value) (base : Heap) (CX : zV) (k : Nat) (f : Addr) (fd : FuncData) (ps : List Str) (sp : Sp) : Prop where
  len : ∀ vs H Q E, sp vs H Q E -> vs.length = ps.length
  run : ∀ (A : Around) (outer : List Env) (s : Shared) (H : Hp) (args : Args) (us : List Value) (vs : List V) (Q : VK) (E : XK), fR k A -> Bh P w K mg base A outer s H -> BindsTo s fd args (ps.zip us) -> Vals vs us -> sp vs H Q E ->
    codeAny (model P w) A (.call (.ref f) args) (CR CX outer P w H s Q E) s
def aI.imp {P : Program} {w : World} {K : Frag} {mg : Str -> Option Value} {base : Heap} {CX : zV} {k : Nat} {f : Addr} {fd : FuncData} {ps : List Str} {sp sp' : Sp} (F : aI P w K mg base CX k f fd ps sp)
    (h : ∀ vs H Q E, sp' vs H Q E -> sp vs H Q E) : aI P w K mg base CX k f fd ps sp':=
  ⟨λvs H Q E q=>F.len vs H Q E (h _ _ _ _ q), λA outer s H args us vs Q E hr he hb hv hs=>F.run A outer s H args us vs Q E hr he hb hv (h _ _ _ _ hs)⟩
section
variable {X : Cx} {pZ : List (Addr × Obj)} {σ : St} {H : Hp} {s s' : Shared}
def Inv.sr (I : Inv X pZ σ H s) : Bh X.prog X.w X.K X.mg X.base X.A X.stack s H:=
  ⟨I.ok.frames, I.ok.mod, I.bs, LV I.ok.Bo I.sz, I.stack, I.qd, I.dz, I.bare⟩
def Inv.after {Q : VK} {u : Value} (I : Inv X pZ σ H s) (h : CE X.stack X.prog X.w H s Q u s') : EP X pZ σ Q u s':=by
  obtain ⟨v, H', os, bare, un, dz, r, q⟩:=h;obtain ⟨hh, g, d, t, os'⟩:=s';obtain rfl : os' = s.os:=os;exact ⟨v, H', I.call (h':=hh) (g':=g) (d':=d) (t':=t) (ch:=[]) un dz bare (λb z=>absurd z (by simp)), r, q⟩
end
def yI (sp : Sp) (dvs : List V) (E : XK) (t : TA) : TE:=λσ H Q=>t σ H λvs H1=>sp (vs ++ dvs) H1 Q E
def Binds (K : Frag) (fd : FuncData) (ps : List Str) (ds : List Value) : Prop:=
  ∀ (s : Shared) (us : List Value), K.In s.heap -> (us ++ ds).length = ps.length -> BindsTo s fd ⟨us, []⟩ (ps.zip (us ++ ds))
def Binds.all {K : Frag} {fd : FuncData} {ps : List Str} (h : ∀ us : List Value, us.length = ps.length -> bindArgs fd ⟨us, []⟩ = pure (ps.zip us)) : Binds K fd ps []:=λs us _ hl=>by
  rw [MD] at hl ⊢;exact .of_eq (h us hl)
def Passes (CX : zV) (X : Cx) (E : XK) : Prop:=∀ (pZ : List (Addr × Obj)) (σ : St) (H : Hp) (s : Shared) (e : Value) (s' : Shared), Inv X pZ σ H s -> CX X.stack H s E e s' -> X.xe e s'
section
variable {X : Cx} {CX : zV} {k : Nat} {f C : Addr} {fd : FuncData} {ps : List Str} {sp : Sp} {dvs : List V} {ds : List Value} {E : XK} {x m : Str} {p pos apos : Pos} {e o : Expr} {es : List Expr} {ta : TE} {t : TA}
def GK {pZ : List (Addr × Obj)} {σ : St} {H : Hp} {s : Shared} {Q : VK} {us : List Value} {vs : List V} (F : aI X.prog X.w X.K X.mg X.base CX k f fd ps sp) (hr : fR k X.A) (hb : Binds X.K fd ps ds) (hd : Vals dvs ds) (hx : Passes CX X E)
    (I : Inv X pZ σ H s) (r : Vals vs us) (h : sp (vs ++ dvs) H Q E) : wpAny (model X.prog X.w) X.A (call (.ref f) us) (EP X pZ σ Q) X.xe s:=by
  have r2 : Vals (vs ++ dvs) (us ++ ds):=r.append hd;have hl : (us ++ ds).length = ps.length:=by rw [<- r2.length]; exact F.len _ _ _ _ h
  refine wpAny_call (codeAny_mono (F.run X.A X.stack s H ⟨us, []⟩ (us ++ ds) (vs ++ dvs) Q E hr I.sr (hb s us I.sW hl) r2 h) λr s' hq=>?_)
  cases r with
  | error e=>exact hx pZ σ H s e s' I hq
  | ok fl=>
    cases fl with
    | ret u=>exact I.after hq
    | next=>exact False.elim hq
    | brk=>exact False.elim hq
    | cont=>exact False.elim hq
def Ey (F : aI X.prog X.w X.K X.mg X.base CX k f fd ps sp) (hr : fR k X.A) (hg : Gl X x) (hm : X.mg x = some (.ref f)) (hk : keepIn X.K (.ref f) = true) (hb : Binds X.K fd ps ds) (hd : Vals dvs ds) (hx : Passes CX X E)
    (ha : PA X (e :: es) t) (ye : (x == ("__debug__" : Str)) = false:=by decide) (he : starEach (e :: es) X.env = (false, eval e X.env) :: starEach es X.env:=by rfl) (tm : (backTo pos (starEach es X.env)).any (·.1) = false:=by rfl) :
    PE X (.Call (.Name x p) (e :: es) [] pos) (yI sp dvs E t):=by
  intro pZ s σ H Q I h;refine wpAny_Call_Name_kw (nZ I hg hm ?_ ye);refine PySem.W.callWith_K (h₀:=X.base) I.ok.mod.JA hk (eg (ha pos pZ s σ H _ I h) λus s1 ⟨vs, H1, I1, r, q⟩=>⟨I1.sW, ?_⟩) he tm;exact GK F hr hb hd hx I1 r q
end
structure aH (N P : List Str) (sc : Scope) : Prop where
  kind : sc.kind = .function
  co : sc.isCoroutine = false
  gen : sc.isGenerator = false
  nd : N.Nodup
  pre : N.take P.length = P
  par : ∀ x ∈ P, sc.names.lookup x = some .local \/ sc.names.lookup x = some .cell
  Hc : ∀ y ∈ sc.names, y.2 ≠ .free
theorem tJ {kindOf : Str -> Option NameKind} {x : Str} : ∀ {binds : List (Str × Value)} {m : Str -> Option Value}, (∀ v, (x, v) ∉ binds) -> bindL kindOf binds m x = m x
  | [], _, _=>rfl
  | (n, v) :: r, m, h=>by
    unfold bindL;rw [tJ λw hw=>h w (LC _ hw)];split
    · have : x ≠ n:=by rintro rfl; exact h v Lz
      simp [this]
    · rfl
theorem tL {kindOf : Str -> Option NameKind} {x : Str} : ∀ {binds : List (Str × Value)} {m : Str -> Option Value}, (∀ v, (x, v) ∉ binds) -> bindC kindOf binds m x = m x
  | [], _, _=>rfl
  | (n, v) :: r, m, h=>by
    unfold bindC;rw [tL λw hw=>h w (LC _ hw)];split
    · rfl
    · have : x ≠ n:=by rintro rfl; exact h v Lz
      simp [this]
theorem tK {kindOf : Str -> Option NameKind} {x : Str} {v : Value} : ∀ {P : List Str} {vs : List Value} {i : Nat} {m : Str -> Option Value}, P.Nodup -> P[i]? = some x -> vs[i]? = some v -> kindOf x = some .local ->
    bindL kindOf (P.zip vs) m x = some v
  | [], _, _, _, _, h, _, _=>by simp at h
  | _ :: _, [], _, _, _, _, h, _=>by simp at h
  | p :: P, w :: vs, 0, m, nd, h1, h2, hk=>by
    simp at h1 h2; subst h1; subst h2;show bindL kindOf ((p, w) :: P.zip vs) m p = _;unfold bindL;rw [tJ λv hv=>(List.nodup_cons.mp nd).1 (List.of_mem_zip hv).1, Mk hk]
    simp
  | p :: P, w :: vs, i + 1, m, nd, h1, h2, hk=>by
    show bindL kindOf ((p, w) :: P.zip vs) m x = _;unfold bindL;exact tK (i:=i) (List.nodup_cons.mp nd).2 (by simpa using h1) (by simpa using h2) hk
theorem tM {kindOf : Str -> Option NameKind} {x : Str} {v : Value} : ∀ {P : List Str} {vs : List Value} {i : Nat} {m : Str -> Option Value}, P.Nodup -> P[i]? = some x -> vs[i]? = some v -> kindOf x ≠ some .local ->
    bindC kindOf (P.zip vs) m x = some v
  | [], _, _, _, _, h, _, _=>by simp at h
  | _ :: _, [], _, _, _, _, h, _=>by simp at h
  | p :: P, w :: vs, 0, m, nd, h1, h2, hk=>by
    simp at h1 h2; subst h1; subst h2;show bindC kindOf ((p, w) :: P.zip vs) m p = _;unfold bindC;rw [tL λv hv=>(List.nodup_cons.mp nd).1 (List.of_mem_zip hv).1, Ml hk]
    simp
  | p :: P, w :: vs, i + 1, m, nd, h1, h2, hk=>by
    show bindC kindOf ((p, w) :: P.zip vs) m x = _;unfold bindC;exact tM (i:=i) (List.nodup_cons.mp nd).2 (by simpa using h1) (by simpa using h2) hk
def start (N : List Str) (vs : List V) : St:=vs.map some ++ List.replicate (N.length - vs.length) none
noncomputable def jd (CX : zV) (P : Program) (w : World) (K : Frag) (mg : Str -> Option Value) (base : Heap) (N : List Str) (qual : Str) (scope : Scope) (f : Addr) (cd : Value) (A : Around) (outer : List Env) (s : Shared) (H : Hp) (E : XK) : Cx where
  prog:=P
  w:=w
  K:=K
  mg:=mg
  base:=base
  A:=A.deeper (envOfC qual scope s.heap.objs.size f cd)
  N:=N
  s₀:=s
  H₀:=H
  env:=envOfC qual scope s.heap.objs.size f cd
  outer:=outer
  stack:=envOfC qual scope s.heap.objs.size f cd :: outer
  ex:=[]
  calm:=true
  fn:=λ_=>true
  pn:=[]
  xe:=λe s'=>wpAny (model P w) (A.deeper (envOfC qual scope s.heap.objs.size f cd)) (leaving (envOfC qual scope s.heap.objs.size f cd) e) (λ_ s''=>CX outer H s E e s'') (λe' s''=>CX outer H s E e' s'') s'
def wM {sc : Scope} {n : Nat} {x : Str} (h : sc.names.lookup x = some .cell) : ∃ c, (cellsFrom n sc.names []).lookup x = some c:=by
  have q:=PySem.W.cellsFrom_some sc.names n [] (.inl h);exact Option.isSome_iff_exists.mp q
def sX {CX : zV} {P : Program} {w : World} {K : Frag} {mg : Str -> Option Value} {base : Heap} {N ps : List Str} {qual : Str} {scope : Scope} {f : Addr} {cd : Value} {A : Around} {outer : List Env} {s s1 : Shared} {H : Hp} {E : XK} {us : List Value} {vs : List V}
    (S : aH N ps scope) (hd : A.handled = none) (e0 : Bh P w K mg base A outer s H) (hl : vs.length = ps.length) (r : Vals vs us)
    (x : InCallC s s.heap.objs.size (bindL (envOfC qual scope s.heap.objs.size f cd).kindOf (ps.zip us) λ_=>none) (cellsFrom (s.heap.objs.size + 1) scope.names []) (bindC (envOfC qual scope s.heap.objs.size f cd).kindOf (ps.zip us) λ_=>none) s1) :
    Inv (jd CX P w K mg base N qual scope f cd A outer s H E) [] (start N vs) H s1:=by
  have tm : ps.length <= N.length:=by have:=congrArg List.length S.pre; rw [List.length_take] at this; omega
  obtain ⟨h1, tk, rfl, hk⟩:=x.done;have noA : ∀ b : Addr, b ∉ (jd CX P w K mg base N qual scope f cd A outer s H E).ex:=λb z=>absurd (show b ∈ ([] : List Addr) from z) (by simp)
  refine ⟨⟨e0.mod, S.kind, rfl, rfl, LH _, λy z c h1 h2=>?_, λy hy=>?_, λy c _ h=>?_, λ_=>hd, Around.frames_deeper e0.frames, .inr ⟨rfl, rfl⟩, λb z=>absurd z (noA b), e0.bs, e0.Bo, λb _ _=>noA b, λb z=>absurd z (noA b), e0.lJ, e0.DW⟩,
    rfl, e0.bare, Un.kept hk, ⟨_, x.toInCall.ns, λi y v h1 h2 h3=>?_⟩, λy c h=>⟨_, x.cell y c h⟩, e0.dz.fresh (LH _), λy c h=>?_, λp hp=>absurd (show p ∈ ([] : List (Addr × Obj)) from hp) (by simp), e0.dz.kept hk, ?_⟩
  · exact name_of_addr x.apart (PySem.mem_of_lookup h1) (PySem.mem_of_lookup h2)
  · have hy : scope.names.lookup y = some .cell \/ scope.names.lookup y = some .free:=hy;rcases hy with hy | hy
    · exact wM hy
    · exact absurd rfl (S.Hc _ (PySem.mem_of_lookup hy))
  · exact Nat.le_of_lt (x.above y c (PySem.mem_of_lookup h))
  · have hi : i < vs.length:=by
      unfold start at h2;by_cases hi : i < vs.length
      · exact hi
      · rw [List.getElem?_append_right (by simpa using hi)] at h2;rw [MB] at h2;split at h2 <;> cases h2
    have ha : vs[i]? = some v:=by
      unfold start at h2;rw [Me (by simpa using hi), LU] at h2
      cases e : vs[i]? with
      | none=>rw [e] at h2; cases h2
      | some a=>rw [e] at h2; cases h2; rfl
    obtain ⟨u, hu, rv⟩:=r.get ha
    have hp : ps[i]? = some y:=by
      rw [<- S.pre, List.getElem?_take_of_lt (by omega)]; exact h1
    have ndP : ps.Nodup:=by rw [<- S.pre]; exact S.nd.sublist (List.take_sublist _ _)
    refine ⟨u, rv, ?_⟩;rcases S.par y (List.mem_of_getElem? hp) with k | k
    · exact .inl ⟨k, tK ndP hp hu k⟩
    · obtain ⟨c, e⟩:=wM (n:=s.heap.objs.size + 1) k;refine .inr ⟨.inl k, c, e, ?_⟩;have q:=x.cell y c e;rw [tM ndP hp hu (by show scope.names.lookup y ≠ _; rw [k]; decide)] at q;exact q
  · exact e0.dz.fresh (Nat.le_of_lt (x.above y c (PySem.mem_of_lookup h)))
  · unfold start;show _ = N.length;rw [L0, LA, List.length_replicate];omega
def zA {CX : zV} {P : Program} {w : World} {K : Frag} {mg : Str -> Option Value} {base : Heap} {k : Nat} {f : Addr} {name qual : Str} {params : Arguments} {body : List Stmt} {scope : Scope} {dV kV doc pm fi ct oc : Value} {an od : Option Addr}
    {osl : Array (Option Value)} {N ps : List Str} {sp : Sp} (lk : K.lookup f = some ⟨oc, od, .func (fnOf name qual params body scope dV kV doc pm an fi ct), osl⟩) (hcd : codeIn K fi qual = true) (S : aH N ps scope)
    (len : ∀ vs H Q E, sp vs H Q E -> vs.length = ps.length)
    (lI : ∀ (A : Around) (outer : List Env) (s : Shared) (H : Hp) (vs : List V) (Q : VK) (E : XK), fR k (A.deeper (envOfC qual scope s.heap.objs.size f fi)) -> sp vs H Q E ->
      ∃ t, xg (jd CX P w K mg base N qual scope f fi A outer s H E) body t /\ t { nx:=λ_ H'=>Q .cB H', rt:=Q } (start N vs) H) :
    aI P w K mg base CX (k + 1) f (fnOf name qual params body scope dV kV doc pm an fi ct) ps sp:=by
  refine ⟨len, λA outer s H args us vs Q E hr e0 hb r hsp=>?_⟩;have hl:=len _ _ _ _ hsp;have KX : K.In s.heap:=e0.mod.JA.keeps λb o e=>(e0.bs b o e).1;have lim : s.heap.NoLimit:=e0.mod.nolimit.keeps λb o e=>(e0.bs b o e).1
  have hkind : ∀ y ∈ ps.zip us, scope.names.lookup y.1 = some .local \/ (scope.names.lookup y.1 = some .cell /\ ((cellsFrom (s.heap.objs.size + 1) scope.names []).lookup y.1).isSome = true):=λ⟨n, v⟩ hy=>by
    rcases S.par n (List.of_mem_zip hy).1 with q | q
    · exact .inl q
    · exact .inr ⟨q, PySem.W.cellsFrom_some _ _ _ (.inl q)⟩
  refine codeAny_call_function hr.depth (KX _ _ lk) rfl S.co S.gen rfl (PySem.W.codeRec_of KX hcd) (hb _ _ _ _ ?_);refine wpAny_newFunctionEnv_cells S.kind hkind λenv he s1 x=>?_;subst he;refine ⟨lim.keeps x.toInCall.keep, codeAny_func ?_⟩;obtain ⟨t, ht, hq⟩:=lI A outer s H vs Q E (hr.deeper _) hsp;have I : Inv (jd CX P w K mg base N qual scope f fi A outer s H E) [] (start N vs) H s1:=sX S hr.hd e0 hl r x;refine wpAny_mono (ht [] s1 (start N vs) H _ I hq) (λfl s' hs=>?_) λe s' hs=>hs
  have fin : ∀ {σ' : St} {H' : Hp} {v : V} {u : Value}, Inv (jd CX P w K mg base N qual scope f fi A outer s H E) [] σ' H' s' -> RelV v u -> Q v H' -> CE outer P w H s Q u s':=
    λ{σ' H' v u} J rv q=>⟨v, H', J.os, J.bare, J.base, J.dz, rv, q⟩
  cases fl with
  | ret u=>
    obtain ⟨v, σ', H', J, rv, q⟩:=hs
    exact fin J rv q
  | next=>
    obtain ⟨σ', H', J, q⟩:=hs
    exact fin (v:=V.cB) (u:=Value.none) J rfl q
  | brk=>
    obtain ⟨_, _, _, q⟩:=hs
    exact False.elim q
  | cont=>
    obtain ⟨_, _, _, q⟩:=hs;exact False.elim q
section
variable {X : Cx} {x : Str} {p pos : Pos} {e : Expr} {es : List Expr} {t : TA} {id T : String} {r : List V -> Hp -> VK -> Prop}
def BR (r : List V -> Hp -> VK -> Prop) (t : TA) : TE:=λσ H Q=>t σ H λvs H1=>r vs H1 Q
def nR (hc : iF X (.builtin id) r) (hg : Gl X x) (hm : X.mg x = none) (hv : bootBuiltins x = some (.builtin id)) (ha : PA X (e :: es) t) (hn : x ≠ "__name__":=by decide) (ye : (x == ("__debug__" : Str)) = false:=by decide)
    (he : starEach (e :: es) X.env = (false, eval e X.env) :: starEach es X.env:=by rfl) (tm : (backTo pos (starEach es X.env)).any (·.1) = false:=by rfl) : PE X (.Call (.Name x p) (e :: es) [] pos) (BR r t):=by
  intro pZ s σ H Q I h;refine wpAny_Call_Name_kw (qW I hg hm hv ?_ hn ye);exact PyProof.Rows.callWith_builtin1 (eg (ha pos pZ s σ H _ I h) λus s1 ⟨vs, H1, I1, r1, q1⟩=>hc pZ s1 σ H1 vs us Q I1 r1 q1) he tm
def Ao (hc : iF X (.type T) r) (hg : Gl X x) (hm : X.mg x = none) (hv : bootBuiltins x = some (.type T)) (ha : PA X (e :: es) t) (hn : x ≠ "__name__":=by decide) (ye : (x == ("__debug__" : Str)) = false:=by decide)
    (he : starEach (e :: es) X.env = (false, eval e X.env) :: starEach es X.env:=by rfl) (tm : (backTo pos (starEach es X.env)).any (·.1) = false:=by rfl) : PE X (.Call (.Name x p) (e :: es) [] pos) (BR r t):=by
  intro pZ s σ H Q I h;refine wpAny_Call_Name_kw (qW I hg hm hv ?_ hn ye);exact PyProof.Rows.callWith_type1 (eg (ha pos pZ s σ H _ I h) λus s1 ⟨vs, H1, I1, r1, q1⟩=>hc pZ s1 σ H1 vs us Q I1 r1 q1) he tm
end
end L2
namespace HT
section
variable {prog : Program} {w : World} {A : Around} {E : Value -> Shared -> Prop} {s : Shared}
def Fo {t b : Addr} {vs ws : List Value} {Q : Value -> Shared -> Prop} (ht : IsTup s.heap t vs.toArray) (hb : IsTup s.heap b ws.toArray) (hv : vs ≠ [])
    (h1 : ws = [] -> Q (.ref t) s) (h2 : ws ≠ [] -> Q (.ref s.heap.objs.size) { s with heap:=s.heap.push { cls:=.type "tuple", data:=.seq (vs ++ ws).toArray } })
    (hsz : vs.length + ws.length <= sizeLine) : wpAny (model prog w) A (binaryOp .Add (.ref t) (.ref b)) Q E s:=by
  obtain ⟨⟨cls, dd, data, sl⟩, ho, hc, n, hd⟩:=id ht;obtain ⟨⟨cls2, dd2, data2, sl2⟩, ho2, hc2, n2, hd2⟩:=id hb;simp only at hc hd hc2 hd2;subst hc hd hc2 hd2;have e : vs.toArray ++ ws.toArray = (vs ++ ws).toArray:=by simp
  by_cases hw : ws = []
  · exact concat_meets ⟨_, ho, rfl⟩ ⟨_, ho2, rfl⟩ noFill_tuple_add seq_tuple_add PySem.F.slot_tuple_add PySem.F.entry_tuple_add (PySem.F.args_tuple_add_2 _ _)
      (tuple_addW1 t b vs.toArray ws.toArray n n2 dd dd2 sl sl2 (by simpa using hv) (by simp [hw])) ⟨ho, ho2, h1 hw⟩
  · refine concat_meets ⟨_, ho, rfl⟩ ⟨_, ho2, rfl⟩ noFill_tuple_add seq_tuple_add PySem.F.slot_tuple_add PySem.F.entry_tuple_add (PySem.F.args_tuple_add_2 _ _)
      (tuple_addW2 t b vs.toArray ws.toArray n n2 dd dd2 sl sl2 (by simpa using hv) (by simpa using hw) (by rw [LF, LF]; exact hsz)) ⟨ho, ho2, ?_⟩
    rw [e];exact h2 hw
noncomputable def fC (n d : Nat) : Option Int -> Nat
  | none=>d
  | some v=>if v < 0 then (v + (n : Int)).toNat else min v.toNat n
def qz (n d : Nat) : fC n d none = d:=rfl
def ug (n d k : Nat) : fC n d (some (k : Int)) = min k n:=by
  show (if (k : Int) < 0 then ((k : Int) + (n : Int)).toNat else min (k : Int).toNat n) = min k n;rw [Ml (by omega), Int.toNat_natCast]
def GJ (n d : Nat) (hd : d <= n) (o : Option Int) : fC n d o <= n:=by
  cases o with
  | none=>exact hd
  | some v=>
    show (if v < 0 then (v + (n : Int)).toNat else min v.toNat n) <= n;by_cases hv : v < 0
    · rw [Mk hv]; omega
    · rw [Ml hv]; exact Nat.min_le_right _ _
def zL (v : Int) (n d : Nat) : (if v < 0 then max (v + (n : Int)) 0 else min v (n : Int)) = ((fC n d (some v) : Nat) : Int):=by
  show (if v < 0 then max (v + (n : Int)) 0 else min v (n : Int)) = (((if v < 0 then (v + (n : Int)).toNat else min v.toNat n) : Nat) : Int);by_cases hv : v < 0
  · simp only [Mk hv]; omega
  · simp only [Ml hv]; omega
def yD (lo hi : Option Int) (n : Nat) : Builtin.Slice.sliceAdjust lo hi 1 (n : Int) = (((fC n 0 lo : Nat) : Int), ((fC n n hi : Nat) : Int)):=by
  have h1 : ¬ ((1 : Int) < 0):=by omega
  unfold Builtin.Slice.sliceAdjust;simp only [h1, if_false];refine Prod.ext ?_ ?_
  · cases lo with
    | none=>rfl
    | some v=>exact zL v n 0
  · cases hi with
    | none=>rfl
    | some v=>exact zL v n n
def xC (i j : Nat) : Builtin.Slice.slicePlaces (i : Int) (j : Int) 1 = j - i:=by
  unfold Builtin.Slice.slicePlaces;have h1 : (1 : Int) > 0:=by omega
  simp only [h1, if_true, Int.ediv_one];split <;> omega
def qt {v : Value} {o : Option Int} {Q : Option Int -> Shared -> Prop} (p : IsPart v o) (h : Q o s) : wpAny (model prog w) A (Builtin.Slice.slicePartIndex v) Q E s:=by
  cases p with
  | none=>exact slicePart_none h
  | int i t=>exact slicePart_int h
def kB {sl : Addr} {vl vu : Value} {lo hi : Option Int} {n : Nat} {Q : Int × Int × Nat -> Shared -> Prop} (hs : s.heap.IsSliceOf sl vl vu .none) (pl : IsPart vl lo) (pu : IsPart vu hi)
    (h : Q (((fC n 0 lo : Nat) : Int), 1, fC n n hi - fC n 0 lo) s) : wpAny (model prog w) A (Builtin.Slice.sliceApplied (.ref sl) (pure (n : Int))) Q E s:=by
  obtain ⟨os, hos, hcs, hds⟩:=id hs;unfold Builtin.Slice.sliceApplied Builtin.Slice.sliceFields;refine Ly (Ly (wpAny_field hos hds (x:=vl) rfl (Ly (wpAny_field hos hds (x:=vu) rfl (Ly (wpAny_field hos hds (x:=.none) rfl (LD ?_)))))));refine Ly (slicePart_none ?_);show wpAny _ _ (if ((1 : Int) == 0) = true then _ else _) _ _ s;rw [Ml (by decide)];refine Ly (qt pl (Ly (qt pu (Ly (LD ?_)))));show wpAny _ _ (match Builtin.Slice.sliceAdjust lo hi 1 (n : Int) with | (lo, hi)=>pure (lo, (1 : Int), Builtin.Slice.slicePlaces lo hi 1)) _ _ s;rw [yD lo hi n];show wpAny _ _ (pure (((fC n 0 lo : Nat) : Int), (1 : Int), Builtin.Slice.slicePlaces ((fC n 0 lo : Nat) : Int) ((fC n n hi : Nat) : Int) 1)) _ _ s;rw [xC];exact LD h
def Cv (xs : Array Value) (i k : Nat) : ((List.range k).filterMap λ(m : Nat)=>xs[((i : Int) + (m : Int) * 1).toNat]?).toArray = ((xs.toList.drop i).take k).toArray:=by
  have e : (λ(m : Nat)=>xs[((i : Int) + (m : Int) * 1).toNat]?) = λm=>xs[i + m]?:=by
    funext m;have : ((i : Int) + (m : Int) * 1).toNat = i + m:=by omega
    rw [this]
  rw [e];have:=pick_run xs i k;rw [List.filterMap_map] at this;have e2 : ((λx=>xs[x]?) ∘ λx=>i + x) = λm=>xs[i + m]?:=rfl;rw [e2] at this;rw [this]
def oa {t sl : Addr} {items : Array Value} {vl vu : Value} {lo hi : Option Int} {Q : Value -> Shared -> Prop} (ht : IsTup s.heap t items) (hs : s.heap.IsSliceOf sl vl vu .none) (pl : IsPart vl lo) (pu : IsPart vu hi)
    (hw : ¬ (fC items.size 0 lo = 0 /\ fC items.size items.size hi = items.size))
    (h : Q (.ref s.heap.objs.size) { s with heap:=s.heap.push { cls:=.type "tuple", data:=.seq ((items.toList.drop (fC items.size 0 lo)).take (fC items.size items.size hi - fC items.size 0 lo)).toArray } })
    (hsz : items.size <= sizeLine) : wpAny (model prog w) A (getItem (.ref t) (.ref sl)) Q E s:=by
  have htake : sizeOk (.seq ((items.toList.drop (fC items.size 0 lo)).take (fC items.size items.size hi - fC items.size 0 lo)).toArray):=by
    show ((items.toList.drop (fC items.size 0 lo)).take (fC items.size items.size hi - fC items.size 0 lo)).toArray.size <= sizeLine;rw [LF, List.length_take, List.length_drop, Ma];omega
  have hj : fC items.size items.size hi <= items.size:=GJ _ _ (LH _) hi;obtain ⟨os, hos, hcs, hds⟩:=id hs;have hTs : s.TypeIs (.ref sl) "slice":=⟨os, hos, hcs⟩;unfold getItem;try with_reducible refine wpAny_holding ?_
  first | refine Ly (LD ?_) | skip
  refine Ly (wpAny_sequenceKey ht.typeIs (by decide) ?_)
  refine Ly (wpAny_callSpecial?_slot (name:=Str.ofString "__getitem__") ht.typeIs PyProof.Rows.slot_tuple_getitem
    (wpAny_call_entry PyProof.Rows.slot_tuple_getitem ht.typeIs entry_tuple_getitem ?_ (args_tuple_getitem _ _)))
  show wpAny _ _ (Builtin.Tuple.tupleItemsOf (.ref t) >>= _) _ _ s;refine Ly (tupleItemsOf_ ht ?_);refine Ly (wpAny_typeOf hTs ?_);rw [Mk (by decide)];refine Ly (kB hs pl pu ?_)
  have hno : ¬ ((((fC items.size 0 lo : Nat) : Int) == 0 && (1 : Int) == 1 && (fC items.size items.size hi - fC items.size 0 lo) == items.size) = true):=by
    intro q;rw [Mb, Mb] at q;have q1 : ((fC items.size 0 lo : Nat) : Int) = 0:=eq_of_beq q.1.1;have q2 : fC items.size items.size hi - fC items.size 0 lo = items.size:=eq_of_beq q.2;exact hw ⟨by omega, by omega⟩
  show wpAny _ _ (if (((fC items.size 0 lo : Nat) : Int) == 0 && (1 : Int) == 1 && (fC items.size items.size hi - fC items.size 0 lo) == items.size) = true then _ else _) _ _ s;rw [Ml hno, Cv]
  first
    | exact Ly (m:=Builtin.Tuple.tupleExact _) (wpAny_newObj_type (LD ⟨_, rfl, LD h⟩) htake)
    | exact Ly (m:=Builtin.Tuple.tupleExact _) (wpAny_newObj_type (Ly (LD (LD ⟨_, rfl, LD h⟩))) htake)
    | exact Ly (Ly (m:=Builtin.Tuple.tupleExact _) (wpAny_newObj_type (LD (LD ⟨_, rfl, LD h⟩)) htake))
    | exact Ly (Ly (m:=Builtin.Tuple.tupleExact _) (wpAny_newObj_type (LD ⟨_, rfl, LD h⟩) htake))
end
end HT
namespace L2
abbrev TO:=St -> Hp -> (Option Int -> Hp -> Prop) -> Prop
def PO (X : Cx) (e : Option Expr) (t : TO) : Prop:=
  ∀ (pZ : List (Addr × Obj)) (s : Shared) (σ : St) (H : Hp) (Q : Option Int -> Hp -> Prop), Inv X pZ σ H s -> t σ H Q ->
    wpAny (model X.prog X.w) X.A (evalPart e X.env) (λu s'=>∃ o H', Inv X pZ σ H' s' /\ IsPart u o /\ Q o H') X.xe s
def D7 : TO:=λ_ H Q=>Q none H
def Iu (t : TE) : TO:=λσ H Q=>t σ H λx H1=>∃ i, x = .int i /\ Q (some i) H1
section
variable {X : Cx} {e : Expr} {te : TE} {lo hi : Option Expr} {tl th : TO} {pos p2 : Pos}
def uq : PO X none D7:=by
  intro pZ s σ H Q I h;rw [evalPart_none];exact LD ⟨none, H, I, .none, h⟩
def uo (h : PE X e te) : PO X (some e) (Iu te):=by
  intro pZ s σ H Q I hw;rw [evalPart_some];refine eg (h pZ s σ H _ I hw) λu s1 ⟨x, H1, I1, r1, q1⟩=>?_;obtain ⟨i, rfl, q⟩:=q1;obtain ⟨t, rfl⟩:=r1;exact ⟨some i, H1, I1, .int i t, q⟩
def Br (X : Cx) (r : V -> Option Int -> Option Int -> Hp -> VK -> Prop) : Prop:=
  ∀ (pZ : List (Addr × Obj)) (s : Shared) (σ : St) (H : Hp) (x : V) (v vl vu : Value) (lo hi : Option Int) (sl : Addr) (Q : VK), Inv X pZ σ H s -> RelV x v -> s.heap.IsSliceOf sl vl vu .none -> IsPart vl lo -> IsPart vu hi -> r x lo hi H Q ->
    ∃ T id, typeLookup (.type T) "__getitem__" = pure (some (.builtin id)) /\ s.TypeIs v T /\ wpAny (model X.prog X.w) X.A (getItem v (.ref sl)) (EP X pZ σ Q) X.xe s
def Br.or {r r' : V -> Option Int -> Option Int -> Hp -> VK -> Prop} (h : Br X r) (h' : Br X r') : Br X (λx lo hi H Q=>r x lo hi H Q \/ r' x lo hi H Q):=by
  intro pZ s σ H x v vl vu lo hi sl Q I rx hs pl pu q;rcases q with q | q
  · exact h pZ s σ H x v vl vu lo hi sl Q I rx hs pl pu q
  · exact h' pZ s σ H x v vl vu lo hi sl Q I rx hs pl pu q
def Kv (r : V -> Option Int -> Option Int -> Hp -> VK -> Prop) (te : TE) (tl th : TO) : TE:=λσ H Q=>te σ H λx H1=>tl σ H1 λl H2=>th σ H2 λu H3=>r x l u H3 Q
def qH {r : V -> Option Int -> Option Int -> Hp -> VK -> Prop} (hr : Br X r) (he : PE X e te) (hl : PO X lo tl) (hu : PO X hi th) : PE X (.Subscript e (.Slice lo hi none p2) pos) (Kv r te tl th):=by
  intro pZ s σ H Q I h;refine Subscript_ (eg (he pZ s σ H _ I h) λv s1 ⟨x, H1, I1, r1, q1⟩=>?_);refine wpAny_Slice (eg (hl pZ s1 σ H1 _ I1 q1) λvl s2 ⟨l, H2, I2, pl, q2⟩=>eg (hu pZ s2 σ H2 _ I2 q2) λvu s3 ⟨u, H3, I3, pu, q3⟩=>?_);rw [evalPart_none];refine LD ?_;have I4 : Inv X pZ σ H3 { s3 with heap:=s3.heap.push { cls:=.type "slice", data:=.fields #[vl, vu, .none] } }:=I3.kept (t':=s3.toks) λb ob q=>LB _ q;obtain ⟨T, id, hT, ht, hg⟩:=hr pZ { s3 with heap:=s3.heap.push { cls:=.type "slice", data:=.fields #[vl, vu, .none] } } σ H3 x v vl vu l u s3.heap.objs.size Q I4 r1 (Heap.IsSliceOf.new ..) pl pu q3;show wpAny (model X.prog X.w) X.A (subscriptTail e (.Slice lo hi none p2) v (.ref s3.heap.objs.size)) (EP X pZ σ Q) X.xe { s3 with heap:=s3.heap.push { cls:=.type "slice", data:=.fields #[vl, vu, .none] } };exact tail_any (ops:=[.ref s3.heap.objs.size, v]) ht hT hg (by with_unfolding_all rfl)
def sy (xs : List V) (lo hi : Option Int) : List V:=(xs.drop (HT.fC xs.length 0 lo)).take (HT.fC xs.length xs.length hi - HT.fC xs.length 0 lo)
def pS (xs : List V) (lo hi : Option Int) : (sy xs lo hi).length <= xs.length:=by
  unfold sy;rw [List.length_take, List.length_drop];omega
def IJ (K : Frag) : V -> Option Int -> Option Int -> Hp -> VK -> Prop:=λx lo hi H Q=>∃ a xs, x = .ref a /\ ji K H a xs /\
  ¬ (HT.fC xs.length 0 lo = 0 /\ HT.fC xs.length xs.length hi = xs.length) /\ ∀ p, H p = none -> Q (.ref p) (upd H p (.tup (sy xs lo hi)))
def GH : Br X (IJ X.K):=by
  intro pZ s σ H x v vl vu lo hi sl Q I rx hs pl pu h;obtain ⟨a, xs, rfl, hx, hw, q⟩:=h;cases rx;obtain ⟨aY, r, ht, hz⟩:=I.tuple hx;have hlen : aY.toArray.size = xs.length:=by rw [LF]; exact r.length.symm
  refine ⟨"tuple", _, PyProof.Rows.slot_tuple_getitem.lookup, ht.typeIs, ?_⟩;refine HT.oa ht hs pl pu (by rw [hlen]; exact hw) ?_ (by rw [hlen]; exact hz);rw [hlen];refine ⟨.ref s.heap.objs.size, _, I.laid (t':=s.toks) (o:=.tup (sy xs lo hi)) (λb ob q=>LB _ q) (LH _) ?_, rfl, q _ (I.dz.fresh (LH _))⟩;exact ⟨LV (pS xs lo hi) hz, _, (r.drop (HT.fC xs.length 0 lo)).take (HT.fC xs.length xs.length hi - HT.fC xs.length 0 lo), lh.new _ _⟩
def FN (K : Frag) : R2:=λx y H Q=>∃ a b xs ys, x = .ref a /\ y = .ref b /\ ji K H a xs /\ ji K H b ys /\ xs ≠ [] /\ xs.length + ys.length <= sizeLine /\
  (ys = [] -> Q (.ref a) H) /\ (ys ≠ [] -> ∀ p, H p = none -> Q (.ref p) (upd H p (.tup (xs ++ ys))))
def Vals.qj {xs : List V} {us : List Value} (r : Vals xs us) : us = [] ↔ xs = []:=by
  cases r with
  | nil=>simp
  | cons _ _=>simp
def EI : jj X (binaryOp .Add) (FN X.K):=by
  intro pZ s σ H x y v u Q I rx ry h;obtain ⟨a, b, xs, ys, rfl, rfl, ha, hb, hx, hz, q1, q2⟩:=h;cases rx;cases ry;obtain ⟨aY, r1, p1, _⟩:=I.tuple ha;obtain ⟨Dd, r2, p2, _⟩:=I.tuple hb;refine HT.Fo p1 p2 (λz=>hx (r1.qj.mp z)) (λz=>⟨.ref a, H, I, rfl, q1 (r2.qj.mp z)⟩) (λz=>?_) (by rw [<- r1.length, <- r2.length]; exact hz);refine ⟨.ref s.heap.objs.size, _, I.laid (t':=s.toks) (o:=.tup (xs ++ ys)) (λb ob q=>LB _ q) (LH _) ?_, rfl, q2 (λw=>z (r2.qj.mpr w)) _ (I.dz.fresh (LH _))⟩;exact ⟨by rw [L0]; exact hz, _, r1.append r2, lh.new _ _⟩
end
noncomputable def Bm (n : Nat) (i : Int) : Option Nat:=if 0 <= i then (if i < n then some i.toNat else none) else if -(n : Int) <= i then some (i + n).toNat else none
def jY {α : Type} (xs : List α) (i : Int) : Option α:=(Bm xs.length i).bind λj=>xs[j]?
def zo {n : Nat} {i : Int} {j : Nat} (h : Bm n i = some j) : seqIndex? i n = some j /\ j < n /\ -(n : Int) <= i /\ i < n:=by
  unfold Bm at h;by_cases h0 : 0 <= i
  · rw [Mk h0] at h;by_cases h1 : i < n
    · rw [Mk h1] at h;have e : i.toNat = j:=Mo h;exact ⟨by rw [seqIndex_of h0 h1, e], by omega, by omega, h1⟩
    · rw [Ml h1] at h; cases h
  · rw [Ml h0] at h;by_cases h1 : -(n : Int) <= i
    · rw [Mk h1] at h;have e : (i + n).toNat = j:=Mo h;exact ⟨by rw [seqIndex_neg (by omega) h1, e], by omega, h1, by omega⟩
    · rw [Ml h1] at h; cases h
def u9 {α : Type} {xs : List α} {i : Int} {v : α} (h : jY xs i = some v) : ∃ j, seqIndex? i xs.length = some j /\ xs[j]? = some v /\ j < xs.length /\ -(xs.length : Int) <= i /\ i < xs.length:=by
  unfold jY at h
  cases e : Bm xs.length i with
  | none=>rw [e] at h; cases h
  | some j=>
    rw [e] at h;obtain ⟨h1, h2, h3, h4⟩:=zo e;exact ⟨j, h1, h, h2, h3, h4⟩
def lg {α : Type} {xs : List α} {j : Nat} {v : α} (h : xs[j]? = some v) : jY xs (j : Int) = some v:=by
  have hj : j < xs.length:=(LG.mp h).1
  have e : Bm xs.length (j : Int) = some j:=by
    unfold Bm;rw [Mk (by omega), Mk (by omega)]; simp
  unfold jY; rw [e]; exact h
def zU (b : Expr) : Prop:=∀ o i, subscripted b false o i = operate [o, i] (getItem o i)
def D1 (X : Cx) (r : R2) : Prop:=
  ∀ (value slice : Expr) (pZ : List (Addr × Obj)) (s : Shared) (σ : St) (H : Hp) (x y : V) (v u : Value) (Q : VK), Inv X pZ σ H s -> RelV x v -> RelV y u -> r x y H Q ->
    subscripted slice false v u = operate [v, u] (getItem v u) -> wpAny (model X.prog X.w) X.A (subscriptTail value slice v u) (EP X pZ σ Q) X.xe s
def Ig (X : Cx) (id : String) (r : V -> List V -> Hp -> VK -> Prop) : Prop:=
  ∀ (pZ : List (Addr × Obj)) (s : Shared) (σ : St) (H : Hp) (x : V) (xs : List V) (v : Value) (us : List Value) (Q : VK), Inv X pZ σ H s -> RelV x v -> Vals xs us -> r x xs H Q ->
    wpAny (model X.prog X.w) X.A (call (.builtin id) (v :: us)) (EP X pZ σ Q) X.xe s
section
variable {X : Cx} {a b : Expr} {ta tb : TE} {pos : Pos}
def D1.or {r r' : R2} (h : D1 X r) (h' : D1 X r') : D1 X (λx y H Q=>r x y H Q \/ r' x y H Q):=by
  intro value slice pZ s σ H x y v u Q I rx ry q hs;rcases q with q | q
  · exact h value slice pZ s σ H x y v u Q I rx ry q hs
  · exact h' value slice pZ s σ H x y v u Q I rx ry q hs
def gZ {r : R2} (hr : D1 X r) (ha : PE X a ta) (hb : PE X b tb) (hs : zU b) : PE X (.Subscript a b pos) (GA r ta tb):=by
  intro pZ s σ H Q I h;exact Subscript_ (HN ha hb I h λv u s2 x y H2 I2 rx ry q=>hr a b pZ s2 σ H2 x y v u Q I2 rx ry q (hs _ _))
def IW (K : Frag) : R2:=λx y H Q=>∃ p xs i v, x = .ref p /\ y = .int i /\ fk K H p xs /\ jY xs i = some v /\ Q v H
def Eo (K : Frag) : R2:=λx y H Q=>∃ p xs i v, x = .ref p /\ y = .int i /\ ji K H p xs /\ jY xs i = some v /\ Q v H
def IU : R2:=λx y H Q=>∃ z i c, x = .str z /\ y = .int i /\ z.length <= sizeLine /\ jY z.cps.toList i = some c /\ Q (.str ⟨#[c]⟩) H
def eW : D1 X (IW X.K):=by
  intro value slice pZ s σ H x y v u Q I rx ry h hs;obtain ⟨p, xs, i, z, rfl, rfl, hq, he, q⟩:=h;cases rx;obtain ⟨t, rfl⟩:=ry;obtain ⟨aY, r, pl, hz⟩:=I.list hq;obtain ⟨j, h1, h2, h3, h4, h5⟩:=u9 he;obtain ⟨w, ew, rw'⟩:=r.get h2;have hl:=r.length;have hn:=qV;have fin : EP X pZ σ Q w s:=⟨z, H, I, rw', q⟩;by_cases h0 : 0 <= i
  · have hj : i.toNat = j:=by
      rw [seqIndex_of h0 h5] at h1;exact Mo h1
    exact item_listR pl.isList h0 (by omega) (by rw [hj]; simpa using ew) fin hs
  · have hj : (i + (aY.toArray.size : Int)).toNat = j:=by
      rw [seqIndex_neg (by omega) h4] at h1;rw [LF, <- hl];exact Mo h1
    exact subscriptTail_builtinR (x:=w) pl.isList.typeIs slot_list_getitem.lookup
      (wpAny_getItem_list_neg (Q:=λr s'=>r = w /\ EP X pZ σ Q r s') pl.isList (by omega) (by rw [LF] <;> omega) (by omega) (by rw [hj]; simpa using ew) ⟨rfl, fin⟩) hs
def rf : D1 X (Eo X.K):=by
  intro value slice pZ s σ H x y v u Q I rx ry h hs;obtain ⟨p, xs, i, z, rfl, rfl, hq, he, q⟩:=h;cases rx;obtain ⟨t, rfl⟩:=ry;obtain ⟨aY, r, pl, hz⟩:=I.tuple hq;obtain ⟨j, h1, h2, h3, h4, h5⟩:=u9 he;obtain ⟨w, ew, rw'⟩:=r.get h2;have hl:=r.length;have hn:=qV;have fin : EP X pZ σ Q w s:=⟨z, H, I, rw', q⟩
  exact subscriptTail_builtinR (x:=w) pl.typeIs slot_tuple_getitem.lookup
    (getItem_tuple (j:=j) (Q:=λr s'=>r = w /\ EP X pZ σ Q r s') pl (by omega) (by omega) (by rw [LF, <- hl]; exact h1) (by simpa using ew) ⟨rfl, fin⟩) hs
def Hu : D1 X IU:=by
  intro value slice pZ s σ H x y v u Q I rx ry h hs;obtain ⟨z, i, c, rfl, rfl, hz, he, q⟩:=h;obtain ⟨t, rfl⟩:=rx;obtain ⟨t', rfl⟩:=ry;obtain ⟨j, h1, h2, h3, h4, h5⟩:=u9 he;have hl : z.cps.toList.length = z.length:=by simp [Str.length]
  rw [hl] at h1 h4 h5;have hn:=qV
  exact tail_any (typeIs_str s z t) slot_str_getitem.lookup (getItem_str (c:=c) (by
    have e1 : decide (i < -(2 ^ 63 : Int)) = false:=LZ (by omega);have e2 : decide (i ≥ 2 ^ 63) = false:=LZ (by omega)
    rw [e1, e2, Bool.or_false]) (by rw [h1]; simpa using h2) ⟨.str ⟨#[c]⟩, H, I.tok _, ⟨_, rfl⟩, q⟩) hs
def Ld (K : Frag) : R2:=λx y H Q=>IW K x y H Q \/ Eo K x y H Q \/ IU x y H Q
def aV : D1 X (Ld X.K):=eW.or (rf.or Hu)
def xY (aY : List Value) (n j : Nat) (u : Value) : Obj.mapSeq (·.setIfInBounds j u) { cls:=.type "list", data:=.seq aY.toArray n } = { cls:=.type "list", data:=.seq (aY.set j u).toArray n }:=by
  simp [Obj.mapSeq]
def Inv.lst {pZ : List (Addr × Obj)} {σ : St} {H : Hp} {s : Shared} {p : Addr} {xs : List V} (I : Inv X pZ σ H s) (h : H p = some (.lst xs)) :
    ∃ (aY : List Value) (n : Nat), Vals xs aY /\ s.heap.get? p = some { cls:=.type "list", data:=.seq aY.toArray n } /\ xs.length <= sizeLine:=by
  obtain ⟨z, aY, n, r, e⟩:=I.dz p _ h;exact ⟨aY, n, r, e, z⟩
def Inv.Hk {pZ : List (Addr × Obj)} {σ : St} {H : Hp} {s : Shared} {p : Addr} {xs ys : List V} {aY cL : List Value} {n n' : Nat} {f : Obj -> Obj} (I : Inv X pZ σ H s) (h : H p = some (.lst xs))
    (ho : s.heap.get? p = some { cls:=.type "list", data:=.seq aY.toArray n }) (hf : f { cls:=.type "list", data:=.seq aY.toArray n } = { cls:=.type "list", data:=.seq cL.toArray n' }) (r : Vals ys cL) (hz : ys.length <= sizeLine) (t : Nat) :
    Inv X pZ σ (upd H p (.lst ys)) { s with heap:=s.heap.update p f, toks:=t }:=by
  have e : (s.heap.update p f).get? p = some { cls:=.type "list", data:=.seq cL.toArray n' }:=by
    rw [Heap.get?_update_self f ho (by rw [hf] <;> rfl), hf]
  refine I.write (x:=p) (e:=p) (by rw [h]; trivial) (.inl rfl) (λb u hb q=>(Heap.get?_update_other _ _ (Ne.symm hb)).trans q) ⟨_, e⟩ ?_;exact ⟨hz, cL, n', r, e⟩
def IQ : V -> V -> V -> Hp -> (Hp -> Prop) -> Prop:=λo i v H Q=>∃ p xs k j, o = .ref p /\ i = .int k /\ H p = some (.lst xs) /\ Bm xs.length k = some j /\ Q (upd H p (.lst (xs.set j v)))
def set_list : J4 X IQ:=by
  intro pZ s σ H o i v ov iv u Q I ro ri rv h;obtain ⟨p, xs, k, j, rfl, rfl, hp, hj, q⟩:=h;cases ro;obtain ⟨t, rfl⟩:=ri;obtain ⟨aY, n, r, ho, hz⟩:=I.lst hp;obtain ⟨h1, h2, h3, h4⟩:=zo hj;have hl:=r.length;have hn:=qV
  have I' : Inv X pZ σ (upd H p (.lst (xs.set j v))) { s with heap:=s.heap.update p (Obj.mapSeq (·.setIfInBounds j u)) }:=
    I.Hk hp ho (xY aY n j u) (r.set rv j) (by rw [List.length_set]; exact hz) s.toks
  by_cases h0 : 0 <= k
  · have hk : k.toNat = j:=by
      rw [seqIndex_of h0 h4] at h1;exact Mo h1
    exact PySem.W.ki_setAt ho h0 (by omega) (by rw [LF, <- hl]; exact h4) (by rw [hk]; exact ⟨_, I', q⟩)
  · have hk : (k + (aY.toArray.size : Int)).toNat = j:=by
      rw [seqIndex_neg (by omega) h3] at h1;rw [LF, <- hl];exact Mo h1
    exact PySem.W.ki_setBack ho (by omega) (by rw [LF, <- hl]; exact h3) (by omega) (by rw [hk]; exact ⟨_, I', q⟩)
def t7 (lo hi : Option Int) (n : Nat) : (sliceBounds lo hi none n).1 = ((HT.fC n 0 lo : Nat) : Int) /\ (sliceBounds lo hi none n).2.1 = ((HT.fC n n hi : Nat) : Int) /\ (sliceBounds lo hi none n).2.2 = 1:=by
  refine ⟨?_, ?_, rfl⟩
  · cases lo with
    | none=>simp [sliceBounds, HT.fC]
    | some i=>
      simp only [sliceBounds, HT.fC, Option.getD_none, show (1 : Int) > 0 by decide, if_true];by_cases h : i < 0
      · simp only [h, if_true] <;> omega
      · simp only [h, if_false] <;> omega
  · cases hi with
    | none=>simp [sliceBounds, HT.fC]
    | some i=>
      simp only [sliceBounds, HT.fC, Option.getD_none, show (1 : Int) > 0 by decide, if_true];by_cases h : i < 0
      · simp only [h, if_true] <;> omega
      · simp only [h, if_false] <;> omega
def rX (aY : List Value) (lo hi : Option Int) : slicePick aY.toArray lo hi none = ((aY.drop (HT.fC aY.length 0 lo)).take (HT.fC aY.length aY.length hi - HT.fC aY.length 0 lo)).toArray:=by
  obtain ⟨h1, h2, h3⟩:=t7 lo hi aY.toArray.size;unfold slicePick;rw [h1, h2, h3];simp only [sliceRange_one, pick_run, LF] <;> rfl
def IL (K : Frag) : V -> Option Int -> Option Int -> Hp -> VK -> Prop:=λx lo hi H Q=>∃ a xs, x = .ref a /\ fk K H a xs /\ ∀ p, H p = none -> Q (.ref p) (upd H p (.lst (sy xs lo hi)))
def t8 : Br X (IL X.K):=by
  intro pZ s σ H x v vl vu lo hi sl Q I rx hs pl pu h;obtain ⟨a, xs, rfl, hx, q⟩:=h;cases rx;obtain ⟨aY, r, ht, hz⟩:=I.list hx;have hlen:=r.length;refine ⟨"list", _, slot_list_getitem.lookup, ht.isList.typeIs, ?_⟩;refine wpAny_getItem_list_slice ht.isList hs pl pu .none (by simp) ?_ (by rw [LF] <;> omega);rw [rX, <- hlen];refine ⟨.ref s.heap.objs.size, _, I.laid (t':=s.toks) (o:=.lst (sy xs lo hi)) (λb ob q=>LB _ q) (LH _) ?_, rfl, q _ (I.dz.fresh (LH _))⟩;exact ⟨LV (pS xs lo hi) hz, _, 0, (r.drop (HT.fC xs.length 0 lo)).take (HT.fC xs.length xs.length hi - HT.fC xs.length 0 lo), LO _ rfl⟩
def ia : V -> Bool
  | .cB=>true
  | .bl _=>true
  | .int _=>true
  | .str _=>true
  | _=>false
noncomputable def rR : V -> V -> Bool
  | .cB, .cB=>true
  | .bl a, .bl b=>a == b
  | .bl a, .int b=>(if a then 1 else 0) == b
  | .int a, .bl b=>a == (if b then 1 else 0)
  | .int a, .int b=>a == b
  | .str a, .str b=>a == b
  | _, _=>false
def DB {A : Around} {s : Shared} {y x : V} {u v : Value} (ry : RelV y u) (rx : RelV x v) (fy : ia y = true) (fx : ia x = true) : SeqAt.EqAt A s u v (rR y x):=by
  cases y with
  | cB=>
    cases ry
    cases x with
    | cB=>cases rx; exact SeqAt.EqAt.same _
    | bl b=>cases rx; exact SeqAt.EqAt.none_bool b
    | int b=>obtain ⟨t, rfl⟩:=rx; exact SeqAt.EqAt.none_int b t
    | str b=>obtain ⟨t, rfl⟩:=rx; exact SeqAt.EqAt.none_str b t
    | _=>exact absurd (show false = true from fx) Mt
  | bl a=>
    cases ry
    cases x with
    | cB=>cases rx; exact SeqAt.EqAt.bool_none a
    | bl b=>cases rx; exact SeqAt.EqAt.bool_bool a b
    | int b=>obtain ⟨t, rfl⟩:=rx; exact SeqAt.EqAt.bool_int a b t
    | str b=>obtain ⟨t, rfl⟩:=rx; exact SeqAt.EqAt.bool_str a b t
    | _=>exact absurd (show false = true from fx) Mt
  | int a=>
    obtain ⟨t', rfl⟩:=ry
    cases x with
    | cB=>cases rx; exact SeqAt.EqAt.int_none a t'
    | bl b=>cases rx; exact SeqAt.EqAt.int_bool a t' b
    | int b=>obtain ⟨t, rfl⟩:=rx; exact SeqAt.EqAt.int_int a t' b t
    | str b=>obtain ⟨t, rfl⟩:=rx; exact SeqAt.EqAt.int_str a t' b t
    | _=>exact absurd (show false = true from fx) Mt
  | str a=>
    obtain ⟨t', rfl⟩:=ry
    cases x with
    | cB=>cases rx; exact SeqAt.EqAt.str_none a t'
    | bl b=>cases rx; exact SeqAt.EqAt.str_bool a t' b
    | int b=>obtain ⟨t, rfl⟩:=rx; exact SeqAt.EqAt.str_int a t' b t
    | str b=>obtain ⟨t, rfl⟩:=rx; exact SeqAt.EqAt.str_str a t' b t
    | _=>exact absurd (show false = true from fx) Mt
  | _=>exact absurd (show false = true from fy) Mt
def Fd (x : V) (u : Value) : Bool:=match u with
  | .none=>rR .cB x
  | .bool b=>rR (.bl b) x
  | .int i _=>rR (.int i) x
  | .str z _=>rR (.str z) x
  | _=>false
def DA {x y : V} {u : Value} (r : RelV y u) (f : ia y = true) : Fd x u = rR y x:=by
  cases y with
  | cB=>cases r; rfl
  | bl b=>cases r; rfl
  | int i=>obtain ⟨t, rfl⟩:=r; rfl
  | str z=>obtain ⟨t, rfl⟩:=r; rfl
  | _=>exact absurd (show false = true from f) Mt
theorem vc {x : V} : ∀ {xs : List V} {us : List Value}, Vals xs us -> xs.all ia = true -> us.any (Fd x) = xs.any λy=>rR y x
  | _, _, .nil, _=>rfl
  | y :: xs, u :: us, .cons r t, f=>by
    rw [List.all_cons, Mb] at f;rw [List.any_cons, List.any_cons, DA r f.1, vc t f.2]
theorem qT {A : Around} {s : Shared} {x : V} {v : Value} (rx : RelV x v) (fx : ia x = true) : ∀ {xs : List V} {us : List Value}, Vals xs us -> xs.all ia = true -> ∀ u ∈ us, SeqAt.EqAt A s u v (Fd x u)
  | _, _, .nil, _=>λu hu=>by cases hu
  | y :: xs, u :: us, .cons r t, f=>λu' hu=>by
    rw [List.all_cons, Mb] at f;rcases LK.mp hu with rfl | hu
    · rw [DA r f.1]; exact DB r rx f.1 fx
    · exact qT rx fx t f.2 u' hu
def Kf (x : V) (xs : List V) : Bool:=xs.any λy=>rR y x
def Le (K : Frag) (neg : Bool) : R2:=λx y H Q=>∃ p xs, y = .ref p /\ (fk K H p xs \/ ji K H p xs) /\ ia x = true /\ xs.all ia = true /\ Q (.bl (if neg then !Kf x xs else Kf x xs)) H
def Au : jj X (compareOp .In) (Le X.K false):=by
  intro pZ s σ H x y v u Q I rx ry h;obtain ⟨p, xs, rfl, hq, fx, fs, q⟩:=h;cases ry;rcases hq with hq | hq
  · obtain ⟨aY, r, pl, hz⟩:=I.list hq;refine SeqAt.in_listAt (Fd x) pl.isList (λw hw=>qT rx fx r fs w (by simpa using hw)) ⟨.bl _, H, I, rfl, ?_⟩;rw [show aY.toArray.any (Fd x) = aY.any (Fd x) by simp, vc r fs];exact q
  · obtain ⟨aY, r, pl, hz⟩:=I.tuple hq;refine SeqAt.in_tupleAt (Fd x) pl (λw hw=>qT rx fx r fs w (by simpa using hw)) ⟨.bl _, H, I, rfl, ?_⟩;rw [show aY.toArray.any (Fd x) = aY.any (Fd x) by simp, vc r fs];exact q
def eR : iF X (.type "tuple") (λxs H Q=>∃ p ys, xs = [.ref p] /\ ((fk X.K H p ys /\ ∀ l, H l = none -> Q (.ref l) (upd H l (.tup ys))) \/ (ji X.K H p ys /\ Q (.ref p) H))):=by
  intro pZ s σ H xs us Q I r h;obtain ⟨p, ys, rfl, h⟩:=h;obtain ⟨u, rfl, rx⟩:=vals1 r;cases rx;rcases h with ⟨hq, q⟩ | ⟨hq, q⟩
  · obtain ⟨aY, r', pl, hz⟩:=I.list hq;have hlen:=r'.length;refine call_tuple_list pl.isList (λh' kp=>?_) (by simp only [LF] <;> omega);have I1 : Inv X pZ σ H { s with heap:=h' }:=I.kept (t':=s.toks) kp
    have I2 : Inv X pZ σ (upd H h'.objs.size (.tup ys)) { s with heap:=h'.push { cls:=.type "tuple", data:=.seq aY.toArray } }:=
      I1.laid (t':=s.toks) (λb o e=>LB _ e) (LH _) (show fE X.prog X.w _ _ _ (.tup ys) from ⟨hz, aY, r', lh.new _ _⟩)
    exact ⟨.ref h'.objs.size, _, I2, rfl, q _ (I1.dz.fresh (LH _))⟩
  · obtain ⟨aY, r', pl, hz⟩:=I.tuple hq;exact call_tuple_same pl ⟨.ref p, H, I, rfl, q⟩
def Ks (K : Frag) (T : String) (x : V) (H : Hp) : Prop:=match x with
  | .str _=>T = "str"
  | .int _=>T = "int"
  | .ref p=>(T = "list" /\ ∃ xs, fk K H p xs) \/ (T = "tuple" /\ ∃ o, K.lookup p = some o /\ o.cls = .type "tuple" /\ o.dict = none) \/
      (T = "dict" /\ ((∃ kvs, Rd H p (.dK kvs)) \/ ∃ kvs, H p = some (.dT kvs))) \/ (T = "set" /\ ∃ S n, H p = some (.set S n))
  | _=>False
def Gw {pZ : List (Addr × Obj)} {σ : St} {H : Hp} {s : Shared} {T : String} {x : V} {v : Value} (I : Inv X pZ σ H s) (r : RelV x v) (ty : Ks X.K T x H) :
    s.TypeIs v T /\ ∀ a, v = .ref a -> ∃ ob, s.heap.get? a = some ob /\ ob.dict = none:=by
  cases x with
  | str z=>
    obtain ⟨t, rfl⟩:=r;cases (show T = "str" from ty)
    exact ⟨typeIs_str s z t, λ_ e=>nomatch e⟩
  | int i=>
    obtain ⟨t, rfl⟩:=r;cases (show T = "int" from ty)
    exact ⟨typeIs_int s i t, λ_ e=>nomatch e⟩
  | ref p=>
    cases r;rcases ty with ⟨rfl, xs, hq⟩ | ⟨rfl, o, hk, hc, hd⟩ | ⟨rfl, hk⟩ | ⟨rfl, S, n, hk⟩
    · obtain ⟨aY, _, pl, _⟩:=I.list hq;refine ⟨pl.isList.typeIs, λa e=>?_⟩;cases e;obtain ⟨o, n, e, c, hd, _⟩:=pl;exact ⟨o, e, hd⟩
    · refine ⟨⟨o, I.sW p o hk, hc⟩, λa e=>?_⟩;cases e;exact ⟨o, I.sW _ o hk, hd⟩
    · have z : ∃ o, s.heap.get? p = some o /\ o.ExactDict:=by
        rcases hk with ⟨kvs, hk⟩ | ⟨kvs, hk⟩
        · obtain ⟨_, _, _, _, o, _, _, e, ex, _⟩:=hk.ok I.dz;exact ⟨o, e, ex⟩
        · obtain ⟨_, _, _, _, o, _, _, e, ex, _⟩:=I.dz p _ hk;exact ⟨o, e, ex⟩
      obtain ⟨o, e, ex⟩:=z;refine ⟨⟨o, e, ex.1⟩, λa e2=>?_⟩;cases e2;exact ⟨o, e, ex.2.1⟩
    · obtain ⟨o, _, _, _, e, ex, _⟩:=I.dz p _ hk;refine ⟨⟨o, e, ex.1⟩, λa e2=>?_⟩;cases e2
      exact ⟨o, e, ex.2.1⟩
  | _=>exact False.elim ty
def Iz (K : Frag) (T : String) (r : V -> List V -> Hp -> VK -> Prop) (to : TE) (t : TA) : TE:=λσ H Q=>to σ H λx H1=>Ks K T x H1 /\ t σ H1 λxs H2=>r x xs H2 Q
variable {o e : Expr} {es : List Expr} {to : TE} {t : TA} {name : Str} {apos mB : Pos} {T id : String} {r : V -> List V -> Hp -> VK -> Prop}
def Jg (pa : PlainAttrs T) (slot : Slot T name id) (hty : typeOf (.builtin id) = pure (.type "method_descriptor")) (hm : Ig X id r) (ho : PE X o to) (ha : PA X (e :: es) t)
    (hbase : attributeBase o name X.env (eval o X.env) = eval o X.env:=by rfl)
    (hfew : ((backTo mB (starEach (e :: es) X.env)).all (λx=>!x.1) && (backToKw mB (keywordEach [] X.env)).all (λx=>x.1.isSome)
      && decide ((e :: es).length + ([] : List Keyword).length + (if ([] : List Keyword).isEmpty then 0 else 1) < 30)) = true:=by rfl)
    (hline : (apos.endLine == mB.line) = true:=by rfl) (hs : starEach (e :: es) X.env = (false, eval e X.env) :: starEach es X.env:=by rfl) (hplain : (backTo mB (starEach es X.env)).any (·.1) = false:=by rfl) :
    PE X (.Call (.Attribute o name apos) (e :: es) [] mB) (Iz X.K T r to t):=by
  intro pZ s σ H Q I h;refine wpAny_Call_method_late hbase hfew hline rfl (eg (ho pZ s σ H _ I h) λv s1 ⟨x, H1, I1, r1, ty, q1⟩=>?_);obtain ⟨h1, h2⟩:=Gw I1 r1 ty;refine ⟨T, id, pa, slot, hty, h1, h2, ?_⟩;have hA:=ha mB pZ s1 σ H1 _ I1 q1;rw [hs] at hA ⊢;refine Calls.callWith_builtin (by show (false || (backTo mB (starEach es X.env)).any (·.1)) = false; rw [hplain] <;> rfl) (Calls.evalArgs_plain ?_);exact eg hA λus s2 ⟨vs, H2, I2, r2, q2⟩=>hm pZ s2 σ H2 x vs v us Q I2 r1 r2 q2
end
def Kp (X : Cx) (id : String) (r : V -> List V -> Hp -> VK -> Prop) : Prop:=
  ∀ (pZ : List (Addr × Obj)) (s : Shared) (σ : St) (H : Hp) (x : V) (xs : List V) (v : Value) (us : List Value) (Q : VK), Inv X pZ σ H s -> RelV x v -> Vals xs us -> r x xs H Q ->
    wpAny (model X.prog X.w) X.A (call (.builtin id) (v :: us)) (EP X pZ σ Q) X.xe s
theorem Vals.one : ∀ {x : V} {us : List Value}, Vals [x] us -> ∃ u, us = [u] /\ RelV x u
  | _, _, .cons r .nil=>⟨_, rfl, r⟩
theorem Vals.rep {xs : List V} {us : List Value} (h : Vals xs us) : ∀ k : Nat, Vals (List.replicate k xs).flatten (List.replicate k us).flatten
  | 0=>.nil
  | k + 1=>by
    rw [List.replicate_succ, List.replicate_succ, List.flatten_cons, List.flatten_cons];exact Vals.append h (Vals.rep h k)
theorem foldl_rep (aY : List Value) : ∀ (k : Nat) (acc : List Value),
    List.foldl (λx1 x2=>x1 ++ x2) acc.toArray (List.replicate k aY.toArray) = (acc ++ (List.replicate k aY).flatten).toArray
  | 0, acc=>by simp
  | k + 1, acc=>by
    have e : acc.toArray ++ aY.toArray = (acc ++ aY).toArray:=by simp
    have e2 : (acc ++ aY) ++ (List.replicate k aY).flatten = acc ++ (List.replicate (k + 1) aY).flatten:=by
      rw [List.replicate_succ, List.flatten_cons, List.append_assoc]
    rw [<- e2, <- foldl_rep aY k (acc ++ aY), <- e, List.replicate_succ, Mr]
section
variable {X : Cx} {pZ : List (Addr × Obj)} {σ : St} {H : Hp} {s : Shared} {l b : Addr} {xs ys zs : List V}
def Inv.Hl {aY cL : List Value} {n : Nat} {f : Array Value -> Array Value} {t' : Nat} (I : Inv X pZ σ H s) (hH : H l = some (.lst xs))
    (e : s.heap.get? l = some { cls:=.type "list", data:=.seq aY.toArray n }) (hf : f aY.toArray = cL.toArray) (hv : Vals ys cL) (hz : ys.length <= sizeLine) :
    Inv X pZ σ (upd H l (.lst ys)) { s with heap:=s.heap.update l (Obj.mapSeq f), toks:=t' }:=by
  have q:=PySem.IsL.update e f;rw [hf] at q;refine I.write (x:=l) (e:=l) (by rw [hH]; exact trivial) (.inl rfl) (λb' u hb hu=>(Heap.get?_update_other s.heap (Obj.mapSeq f) (Ne.symm hb)).trans hu) ⟨_, q⟩ ?_;exact ⟨hz, cL, _, hv, q⟩
def Inv.ya {aY : List Value} {t' : Nat} (I : Inv X pZ σ H s) (hv : Vals ys aY) (hz : ys.length <= sizeLine) :
    Inv X pZ σ (upd H s.heap.objs.size (.lst ys)) { s with heap:=s.heap.push { cls:=.type "list", data:=.seq aY.toArray }, toks:=t' }:=
  I.laid (λ_ _ q=>LB _ q) (LH _) ⟨hz, aY, 0, hv, LO _ rfl⟩
theorem Inv.fresh (I : Inv X pZ σ H s) : H s.heap.objs.size = none:=I.dz.fresh (LH _)
def Inv.xZ (I : Inv X pZ σ H s) (hH : H l = some (.lst xs)) : xs.length <= sizeLine /\ ∃ (aY : List Value) (n : Nat), Vals xs aY /\ xs.length = aY.length /\ s.heap.get? l = some { cls:=.type "list", data:=.seq aY.toArray n }:=by
  obtain ⟨z, aY, n, r, e⟩:=I.dz l _ hH;exact ⟨z, aY, n, r, r.length, e⟩
def CM {n : Nat} (h : n <= sizeLine) : Builtin.List.listTooLong n = false:=by
  unfold Builtin.List.listTooLong;exact LZ (by omega)
end
section
variable {X : Cx}
def yU : V -> List V -> Hp -> VK -> Prop:=λx vs H Q=>∃ l xs y, x = .ref l /\ vs = [y] /\ H l = some (.lst xs) /\ xs.length < sizeLine /\ Q .cB (upd H l (.lst (xs ++ [y])))
def kF : Kp X "list.append" yU:=by
  intro pZ s σ H x vs v us Q I rx rv h;obtain ⟨l, xs, y, rfl, rfl, hH, hz, q⟩:=h;cases rx;obtain ⟨u, rfl, ru⟩:=rv.one;obtain ⟨z, aY, n, r, hl, e⟩:=I.xZ hH;refine call_meets F.slot_list_append ⟨_, e, rfl⟩ F.entry_list_append (F.args_list_append_2 _ _) (PySem.list_append l aY.toArray n u (by rw [LF]; omega)) ⟨e, ?_⟩;refine ⟨.cB, _, I.Hl (cL:=aY ++ [u]) hH e (by simp) (r.append (.cons ru .nil)) ?_, rfl, q⟩;rw [L0, List.length_singleton];omega
def IY : R2:=λx y H Q=>∃ l b xs zs, x = .ref l /\ y = .ref b /\ H l = some (.lst xs) /\ H b = some (.lst zs) /\ xs.length + zs.length <= sizeLine /\ ∀ p, H p = none -> Q (.ref p) (upd H p (.lst (xs ++ zs)))
def G9 : jj X (binaryOp .Add) IY:=by
  intro pZ s σ H x y v u Q I rx ry h;obtain ⟨l, b, xs, zs, rfl, rfl, hH, hB, hz, q⟩:=h;cases rx;cases ry;obtain ⟨z, aY, n, r, hl, e⟩:=I.xZ hH;obtain ⟨z2, Dd, n2, r2, hl2, e2⟩:=I.xZ hB;refine PySem.P.add_list e e2 ?_ (by rw [LF, LF]; omega);have ea : aY.toArray ++ Dd.toArray = (aY ++ Dd).toArray:=by simp
  rw [ea];exact ⟨.ref _, _, I.ya (t':=s.toks) (r.append r2) (by rw [L0]; omega), rfl, q _ I.fresh⟩
def IS : R2:=λx y H Q=>∃ l k xs, x = .ref l /\ y = .int k /\ H l = some (.lst xs) /\ -(2 ^ 63) <= k /\ k < 2 ^ 63 /\ xs.length * k.toNat <= sizeLine /\
  ∀ p, H p = none -> Q (.ref p) (upd H p (.lst (List.replicate k.toNat xs).flatten))
def len_rep {α : Type} (xs : List α) (k : Nat) : (List.replicate k xs).flatten.length = k * xs.length:=by
  induction k with
  | zero=>simp
  | succ k ih=>rw [List.replicate_succ, List.flatten_cons, L0, ih, Nat.succ_mul, Nat.add_comm]
def G8 : jj X (binaryOp .Mult) IS:=by
  intro pZ s σ H x y v u Q I rx ry h;obtain ⟨l, k, xs, rfl, rfl, hH, h1, h2, hz, q⟩:=h;cases rx;obtain ⟨t, rfl⟩:=ry;obtain ⟨z, aY, n, r, hl, e⟩:=I.xZ hH;have hlen : aY.toArray.size * k.toNat <= sizeLine:=by rw [LF, <- hl]; exact hz
  have hcap : ¬ aY.toArray.size * k.toNat > (2 ^ 63 - 1) / 8:=by
    have : (sizeLine : Nat) <= (2 ^ 63 - 1) / 8:=by decide
    omega
  have hfit : ¬ (!Builtin.List.listFitsIndex k) = true:=by
    rw [fitsIndex_both h1 h2];exact Mt
  have hlong : ¬ Builtin.List.listTooLong (aY.toArray.size * k.toNat) = true:=by
    rw [CM hlen];exact Mt
  have hnew : List.foldl (λx1 x2=>x1 ++ x2) #[] (List.replicate (if aY.toArray.isEmpty = true then 0 else k.toNat) aY.toArray) = (List.replicate k.toNat aY).flatten.toArray:=by
    have f0 : ∀ m : Nat, List.foldl (λx1 x2=>x1 ++ x2) #[] (List.replicate m aY.toArray) = (List.replicate m aY).flatten.toArray:=λm=>by
      have:=foldl_rep aY m [];rw [List.nil_append] at this;exact this
    rw [f0]
    cases aY with
    | nil=>simp
    | cons a r'=>rw [Ml (by simp)]
  refine wpAny_binaryOp_repeat_ref (T:="list") (U:="int") (by decide) ⟨_, e, rfl⟩ (λs'=>typeIs_int s' k t) noFill_list_mul F.fills_int_mul F.slot_int_rmul repeat_list F.slot_int_index.lookup
    (call_meets F.slot_int_rmul (typeIs_int s k t) F.entry_int_rmul (F.args_int_rmul_2 _ _) (int___rmul___int_list k t l aY.toArray n)
      ⟨e, rfl, ⟨_, e, rfl⟩, call_meets F.slot_list_mul ⟨_, e, rfl⟩ F.entry_list_mul (F.args_list_mul_2 _ _) (AutoListH.list___mul___list_int_3 l aY.toArray n k t hfit hcap hlong) ⟨e, ?_⟩⟩)
  rw [hnew];exact ⟨.ref _, _, I.ya (t':=s.toks) (r.rep k.toNat) (by rw [len_rep, Nat.mul_comm]; exact hz), rfl, q _ I.fresh⟩
end
end L2
namespace Att
open PySem PySem.W PySem.Calls PyProof.Rows
def p8 {P : Params} {h : Heap} : ∀ (ns : List Int) (vs : List Value), WellAll P h vs (ns.map WData.int) -> IntsAre vs ns:=by
  intro ns
  induction ns with
  | nil=>
    intro vs w;rw [List.map_nil] at w;cases w
    exact .nil
  | cons n ns ih=>
    intro vs w;rw [LJ] at w
    cases w with
    | cons a b=>
      cases a;exact .cons _ _ (ih _ b)
def Af {l : OpenLaw} {n : Nat} (hn : l.most = some n) {P : Params} {h : Heap} {args : List WData} {vals : List Value}
    (hpre : l.row.toRowW.claim.pre args = true) (hwl : WellAll P h vals args) :
    ∃ a vs ns, vals = [Value.ref a] /\ args = [WData.list (ns.map WData.int)] /\ h.get? a = some { cls:=.type "list", data:=.seq vs.toArray } /\ IntsAre vs ns /\ ns.length <= n:=by
  have hsh : WShape.hasAll [] args [.list .int] = true:=(pre_splitW hpre).1;have hc : l.pre.holds [] { args:=args } = true:=(pre_splitW hpre).2;obtain ⟨d, r, rfl, h1, h2⟩:=hasAllW_cons hsh;obtain rfl:=hasAllW_nil h2;obtain ⟨xs, rfl, h3⟩:=hasW_list h1;obtain ⟨ns, rfl⟩:=items_int h3
  have hlen : ns.length <= n:=by
    unfold OpenLaw.pre at hc
    have h4 : (WTm.not (.lt (.lit (.int (n : Int))) (.len (.arg 0)))).holds [] { args:=[.list (ns.map .int)] } = true:=by
      have h4:=(holds_andW hc).1;rw [hn] at h4;exact h4
    have h5:=condW_of h4 (w_not (w_lt w_lit (w_len_list (w_arg rfl))));rw [LA] at h5;refine Nat.le_of_not_lt λq=>?_;have q' : (n : Int) < ((ns.length : Nat) : Int):=by omega
    first
      | (rw [Mp q'] at h5; exact absurd h5 (by decide))
      | (simp at h5; omega)
  cases hwl with
  | cons w1 w2=>
    cases w2
    cases w1 with
    | list ho hall=>exact ⟨_, _, ns, rfl, rfl, ho, p8 ns _ hall, hlen⟩
def Am (l : OpenLaw) (args : List WData) : l.row.toRowW.claim.post args (.bool true) args = true:=
  postW_of (r:=l.row.toRowW) (X:=(true == true))
    (show WShape.has [] (.bool true) .bool = true by first | rfl | decide | simp [WShape.has, WShape.arms, WShape.armsAll])
    (show (WTm.eq .res (.lit (.bool true))).value [] { args:=args, res:=some (.bool true), after:=args } = some (.bool (true == true)) from w_eq_bool (w_res rfl) w_lit) rfl
def w8 {l : OpenLaw} {n : Nat} {q : Program} {loose : List Str} {XP : (Str -> Option Value) -> Heap -> Prop} {YP : World -> Heap -> Prop} {d : DefRec}
    (hn : l.most = some n) (hdf : d.params.defaults = [])
    (call : ∀ (w : World) (s₀ s₁ : Shared) (mg mb : Str -> Option Value) (fa : Addr) (o : Obj) (pm cd doc : Value) (a : Addr) (vs : List Value) (ns : List Int),
      Ground q loose [] XP w s₀ mg mb s₁.heap -> YP w s₁.heap ->
      s₁.heap.get? fa = some o -> o.data = .func (docDef d.name d.params d.body d.scope pm cd doc) -> s₁.heap.CodeRec cd d.name -> mg d.name = some (.ref fa) ->
      s₁.heap.get? a = some { cls:=.type "list", data:=.seq vs.toArray } -> IntsAre vs ns -> ns.length <= n -> s₁.gens = #[] ->
      codeAny (model l.prog w) callerA (.call (.ref fa) ⟨[.ref a], []⟩) (λr s'=>r = .ok (.ret (.bool true)) /\ OldK s₁.heap s'.heap /\ s'.os = s₁.os /\ AllBare s'.gens) s₁) :
    WalkO q loose XP YP l.row.toRowW d [] (λf vs=>PySem.call f vs):=by
  intro w s₀ s₁ mg mb G Y fa o pm cd doc dV kV ho hd hcd hD hmg hg args vals as hpre hlay hrd hwl hlo;obtain rfl : dV = .none:=Dflts.none hD hdf;obtain rfl : kV = .none:=Dflts.noKw hD;obtain ⟨a, vs, ns, rfl, rfl, hobj, hints, hlen⟩:=Af hn hpre hwl;refine enter_call (codeAny_mono (call w s₀ s₁ mg mb fa o pm cd doc a vs ns G Y ho (fd_plain hd) hcd hmg hobj hints hlen hg) λr s' hq=>?_);obtain ⟨rfl, h2, h3, h4⟩:=hq;exact ⟨.inl ⟨.bool true, .bool true, [], rfl, λ_=>rfl, .bool true, Am l _, λ_=>⟨List.Pairwise.nil, λ_ hm=>(nomatch hm)⟩⟩, h2, h3, h4⟩
end Att
namespace L2
theorem oF : ∀ {vs : List Value} {ns : List Int}, IntsAre vs ns -> Vals (ns.map V.int) vs
  | _, _, .nil=>.nil
  | _, _, .cons n t h=>.cons ⟨t, rfl⟩ (oF h)
def aS (s : Stmt) : Arguments:=match s with
  | .FunctionDef _ a _ _ _ _ _ _ _ _=>a
  | _=>{ posonlyargs:=[], args:=[], vararg:=none, kwonlyargs:=[], kw_defaults:=[], kwarg:=none, defaults:=[] }
def ar (s : Stmt) : List Stmt:=match s with
  | .FunctionDef _ _ b _ _ _ _ _ _ _=>b
  | _=>[]
def ag (s : Stmt) : Scope:=match s with
  | .FunctionDef _ _ _ _ _ _ sc _ _ _=>sc
  | _=>{ kind:=.function, names:=[], isGenerator:=false, isCoroutine:=false }
abbrev bO : zV:=λ_ _ _ _ _ _=>False
abbrev E0 : XK:=λ_ _ _=>False
def aE {X : Cx} : Passes bO X E0:=λ_ _ _ _ _ _ _ h=>h.elim
structure jC (K : Frag) (x qual : Str) (st : Stmt) (f : Addr) (fd : FuncData) : Prop where
  ex : ∃ (oc : Value) (od : Option Addr) (kV doc pm : Value) (an : Option Addr) (fi ct : Value) (osl : Array (Option Value)),
    fd = fnOf x qual (aS st) (ar st) (ag st) .none kV doc pm an fi ct /\ K.lookup f = some ⟨oc, od, .func fd, osl⟩ /\ codeIn K fi qual = true
  kp : keepIn K (.ref f) = true
section
variable {P : Program} {w : World} {K : Frag} {mg : Str -> Option Value} {base : Heap}
def jC.ok {x qual : Str} {st : Stmt} {f : Addr} {fd : FuncData} {N ps : List Str} {k : Nat} {sp : Sp} (F : jC K x qual st f fd) (S : aH N ps (ag st)) (len : ∀ vs H Q E, sp vs H Q E -> vs.length = ps.length)
    (lI : ∀ (fi : Value) (A : Around) (outer : List Env) (s : Shared) (H : Hp) (vs : List V) (Q : VK) (E : XK), fR k (A.deeper (envOfC qual (ag st) s.heap.objs.size f fi)) -> sp vs H Q E ->
      ∃ t, xg (jd bO P w K mg base N qual (ag st) f fi A outer s H E).mW (ar st) t /\ t { nx:=λ_ H'=>Q .cB H', rt:=Q } (start N vs) H) : aI P w K mg base bO (k + 1) f fd ps sp:=by
  obtain ⟨oc, od, kV, doc, pm, an, fi, ct, osl, rfl, lk, hcd⟩:=F.ex;refine zA lk hcd S len λA outer s H vs Q E hr hsp=>?_;obtain ⟨t, h, q⟩:=lI fi A outer s H vs Q E hr hsp;exact ⟨t, h.mW, q⟩
def jC.binds {x qual : Str} {st : Stmt} {f : Addr} {fd : FuncData} {ps : List Str} (F : jC K x qual st f fd)
    (h : ∀ (kV doc pm : Value) (an : Option Addr) (fi ct : Value) (us : List Value), us.length = ps.length -> bindArgs (fnOf x qual (aS st) (ar st) (ag st) .none kV doc pm an fi ct) ⟨us, []⟩ = pure (ps.zip us)) : Binds K fd ps []:=by
  obtain ⟨oc, od, kV, doc, pm, an, fi, ct, osl, rfl, lk, hcd⟩:=F.ex;exact .all (h kV doc pm an fi ct)
def bz {x qual : Str} {st : Stmt} {f : Addr} {oc : Value} {od an : Option Addr} {osl : Array (Option Value)} {kV doc pm fi ct : Value} (l : K.lookup f = some ⟨oc, od, .func (fnOf x qual (aS st) (ar st) (ag st) .none kV doc pm an fi ct), osl⟩)
    (c : codeIn K fi qual = true) (k : keepIn K (.ref f) = true) : jC K x qual st f (fnOf x qual (aS st) (ar st) (ag st) .none kV doc pm an fi ct):=⟨⟨oc, od, kV, doc, pm, an, fi, ct, osl, rfl, l, c⟩, k⟩
end
def Ga {A : Around} {k : Nat} (hr : fR k A) : A.units + 1 < cLine:=Nat.lt_of_le_of_lt (Nat.add_le_add_left (by decide : 1 <= 64) _) hr.units
section
variable {X : Cx}
def pv (i : Nat) {x : Str} {pos : Pos} (hN : X.N[i]? = some x:=by rfl) (hv : Kk X.env.scope x:=by first | exact Or.inl rfl | exact Or.inr (Or.inl rfl) | exact Or.inr (Or.inr rfl)) (hd : (x == ("__debug__" : Str)) = false:=by decide)
    (hcd : (x == ("__classdict__" : Str)) = false:=by decide) : PE X (.Name x pos) (p6 i):=xD hN hv hd hcd
end
def KS {A B : Prop} (h : B) : if false = true then A else B:=by
  rw [Ml Mt];exact h
def KR {A B : Prop} (h : A) : if true = true then A else B:=by
  rw [Mk rfl];exact h
def E1 {c A B : Prop} [Decidable c] (h1 : c -> A) (h2 : ¬ c -> B) : if c then A else B:=by
  by_cases h : c
  · rw [Mk h];exact h1 h
  · rw [Ml h];exact h2 h
def ng (H H' : Hp) : Prop:=∀ b o, H b = some o -> H' b = some o
def ng.trans {H H1 H2 : Hp} (a : ng H H1) (b : ng H1 H2) : ng H H2:=λc o h=>b c o (a c o h)
def ng.seq {K : Frag} {H H' : Hp} {a : Addr} {xs : List V} (e : ng H H') (h : fk K H a xs) : fk K H' a xs:=by
  rcases h with (h | ⟨o, h⟩) | h
  · exact .inl (.inl (e _ _ h))
  · exact .inl (.inr ⟨o, e _ _ h⟩)
  · exact .inr h
end L2
end
namespace L2
section
variable {κ : Type} [DecidableEq κ]
theorem KV.length {kvs : List (κ × V)} {vs : List (κ × Value)} (r : KV kvs vs) : kvs.length = vs.length:=Paired.length r
end
section
variable {P : Program} {w : World} {H : Hp} {h : Heap} {a : Addr}
def IH {u : HO} (ok : lO P w H h) (e : Rd H a u) : fE P w H h a u:=e.ok ok
def Gj {kvs : List (Key × V)} (ok : lO P w H h) (e : Rd H a (.dK kvs)) : kvs.length <= sizeLine /\ (a == sysModules) = false /\ ∃ vs, KV kvs vs /\ h.DictOf (fP P w) a vs:=
  show fE P w H h a (.dK kvs) from IH ok e
end
section
variable {X : Cx} {pZ : List (Addr × Obj)} {σ : St} {H : Hp} {s : Shared} {a : Addr} {kvs : List (Key × V)} {k : Key} {u : Value} {A : Around} {E : Value -> Shared -> Prop}
def JN {Q : Value -> Shared -> Prop} (I : Inv X pZ σ H s) (e : Rd H a (.dK kvs)) (h : ∀ t s', Inv X pZ σ H s' -> Q (.int kvs.length t) s') : wpAny (model X.prog X.w) A (call (.builtin "len") [.ref a]) Q E s:=by
  obtain ⟨z, hd, vs, rel, dd⟩:=Gj I.dz e;refine call_len_dict hd dd (by rw [<- rel.length]; rw [Md] at z; omega) ?_;rw [<- rel.length];exact h _ _ (I.tok _)
end
noncomputable def jt (cells : List (Str × Addr)) (cs : List (Str × Addr)) (p : Str × NameKind) : List (Str × Addr):=
  if p.2 == .free then (match cells.lookup p.1 with | some c=>(p.1, c) :: cs | none=>cs) else cs
def A2 (names : List (Str × NameKind)) (cells : List (Str × Addr)) : List (Str × Addr):=names.foldl (jt cells) []
theorem oz (env : Env) : ∀ (names : List (Str × NameKind)) (cs : List (Str × Addr)), (∀ p ∈ names, p.2 = .free -> ∃ c, env.cells.lookup p.1 = some c) ->
    (forIn names cs λ(p : Str × NameKind) r=>(if (p.2 == .free) = true then do let a <- cellOf env p.1; pure (ForInStep.yield ((p.1, a) :: r)) else pure (ForInStep.yield r) : Sem (ForInStep (List (Str × Addr))))) = pure (names.foldl (jt env.cells) cs)
  | [], cs, _=>rfl
  | p :: r, cs, h=>by
    have ih:=λcs'=>oz env r cs' λq hq=>h q (LC _ hq);rw [List.forIn_cons];by_cases hp : (p.2 == .free) = true
    · obtain ⟨c, hc⟩:=h p Lz (by simpa using hp);have e : jt env.cells cs p = (p.1, c) :: cs:=by unfold jt; rw [Mk hp, hc]
      have e2 : cellOf env p.1 = pure c:=by unfold cellOf; rw [hc]
      rw [Mk hp, e2, Mr, e];exact ih _
    · have e : jt env.cells cs p = cs:=by unfold jt; rw [Ml hp]
      rw [Ml hp, Mr, e];exact ih _
def m6 {scope : Scope} {env : Env} (h : ∀ p ∈ scope.names, p.2 = .free -> ∃ c, env.cells.lookup p.1 = some c) : closureFor scope env = pure (A2 scope.names env.cells):=by
  have q:=oz env scope.names [] h;unfold closureFor;show (forIn scope.names [] _ >>= λcs=>pure cs) = _;have e : ∀ m : Sem (List (Str × Addr)), (m >>= λcs=>pure cs) = m:=λm=>bind_pure m;rw [e];exact q
theorem iB (cells : List (Str × Addr)) : ∀ (names : List (Str × NameKind)) (cs : List (Str × Addr)), (∀ x c, cs.lookup x = some c -> cells.lookup x = some c) -> ∀ x c, (names.foldl (jt cells) cs).lookup x = some c -> cells.lookup x = some c
  | [], _, h=>h
  | p :: r, cs, h=>iB cells r _ (λx c e=>by
    unfold jt at e;split at e
    · split at e
      · rename_i c' hc';rw [List.lookup_cons] at e;split at e
        · rename_i hx;have hx' : x = p.1:=by simpa using hx
          cases e; rw [hx']; exact hc'
        · exact h x c e
      · exact h x c e
    · exact h x c e)
theorem wK (cells : List (Str × Addr)) : ∀ (names : List (Str × NameKind)) (cs : List (Str × Addr)) (x : Str), (∃ c, cs.lookup x = some c) -> ∃ c, (names.foldl (jt cells) cs).lookup x = some c
  | [], _, _, h=>h
  | p :: r, cs, x, h=>wK cells r _ x (by
    unfold jt;split
    · split
      · rw [List.lookup_cons];split
        · exact ⟨_, rfl⟩
        · exact h
      · exact h
    · exact h)
theorem yo (cells : List (Str × Addr)) : ∀ (names : List (Str × NameKind)) (cs : List (Str × Addr)) (x : Str), (x, NameKind.free) ∈ names -> (∃ c, cells.lookup x = some c) -> ∃ c, (names.foldl (jt cells) cs).lookup x = some c
  | [], _, _, h, _=>by simp at h
  | p :: r, cs, x, h, hc=>by
    rcases LK.mp h with e | e
    · subst e;refine wK cells r _ x ?_;obtain ⟨c, hc⟩:=hc;unfold jt;rw [Mk (by rfl), hc];exact ⟨c, by rw [List.lookup_cons]; simp⟩
    · exact yo cells r _ x e hc
def lb (X : Cx) (scope : Scope) (N : List Str) (s₀ : Shared) (H₀ : Hp) (ex : List Addr) (pn : List (Addr × Obj)) : Cx:=
  { prog:=X.prog, w:=X.w, K:=X.K, mg:=X.mg, base:=X.base, A:=X.A, N:=N, s₀:=s₀, H₀:=H₀, env:=compEnvC scope (A2 scope.names X.env.cells) s₀.heap.objs.size X.env, outer:=X.stack, stack:=X.stack, ex:=ex, fn:=λ_=>false, calm:=true, pn:=pn, xe:=λ_ _=>False }
noncomputable def jU (js : List (Option Nat)) (σ : St) : St:=js.map λo=>match o with | some j=>(σ[j]?).getD none | none=>none
def Be (X : Cx) (ifs : List Expr) (t : TT) : Prop:=
  ∀ (pZ : List (Addr × Obj)) (s : Shared) (σ : St) (H : Hp) (Q : Bool -> Hp -> Prop), Inv X pZ σ H s -> t σ H Q ->
    wpAny (model X.prog X.w) X.A (forIn ifs true λc r=>if r = true then do let ok <- isTrue c X.env (eval c X.env); pure (ForInStep.yield ok) else pure (ForInStep.yield r)) (TP X pZ σ Q) X.xe s
def Iy : TT:=λ_ H Q=>Q true H
def yW {X : Cx} : Be X [] Iy:=λpZ s σ H Q I h=>wpAny_tests_nil ⟨H, I, h⟩
def Ep {X : Cx} {c : Expr} {t : TT} (h : PT X c t) : Be X [c] t:=λpZ s σ H Q I hw=>wpAny_tests_one (h pZ s σ H Q I hw)
def Wk (J : It) (g : TG) (tt : TT) (B : St -> Hp -> (St -> Hp -> Prop) -> Prop) (σ0 : St) (H0 : Hp) (Q : St -> Hp -> Prop) : Prop:=
  ∃ W : Nat -> Nat -> St -> Hp -> Prop, (∃ m, W 0 m σ0 H0) /\ ∀ i m σ' H', W i m σ' H' ->
    (J.stop i H' /\ Q σ' H') \/ (J.go i H' /\ ∀ x H2, J.Fw i H' x H2 -> g x σ' H2 λσ2 H3=>tt σ2 H3 λok H4=>
      if ok = true then B σ2 H4 (λσ3 H6=>∃ m', m' < m /\ W (i + 1) m' σ3 H6) else ∃ m', m' < m /\ W (i + 1) m' σ2 H4)
def Lg (D : Addr) (te : TE) (σ : St) (H : Hp) (K : St -> Hp -> Prop) : Prop:=te σ H λy H5=>∃ ys, H5 D = some (.lst ys) /\ ys.length < sizeLine /\ K σ (upd H5 D (.lst (ys ++ [y])))
def La (J : It) (D : Addr) (g : TG) (tt : TT) (te : TE) (Q : VK) (σ0 : St) (H1 : Hp) : Prop:=
  Wk J g tt (Lg D te) σ0 (upd H1 D (.lst [])) λ_ H=>Q (.ref D) H
def GB (js : List (Option Nat)) (wi : TI) (g : TG) (tt : TT) (te : TE) : TE:=λσ H Q=>wi σ H λJ H1=>∀ D, H1 D = none -> La J D g tt te Q (jU js σ) H1
structure bc (X : Cx) (scope : Scope) (N : List Str) (js : List (Option Nat)) : Prop where
  kind : scope.kind = .function
  xW : ∀ y ∈ scope.names, y.2 ≠ .cell
  names : ∀ y ∈ scope.names, y.2 = .local -> scope.names.lookup y.1 = some .local
  free : ∀ y ∈ scope.names, y.2 = .free -> X.env.scope.names.lookup y.1 = some .cell \/ X.env.scope.names.lookup y.1 = some .free
  len : js.length = N.length
  Lv : ∀ (i : Nat) (y : Str) (j : Nat), N[i]? = some y -> js[i]? = some (some j) -> X.N[j]? = some y /\ scope.names.lookup y = some .free
def mQ (env : Env) (p : Str × NameKind) : Str × NameKind:=if (p.2 == NameKind.free && env.scope.kind == .function && env.kindOf p.1 == some .cell) then (p.1, NameKind.cell) else (p.1, p.2)
def vI (env : Env) (p : Str × NameKind) : (mQ env p).1 = p.1:=by unfold mQ; split <;> rfl
theorem vG {env : Env} : ∀ {names : List (Str × NameKind)} {x : Str}, names.lookup x = some .free -> (names.map (mQ env)).lookup x = some .cell \/ (names.map (mQ env)).lookup x = some .free
  | [], _, h=>by simp at h
  | p :: r, x, h=>by
    rw [LJ, List.lookup_cons, vI];rw [List.lookup_cons] at h
    cases hx : x == p.1 with
    | true=>
      rw [hx] at h;have h' : p.2 = .free:=by simpa using h
      have e : (mQ env p).2 = .cell \/ (mQ env p).2 = .free:=by
        unfold mQ;split
        · exact .inl rfl
        · exact .inr h'
      rcases e with e | e
      · exact .inl (congrArg some e)
      · exact .inr (congrArg some e)
    | false=>
      rw [hx] at h;exact vG (env:=env) h
theorem vH {env : Env} : ∀ {names : List (Str × NameKind)} {x : Str}, ((names.map (mQ env)).lookup x = some .cell \/ (names.map (mQ env)).lookup x = some .free) -> (x, NameKind.free) ∈ names \/ (x, NameKind.cell) ∈ names
  | [], _, h=>by simp at h
  | p :: r, x, h=>by
    rw [LJ, List.lookup_cons, vI] at h
    cases hx : x == p.1 with
    | true=>
      rw [hx] at h;have hx' : x = p.1:=by simpa using hx
      have h2 : (mQ env p).2 = .cell \/ (mQ env p).2 = .free:=h.elim (λz=>.inl (Mo z)) λz=>.inr (Mo z)
      have e : p.2 = .free \/ p.2 = .cell:=by
        by_cases hc : (p.2 == NameKind.free && env.scope.kind == .function && env.kindOf p.1 == some .cell) = true
        · simp only [Mb] at hc;exact .inl (by simpa using hc.1.1)
        · have e2 : mQ env p = (p.1, p.2):=by unfold mQ; rw [Ml hc]
          rw [e2] at h2;exact h2.symm
      rcases e with e | e
      · exact .inl (by rw [hx', <- e]; exact Lz)
      · exact .inr (by rw [hx', <- e]; exact Lz)
    | false=>
      rw [hx] at h;rcases vH h with q | q
      · exact .inl (LC _ q)
      · exact .inr (LC _ q)
section
variable {X : Cx} {pZ : List (Addr × Obj)} {σ : St} {H : Hp} {s : Shared} {scope : Scope} {N : List Str} {js : List (Option Nat)} {fp : List Addr}
def bc.HL (L : bc X scope N js) (ok : X.Ok) : ∀ p ∈ scope.names, p.2 = .free -> ∃ c, X.env.cells.lookup p.1 = some c:=λp hp hf=>ok.has p.1 (L.free p hp hf)
theorem bc.ok (L : bc X scope N js) (I : Inv X pZ σ H s) (hc : X.calm = true) (hf : ∀ b ∈ fp, gX X pZ H b) (ho : ∀ b ∈ fp, ∃ o, s.heap.get? b = some o) : (lb X scope N s H fp (X.pn ++ pZ)).Ok where
  mod:=I.ok.mod
  kind:=L.kind
  glob:=I.ok.glob
  blt:=I.ok.blt
  above:=LH _
  inj:=λx y c h1 h2=>I.ok.inj x y c (iB _ _ _ (λ_ _ e=>by simp at e) x c h1) (iB _ _ _ (λ_ _ e=>by simp at e) y c h2)
  has:=λx hx=>by
    have hx' : (scope.names.map (mQ X.env)).lookup x = some .cell \/ (scope.names.map (mQ X.env)).lookup x = some .free:=hx;rcases vH hx' with q | q
    · exact yo _ _ _ x q (L.HL I.ok _ q rfl)
    · exact absurd rfl (L.xW _ q)
  Gk:=λx c h _=>by cases h
  hd:=λ_=>I.ok.hd hc
  frames:=I.ok.frames
  GF:=.inl rfl
  Ki:=λb hb=>by
    obtain ⟨o, e⟩:=ho b hb;refine ⟨L4 (LQ e), λx c h=>(hf b hb).2.2.2.2.1 x c (iB _ _ _ (λ_ _ e=>by simp at e) x c h)⟩
  bs:=I.bs
  Bo:=LV I.ok.Bo I.sz
  xV:=λb o e hb=>by
    rcases (hf b hb).2.2.2.1 with z | z
    · exact I.ok.xV b o e z
    · exact absurd (LX (LQ e) (LV I.ok.Bo z)) (Nat.lt_irrefl _)
  AZ:=λb hb z=>by
    rcases LK.mp (I.oI b z) with e | e
    · exact (hf b hb).2.1 e
    · exact (hf b hb).2.2.1 e
  lJ:=I.stack
  DW:=I.qd
def bc.start (L : bc X scope N js) (I : Inv X pZ σ H s) (hc : X.calm = true) (hf : ∀ b ∈ fp, gX X pZ H b) (ho : ∀ b ∈ fp, ∃ o, s.heap.get? b = some o) {h' : Heap} {tk : Nat}
    (hn : h'.Ns s.heap.objs.size (λ_=>none)) (hk : ∀ b o, s.heap.get? b = some o -> h'.get? b = some o) :
    Inv (lb X scope N s H fp (X.pn ++ pZ)) [] (jU js σ) H { s with heap:=h', toks:=tk }:=by
  refine ⟨L.ok I hc hf ho, rfl, I.bare, Un.kept hk, ⟨_, hn, λi y v e1 e2 e3=>?_⟩, λx c e=>?_, I.dz.fresh (LH _), λx c e=>?_, λp hp=>?_, I.dz.kept hk, ?_⟩
  · unfold jU at e2;rw [LU] at e2
    cases ej : js[i]? with
    | none=>rw [ej] at e2; cases e2
    | some o=>
      rw [ej] at e2
      cases o with
      | none=>simp at e2
      | some j=>
        simp only [Option.map_some, Option.some.injEq] at e2
        have es : σ[j]? = some (some v):=by
          cases q : σ[j]? with
          | none=>rw [q] at e2; simp at e2
          | some z=>rw [q] at e2; simp at e2; rw [e2]
        obtain ⟨en, ef⟩:=L.Lv i y j e1 ej;have em : (y, NameKind.free) ∈ scope.names:=PySem.mem_of_lookup ef;have ek:=L.free _ em rfl;obtain ⟨m, _, hl⟩:=I.loc;obtain ⟨u, r, l⟩:=hl j y v en es (ek.elim (λz=>.inr (.inl z)) λz=>.inr (.inr z));refine ⟨u, r, .inr ⟨vG ef, ?_⟩⟩;rcases l with ⟨l, _⟩ | ⟨_, c, ec, z⟩
        · have l' : X.env.scope.names.lookup y = some .local:=l;rcases ek with ek | ek <;> (rw [ek] at l'; cases l')
        · obtain ⟨c', hc'⟩:=yo X.env.cells scope.names [] y em ⟨c, ec⟩;have e':=iB X.env.cells scope.names [] (λ_ _ e=>by simp at e) y c' hc';rw [ec] at e'; cases e'
          obtain ⟨o, ho, hd⟩:=z;exact ⟨c, hc', ⟨o, hk c o ho, hd⟩⟩
  · obtain ⟨v, o, ho, hd⟩:=I.cell x c (iB _ _ _ (λ_ _ e=>by simp at e) x c e);exact ⟨v, o, hk c o ho, hd⟩
  · exact I.iD x c (iB _ _ _ (λ_ _ e=>by simp at e) x c e)
  · have hp' : p ∈ X.pn ++ pZ:=by simpa [lb] using hp
    obtain ⟨e, n, ne, nf, d⟩:=I.pin p hp';refine ⟨hk _ _ e, n, L4 (LQ e), λz=>?_, d⟩;rcases LK.mp (I.oI _ z) with q | q
    · exact ne q
    · exact nf q
  · unfold jU;rw [LA];exact L.len
def C1 {σ' : St} {H' : Hp} {s' : Shared} {ps : List (Addr × Obj)} (I : Inv X pZ σ H s) (hf : ∀ b ∈ fp, gX X pZ H b) (J : Inv (lb X scope N s H fp (X.pn ++ pZ)) ps σ' H' s') :
    Inv X pZ σ H' s' /\ gX X pZ H' s.heap.objs.size /\ ∃ m, s'.heap.Ns s.heap.objs.size m:=by
  refine ⟨I.DJ (ch:=fp) J.os J.base J.dz J.bare λb hb=>⟨(hf b hb).2.2.2.1, (hf b hb).2.1, (hf b hb).2.2.2.2.1, (hf b hb).2.2.2.2.2⟩, I.yf (LH _) J.free, ?_⟩;obtain ⟨m, hn, _⟩:=J.loc;exact ⟨m, hn⟩
def Inv.gone {H' : Hp} {s' : Shared} {C : Addr} {h' : Heap} {m : Str -> Option Value} (I : Inv X pZ σ H' s') (f : gX X pZ H' C) (hs : Heap.SameBut C s'.heap h') : Inv X pZ σ H' { s' with heap:=h' }:=
  I.turned (t':=s'.toks) (it:=C) (λb o hb e=>(hs.2 b hb).trans e) f.1 f.2.1 f.2.2.2.1 f.2.2.2.2.1 f.2.2.2.2.2
def JG {X Y : Cx} {target CE : Expr} {ifs : List Expr} {lvl : Nat} {acc : Value} {pos0 : Pos} {g : TG} {tt : TT} {it : Addr} {tn : Nat -> Heap -> Prop} {J : It} {p0 : List (Addr × Obj)} {σ0 : St} {H0 : Hp} {s4 : Shared} {Q : St -> Hp -> Prop} {B : St -> Hp -> (St -> Hp -> Prop) -> Prop} {BB : Sem Fin -> Sem Fin} {R : Result -> Shared -> Prop}
    (cd : (model X.prog X.w).den (.compLoop CE lvl (.ref it) acc Y.env) = (standAt pos0 >>= λ_=>pyNext (.ref it) >>= λr=>match r with
      | none=>pure (.done .next)
      | some v=>letOwnedTupleGo target (.ref it) v >>= λ_=>assign target Y.env v >>= λ_=>(forIn ifs true λc r=>if r = true then do let ok <- isTrue c Y.env (eval c Y.env); pure (ForInStep.yield ok) else pure (ForInStep.yield r)) >>= λok=>
        if ok = true then BB (again (.compLoop CE lvl (.ref it) acc Y.env)) else again (.compLoop CE lvl (.ref it) acc Y.env)).onRaise λx=>do noteFrame x Y.env; theTreesLotGoes x)
    (cu : X.A.under (.compLoop CE lvl (.ref it) acc Y.env) = X.A) (pe : (Y.prog, Y.w, Y.K, Y.A, Y.calm, Y.xe) = (X.prog, X.w, X.K, X.A, true, λ_ _=>False)) (gY : PG Y target g) (tY : Be Y ifs tt)
    (T : Turn X.prog X.w X.K target J fp it tn) (st4 : tn 0 s4.heap) (I4 : Inv Y p0 σ0 H0 s4) (f4 : ∀ b ∈ fp, gX Y p0 H0 b)
    (bd : ∀ ps σ8 H9 s9 K k Q, Inv Y ps σ8 H9 s9 -> B σ8 H9 K -> (∀ σ' H' s', Inv Y ps σ' H' s' -> K σ' H' -> wpAny (model X.prog X.w) X.A k Q (λ_ _=>False) s') -> wpAny (model X.prog X.w) X.A (BB k) Q (λ_ _=>False) s9)
    (w : Wk J g tt B σ0 H0 Q)
    (hR : ∀ s6 σ5 H5, Inv Y p0 σ5 H5 s6 -> Q σ5 H5 -> R (.ok .next) s6) : codeAny (model X.prog X.w) X.A (.compLoop CE lvl (.ref it) acc Y.env) R s4:=by
  simp only [Prod.mk.injEq] at pe;obtain ⟨pr, pw, pK, pA, pc, px⟩:=pe;obtain ⟨W, ⟨m0, w0⟩, turn⟩:=w;have qq : ∀ {H' : Hp}, (∀ b ∈ fp, H' b = none) -> ∀ b ∈ fp, gX Y p0 H' b:=λhn b hb=>⟨hn b hb, (f4 b hb).2⟩;unfold PG at gY; unfold Be at tY;rw [pr, pw, pA, px] at gY tY;refine codeAny_loop rfl (λn s'=>∃ i σ' H', Inv Y p0 σ' H' s' /\ tn i s'.heap /\ (∀ b ∈ fp, H' b = none) /\ W i n σ' H') (λn s5 h5=>?_) m0 ⟨0, _, _, I4, st4, λb hb=>(f4 b hb).1, w0⟩;obtain ⟨i, σ5, H5, I5, st5, fr5, w5⟩:=h5;rw [cu, cd];refine wpAny_noted (wpAny_mono (E:=λ_ _=>False) ?_ (λ_ _ q=>q) λ_ _ q=>q.elim);refine Ly (wpAny_standAt (Ly ?_));rcases turn i n σ5 H5 w5 with ⟨stop, q⟩ | ⟨go, step⟩
  · have d:=T.done Y pr pw pK pc i p0 s5 σ5 H5 (λ_ _=>False) I5 (qq fr5) st5 stop;rw [pA] at d;refine eg d λr s6 ⟨hr, I6⟩=>?_;subst hr;exact LD (hR s6 σ5 H5 I6 q)
  · have d:=T.item Y pr pw pK pc i p0 s5 σ5 H5 (λ_ _=>False) I5 (qq fr5) st5 go;rw [pA] at d;refine eg d λr s6 ⟨u, hr, h6⟩=>?_;subst hr;refine Ly (eg h6 λ_ s7 ⟨x, H7, I7, r7, y7, st7, fr7⟩=>?_);have I7':=I7.pinned (qq fr7) (T.obj _ _ st7);refine Ly (eg (gY _ s7 σ5 H7 x u _ I7' r7 (step x H7 y7)) λ_ s8 ⟨σ8, H8, I8, q8⟩=>?_)
    have back : ∀ σ9 H9 s9, Inv Y (p0 ++ oR fp s7.heap) σ9 H9 s9 -> (∃ m', m' < n /\ W (i + 1) m' σ9 H9) -> ∃ m, m < n /\ ∃ i σ' H', Inv Y p0 σ' H' s9 /\ tn i s9.heap /\ (∀ b ∈ fp, H' b = none) /\ W i m σ' H':=λσ9 H9 s9 I9 ⟨m', hm, w9⟩=>by
      refine ⟨m', hm, i + 1, σ9, H9, I9.ly, T.keep _ _ _ st7 λb hb o e=>(I9.pin (b, o) (LS _ (LS _ (iI hb e)))).1, λb hb=>?_, w9⟩;obtain ⟨o, e, d⟩:=T.obj _ _ st7 b hb;exact (I9.pin (b, o) (LS _ (LS _ (iI hb e)))).2.1
    refine Ly (eg (tY _ s8 σ8 H8 _ I8 q8) λok s9 ⟨H9, I9, q9⟩=>?_)
    cases ok with
    | false=>
      rw [Ml (by decide)] at q9
      exact LD ⟨rfl, back _ _ _ I9 q9⟩
    | true=>
      rw [Mk rfl] at q9;exact bd _ _ _ _ _ _ _ I9 q9 λσ' H' s' I' q'=>LD ⟨rfl, back _ _ _ I' q'⟩
def Lu {target : Expr} {J : It} {it : Addr} {tn : Nat -> Heap -> Prop} {o0 : HO} {h₁ : Heap} {tk : Nat} {s3 : Shared} (L : bc X scope N js) (hc : X.calm = true) (T : Turn X.prog X.w X.K target J fp it tn) (st : tn 0 s.heap) (hf : ∀ b ∈ fp, gX X pZ H b) (I3 : Inv X pZ σ (upd H s.heap.objs.size o0) s3) (k3 : ∀ b o, s.heap.get? b = some o -> s3.heap.get? b = some o) (hns : h₁.Ns s3.heap.objs.size (λ_=>none)) (kk : ∀ b o, s3.heap.get? b = some o -> h₁.get? b = some o) :
    Inv (lb X scope N s3 (upd H s.heap.objs.size o0) fp (X.pn ++ pZ)) [] (jU js σ) (upd H s.heap.objs.size o0) { s3 with heap:=h₁, toks:=tk } /\ (∀ b ∈ fp, gX (lb X scope N s3 (upd H s.heap.objs.size o0) fp (X.pn ++ pZ)) [] (upd H s.heap.objs.size o0) b) /\ tn 0 h₁ /\
    ∀ s6 σ5 H5, Inv (lb X scope N s3 (upd H s.heap.objs.size o0) fp (X.pn ++ pZ)) [] σ5 H5 s6 -> Inv X pZ σ H5 s6 /\ gX X pZ H5 s3.heap.objs.size /\ ∃ m, s6.heap.Ns s3.heap.objs.size m:=by
  have obj:=T.obj 0 s.heap st;have ho : ∀ b ∈ fp, ∃ o, s3.heap.get? b = some o:=λb hb=>by obtain ⟨o, e, _⟩:=obj b hb; exact ⟨o, k3 b o e⟩
  have h3 : ∀ b ∈ fp, gX X pZ (upd H s.heap.objs.size o0) b:=λb hb=>by
    refine ⟨?_, (hf b hb).2⟩;obtain ⟨o, e, _⟩:=obj b hb;rw [az (L4 (LQ e))];exact (hf b hb).1
  refine ⟨L.start I3 hc h3 ho hns kk, λb hb=>?_, T.keep 0 _ _ st λb _ o e=>kk b o (k3 b o e), λs6 σ5 H5 I6=>C1 I3 h3 I6⟩;obtain ⟨o, e⟩:=ho b hb;refine ⟨(h3 b hb).1, L4 (LQ e), λz=>?_, .inl hb, λx c h=>(hf b hb).2.2.2.2.1 x c (iB _ _ _ (λ_ _ e=>by simp at e) x c h), λp hp=>(hf b hb).2.2.2.2.2 p (by simpa [lb] using hp)⟩;rcases LK.mp (I3.oI b z) with q | q
  · exact (hf b hb).2.1 q
  · exact (hf b hb).2.2.1 q
def HP {Y : Cx} {elt : Expr} {te : TE} (pe : (Y.prog, Y.w, Y.A, Y.xe) = (X.prog, X.w, X.A, λ_ _=>False)) (eY : PE Y elt te) (D : Addr) (ps : List (Addr × Obj)) (σ8 : St) (H9 : Hp) (s9 : Shared) (K : St -> Hp -> Prop) (k : Sem Fin) (Q : Fin -> Shared -> Prop) (I9 : Inv Y ps σ8 H9 s9) (q : Lg D te σ8 H9 K) (kk : ∀ σ' H' s', Inv Y ps σ' H' s' -> K σ' H' -> wpAny (model X.prog X.w) X.A k Q (λ_ _=>False) s') :
    wpAny (model X.prog X.w) X.A ((eval elt Y.env >>= λx=>call (.builtin "list.append") [.ref D, x] >>= λ_=>pure ()) >>= λ_=>k) Q (λ_ _=>False) s9:=by
  simp only [Prod.mk.injEq] at pe;obtain ⟨pr, pw, pA, px⟩:=pe;have ap:=kF (X:=Y);unfold PE at eY;unfold Kp at ap;rw [pr, pw, pA, px] at eY ap;exact Ly (Ly (eg (eY _ s9 σ8 H9 _ I9 q) λv s10 ⟨y, H10, I10, r10, ys, eys, lys, q10⟩=>Ly (eg (ap _ s10 σ8 H10 (.ref D) [y] (.ref D) [v] (λ_ H'=>K σ8 H') I10 rfl (.cons r10 .nil) ⟨D, ys, y, rfl, rfl, eys, lys, q10⟩) λv2 s11 ⟨y2, H11, I11, _, q11⟩=>LD (kk _ _ _ I11 q11))))
def Lc (X : Cx) (scope : Scope) (js : List (Option Nat)) (CE : Expr) (new : Sem Value) (target : Expr) (Wd : It -> Addr -> VK -> St -> Hp -> Prop) : Prop:=
  (X.Ok -> ∀ p ∈ scope.names, p.2 = .free -> ∃ c, X.env.cells.lookup p.1 = some c) /\ scope.kind = .function /\ (∀ y ∈ scope.names, y.2 = .local -> scope.names.lookup y.1 = some .local) /\
  ∀ (pZ : List (Addr × Obj)) (σ : St) (H : Hp) (s : Shared) (fp : List Addr) (it : Addr) (tn : Nat -> Heap -> Prop) (J : It) (Q : VK) (E : Value -> Shared -> Prop) (R : Value -> Addr -> Result -> Shared -> Prop), Inv X pZ σ H s -> Turn X.prog X.w X.K target J fp it tn -> tn 0 s.heap -> (∀ b ∈ fp, gX X pZ H b) -> (∀ D, H D = none -> Wd J D Q (jU js σ) H) ->
    (∀ D C s' H', Inv X pZ σ H' s' -> gX X pZ H' C -> (∃ m, s'.heap.Ns C m) -> Q (.ref D) H' -> R (.ref D) C (.ok .next) s') ->
    wpAny (model X.prog X.w) X.A new (λacc s₃=>wpAny (model X.prog X.w) X.A (newFunctionEnv scope X.env.globals (A2 scope.names X.env.cells) [] X.env.qual none .none (some X.env)) (λcenv s₄=>
      codeAny (model X.prog X.w) X.A (.compStart CE 0 (.ref it) acc { cenv with scope:=relabel scope X.env }) (R acc cenv.locals) s₄) E s₃) E s
section
variable {CE : Expr} {new : Sem Value} {pos0 : Pos} {c : Comprehension} {cs : List Comprehension} {wi : TI} {Wd : It -> Addr -> VK -> St -> Hp -> Prop}
def Jf (b : Lc X scope js CE new c.target Wd) (hi : PI X c.target c.iter wi) (hcl : clausesOf CE = c :: cs) (hs : ∀ x, foldedSetIterable c.iter X.env x = pure x) (ev : eval CE X.env = comprehension CE scope X.env pos0 new false (eval c.iter X.env)) : PE X CE (λσ H Q=>wi σ H λJ H1=>∀ D, H1 D = none -> Wd J D Q (jU js σ) H1):=by
  intro pZ s σ H Q I h;rw [ev];refine wpAny_comprehension_free (use:=none) hcl hs (m6 (b.1 I.ok)) b.2.1 b.2.2.1 (eg (hi pZ s σ H _ I h) λv s1 h1=>eg h1 λitv s2 h2=>?_);obtain ⟨it, fp, tn, J, H2, e, I2, T, st2, f2, w⟩:=h2;subst e;refine b.2.2.2 _ _ _ _ _ _ _ _ Q _ (λacc C=>compPost (model X.prog X.w) X.A X.xe none (EP X pZ σ Q) acc C) I2 T st2 f2 w ?_;intro D C s' H' I' f' ⟨m, hn⟩ q;exact ⟨m, hn, λh' hs'=>⟨.ref D, H', I'.gone (m:=m) f' hs', rfl, q⟩⟩
def Jb {spos py : Pos} {y : Str} {k : Nat} (b : Lc X scope js CE new c.target Wd) (hN : X.N.Nodup) (hk : X.N[k]? = some y) (hy : Loc X.env.scope y) (hi : PI X c.target c.iter wi) (hcl : clausesOf CE = c :: cs) (hs : ∀ x, foldedSetIterable c.iter X.env x = pure x)
    (hsw : swapsWith CE (some (.Name y py)) spos.line X.env = pure true) (ev : ∀ u, evalThenUse CE X.env u = (do let _ <- comprehension CE scope X.env pos0 new false (eval c.iter X.env) (some u))) (hf : X.fn y = true \/ X.env.scope.names.lookup y = some .local) :
    PS X (.Assign [.Name y py] CE spos) (nG (λσ H Q=>wi σ H λJ H1=>∀ D, H1 D = none -> Wd J D Q (jU js σ) H1) (jc k)):=by
  intro pZ s σ H D I h;rw [exec_Assign_Name_used _ _ _ _ hsw];refine Ly (wpAny_standAt (Ly ?_));rw [ev];refine Ly (eg (wpAny_comprehension_free (Q:=λ_ s'=>SP X pZ D .next s') hcl hs (m6 (b.1 I.ok)) b.2.1 b.2.2.1 (eg (hi pZ s σ H _ I h) λv s1 h1=>eg h1 λitv s2 h2=>?_)) λ_ s' hq=>LD (LD hq));obtain ⟨it, fp, tn, J, H2, e, I2, T, st2, f2, w⟩:=h2;subst e;refine b.2.2.2 _ _ _ _ _ _ _ _ (λv H1=>D.nx (σ.set k (some v)) H1) _ (λacc C=>compPost (model X.prog X.w) X.A X.xe (some (assign (.Name y py) X.env)) (λ_ s'=>SP X pZ D .next s') acc C) I2 T st2 f2 w ?_;intro A C s' H' I' f' ⟨m, hn⟩ q;show wpAny _ _ (assign (.Name y py) X.env (.ref A)) _ _ s';refine wpAny_assign_Name (sN (v:=V.ref A) I' hN hk hy rfl (λs2 I3 ⟨a, hsb, ha⟩=>?_) hf)
  have hca : C ≠ a:=by
    rintro rfl;rcases ha with z | z
    · exact f'.2.1 z
    · exact f'.2.2.2.2.1 y _ z rfl
  exact ⟨m, hn.sameBut hsb hca, λh' hs'=>⟨_, H', I3.gone (m:=m) f' hs', q⟩⟩
end
def wg {elt target iter : Expr} {ifs : List Expr} {pos : Pos} {g : TG} {tt : TT} {te : TE}
    (L : bc X scope N js) (hc : X.calm = true)
    (hg : ∀ s₀ H₀ ex pn, PG (lb X scope N s₀ H₀ ex pn) target g) (ht : ∀ s₀ H₀ ex pn, Be (lb X scope N s₀ H₀ ex pn) ifs tt) (he : ∀ s₀ H₀ ex pn, PE (lb X scope N s₀ H₀ ex pn) elt te) :
    Lc X scope js (.ListComp elt [⟨target, iter, ifs, 0⟩] scope pos) (newList []) target λJ D Q σ0 H1=>La J D g tt te Q σ0 H1:=
  ⟨L.HL, L.kind, L.names, λpZ σ H s fp it tn J Q E R I T st hf w hR=>by
  have I3:=I.ya (t':=s.toks) (ys:=[]) (aY:=[]) .nil (L1 _);refine wpAny_newObj_type (wpAny_newFunctionEnv L.xW (by intro y hy; simp at hy) (λh₁ hns₁ hsb₁=>?_) L.kind);dsimp only at hns₁ hsb₁;obtain ⟨I4, f4, st4, en⟩:=Lu L hc T st hf I3 (λb o e=>LB _ e) hns₁ λb o e=>hsb₁.extBut b o (L4 (LQ e)) (LB _ e);have loop:=JG (R:=R (.ref s.heap.objs.size) _) (CE:=.ListComp elt [⟨target, iter, ifs, 0⟩] scope pos) (lvl:=0) (acc:=.ref s.heap.objs.size) rfl rfl rfl (hg _ _ _ _) (ht _ _ _ _) T st4 I4 f4 (HP rfl (he _ _ _ _) _) (w _ I.fresh) λs6 σ5 H5 I6 q=>hR _ _ _ _ (en _ _ _ I6).1 (en _ _ _ I6).2.1 (en _ _ _ I6).2.2 q
  exact codeAny_compStart_list loop (T.self _ 0 _ _ _ st4 loop)⟩
def FQ {elt target iter : Expr} {ifs : List Expr} {pos : Pos} {wi : TI} {g : TG} {tt : TT} {te : TE} (L : bc X scope N js) (hc : X.calm = true) (hi : PI X target iter wi)
    (hg : ∀ s₀ H₀ ex pn, PG (lb X scope N s₀ H₀ ex pn) target g) (ht : ∀ s₀ H₀ ex pn, Be (lb X scope N s₀ H₀ ex pn) ifs tt) (he : ∀ s₀ H₀ ex pn, PE (lb X scope N s₀ H₀ ex pn) elt te)
    (hs : ∀ x, foldedSetIterable iter X.env x = pure x:=by intro _; rfl) : PE X (.ListComp elt [⟨target, iter, ifs, 0⟩] scope pos) (GB js wi g tt te):=
  Jf (c:=⟨target, iter, ifs, 0⟩) (wg L hc hg ht he) hi rfl hs (eval_ListComp ..)
def Ja {elt target iter : Expr} {ifs : List Expr} {pos spos py : Pos} {y : Str} {k : Nat} {wi : TI} {g : TG} {tt : TT} {te : TE} (hN : X.N.Nodup) (hk : X.N[k]? = some y) (hy : Loc X.env.scope y) (L : bc X scope N js) (hc : X.calm = true) (hi : PI X target iter wi)
    (hg : ∀ s₀ H₀ ex pn, PG (lb X scope N s₀ H₀ ex pn) target g) (ht : ∀ s₀ H₀ ex pn, Be (lb X scope N s₀ H₀ ex pn) ifs tt) (he : ∀ s₀ H₀ ex pn, PE (lb X scope N s₀ H₀ ex pn) elt te)
    (hsw : swapsWith (.ListComp elt [⟨target, iter, ifs, 0⟩] scope pos) (some (.Name y py)) spos.line X.env = pure true:=by rfl)
    (hs : ∀ x, foldedSetIterable iter X.env x = pure x:=by intro _; rfl) (hf : X.fn y = true \/ X.env.scope.names.lookup y = some .local:=by first | exact .inl rfl | exact .inr rfl | assumption) :
    PS X (.Assign [.Name y py] (.ListComp elt [⟨target, iter, ifs, 0⟩] scope pos) spos) (nG (GB js wi g tt te) (jc k)):=
  Jb (c:=⟨target, iter, ifs, 0⟩) (wg L hc hg ht he) hN hk hy hi rfl hs hsw (λ_=>rfl) hf
end
def Kq (x : Str) : It:=⟨λi _=>i < x.cps.size, λi H v H'=>H' = H /\ ∃ c, x.cps[i]? = some c /\ v = .str ⟨#[c]⟩, λi _=>i = x.cps.size⟩
def sH {P : Program} {w : World} {K : Frag} {tg : Expr} (it : Addr) (x : Str) (t : Tok) {ty : String}
    (hn : ["enumerate", "zip", "dict_itemiterator", "dict_reverseitemiterator", "odict_iterator", "itertools.zip_longest", "itertools.pairwise"].contains ty = false)
    (Wk : ∀ A : Around, A.handled = none -> Walks P w A it [it] [it] x.cps.size (SignAt x) (λi h=>h.IsStrIter it ty x t i))
    (Sf : ∀ (A : Around) i (s : Shared) (Q : Value -> Shared -> Prop) (E : Value -> Shared -> Prop), s.heap.IsStrIter it ty x t i -> Q (.ref it) s -> wpAny (model P w) A (pyIter (.ref it)) Q E s) : Turn P w K tg (Kq x) [it] it (λi h=>h.IsStrIter it ty x t i) where
  mem:=by simp
  obj:=λi h st b hb=>by
    have e : b = it:=by simpa using hb
    subst e;obtain ⟨o, e, c, d⟩:=st;exact ⟨o, e, λv z=>by rw [d] at z; cases z⟩
  keep:=λi h h' st k=>by
    obtain ⟨o, e, c, d⟩:=st;exact ⟨o, k it (by simp) o e, c, d⟩
  item:=by
    intro X hP hw hK hc i pZ s σ H E I hf st hg;subst hP hw hK;obtain ⟨f0, f1, f2, f3, f4, f5⟩:=hf it (by simp);refine (Wk X.A (I.ok.hd hc)).item i s _ _ hg st λv h' tk hv st' kk=>?_;obtain ⟨c, u, hcx, rfl⟩:=hv;have I1 : Inv X pZ σ H { s with heap:=h', toks:=tk }:=I.turned (λb o hb e=>kk b o (by simpa using hb) e) f0 f1 f3 f4 f5;obtain ⟨o, e, oc, d⟩:=id st';exact ⟨_, rfl, zx (s:={ s with heap:=h', toks:=tk }) e oc d hn ⟨.str ⟨#[c]⟩, H, I1, ⟨u, rfl⟩, ⟨rfl, c, hcx, rfl⟩, st', λb hb=>(hf b hb).1⟩⟩
  done:=by
    intro X hP hw hK hc i pZ s σ H E I hf st hg;subst hP hw hK;have hg' : i = x.cps.size:=hg;subst hg';obtain ⟨f0, f1, f2, f3, f4, f5⟩:=hf it (by simp);exact (Wk X.A (I.ok.hd hc)).done s _ _ st λh' tk kk=>⟨rfl, I.turned (λb o hb e=>kk b o (by simpa using hb) e) f0 f1 f3 f4 f5⟩
  self:=λA i s Q E st h=>Sf A i s Q E st h
section
variable {X : Cx} {tg : Expr}
def Ar : jj X (compareOp .LtE) (λx y H Q=>∃ i j, x = .str i /\ y = .str j /\ Q (.bl (!decide (j.cps.toList < i.cps.toList))) H):=by
  intro pZ s σ H x y v u Q I rx ry h;obtain ⟨i, j, rfl, rfl, q⟩:=h;obtain ⟨t, rfl⟩:=rx;obtain ⟨t', rfl⟩:=ry;exact PySem.P.le_str (ff I q rfl)
def qh : jj X (binaryOp .Mult) (rI IntMulOk λi j=>.int (i * j)):=Ic λ_ _ _ _ _ _ _ hc q=>mul_int q hc
def jD : jj X (binaryOp .Pow) (rI (λi j=>0 <= j /\ (Builtin.Int.intBits i : Int) * j <= 2 ^ 27) λi j=>.int (i ^ j.toNat)):=Ic λ_ _ _ _ _ _ _ hc q=>pow_int hc.1 hc.2 q
def JS {bs : List Bool} {aY : List Value} (r : Vals (bs.map V.bl) aY) (i : Nat) (v : Value) (e : aY[i]? = some v) : ∃ b, bs[i]? = some b /\ v = .bool b:=by
  have hl:=r.length;rw [LA] at hl;have hi : i < bs.length:=by rw [hl]; exact (LG.mp e).1
  obtain ⟨u, h1, h2⟩:=r.get (x:=V.bl bs[i]) (by rw [LU, Lx hi]; rfl);rw [e] at h1; cases h1
  exact ⟨bs[i], Lx hi, h2⟩
def xA (bs : List Bool) : ((List.range bs.length).all λi=>(bs[i]?).getD true) = bs.all id:=by
  rw [Bool.eq_iff_iff, List.all_eq_true, List.all_eq_true];constructor
  · intro h b hb;obtain ⟨i, hi, e⟩:=List.getElem_of_mem hb;have:=h i (ME.mpr hi);rw [Lx hi, e] at this;exact this
  · intro h i hi;have hi':=ME.mp hi;rw [Lx hi'];exact h _ (Mg hi')
def oA (hc : X.calm = true) : iF X (.builtin "all") (λxs H Q=>∃ (p : Addr) (bs : List Bool), xs = [.ref p] /\ fk X.K H p (bs.map V.bl) /\ Q (.bl (bs.all id)) H):=by
  intro pZ s σ H xs us Q I r h;obtain ⟨p, bs, rfl, hq, q⟩:=h;obtain ⟨u, rfl, rx⟩:=vals1 r;cases rx;obtain ⟨aY, r', pl, hz⟩:=I.list hq;have hl:=pl.isList;have kY : p < s.heap.objs.size:=by obtain ⟨_, e, _⟩:=hl; exact LQ e
  have hlen:=r'.length;rw [LA] at hlen;refine call_all_walk (wpAny_pyIter_list hl ?_)
  refine ⟨s.heap.objs.size, [s.heap.objs.size, p], [s.heap.objs.size], aY.toArray.size, _, _, λi=>(bs[i]?).getD true, rfl, Walks.list (A:=X.A.in1) (I.ok.hd hc) _ p (L4 kY) aY.toArray,
    ⟨⟨_, LO _ rfl, rfl, rfl⟩, hl.push _⟩, λi v s' Q' E' hP hQ=>?_, λh' tk hk=>?_⟩
  · obtain ⟨b, e, rfl⟩:=JS r' i v (by simpa using hP);simp only [e, Mu] at hQ;exact wpAny_truthy_bool hQ
  · refine ⟨.bl (bs.all id), H, I.kept (λb o e=>hk b o (λhm=>?_) (LB _ e)), ?_, q⟩
    · rw [L3.mp hm] at e; exact Nat.lt_irrefl _ (LQ e)
    · show Value.bool _ = Value.bool _;rw [LF, <- hlen, xA]
theorem yK : ∀ {ys : List Str} {us : List Value}, Vals (ys.map V.str) us -> StrsAre us ys
  | [], us, r=>by rw [List.map_nil] at r; cases r; exact .nil
  | y :: ys, us, r=>by
    rw [LJ] at r
    cases r with
    | cons h t=>obtain ⟨t', rfl⟩:=h; exact .cons y t' (yK t)
def ix : Ig X "str.join" (λx xs H Q=>∃ (sep : Str) (p : Addr) (ys : List Str), x = .str sep /\ xs = [.ref p] /\ fk X.K H p (ys.map V.str) /\ (ys.map (·.length)).sum + ys.length * sep.length <= 16777216 /\ Q (.str (Txt.join sep ys)) H):=by
  intro pZ s σ H x xs v us Q I rx rv h;obtain ⟨sep, p, ys, rfl, rfl, hq, hz, q⟩:=h;obtain ⟨t, rfl⟩:=rx;obtain ⟨u, rfl, ru⟩:=vals1 rv;cases ru;obtain ⟨aY, r', pl, _⟩:=I.list hq;exact join_list pl.isList (by simpa using yK r') hz λt' k=>⟨.str (Txt.join sep ys), H, I.tok _, ⟨_, rfl⟩, q⟩
def gK : iF X (.builtin "isinstance") (λxs H Q=>∃ x T t b, xs = [x, .ty T] /\ nc X.K H x t /\ PySem.W.kitOne X.K t (.type T) = some b /\ Q (.bl b) H):=by
  intro pZ s σ H xs us Q I r h;obtain ⟨x, T, t, b, rfl, ty, e, q⟩:=h;obtain ⟨u, w', rfl, rx, ry⟩:=vals2 r;cases ry;exact AK I rx ty e λtk=>⟨.bl b, H, I.tok _, rfl, q⟩
end
noncomputable def Jx (scope es : Scope) (XN N : List Str) (js : List (Option Nat)) : Bool:=
  (scope.kind == .function) && scope.names.all (λy=>y.2 != .cell && (y.2 != .local || scope.names.lookup y.1 == some .local) && (y.2 != .free || es.names.lookup y.1 == some .cell || es.names.lookup y.1 == some .free)) &&
  (js.length == N.length) && (List.range N.length).all (λi=>match N[i]?, js[i]? with | some y, some (some j)=>XN[j]? == some y && scope.names.lookup y == some .free | _, _=>true)
def bc.uL {X : Cx} {scope : Scope} {N : List Str} {js : List (Option Nat)} (es : Scope) (XN : List Str) (h1 : X.env.scope = es) (h2 : X.N = XN) (h : Jx scope es XN N js = true) : bc X scope N js:=by
  unfold Jx at h;simp only [Mb, List.all_eq_true] at h;obtain ⟨⟨⟨ha, hb⟩, hc⟩, hd⟩:=h;refine ⟨by simpa using ha, λy hy=>?_, λy hy hl=>?_, λy hy hl=>?_, by simpa using hc, λi y j e1 e2=>?_⟩
  · have:=(hb y hy).1.1;simpa using this
  · have:=(hb y hy).1.2;rw [hl] at this;simpa using this
  · have:=(hb y hy).2;rw [hl] at this;rw [h1];simpa using this
  · have hi : i < N.length:=(LG.mp e1).1;have:=hd i (ME.mpr hi);rw [e1, e2] at this;simp only [Mb] at this;rw [h2];exact ⟨by simpa using this.1, by simpa using this.2⟩
def EW {K : Frag} {a : Addr} {xs : List V} {g : TG} {tt : TT} {te : TE} {Q : VK} {σ0 : St} {H1 : Hp} {D : Addr} (Pv : Nat -> List V -> St -> Hp -> Prop) (h0 : Pv 0 [] σ0 (upd H1 D (.lst [])))
    (hq : ∀ i ys σ H, Pv i ys σ H -> fk K H a xs)
    (hs : ∀ i x ys σ H, xs[i]? = some x -> ys.length <= i -> H D = some (.lst ys) -> Pv i ys σ H -> ∀ (kt : St -> V -> Hp -> Prop) (kf : St -> Hp -> Prop), (∀ σ2 y H5, H5 D = some (.lst ys) -> Pv (i + 1) (ys ++ [y]) σ2 (upd H5 D (.lst (ys ++ [y]))) -> kt σ2 y H5) -> (∀ σ2 H4, H4 D = some (.lst ys) -> Pv (i + 1) ys σ2 H4 -> kf σ2 H4) ->
      g x σ H λσ2 H3=>tt σ2 H3 λok H4=>if ok = true then te σ2 H4 (kt σ2) else kf σ2 H4)
    (hz : xs.length <= 100000) (hd : ∀ ys σ H, H D = some (.lst ys) -> ys.length <= xs.length -> Pv xs.length ys σ H -> Q (.ref D) H) :
    La (Fu K a) D g tt te Q σ0 H1:=by
  refine ⟨λi m σ H=>m = xs.length - i /\ i <= xs.length /\ ∃ ys, ys.length <= i /\ H D = some (.lst ys) /\ Pv i ys σ H, ⟨xs.length, by simp, L1 _, [], LH _, aA, h0⟩, ?_⟩;rintro i m σ H ⟨rfl, hi, ys, hl, hD, p⟩;have q:=hq i ys σ H p;by_cases kY : i < xs.length
  · refine .inr ⟨⟨xs, xs[i], q, by simp [kY]⟩, λv H2 y=>?_⟩;obtain ⟨e, y⟩:=y;subst e
    exact hs i v ys σ _ (y xs q) hl hD p _ _ (λσ2 z H5 a1 a2=>⟨ys, a1, by rw [Md]; omega, xs.length - (i + 1), by omega, rfl, kY, ys ++ [z], by simp; omega, aA, a2⟩)
      (λσ2 H4 a1 a2=>⟨xs.length - (i + 1), by omega, rfl, kY, ys, by omega, a1, a2⟩)
  · have e : i = xs.length:=by omega
    subst e;exact .inl ⟨⟨xs, q, LH _⟩, hd ys σ H hD hl p⟩
def isStar : Expr -> Bool
  | .Starred ..=>true
  | _=>false
def IB {e : Expr} {es : List Expr} {env : Env} (h : isStar e = false) : starEach (e :: es) env = (false, eval e env) :: starEach es env:=by
  cases e <;> first
    | rfl
    | (exfalso; exact Bool.noConfusion h)
def xE {X : Cx} {e : Expr} {es : List Expr} {te : TE} {t : TA} (ha : PE X e te) (hr : PA X es t) (h : isStar e = false:=by rfl) : PA X (e :: es) (fU te t):=fO ha hr (IB h)
structure Fv (H : Hp) (a c : Addr) (n : Nat) : Prop where
  ex : ∃ (p q sd : Int) (cells : List Int), H a = some (.lst [.int p, .int q, .int n, .int sd, .ref c]) /\ H c = some (.lst (cells.map V.int)) /\ 0 <= p /\ 0 <= q /\ 0 <= sd /\ sd < 2305843009213693951 /\ (∀ x ∈ cells, 0 <= x) /\ cells.length <= 60
def lE {H : Hp} {p : Addr} (h : H p = none) (o : HO) : ng H (upd H p o):=λb u q=>by rw [az (bx q h)]; exact q
def Fv.there {H : Hp} {a c : Addr} {n : Nat} (b : Fv H a c n) : (∃ xs, H a = some (.lst xs)) /\ ∃ xs, H c = some (.lst xs):=by
  obtain ⟨p, q, sd, cells, h1, h2, _⟩:=b.ex;exact ⟨⟨_, h1⟩, ⟨_, h2⟩⟩
def Fv.ne {H : Hp} {a c : Addr} {n : Nat} (b : Fv H a c n) : c ≠ a:=by
  obtain ⟨p, q, sd, cells, h1, h2, _⟩:=b.ex;rintro rfl;rw [h1] at h2;have e : [V.int p, V.int q, V.int n, V.int sd, V.ref c] = cells.map V.int:=by injection h2 with z; injection z
  have : V.ref c ∈ cells.map V.int:=by rw [<- e]; simp
  obtain ⟨i, _, z⟩:=LM.mp this;cases z
section
structure Bx (p : Prop) : Prop where
  out : p
abbrev BE (X : Cx) (e : Expr) (t : TE) : Prop:=Bx (PE X e t)
abbrev BT (X : Cx) (e : Expr) (t : TT) : Prop:=Bx (PT X e t)
abbrev BW (X : Cx) (e : Expr) (t : TT) : Prop:=Bx (PW X e t)
abbrev BA (X : Cx) (es : List Expr) (t : TA) : Prop:=Bx (PA X es t)
abbrev BS (X : Cx) (st : Stmt) (t : TS) : Prop:=Bx (PS X st t)
abbrev vf (X : Cx) (st : List Stmt) (t : TS) : Prop:=Bx (xg X st t)
abbrev BI (X : Cx) (tg iter : Expr) (t : TI) : Prop:=Bx (PI X tg iter t)
abbrev BG (X : Cx) (tg : Expr) (t : TG) : Prop:=Bx (PG X tg t)
abbrev BO (X : Cx) (e : Option Expr) (t : TO) : Prop:=Bx (PO X e t)
abbrev Gs (X : Cx) (ifs : List Expr) (t : TT) : Prop:=Bx (Be X ifs t)
set_option genInjectivity true in
inductive PV where
  | cB | bl (b : Bool) | int (i : Int) | str (x : Str) | tup (l : List PV) | lst (l : List PV) | pR (kvs : List (Key × PV)) | vw (ns : List Int) | bH
set_option genInjectivity true in
inductive M (α : Type) where
  | fail | ret (a : α) | draw (m : Int) (k : Int -> M α)
namespace M
variable {α β γ : Type}
def bind : M α -> (α -> M β) -> M β
  | fail, _=>fail
  | ret a, f=>f a
  | draw m k, f=>draw m λd=>(k d).bind f
def wp : M α -> Nat -> (α -> Nat -> Prop) -> Prop
  | fail, _, _=>False
  | ret a, n, Q=>Q a n
  | draw m k, n, Q=>0 < m /\ m < 1073741824 /\ ∃ n', n = n' + 1 /\ ∀ d, 0 <= d -> d < m -> (k d).wp n' Q
def wZ (m : M α) (f : α -> M β) : ∀ (n : Nat) (Q : β -> Nat -> Prop), (m.bind f).wp n Q = m.wp n λa n'=>(f a).wp n' Q:=by
  induction m with
  | fail=>intro n Q; rfl
  | ret a=>intro n Q; rfl
  | draw m k ih=>intro n Q; simp only [bind, wp, ih]
def wp_mono {m : M α} : ∀ {n : Nat} {Q Q' : α -> Nat -> Prop}, m.wp n Q -> (∀ a n', Q a n' -> Q' a n') -> m.wp n Q':=by
  induction m with
  | fail=>intro n Q Q' h _; exact h
  | ret a=>intro n Q Q' h f; exact f _ _ h
  | draw m k ih=>
    intro n Q Q' h f;obtain ⟨h1, h2, n', e, h3⟩:=h;exact ⟨h1, h2, n', e, λd a b=>ih d (h3 d a b) f⟩
def bZ (m : M α) (f : α -> M β) (g : β -> M γ) : (m.bind f).bind g = m.bind λa=>(f a).bind g:=by
  induction m with
  | fail=>rfl
  | ret a=>rfl
  | draw m k ih=>simp only [bind, ih]
@[simp] theorem rY (a : α) (f : α -> M β) : (ret a).bind f = f a:=rfl
def dW : Option α -> M α
  | some a=>ret a
  | none=>fail
end M
def rZ (a:α) (f:α->M β):(M.ret a).bind f=f a:=rfl
inductive Rep (B : Addr) (O : Addr -> Prop) (H : Hp) : PV -> V -> Prop where
  | cB : Rep B O H .cB .cB
  | bl (b : Bool) : Rep B O H (.bl b) (.bl b)
  | int (i : Int) : Rep B O H (.int i) (.int i)
  | str (x : Str) : Rep B O H (.str x) (.str x)
  | tup {p : Addr} {xs : List V} {l : List PV} (hO : ¬ O p) (h : H p = some (.tup xs)) (hl : l.length = xs.length) (hr : ∀ (i : Nat) (y : PV) (x : V), l[i]? = some y -> xs[i]? = some x -> Rep B O H y x) : Rep B O H (.tup l) (.ref p)
  | lst {p : Addr} {xs : List V} {l : List PV} (hO : ¬ O p) (h : H p = some (.lst xs)) (hl : l.length = xs.length) (hr : ∀ (i : Nat) (y : PV) (x : V), l[i]? = some y -> xs[i]? = some x -> Rep B O H y x) : Rep B O H (.lst l) (.ref p)
  | pR {p : Addr} {ks : List (Key × V)} {l : List (Key × PV)} (hO : ¬ O p) (h : Rd H p (.dK ks)) (hk : l.map (·.1) = ks.map (·.1)) (hr : ∀ (i : Nat) (y : Key × PV) (x : Key × V), l[i]? = some y -> ks[i]? = some x -> Rep B O H y.2 x.2) : Rep B O H (.pR l) (.ref p)
  | vw {p : Addr} {ns : List Int} (hO : ¬ O p) (h : ∃ o, H p = some (.og o (.lst (ns.map V.int)))) : Rep B O H (.vw ns) (.ref p)
  | bH : Rep B O H .bH (.ref B)
def bC (B : Addr) (O : Addr -> Prop) (H : Hp) (l : List PV) (xs : List V) : Prop:=l.length = xs.length /\ ∀ (i : Nat) (y : PV) (x : V), l[i]? = some y -> xs[i]? = some x -> Rep B O H y x
def oE (B : Addr) (O : Addr -> Prop) (H : Hp) (l : List (Key × PV)) (ks : List (Key × V)) : Prop:=l.map (·.1) = ks.map (·.1) /\ ∀ (i : Nat) (y : Key × PV) (x : Key × V), l[i]? = some y -> ks[i]? = some x -> Rep B O H y.2 x.2
def kM (H' : Hp) (p : Addr) : HO -> Prop
  | .qc _=>∃ qs, H' p = some (.qc qs)
  | o=>H' p = some o
def kM.of {H' : Hp} {p : Addr} {o : HO} (h : H' p = some o) : kM H' p o:=by
  cases o <;> first | exact h | exact ⟨_, h⟩
def kM.there {H' : Hp} {p : Addr} {o : HO} (h : kM H' p o) : ∃ u, H' p = some u:=by
  cases o <;> first | exact ⟨_, h⟩ | (obtain ⟨qs, e⟩:=h; exact ⟨_, e⟩)
def kM.to {H' H2 : Hp} {p : Addr} {o : HO} (h : kM H' p o) (k : ∀ u, H' p = some u -> kM H2 p u) : kM H2 p o:=by
  cases o <;> first | exact k _ h | (obtain ⟨qs, e⟩:=h; have q:=k (.qc qs) e; exact q)
def Ext (B : Addr) (H H' : Hp) : Prop:=∀ p o, p ≠ B -> H p = some o -> kM H' p o
def Ext.refl (B : Addr) (H : Hp) : Ext B H H:=λ_ _ _ h=>.of h
def Ext.trans {B : Addr} {H H1 H2 : Hp} (a : Ext B H H1) (b : Ext B H1 H2) : Ext B H H2:=λp o n h=>(a p o n h).to λu e=>b p u n e
def Ext.new {B p : Addr} {H : Hp} (h : H p = none) (o : HO) : Ext B H (upd H p o):=λq u _ e=>.of (by rw [az (bx e h)]; exact e)
section
variable {B : Addr} {O O' : Addr -> Prop} {H H' : Hp} {y : PV} {x : V} {l l' : List PV} {xs xs' : List V}
def Rep.j9 (h : Rep B O H y x) (hH : ∀ p o, ¬ O p -> H p = some o -> kM H' p o /\ ¬ O' p) : Rep B O' H' y x:=by
  induction h with
  | cB=>exact .cB
  | bl b=>exact .bl b
  | int i=>exact .int i
  | str x=>exact .str x
  | tup hO h hl hr ih=>exact .tup (hH _ _ hO h).2 (hH _ _ hO h).1 hl ih
  | lst hO h hl hr ih=>exact .lst (hH _ _ hO h).2 (hH _ _ hO h).1 hl ih
  | vw hO h=>
    obtain ⟨o, e⟩:=h
    exact .vw (hH _ _ hO e).2 ⟨o, (hH _ _ hO e).1⟩
  | pR hO h hl hr ih=>
    rcases h with h | ⟨o, h⟩
    · exact .pR (hH _ _ hO h).2 (.inl (hH _ _ hO h).1) hl ih
    · exact .pR (hH _ _ hO h).2 (.inr ⟨o, (hH _ _ hO h).1⟩) hl ih
  | bH=>exact .bH
def Rep.keep (h : Rep B O H y x) (hH : ∀ p o, ¬ O p -> H p = some o -> H' p = some o /\ ¬ O' p) : Rep B O' H' y x:=h.j9 λp o n q=>⟨.of (hH p o n q).1, (hH p o n q).2⟩
def Rep.ext (h : Rep B O H y x) (hB : O B) (e : Ext B H H') : Rep B O H' y x:=h.j9 λp o n q=>⟨e p o (λz=>n (z ▸ hB)) q, n⟩
def Rep.less (h : Rep B O H y x) (hO : ∀ p, O' p -> O p) : Rep B O' H y x:=h.keep λp o n q=>⟨q, λz=>n (hO p z)⟩
def Rep.grow (h : Rep B O H y x) (hO : ∀ p, O' p -> O p \/ H p = none) : Rep B O' H y x:=h.keep λp o n q=>⟨q, λz=>by
  rcases hO p z with w | w
  · exact n w
  · rw [w] at q; cases q⟩
theorem bC.j9 (h : bC B O H l xs) (hH : ∀ p o, ¬ O p -> H p = some o -> kM H' p o /\ ¬ O' p) : bC B O' H' l xs:=⟨h.1, λi y x a b=>(h.2 i y x a b).j9 hH⟩
theorem bC.keep (h : bC B O H l xs) (hH : ∀ p o, ¬ O p -> H p = some o -> H' p = some o /\ ¬ O' p) : bC B O' H' l xs:=⟨h.1, λi y x a b=>(h.2 i y x a b).keep hH⟩
theorem bC.ext (h : bC B O H l xs) (hB : O B) (e : Ext B H H') : bC B O H' l xs:=⟨h.1, λi y x a b=>(h.2 i y x a b).ext hB e⟩
theorem bC.less (h : bC B O H l xs) (hO : ∀ p, O' p -> O p) : bC B O' H l xs:=⟨h.1, λi y x a b=>(h.2 i y x a b).less hO⟩
theorem bC.grow (h : bC B O H l xs) (hO : ∀ p, O' p -> O p \/ H p = none) : bC B O' H l xs:=⟨h.1, λi y x a b=>(h.2 i y x a b).grow hO⟩
def bC.nil : bC B O H [] []:=⟨rfl, λi y x a=>by simp at a⟩
def bC.cons (h : Rep B O H y x) (t : bC B O H l xs) : bC B O H (y :: l) (x :: xs):=⟨by simp [t.1], λi y' x' a b=>by
  cases i with
  | zero=>simp at a b; subst a b; exact h
  | succ i=>simp at a b; exact t.2 i y' x' a b⟩
def bC.head (h : bC B O H (y :: l) (x :: xs)) : Rep B O H y x:=h.2 0 y x rfl rfl
def bC.tail (h : bC B O H (y :: l) (x :: xs)) : bC B O H l xs:=⟨by simpa using h.1, λi y' x' a b=>h.2 (i + 1) y' x' (by simpa using a) (by simpa using b)⟩
def bC.nil_inv (h : bC B O H [] xs) : xs = []:=Mc h.1.symm
def bC.cons_inv (h : bC B O H (y :: l) xs) : ∃ x r, xs = x :: r /\ Rep B O H y x /\ bC B O H l r:=by
  cases xs with
  | nil=>have:=h.1; simp at this
  | cons x r=>exact ⟨x, r, rfl, h.head, h.tail⟩
def bC.at (h : bC B O H l xs) {i : Nat} (e : l[i]? = some y) : ∃ x, xs[i]? = some x /\ Rep B O H y x:=by
  have hi : i < l.length:=(LG.mp e).1;have hx : i < xs.length:=h.1 ▸ hi;exact ⟨xs[i], Lx hx, h.2 i y _ e (Lx hx)⟩
def bC.at' (h : bC B O H l xs) {i : Nat} (e : xs[i]? = some x) : ∃ y, l[i]? = some y /\ Rep B O H y x:=by
  have hi : i < xs.length:=(LG.mp e).1;have hx : i < l.length:=h.1 ▸ hi;exact ⟨l[i], Lx hx, h.2 i _ x (Lx hx) e⟩
theorem bC.append : ∀ {l : List PV} {xs : List V}, bC B O H l xs -> bC B O H l' xs' -> bC B O H (l ++ l') (xs ++ xs')
  | [], xs, h, t=>by rw [h.nil_inv]; exact t
  | y :: l, xs, h, t=>by
    obtain ⟨x, r, rfl, h1, h2⟩:=h.cons_inv;exact .cons h1 (bC.append h2 t)
theorem bC.drop : ∀ (k : Nat) {l : List PV} {xs : List V}, bC B O H l xs -> bC B O H (l.drop k) (xs.drop k)
  | 0, _, _, h=>h
  | _ + 1, [], _, h=>by have e:=h.nil_inv; subst e; simpa using bC.nil
  | k + 1, y :: l, xs, h=>by
    obtain ⟨x, r, rfl, h1, h2⟩:=h.cons_inv;exact bC.drop k h2
theorem bC.take : ∀ (k : Nat) {l : List PV} {xs : List V}, bC B O H l xs -> bC B O H (l.take k) (xs.take k)
  | 0, _, _, h=>.nil
  | _ + 1, [], _, h=>by have e:=h.nil_inv; subst e; simpa using bC.nil
  | k + 1, y :: l, xs, h=>by
    obtain ⟨x, r, rfl, h1, h2⟩:=h.cons_inv;exact .cons h1 (bC.take k h2)
theorem oE.keep {l : List (Key × PV)} {ks : List (Key × V)} (h : oE B O H l ks) (hH : ∀ p o, ¬ O p -> H p = some o -> H' p = some o /\ ¬ O' p) : oE B O' H' l ks:=⟨h.1, λi y x a b=>(h.2 i y x a b).keep hH⟩
theorem oE.ext {l : List (Key × PV)} {ks : List (Key × V)} (h : oE B O H l ks) (hB : O B) (e : Ext B H H') : oE B O H' l ks:=⟨h.1, λi y x a b=>(h.2 i y x a b).ext hB e⟩
end
structure iE where
  K : Frag
  sp : Sp
  tabs : List (Addr × Str)
def J7 : HO -> Prop
  | .og _ (.dK _)=>False
  | .og _ _=>True
  | _=>False
def TabAt (H : Hp) (e : Addr × Str) : Prop:=∃ ps, H e.1 = some (.qc ps) /\ TriplesOk ps.toList /\ ∀ pos cv, codeAmong pos ps.toList = some cv -> ∃ c oc vs t, cv = .ref c /\ H c = some (.og oc (.own c)) /\ oc.data = .fields vs /\ vs[1]? = some (.str e.2 t)
def TabAt.keep {H H' : Hp} {e : Addr × Str} (h : TabAt H e) (k1 : ∀ ps, H e.1 = some (.qc ps) -> H' e.1 = some (.qc ps)) (k2 : ∀ p ob u, H p = some (.og ob (.own u)) -> H' p = some (.og ob (.own u))) : TabAt H' e:=by
  obtain ⟨ps, h1, h2, h3⟩:=h;refine ⟨ps, k1 _ h1, h2, λpos cv e1=>?_⟩;obtain ⟨c, oc, vs, t, rfl, g1, g2⟩:=h3 pos cv e1;exact ⟨c, oc, vs, t, rfl, k2 _ _ _ g1, g2⟩
structure Bg (φ : iE) where
  B : Addr
  fL : Addr -> Prop
  ok : Hp -> Nat -> Prop
  pB : fL B
  keep : ∀ H H' n, (∀ p o, (fL p \/ J7 o) -> H p = some o -> H' p = some o) -> ok H n -> ok H' n
  tp : ∀ e ∈ φ.tabs, fL e.1
  tab : ∀ H n, ok H n -> ∀ e ∈ φ.tabs, TabAt H e
  zY : ∀ H H' n, ok H n -> (∀ e ∈ φ.tabs, TabAt H' e) -> (∀ p o, p ∉ φ.tabs.map (·.1) -> H p = some o -> H' p = some o) -> ok H' n
  DX : ∀ H n p, ok H n -> fL p -> ∃ o, H p = some o
  dr : ∀ (H : Hp) (n : Nat) (m : Int) (Q : VK) (E : XK), ok H (n + 1) -> 0 < m -> m < 1073741824 -> (∀ (d : Int) (H' : Hp), 0 <= d -> d < m -> Ext B H H' -> ok H' n -> Q (.int d) H') -> φ.sp [.ref B, .int m] H Q E
variable {φ : iE}
set_option genInjectivity true in
inductive Ent where
  | un | val (y : PV) | own (l : List PV) | mU (kvs : List (Key × PV))
abbrev ak:=List Ent
def lV (G : Bg φ) (O : Addr -> Prop) (H : Hp) : Ent -> Option V -> Prop
  | .un, _=>True
  | .val y, o=>∃ x, o = some x /\ Rep G.B O H y x
  | .own l, o=>∃ p xs, o = some (.ref p) /\ O p /\ ¬ G.fL p /\ H p = some (.lst xs) /\ bC G.B O H l xs
  | .mU l, o=>∃ p ks, o = some (.ref p) /\ O p /\ ¬ G.fL p /\ H p = some (.dK ks) /\ oE G.B O H l ks
def nB (G : Bg φ) (O : Addr -> Prop) (H : Hp) (σ : St) (ρ : ak) : Prop:=σ.length = ρ.length /\ ∀ (i : Nat) (e : Ent), ρ[i]? = some e -> lV G O H e ((σ[i]?).getD none)
structure ES (G : Bg φ) (O : Addr -> Prop) (H : Hp) (σ : St) (ρ : ak) (n : Nat) : Prop where
  er : nB G O H σ ρ
  ok : G.ok H n
  pr : ∀ p, G.fL p -> O p
  dm : ∀ p, O p -> ∃ o, H p = some o
def ES.B {G : Bg φ} {O : Addr -> Prop} {H : Hp} {σ : St} {ρ : ak} {n : Nat} (s : ES G O H σ ρ n) : O G.B:=s.pr _ G.pB
theorem lV.ext {G : Bg φ} {O : Addr -> Prop} {H H' : Hp} {e : Ent} {o : Option V} (h : lV G O H e o) (hB : O G.B) (x : Ext G.B H H') : lV G O H' e o:=by
  cases e with
  | un=>trivial
  | val y=>obtain ⟨v, e, r⟩:=h; exact ⟨v, e, r.ext hB x⟩
  | own l=>obtain ⟨p, xs, e, hp, np, hl, r⟩:=h; exact ⟨p, xs, e, hp, np, x p _ (λz=>np (z ▸ G.pB)) hl, r.ext hB x⟩
  | mU l=>obtain ⟨p, xs, e, hp, np, hl, r⟩:=h; exact ⟨p, xs, e, hp, np, x p _ (λz=>np (z ▸ G.pB)) hl, r.ext hB x⟩
theorem ES.ext {G : Bg φ} {O : Addr -> Prop} {H H' : Hp} {σ : St} {ρ : ak} {n n' : Nat} (s : ES G O H σ ρ n) (x : Ext G.B H H') (ok : G.ok H' n') : ES G O H' σ ρ n' where
  er:=⟨s.er.1, λi e h=>(s.er.2 i e h).ext s.B x⟩
  ok:=ok
  pr:=s.pr
  dm:=λp h=>by
    by_cases e : p = G.B
    · subst e; exact G.DX _ _ _ ok G.pB
    · obtain ⟨o, q⟩:=s.dm p h; exact (x p o e q).there
def Bg.new {G : Bg φ} {H : Hp} {n : Nat} (ok : G.ok H n) {p : Addr} (h : H p = none) (o : HO) : G.ok (upd H p o) n:=G.keep _ _ _ (λq u _ e=>by rw [az (bx e h)]; exact e) ok
def ph (G : Bg φ) (O : Addr -> Prop) (H : Hp) (R : PV -> Nat -> Prop) (Q : VK) : Prop:=∀ (y : PV) (x : V) (H' : Hp) (n' : Nat), Ext G.B H H' -> G.ok H' n' -> Rep G.B O H' y x -> R y n' -> Q x H'
def xf (φ : iE) (m : ak -> M PV) : TE:=λσ H Q=>∃ (G : Bg φ) (O : Addr -> Prop) (ρ : ak) (n : Nat) (R : PV -> Nat -> Prop), ES G O H σ ρ n /\ (m ρ).wp n R /\ ph G O H R Q
def EV (φ : iE) (X : Cx) (e : Expr) (m : ak -> M PV) : Prop:=BE X e (xf φ m)
def BE.mono {X : Cx} {e : Expr} {t t' : TE} (h : BE X e t) (f : ∀ σ H Q, t' σ H Q -> t σ H Q) : BE X e t':=⟨λpZ s σ H Q I q=>h.out pZ s σ H Q I (f σ H Q q)⟩
inductive ed (G : Bg φ) (O : Addr -> Prop) (H : Hp) : PV -> V -> Prop where
  | full {y : PV} {x : V} (h : Rep G.B O H y x) : ed G O H y x
  | top {p : Addr} {xs : List V} {l : List PV} (np : ¬ G.fL p) (h : H p = some (.lst xs)) (r : bC G.B O H l xs) : ed G O H (.lst l) (.ref p)
  | xm {p : Addr} {ks : List (Key × V)} {l : List (Key × PV)} (np : ¬ G.fL p) (h : H p = some (.dK ks)) (r : oE G.B O H l ks) : ed G O H (.pR l) (.ref p)
theorem ed.ext {G : Bg φ} {O : Addr -> Prop} {H H' : Hp} {y : PV} {x : V} (h : ed G O H y x) (hB : O G.B) (e : Ext G.B H H') : ed G O H' y x:=by
  cases h with
  | full h=>exact .full (h.ext hB e)
  | @top p xs l np h r=>exact .top np (e p (.lst xs) (λz=>np (z ▸ G.pB)) h) (r.ext hB e)
  | @xm p ks l np h r=>exact .xm np (e p (.dK ks) (λz=>np (z ▸ G.pB)) h) (r.ext hB e)
def JZ (G : Bg φ) (O : Addr -> Prop) (H : Hp) (R : PV -> Nat -> Prop) (Q : VK) : Prop:=∀ (y : PV) (x : V) (H' : Hp) (n' : Nat), Ext G.B H H' -> G.ok H' n' -> ed G O H' y x -> R y n' -> Q x H'
def zZ (φ : iE) (m : ak -> M PV) : TE:=λσ H Q=>∃ (G : Bg φ) (O : Addr -> Prop) (ρ : ak) (n : Nat) (R : PV -> Nat -> Prop), ES G O H σ ρ n /\ (m ρ).wp n R /\ JZ G O H R Q
def EB (φ : iE) (X : Cx) (e : Expr) (m : ak -> M PV) : Prop:=BE X e (zZ φ m)
theorem EV.b {X : Cx} {e : Expr} {m : ak -> M PV} (h : EV φ X e m) : EB φ X e m:=BE.mono h λσ H Q ⟨G, O, ρ, n, R, s, w, q⟩=>⟨G, O, ρ, n, R, s, w, λy x H' n' a b c d=>q y x H' n' a b (.full c) d⟩
def JX (G : Bg φ) (H : Hp) (R : Bool -> Nat -> Prop) (Q : Bool -> Hp -> Prop) : Prop:=∀ (b : Bool) (H' : Hp) (n' : Nat), Ext G.B H H' -> G.ok H' n' -> R b n' -> Q b H'
def Bj (φ : iE) (m : ak -> M Bool) : TT:=λσ H Q=>∃ (G : Bg φ) (O : Addr -> Prop) (ρ : ak) (n : Nat) (R : Bool -> Nat -> Prop), ES G O H σ ρ n /\ (m ρ).wp n R /\ JX G H R Q
def TV (φ : iE) (X : Cx) (e : Expr) (m : ak -> M Bool) : Prop:=BT X e (Bj φ m)
def WV (φ : iE) (X : Cx) (e : Expr) (m : ak -> M Bool) : Prop:=BW X e (Bj φ m)
def J0 (G : Bg φ) (O : Addr -> Prop) (H : Hp) (R : List PV -> Nat -> Prop) (Q : List V -> Hp -> Prop) : Prop:=∀ (l : List PV) (xs : List V) (H' : Hp) (n' : Nat), Ext G.B H H' -> G.ok H' n' -> bC G.B O H' l xs -> R l n' -> Q xs H'
def Io (φ : iE) (m : ak -> M (List PV)) : TA:=λσ H Q=>∃ (G : Bg φ) (O : Addr -> Prop) (ρ : ak) (n : Nat) (R : List PV -> Nat -> Prop), ES G O H σ ρ n /\ (m ρ).wp n R /\ J0 G O H R Q
def AV (φ : iE) (X : Cx) (es : List Expr) (m : ak -> M (List PV)) : Prop:=BA X es (Io φ m)
def jh (G : Bg φ) (O : Addr -> Prop) (H : Hp) (l : List PV) (xs : List V) : Prop:=l.length = xs.length /\ ∀ (i : Nat) (y : PV) (x : V), l[i]? = some y -> xs[i]? = some x -> ed G O H y x
def HU (G : Bg φ) (O : Addr -> Prop) (H : Hp) (R : List PV -> Nat -> Prop) (Q : List V -> Hp -> Prop) : Prop:=∀ (l : List PV) (xs : List V) (H' : Hp) (n' : Nat), Ext G.B H H' -> G.ok H' n' -> jh G O H' l xs -> R l n' -> Q xs H'
def Ip (φ : iE) (m : ak -> M (List PV)) : TA:=λσ H Q=>∃ (G : Bg φ) (O : Addr -> Prop) (ρ : ak) (n : Nat) (R : List PV -> Nat -> Prop), ES G O H σ ρ n /\ (m ρ).wp n R /\ HU G O H R Q
def AB (φ : iE) (X : Cx) (es : List Expr) (m : ak -> M (List PV)) : Prop:=BA X es (Ip φ m)
def zT (G : Bg φ) (O : Addr -> Prop) (H : Hp) (R : List PV -> Nat -> Prop) (Q : VK) : Prop:=∀ (l : List PV) (p : Addr) (xs : List V) (H' : Hp) (n' : Nat), Ext G.B H H' -> G.ok H' n' -> H p = none -> H' p = some (.lst xs) -> bC G.B (λq=>O q \/ q = p) H' l xs -> R l n' -> Q (.ref p) H'
def Fz (φ : iE) (m : ak -> M (List PV)) : TE:=λσ H Q=>∃ (G : Bg φ) (O : Addr -> Prop) (ρ : ak) (n : Nat) (R : List PV -> Nat -> Prop), ES G O H σ ρ n /\ (m ρ).wp n R /\ zT G O H R Q
def EF (φ : iE) (X : Cx) (e : Expr) (m : ak -> M (List PV)) : Prop:=BE X e (Fz φ m)
def EF.v {X : Cx} {e : Expr} {m : ak -> M (List PV)} (h : EF φ X e m) : EV φ X e (λρ=>(m ρ).bind λl=>.ret (.lst l)):=BE.mono h λσ H Q ⟨G, O, ρ, n, R, s, w, q⟩=>by
  rw [M.wZ] at w;refine ⟨G, O, ρ, n, _, s, w, λl p xs H' n' a b c d e f=>q (.lst l) _ H' n' a b (.lst (λz=>?_) d e.1 (e.less λq z=>.inl z).2) f⟩;obtain ⟨o, g⟩:=s.dm p z;rw [c] at g; cases g
end
open Ent (val un)
section
variable {φ : iE}
def iC : 100000 <= sizeLine:=by rw [Md]; decide
section
variable {G : Bg φ} {O : Addr -> Prop} {H : Hp} {n : Nat} {R : PV -> Nat -> Prop} {Q : VK} {x x' : V}
def ph.sc (w : ph G O H R Q) (ok : G.ok H n) {y : PV} (r : Rep G.B O H y x) (h : R y n) : Q x H:=w y x H n (Ext.refl _ _) ok r h
theorem ph.tup (w : ph G O H R Q) (ok : G.ok H n) (dm : ∀ p, O p -> ∃ o, H p = some o) {p : Addr} (hp : H p = none) {l : List PV} {xs : List V} (hB : O G.B) (r : bC G.B O H l xs) (h : R (.tup l) n) : Q (.ref p) (upd H p (.tup xs)):=by
  have e:=Ext.new (B:=G.B) hp (.tup xs);refine w (.tup l) _ _ n e (Bg.new ok hp _) (.tup (λz=>?_) aA r.1 (r.ext hB e).2) h;obtain ⟨o, g⟩:=dm p z;rw [hp] at g; cases g
theorem ph.lst (w : ph G O H R Q) (ok : G.ok H n) (dm : ∀ p, O p -> ∃ o, H p = some o) {p : Addr} (hp : H p = none) {l : List PV} {xs : List V} (hB : O G.B) (r : bC G.B O H l xs) (h : R (.lst l) n) : Q (.ref p) (upd H p (.lst xs)):=by
  have e:=Ext.new (B:=G.B) hp (.lst xs);refine w (.lst l) _ _ n e (Bg.new ok hp _) (.lst (λz=>?_) aA r.1 (r.ext hB e).2) h;obtain ⟨o, g⟩:=dm p z;rw [hp] at g; cases g
def zT.mk {R : List PV -> Nat -> Prop} (w : zT G O H R Q) (ok : G.ok H n) {p : Addr} (hp : H p = none) {l : List PV} {xs : List V} (hB : O G.B) (r : bC G.B O H l xs) (h : R l n) : Q (.ref p) (upd H p (.lst xs)):=by
  have e:=Ext.new (B:=G.B) hp (.lst xs);refine w l p xs _ n e (Bg.new ok hp _) hp aA ((r.grow λq z=>?_).ext (.inl hB) e) h;rcases z with z | z
  · exact .inl z
  · subst z; exact .inr hp
def GO {H : Hp} {p : Addr} {a b : List (Key × V)} (h : Rd H p (.dK a)) (g : Rd H p (.dK b)) : a = b:=by
  rcases h with h | ⟨o, h⟩ <;> rcases g with g | ⟨o', g⟩ <;> (rw [h] at g; cases g) <;> rfl
def ed.FV (h : ed G O H .cB x) : x = .cB:=by cases h with | full h=>cases h; rfl
def ed.K6 {b : Bool} (h : ed G O H (.bl b) x) : x = .bl b:=by cases h with | full h=>cases h; rfl
def ed.fD {i : Int} (h : ed G O H (.int i) x) : x = .int i:=by cases h with | full h=>cases h; rfl
def ed.gz {z : Str} (h : ed G O H (.str z) x) : x = .str z:=by cases h with | full h=>cases h; rfl
def ed.lB {l : List PV} (h : ed G O H (.tup l) x) : ∃ p xs, x = .ref p /\ H p = some (.tup xs) /\ bC G.B O H l xs:=by cases h with | full h=>cases h with | tup a b c d=>exact ⟨_, _, rfl, b, c, d⟩
def ed.kG {l : List PV} (h : ed G O H (.lst l) x) : ∃ p xs, x = .ref p /\ H p = some (.lst xs) /\ bC G.B O H l xs:=by
  cases h with
  | full h=>cases h with | lst a b c d=>exact ⟨_, _, rfl, b, c, d⟩
  | top a b c=>exact ⟨_, _, rfl, b, c⟩
def ed.DE {l : List (Key × PV)} (h : ed G O H (.pR l) x) : ∃ p ks, x = .ref p /\ Rd H p (.dK ks) /\ oE G.B O H l ks:=by
  cases h with
  | full h=>cases h with | pR a b c d=>exact ⟨_, _, rfl, b, c, d⟩
  | xm a b c=>exact ⟨_, _, rfl, .inl b, c⟩
def ed.FD {ns : List Int} (h : ed G O H (.vw ns) x) : ∃ p o, x = .ref p /\ H p = some (.og o (.lst (ns.map V.int))):=by cases h with | full h=>cases h with | vw a b=>obtain ⟨o, b⟩:=b; exact ⟨_, o, rfl, b⟩
def ed.low {y : PV} (h : ed G O H y x) (pr : ∀ p, G.fL p -> O p) : Rep G.B G.fL H y x:=by
  cases h with
  | full h=>exact h.less pr
  | top np h r=>exact .lst np h r.1 (r.less pr).2
  | xm np h r=>exact .pR np (.inl h) r.1 λi y x a b=>(r.2 i y x a b).less pr
end
def ah (ρ : ak) (i : Nat) : M PV:=match ρ[i]? with | some (.val y)=>.ret y | _=>.fail
def iR (ρ : ak) (i : Nat) : M PV:=match ρ[i]? with | some (.val y)=>.ret y | some (.own l)=>.ret (.lst l) | some (.mU l)=>.ret (.pR l) | _=>.fail
section
variable {X : Cx} {a b c : Expr} {pos : Pos} {ma mb mc : ak -> M PV}
def wz {e : Expr} {v : V} {y : PV} (h : BE X e (tC v)) (r : ∀ B O H, Rep B O H y v) : EV φ X e (λ_=>.ret y):=BE.mono h λσ H Q ⟨G, O, ρ, n, R, s, w, q⟩=>q.sc s.ok (r _ _ _) w
def aq {i : Int} {j : Nat} : EV φ X (.Constant (.int i) j pos) (λ_=>.ret (.int i)):=wz ⟨aJ⟩ λ_ _ _=>.int i
def lL {i : Bool} {j : Nat} : EV φ X (.Constant (.bool i) j pos) (λ_=>.ret (.bl i)):=wz ⟨Jh⟩ λ_ _ _=>.bl i
def yh {j : Nat} : EV φ X (.Constant .none j pos) (λ_=>.ret .cB):=wz ⟨G3⟩ λ_ _ _=>.cB
def aK {x : Str} {j : Nat} : EV φ X (.Constant (.str x) j pos) (λ_=>.ret (.str x)):=wz ⟨Cy⟩ λ_ _ _=>.str x
def la {x : Str} {i : Int} {t : Tok} (hg : Gl X x) (hm : X.mg x = some (.int i t)) (hd : (x == ("__debug__" : Str)) = false:=by decide) : EV φ X (.Name x pos) (λ_=>.ret (.int i)):=wz ⟨y8 (v:=.int i) hg hm ⟨_, rfl⟩ hd⟩ λ_ _ _=>.int i
def kQ {G : Bg φ} {O : Addr -> Prop} {H : Hp} {σ : St} {ρ : ak} {i : Nat} {e : Ent} {x : V} (h : nB G O H σ ρ) (he : ρ[i]? = some e) (hx : (σ[i]?).getD none = some x) : σ[i]? = some (some x):=by
  cases q : σ[i]? with
  | none=>rw [q] at hx; cases hx
  | some o=>rw [q] at hx; cases o with
    | none=>cases hx
    | some z=>simp at hx; rw [hx]
def af {x : Str} (i : Nat) (h : BE X (.Name x pos) (p6 i)) : EV φ X (.Name x pos) (λρ=>ah ρ i):=BE.mono h λσ H Q ⟨G, O, ρ, n, R, s, w, q⟩=>by
  replace w : (ah ρ i).wp n R:=w;unfold ah at w
  cases e : ρ[i]? with
  | none=>rw [e] at w; exact w.elim
  | some t=>
    rw [e] at w
    cases t with
    | val y=>
      obtain ⟨x, hx, r⟩:=s.er.2 i _ e
      exact ⟨x, kQ s.er e hx, q.sc s.ok r w⟩
    | _=>exact w.elim
def zE {x : Str} (i : Nat) (h : BE X (.Name x pos) (p6 i)) : EB φ X (.Name x pos) (λρ=>iR ρ i):=BE.mono h λσ H Q ⟨G, O, ρ, n, R, s, w, q⟩=>by
  replace w : (iR ρ i).wp n R:=w;unfold iR at w
  cases e : ρ[i]? with
  | none=>rw [e] at w; exact w.elim
  | some t=>
    rw [e] at w
    cases t with
    | val y=>
      obtain ⟨x, hx, r⟩:=s.er.2 i _ e
      exact ⟨x, kQ s.er e hx, q _ _ _ _ (Ext.refl _ _) s.ok (.full r) w⟩
    | own l=>
      obtain ⟨p, xs, hx, _, np, hl, r⟩:=s.er.2 i _ e
      exact ⟨_, kQ s.er e hx, q _ _ _ _ (Ext.refl _ _) s.ok (.top np hl r) w⟩
    | mU l=>
      obtain ⟨p, xs, hx, _, np, hl, r⟩:=s.er.2 i _ e
      exact ⟨_, kQ s.er e hx, q _ _ _ _ (Ext.refl _ _) s.ok (.xm np hl r) w⟩
    | un=>exact w.elim
def pj (r : R2) (op : PV -> PV -> M PV) : Prop:=∀ (φ : iE) (G : Bg φ) (O : Addr -> Prop) (H : Hp) (n : Nat) (R : PV -> Nat -> Prop) (Q : VK) (y y' : PV) (x x' : V),
  (∀ p, G.fL p -> O p) -> (∀ p, O p -> ∃ o, H p = some o) -> G.ok H n -> ed G O H y x -> ed G O H y' x' -> (op y y').wp n R -> ph G O H R Q -> r x x' H Q
def au (op : PV -> PV -> M PV) (ma mb : ak -> M PV) : ak -> M PV:=λρ=>(ma ρ).bind λx=>(mb ρ).bind λy=>op x y
def two {r : R2} {op : PV -> PV -> M PV} (hv : pj r op) : ∀ σ H Q, xf φ (au op ma mb) σ H Q -> GA r (zZ φ ma) (zZ φ mb) σ H Q:=λσ H Q ⟨G, O, ρ, n, R, s, w, q⟩=>by
  unfold au at w;rw [M.wZ] at w;refine ⟨G, O, ρ, n, _, s, w, λy x H1 n1 e1 du r1 w1=>?_⟩;rw [M.wZ] at w1;refine ⟨G, O, ρ, n1, _, s.ext e1 du, w1, λy' x' H2 n2 e2 oY r2 w2=>?_⟩;exact hv φ G O H2 n2 R Q y y' x x' s.pr (s.ext (e1.trans e2) oY).dm oY (r1.ext s.B e2) r2 w2 λy x H' n' e o r h=>q y x H' n' (e1.trans (e2.trans e)) o r h
def bh {o : Operator} {r : R2} {op : PV -> PV -> M PV} (ho : jj X (binaryOp o) r) (hv : pj r op) (ha : EB φ X a ma) (hb : EB φ X b mb) : EV φ X (.BinOp a o b pos) (au op ma mb):=
  BE.mono ⟨cg ho ha.out hb.out⟩ (two hv)
def fZ {o : CmpOp} {r : R2} {op : PV -> PV -> M PV} (ho : jj X (compareOp o) r) (hv : pj r op) (ha : EB φ X a ma) (hb : EB φ X b mb) (hm : behindInMarks o b = false) : EV φ X (.Compare a [o] [b] pos) (au op ma mb):=
  BE.mono ⟨Ex ho ha.out hb.out hm⟩ (two hv)
def bp {r : R2} {op : PV -> PV -> M PV} (hr : D1 X r) (hv : pj r op) (ha : EB φ X a ma) (hb : EB φ X b mb) (hs : zU b) : EV φ X (.Subscript a b pos) (au op ma mb):=
  BE.mono ⟨gZ hr ha.out hb.out hs⟩ (two hv)
def bD (m : ak -> M PV) : ak -> M Bool:=λρ=>(m ρ).bind λy=>match y with | .bl b=>.ret b | _=>.fail
def yB {m : ak -> M PV} {t : TE} (f : ∀ σ H Q, xf φ m σ H Q -> t σ H Q) : ∀ σ H Q, Bj φ (bD m) σ H Q -> t σ H (λx H1=>∃ k, x = .bl k /\ Q k H1):=λσ H Q ⟨G, O, ρ, n, R, s, w, q⟩=>by
  unfold bD at w;rw [M.wZ] at w;refine f σ H _ ⟨G, O, ρ, n, _, s, w, λy x H1 n1 e1 du r1 w1=>?_⟩
  cases y with
  | bl k=>cases r1; exact ⟨k, rfl, q k H1 n1 e1 du w1⟩
  | _=>exact w1.elim
def BT.mono {e : Expr} {t t' : TT} (h : BT X e t) (f : ∀ σ H Q, t' σ H Q -> t σ H Q) : BT X e t':=⟨λpZ s σ H Q I q=>h.out pZ s σ H Q I (f σ H Q q)⟩
def BW.mono {e : Expr} {t t' : TT} (h : BW X e t) (f : ∀ σ H Q, t' σ H Q -> t σ H Q) : BW X e t':=⟨λw pZ s σ H Q I q=>h.out w pZ s σ H Q I (f σ H Q q)⟩
def bG {o : CmpOp} {r : R2} {op : PV -> PV -> M PV} (ho : jj X (compareOp o) r) (hv : pj r op) (ha : EB φ X a ma) (hb : EB φ X b mb) (hm : behindInMarks o b = false) : TV φ X (.Compare a [o] [b] pos) (bD (au op ma mb)):=
  BT.mono ⟨nM ho ha.out hb.out hm⟩ (yB (two hv))
def fK {e : Expr} {m : ak -> M PV} (h : EV φ X e m) (he : ∀ whole, isTrue e X.env whole = (do let v <- whole; standAt e.pos; holding [v] (truthy v)):=by intro _; rfl) : TV φ X e (bD m):=
  BT.mono ⟨GR h.out he⟩ (yB λ_ _ _ h=>h)
def cQ (m : ak -> M Bool) : ak -> M Bool:=λρ=>(m ρ).bind λb=>.ret (!b)
def fS {m : ak -> M Bool} (h : TV φ X a m) : TV φ X (.UnaryOp .Not a pos) (cQ m):=BT.mono ⟨GU h.out⟩ λσ H Q ⟨G, O, ρ, n, R, s, w, q⟩=>by
  unfold cQ at w;rw [M.wZ] at w;exact ⟨G, O, ρ, n, _, s, w, λb H1 n1 e1 du w1=>q (!b) H1 n1 e1 du w1⟩
def gD (ma mb : ak -> M Bool) : ak -> M Bool:=λρ=>(ma ρ).bind λb=>if b = true then mb ρ else .ret false
def kE (ma mb : ak -> M Bool) : ak -> M Bool:=λρ=>(ma ρ).bind λb=>if b = true then .ret true else mb ρ
def WV.t {e : Expr} {m : ak -> M Bool} (h : WV φ X e m) : TV φ X e m:=⟨PW.pt h.out⟩
def tT {m : ak -> M Bool} (h : TV φ X a m) : WV φ X (.BoolOp .And [a] pos) m:=⟨yV h.out⟩
def kN {m : ak -> M Bool} (h : TV φ X a m) : WV φ X (.BoolOp .Or [a] pos) m:=⟨GQ h.out⟩
def tU {rest : List Expr} {m m' : ak -> M Bool} (h : TV φ X a m) (h' : WV φ X (.BoolOp .And (b :: rest) pos) m') : WV φ X (.BoolOp .And (a :: b :: rest) pos) (gD m m'):=BW.mono ⟨Cn h.out h'.out⟩ λσ H Q ⟨G, O, ρ, n, R, s, w, q⟩=>by
  unfold gD at w;rw [M.wZ] at w;refine ⟨G, O, ρ, n, _, s, w, λb H1 n1 e1 du w1=>?_⟩
  cases b with
  | true=>exact ⟨G, O, ρ, n1, R, s.ext e1 du, w1, λb H' n' e o h=>q b H' n' (e1.trans e) o h⟩
  | false=>exact q false H1 n1 e1 du w1
def mD {rest : List Expr} {m m' : ak -> M Bool} (h : TV φ X a m) (h' : WV φ X (.BoolOp .Or (b :: rest) pos) m') : WV φ X (.BoolOp .Or (a :: b :: rest) pos) (kE m m'):=BW.mono ⟨I0 h.out h'.out⟩ λσ H Q ⟨G, O, ρ, n, R, s, w, q⟩=>by
  unfold kE at w;rw [M.wZ] at w;refine ⟨G, O, ρ, n, _, s, w, λb H1 n1 e1 du w1=>?_⟩
  cases b with
  | true=>exact q true H1 n1 e1 du w1
  | false=>exact ⟨G, O, ρ, n1, R, s.ext e1 du, w1, λb H' n' e o h=>q b H' n' (e1.trans e) o h⟩
def jE (m : ak -> M PV) : ak -> M PV:=λρ=>(bD m ρ).bind λb=>.ret (.bl (!b))
def d9 (ma mb : ak -> M PV) : ak -> M PV:=λρ=>(bD ma ρ).bind λb=>if b = true then mb ρ else .ret (.bl false)
def oU (ma mb : ak -> M PV) : ak -> M PV:=λρ=>(bD ma ρ).bind λb=>if b = true then .ret (.bl true) else mb ρ
def yA {m : ak -> M PV} {f : Bool -> M PV} {σ : St} {H : Hp} {Q : VK} {G : Bg φ} {O : Addr -> Prop} {ρ : ak} {n : Nat} {R : PV -> Nat -> Prop} {T : V -> Hp -> Prop} (s : ES G O H σ ρ n) (w : ((bD m ρ).bind f).wp n R)
    (k : ∀ (b : Bool) (H1 : Hp) (n1 : Nat), Ext G.B H H1 -> G.ok H1 n1 -> (f b).wp n1 R -> T (.bl b) H1) : xf φ m σ H T:=by
  rw [M.wZ] at w;unfold bD at w;rw [M.wZ] at w;refine ⟨G, O, ρ, n, _, s, w, λy x H1 n1 e1 du r1 w1=>?_⟩
  cases y with
  | bl b=>cases r1; exact k b H1 n1 e1 du w1
  | _=>exact w1.elim
def HF (ha : EV φ X a ma) : EV φ X (.UnaryOp .Not a pos) (jE ma):=BE.mono ⟨G2 ha.out⟩ λσ H Q ⟨G, O, ρ, n, R, s, w, q⟩=>
  yA (Q:=Q) s w λb H1 n1 e1 du w1=>⟨b, rfl, q _ _ _ _ e1 du (.bl _) w1⟩
def gC {op : BoolOp} (ha : EV φ X a ma) : EV φ X (.BoolOp op [a] pos) ma:=⟨G1 ha.out⟩
def fg {rest : List Expr} (ha : EV φ X a ma) (hb : EV φ X (.BoolOp .And (b :: rest) pos) mb) : EV φ X (.BoolOp .And (a :: b :: rest) pos) (d9 ma mb):=BE.mono ⟨G4 ha.out hb.out⟩ λσ H Q ⟨G, O, ρ, n, R, s, w, q⟩=>
  yA (Q:=Q) s w λb H1 n1 e1 du w1=>⟨b, rfl, by
    cases b with
    | true=>exact ⟨G, O, ρ, n1, R, s.ext e1 du, w1, λy x H' n' e o r h=>q y x H' n' (e1.trans e) o r h⟩
    | false=>exact q _ _ _ _ e1 du (.bl _) w1⟩
def JM {rest : List Expr} (ha : EV φ X a ma) (hb : EV φ X (.BoolOp .Or (b :: rest) pos) mb) : EV φ X (.BoolOp .Or (a :: b :: rest) pos) (oU ma mb):=BE.mono ⟨Je ha.out hb.out⟩ λσ H Q ⟨G, O, ρ, n, R, s, w, q⟩=>
  yA (Q:=Q) s w λb H1 n1 e1 du w1=>⟨b, rfl, by
    cases b with
    | true=>exact q _ _ _ _ e1 du (.bl _) w1
    | false=>exact ⟨G, O, ρ, n1, R, s.ext e1 du, w1, λy x H' n' e o r h=>q y x H' n' (e1.trans e) o r h⟩⟩
def ka (mc : ak -> M Bool) (ma mb : ak -> M PV) : ak -> M PV:=λρ=>(mc ρ).bind λb=>if b = true then ma ρ else mb ρ
def om {t : ak -> M Bool} (hc : TV φ X c t) (ha : EV φ X a ma) (hb : EV φ X b mb) : EV φ X (.IfExp c a b pos) (ka t ma mb):=BE.mono ⟨vO hc.out ha.out hb.out⟩ λσ H Q ⟨G, O, ρ, n, R, s, w, q⟩=>by
  unfold ka at w;rw [M.wZ] at w;refine ⟨G, O, ρ, n, _, s, w, λb H1 n1 e1 du w1=>?_⟩
  cases b with
  | true=>exact ⟨G, O, ρ, n1, R, s.ext e1 du, w1, λy x H' n' e o r h=>q y x H' n' (e1.trans e) o r h⟩
  | false=>exact ⟨G, O, ρ, n1, R, s.ext e1 du, w1, λy x H' n' e o r h=>q y x H' n' (e1.trans e) o r h⟩
def chain (op op' : PV -> PV -> M PV) (ma mb mc : ak -> M PV) : ak -> M PV:=λρ=>(ma ρ).bind λx=>(mb ρ).bind λy=>(op x y).bind λz=>match z with
  | .bl true=>(mc ρ).bind λu=>op' y u
  | .bl false=>.ret (.bl false)
  | _=>.fail
def wL {r r' : R2} {op op' : PV -> PV -> M PV} (hv : pj r op) (hv' : pj r' op') : ∀ σ H Q, xf φ (chain op op' ma mb mc) σ H Q -> xo r r' (zZ φ ma) (zZ φ mb) (zZ φ mc) σ H Q:=λσ H Q ⟨G, O, ρ, n, R, s, w, q⟩=>by
  unfold chain at w;rw [M.wZ] at w;refine ⟨G, O, ρ, n, _, s, w, λy x H1 n1 e1 du r1 w1=>?_⟩;rw [M.wZ] at w1;refine ⟨G, O, ρ, n1, _, s.ext e1 du, w1, λy' x' H2 n2 e2 oY r2 w2=>?_⟩;rw [M.wZ] at w2;refine hv φ G O H2 n2 _ _ y y' x x' s.pr (s.ext (e1.trans e2) oY).dm oY (r1.ext s.B e2) r2 w2 λz u H3 n3 e3 ok3 r3 w3=>?_
  cases z with
  | bl k=>
    cases r3;refine ⟨k, rfl, ?_⟩
    cases k with
    | true=>
      show zZ φ mc σ H3 _;rw [M.wZ] at w3;refine ⟨G, O, ρ, n3, _, s.ext (e1.trans (e2.trans e3)) ok3, w3, λy4 x4 H4 n4 e4 ok4 r4 w4=>?_⟩
      exact hv' φ G O H4 n4 R Q y' y4 x' x4 s.pr (s.ext (e1.trans (e2.trans (e3.trans e4))) ok4).dm ok4 (r2.ext s.B (e3.trans e4)) r4 w4 λy x H' n' e o r h=>q y x H' n' (e1.trans (e2.trans (e3.trans (e4.trans e)))) o r h
    | false=>exact q _ _ _ _ (e1.trans (e2.trans e3)) ok3 (.bl _) w3
  | _=>exact w3.elim
def rC {o o' : CmpOp} {r r' : R2} {op op' : PV -> PV -> M PV} (ho : jj X (compareOp o) r) (hv : pj r op) (ho' : jj X (compareOp o') r') (hv' : pj r' op') (ha : EB φ X a ma) (hb : EB φ X b mb) (hc : EB φ X c mc) (hm : lastMarks [o, o'] [b, c] = false:=by with_unfolding_all rfl) : EV φ X (.Compare a [o, o'] [b, c] pos) (chain op op' ma mb mc):=
  BE.mono ⟨CA ho ho' ha.out hb.out hc.out hm⟩ (wL hv hv')
def vi {o o' : CmpOp} {r r' : R2} {op op' : PV -> PV -> M PV} (ho : jj X (compareOp o) r) (hv : pj r op) (ho' : jj X (compareOp o') r') (hv' : pj r' op') (ha : EB φ X a ma) (hb : EB φ X b mb) (hc : EB φ X c mc) (hm : lastMarks [o, o'] [b, c] = false:=by with_unfolding_all rfl) : TV φ X (.Compare a [o, o'] [b, c] pos) (bD (chain op op' ma mb mc)):=
  BT.mono ⟨Co ho ho' ha.out hb.out hc.out hm⟩ (yB (wL hv hv'))
end
def toV : PV -> V
  | .cB=>.cB
  | .bl b=>.bl b
  | .int i=>.int i
  | .str x=>.str x
  | _=>.ty ""
def bT (y : PV) : Bool:=ia (toV y)
def kI {B : Addr} {O : Addr -> Prop} {H : Hp} {y : PV} {x : V} (h : Rep B O H y x) (f : bT y = true) : x = toV y:=by
  cases h <;> first | rfl | (exact absurd f (by decide)) | (simp [bT, toV, ia] at f)
def tD {G : Bg φ} {O : Addr -> Prop} {H : Hp} {y : PV} {x : V} (h : ed G O H y x) (f : bT y = true) : x = toV y:=by
  cases h with
  | full h=>exact kI h f
  | _=>simp [bT, toV, ia] at f
def eqs (f : PV -> PV -> Option Bool) : List PV -> List PV -> Option Bool
  | [], []=>some true
  | [], _ :: _=>some false
  | _ :: _, []=>some false
  | a :: r, b :: t=>(f a b).bind λx=>(eqs f r t).bind λy=>some (x && y)
def yj : Nat -> PV -> PV -> Option Bool
  | k + 1, .lst a, .lst b=>eqs (yj k) a b
  | k + 1, .tup a, .tup b=>eqs (yj k) a b
  | _ + 1, .lst _, .tup _=>some false
  | _ + 1, .tup _, .lst _=>some false
  | _ + 1, .lst _, y=>if bT y then some false else none
  | _ + 1, .tup _, y=>if bT y then some false else none
  | _ + 1, y, .lst _=>if bT y then some false else none
  | _ + 1, y, .tup _=>if bT y then some false else none
  | _, y, z=>if bT y && bT z then some (rR (toV y) (toV z)) else none
theorem rE {f : PV -> PV -> Option Bool} : ∀ {a b : List PV} {c : Bool}, eqs f a b = some c -> ∃ e : Nat -> Bool, (∀ j y z, a[j]? = some y -> b[j]? = some z -> f y z = some (e j)) /\ c = ((List.range (min a.length b.length)).all e && a.length == b.length)
  | [], [], c, h=>⟨λ_=>true, λj y z e=>by simp at e, by simp [eqs] at h; simp [h]⟩
  | [], _ :: _, c, h=>⟨λ_=>true, λj y z e=>by simp at e, by simp [eqs] at h; simp [h]⟩
  | _ :: _, [], c, h=>⟨λ_=>true, λj y z _ e=>by simp at e, by simp [eqs] at h; simp [h]⟩
  | y :: r, z :: t, c, h=>by
    simp only [eqs] at h
    cases h1 : f y z with
    | none=>rw [h1] at h; simp at h
    | some x=>
      rw [h1] at h;simp only [Option.bind_some] at h
      cases h2 : eqs f r t with
      | none=>rw [h2] at h; simp at h
      | some w=>
        rw [h2] at h;simp only [Option.bind_some, Option.some.injEq] at h;obtain ⟨e, he, hw⟩:=rE h2;refine ⟨λj=>match j with | 0=>x | j + 1=>e j, λj y' z' a b=>?_, ?_⟩
        · cases j with
          | zero=>simp at a b; subst a b; exact h1
          | succ j=>simp at a b; exact he j y' z' a b
        · have e0 : min (y :: r).length (z :: t).length = min r.length t.length + 1:=by simp only [LN]; omega
          rw [e0, List.range_succ_eq_map, List.all_cons, List.all_map, <- h, hw];simp only [LN, Function.comp_def, Bool.and_assoc];congr 2;rw [Bool.eq_iff_iff]; simp
def uT {α β : Type} {l l' : List α} {xs : List β} (h1 : l.length = xs.length) (h2 : l'.length = xs.length) (hh : ∀ (i : Nat) (y y' : α) (x : β), l[i]? = some y -> l'[i]? = some y' -> xs[i]? = some x -> y = y') : l = l':=by
  apply List.ext_getElem (h1.trans h2.symm);intro i a b;exact hh i _ _ _ (Lx a) (Lx b) (Lx (h1 ▸ a))
theorem zr : ∀ {a b : List Int}, a.map V.int = b.map V.int -> a = b
  | [], [], _=>rfl
  | [], _ :: _, h=>by simp at h
  | _ :: _, [], h=>by simp at h
  | x :: a, y :: b, h=>by
    simp only [LJ, List.cons.injEq, V.int.injEq] at h;rw [h.1, zr h.2]
def Rep.uniq {B : Addr} {O : Addr -> Prop} {H : Hp} (hB : O B) {y : PV} {x : V} (h : Rep B O H y x) : ∀ {y' : PV}, Rep B O H y' x -> y = y':=by
  induction h with
  | cB=>intro y' h; cases h; rfl
  | bl b=>intro y' h; cases h; rfl
  | int i=>intro y' h; cases h; rfl
  | str x=>intro y' h; cases h; rfl
  | tup hO h hl hr ih=>
    intro y' g
    cases g with
    | tup gO g gl gr=>
      rw [h] at g; cases g
      congr 1
      exact uT hl gl λi y y' x a b c=>ih i y x a c (gr i y' x b c)
    | lst gO g gl gr=>rw [h] at g; cases g
    | pR gO g gl gr=>rcases g with g | ⟨o', g⟩ <;> (rw [h] at g; cases g)
    | vw gO g=>obtain ⟨o, g⟩:=g; rw [h] at g; cases g
    | bH=>exact absurd hB hO
  | lst hO h hl hr ih=>
    intro y' g
    cases g with
    | lst gO g gl gr=>
      rw [h] at g; cases g
      congr 1
      exact uT hl gl λi y y' x a b c=>ih i y x a c (gr i y' x b c)
    | tup gO g gl gr=>rw [h] at g; cases g
    | pR gO g gl gr=>rcases g with g | ⟨o', g⟩ <;> (rw [h] at g; cases g)
    | vw gO g=>obtain ⟨o, g⟩:=g; rw [h] at g; cases g
    | bH=>exact absurd hB hO
  | pR hO h hl hr ih=>
    intro y' g
    cases g with
    | pR gO g gl gr=>
      obtain rfl:=GO h g;congr 1;refine uT (by simpa using congrArg List.length hl) (by simpa using congrArg List.length gl) λi y y' x a b c=>?_
      have k1 : y.1 = x.1:=by
        have:=congrArg (·[i]?) hl;simp only [LU, a, c] at this;simpa using this
      have k2 : y'.1 = x.1:=by
        have:=congrArg (·[i]?) gl;simp only [LU, b, c] at this;simpa using this
      exact Prod.ext (k1.trans k2.symm) (ih i y x a c (gr i y' x b c))
    | tup gO g gl gr=>rcases h with h | ⟨o', h⟩ <;> (rw [h] at g; cases g)
    | lst gO g gl gr=>rcases h with h | ⟨o', h⟩ <;> (rw [h] at g; cases g)
    | vw gO g=>obtain ⟨o, g⟩:=g; rcases h with h | ⟨o', h⟩ <;> (rw [h] at g; cases g)
    | bH=>exact absurd hB hO
  | vw hO h=>
    intro y' g;obtain ⟨o, h⟩:=h
    cases g with
    | vw gO g=>
      obtain ⟨o', g⟩:=g;rw [h] at g;injection g with g; injection g with g1 g2; injection g2 with g2;congr 1
      exact zr g2
    | tup gO g gl gr=>rw [h] at g; cases g
    | lst gO g gl gr=>rw [h] at g; cases g
    | pR gO g gl gr=>rcases g with g | ⟨o', g⟩ <;> (rw [h] at g; cases g)
    | bH=>exact absurd hB hO
  | bH=>
    intro y' g
    cases g with
    | bH=>rfl
    | tup gO g gl gr=>exact absurd hB gO
    | lst gO g gl gr=>exact absurd hB gO
    | pR gO g gl gr=>exact absurd hB gO
    | vw gO g=>exact absurd hB gO
theorem rD {f : PV -> PV -> Option Bool} (hf : ∀ y c, f y y = some c -> c = true) : ∀ {a : List PV} {c : Bool}, eqs f a a = some c -> c = true
  | [], c, h=>by simp [eqs] at h; exact h
  | y :: r, c, h=>by
    simp only [eqs] at h
    cases h1 : f y y with
    | none=>rw [h1] at h; simp at h
    | some x=>
      rw [h1] at h;simp only [Option.bind_some] at h
      cases h2 : eqs f r r with
      | none=>rw [h2] at h; simp at h
      | some w=>
        rw [h2] at h;simp only [Option.bind_some, Option.some.injEq] at h;rw [<- h, hf _ _ h1, rD hf h2]; rfl
def rF {k : Nat} {y z : PV} (h1 : bT y = true) (h2 : bT z = true) : yj k y z = some (rR (toV y) (toV z)):=by
  cases k <;> cases y <;> cases z <;> first | rfl | (simp [bT, toV, ia] at h1; done) | (simp [bT, toV, ia] at h2; done)
def wA : ∀ (k : Nat) (y : PV) (c : Bool), yj k y y = some c -> c = true:=by
  intro k
  induction k with
  | zero=>
    intro y c h
    cases y <;> simp [yj, bT, toV, ia, rR] at h <;> (try exact h) <;> (try exact h.symm)
  | succ k ih=>
    intro y c h
    cases y with
    | lst a=>exact rD ih h
    | tup a=>exact rD ih h
    | _=>simp [yj, bT, toV, ia, rR] at h <;> (try exact h) <;> (try exact h.symm)
section
variable {X : Cx} {pZ : List (Addr × Obj)} {σ : St} {H : Hp} {s : Shared} {B : Addr} {O : Addr -> Prop}
def tF {A : Around} {y z : PV} {x x' : V} {u v : Value} (h1 : bT y = true) (h2 : bT z = true) (r1 : Rep B O H y x) (r2 : Rep B O H z x') (q1 : RelV x u) (q2 : RelV x' v) : SeqAt.EqAt A s u v (rR (toV y) (toV z)):=by
  rw [kI r1 h1] at q1;rw [kI r2 h2] at q2;exact DB q1 q2 h1 h2
def Gh (I : Inv X pZ σ H s) (hB : O B) : ∀ (k : Nat) (A : Around) (y z : PV) (x x' : V) (u v : Value) (c : Bool), Rep B O H y x -> Rep B O H z x' -> RelV x u -> RelV x' v -> yj k y z = some c -> A.units + k < cLine -> SeqAt.EqAt A s u v c:=by
  intro k
  induction k with
  | zero=>
    intro A y z x x' u v c r1 r2 q1 q2 e hu
    have f : bT y = true /\ bT z = true:=by
      unfold yj at e;by_cases h : (bT y && bT z) = true
      · simpa using h
      · cases y <;> cases z <;> simp_all [bT, toV, ia]
    rw [rF f.1 f.2] at e;cases e
    exact tF f.1 f.2 r1 r2 q1 q2
  | succ k ih=>
    intro A y z x x' u v c r1 r2 q1 q2 e hu;have gE : A.units < cLine:=by omega
    have hu1 : A.in1.units + k < cLine:=by show A.units + 1 + k < cLine; omega
    by_cases f : bT y = true /\ bT z = true
    · rw [rF f.1 f.2] at e;cases e;exact tF f.1 f.2 r1 r2 q1 q2
    cases r1 with
    | @lst p xs l hO h hl hr=>
      cases q1;obtain ⟨aY, v1, p1, _⟩:=I.list (fk.of (K:=X.K) h)
      cases r2 with
      | @lst p' xs' l' hO' h' hl' hr'=>
        cases q2;by_cases pe : p = p'
        · subst pe;have e1:=Rep.uniq hB (.lst hO h hl hr) (.lst hO' h' hl' hr');rw [e1] at e;rw [wA _ _ _ e];exact .same _
        · obtain ⟨cL, v2, p2, _⟩:=I.list (fk.of (K:=X.K) h');obtain ⟨g, hg, hc⟩:=rE e;refine .of_refs pe ?_;have e1 : aY.toArray.size = l.length:=by rw [LF, <- v1.length, hl]
          have e2 : cL.toArray.size = l'.length:=by rw [LF, <- v2.length, hl']
          by_cases hs : l.length = l'.length
          · have hh:=SeqAt.RcAt.lists (A:=A) (e:=g) p1.isList p2.isList (by rw [e1, e2, hs]) gE (λj h1 h2=>?_)
            · rw [hc, <- hs, Nat.min_self, Mv, Bool.and_true, <- e1]; exact hh
            · have j1 : j < l.length:=e1 ▸ h1;have j2 : j < l'.length:=e2 ▸ h2;obtain ⟨u1, a1, a2⟩:=v1.get (i:=j) (x:=xs[j]) (Lx _);obtain ⟨u2, b1, b2⟩:=v2.get (i:=j) (x:=xs'[j]) (Lx _)
              have a3 : aY.toArray[j] = u1:=by
                have:=(LG.mp a1).2;simpa using this
              have b3 : cL.toArray[j] = u2:=by
                have:=(LG.mp b1).2;simpa using this
              rw [a3, b3];exact ih A.in1 l[j] l'[j] _ _ _ _ _ (hr j _ _ (Lx j1) (Lx _)) (hr' j _ _ (Lx j2) (Lx _)) a2 b2 (hg j _ _ (Lx j1) (Lx j2)) hu1
          · have : c = false:=by rw [hc]; simp [hs]
            rw [this]
            exact SeqAt.RcAt.lists_lengths p1.isList p2.isList (by rw [e1, e2]; simpa using hs) gE
      | @tup p' xs' l' hO' h' hl' hr'=>
        cases q2;obtain ⟨cL, v2, p2, _⟩:=I.tuple (ji.of (K:=X.K) h');cases e
        exact .list_tuple p1.isList p2  gE
      | cB=>cases q2; cases e; exact .list_none p1.isList gE
      | bl b=>cases q2; cases e; exact .list_bool b p1.isList gE
      | int b=>obtain ⟨t, rfl⟩:=q2; cases e; exact .list_int b t p1.isList gE
      | str b=>obtain ⟨t, rfl⟩:=q2; cases e; exact .list_str b t p1.isList gE
      | _=>cases e
    | @tup p xs l hO h hl hr=>
      cases q1;obtain ⟨aY, v1, p1, _⟩:=I.tuple (ji.of (K:=X.K) h)
      cases r2 with
      | @tup p' xs' l' hO' h' hl' hr'=>
        cases q2;by_cases pe : p = p'
        · subst pe;have e1:=Rep.uniq hB (.tup hO h hl hr) (.tup hO' h' hl' hr');rw [e1] at e;rw [wA _ _ _ e];exact .same _
        · obtain ⟨cL, v2, p2, _⟩:=I.tuple (ji.of (K:=X.K) h');obtain ⟨g, hg, hc⟩:=rE e;refine .of_refs pe ?_;have e1 : aY.toArray.size = l.length:=by rw [LF, <- v1.length, hl]
          have e2 : cL.toArray.size = l'.length:=by rw [LF, <- v2.length, hl']
          have hh:=SeqAt.RcAt.tuples (A:=A) (e:=g) p1  p2  gE (λj h1 h2=>?_)
          · rw [hc, <- e1, <- e2]; exact hh
          · have j1 : j < l.length:=e1 ▸ h1;have j2 : j < l'.length:=e2 ▸ h2;obtain ⟨u1, a1, a2⟩:=v1.get (i:=j) (x:=xs[j]) (Lx _);obtain ⟨u2, b1, b2⟩:=v2.get (i:=j) (x:=xs'[j]) (Lx _)
            have a3 : aY.toArray[j] = u1:=by
              have:=(LG.mp a1).2;simpa using this
            have b3 : cL.toArray[j] = u2:=by
              have:=(LG.mp b1).2;simpa using this
            rw [a3, b3]
            exact ih A.in1 l[j] l'[j] _ _ _ _ _ (hr j _ _ (Lx j1) (Lx _)) (hr' j _ _ (Lx j2) (Lx _)) a2 b2 (hg j _ _ (Lx j1) (Lx j2)) hu1
      | @lst p' xs' l' hO' h' hl' hr'=>
        cases q2;obtain ⟨cL, v2, p2, _⟩:=I.list (fk.of (K:=X.K) h');cases e
        exact .tuple_list p1  p2.isList gE
      | cB=>cases q2; cases e; exact .tuple_none p1  gE
      | bl b=>cases q2; cases e; exact .tuple_bool b p1  gE
      | int b=>obtain ⟨t, rfl⟩:=q2; cases e; exact .tuple_int b t p1  gE
      | str b=>obtain ⟨t, rfl⟩:=q2; cases e; exact .tuple_str b t p1  gE
      | _=>cases e
    | cB=>
      cases r2 with
      | lst a h' b c=>cases q1; cases q2; obtain ⟨cL, v2, p2, _⟩:=I.list (fk.of (K:=X.K) h'); cases e; exact .none_list p2.isList gE
      | tup a h' b c=>cases q1; cases q2; obtain ⟨cL, v2, p2, _⟩:=I.tuple (ji.of (K:=X.K) h'); cases e; exact .none_tuple p2  gE
      | _=>first | exact absurd ⟨rfl, rfl⟩ f | cases e
    | bl b=>
      cases r2 with
      | lst a h' _ c=>cases q1; cases q2; obtain ⟨cL, v2, p2, _⟩:=I.list (fk.of (K:=X.K) h'); cases e; exact .bool_list b p2.isList gE
      | tup a h' _ c=>cases q1; cases q2; obtain ⟨cL, v2, p2, _⟩:=I.tuple (ji.of (K:=X.K) h'); cases e; exact .bool_tuple b p2  gE
      | _=>first | exact absurd ⟨rfl, rfl⟩ f | cases e
    | int b=>
      cases r2 with
      | lst a h' _ c=>obtain ⟨t, rfl⟩:=q1; cases q2; obtain ⟨cL, v2, p2, _⟩:=I.list (fk.of (K:=X.K) h'); cases e; exact .int_list b t p2.isList gE
      | tup a h' _ c=>obtain ⟨t, rfl⟩:=q1; cases q2; obtain ⟨cL, v2, p2, _⟩:=I.tuple (ji.of (K:=X.K) h'); cases e; exact .int_tuple b t p2  gE
      | _=>first | exact absurd ⟨rfl, rfl⟩ f | cases e
    | str b=>
      cases r2 with
      | lst a h' _ c=>obtain ⟨t, rfl⟩:=q1; cases q2; obtain ⟨cL, v2, p2, _⟩:=I.list (fk.of (K:=X.K) h'); cases e; exact .str_list b t p2.isList gE
      | tup a h' _ c=>obtain ⟨t, rfl⟩:=q1; cases q2; obtain ⟨cL, v2, p2, _⟩:=I.tuple (ji.of (K:=X.K) h'); cases e; exact .str_tuple b t p2  gE
      | _=>first | exact absurd ⟨rfl, rfl⟩ f | cases e
    | _=>cases z <;> cases e
end
section
variable {X : Cx}
def En {A : Around} {s : Shared} {y z : V} {u v : Value} (f1 : ia y = true) (f2 : ia z = true) (q1 : RelV y u) (q2 : RelV z v) : SeqAt.RcAt A s u v (rR y z) /\ SeqAt.RcNeAt A s u v (!rR y z):=by
  cases y with
  | cB=>
    cases q1
    cases z with
    | cB=>cases q2; exact ⟨.none_none, .none_none⟩
    | bl b=>cases q2; exact ⟨.none_bool b, .none_bool b⟩
    | int b=>obtain ⟨t, rfl⟩:=q2; exact ⟨.none_int b t, .none_int b t⟩
    | str b=>obtain ⟨t, rfl⟩:=q2; exact ⟨.none_str b t, .none_str b t⟩
    | _=>cases f2
  | bl a=>
    cases q1
    cases z with
    | cB=>cases q2; exact ⟨.bool_none a, .bool_none a⟩
    | bl b=>cases q2; exact ⟨.bool_bool a b, .bool_bool a b⟩
    | int b=>obtain ⟨t, rfl⟩:=q2; exact ⟨.bool_int a b t, .bool_int a b t⟩
    | str b=>obtain ⟨t, rfl⟩:=q2; exact ⟨.bool_str a b t, .bool_str a b t⟩
    | _=>cases f2
  | int a=>
    obtain ⟨t', rfl⟩:=q1
    cases z with
    | cB=>cases q2; exact ⟨.int_none a t', .int_none a t'⟩
    | bl b=>cases q2; exact ⟨.int_bool a t' b, .int_bool a t' b⟩
    | int b=>obtain ⟨t, rfl⟩:=q2; exact ⟨.int_int a t' b t, .int_int a t' b t⟩
    | str b=>obtain ⟨t, rfl⟩:=q2; exact ⟨.int_str a t' b t, .int_str a t' b t⟩
    | _=>cases f2
  | str a=>
    obtain ⟨t', rfl⟩:=q1
    cases z with
    | cB=>cases q2; exact ⟨.str_none a t', .str_none a t'⟩
    | bl b=>cases q2; exact ⟨.str_bool a t' b, .str_bool a t' b⟩
    | int b=>obtain ⟨t, rfl⟩:=q2; exact ⟨.str_int a t' b t, .str_int a t' b t⟩
    | str b=>obtain ⟨t, rfl⟩:=q2; exact ⟨.str_str a t' b t, .str_str a t' b t⟩
    | _=>cases f2
  | _=>cases f1
def FF {pZ : List (Addr × Obj)} {σ : St} {H : Hp} {s : Shared} {B : Addr} {O : Addr -> Prop} (I : Inv X pZ σ H s) (hB : O B) (k : Nat) (A : Around) (y z : PV) (x x' : V) (u v : Value) (c : Bool)
    (r1 : Rep B O H y x) (r2 : Rep B O H z x') (q1 : RelV x u) (q2 : RelV x' v) (e : yj (k + 1) y z = some c) (hu : A.units + (k + 1) < cLine) : SeqAt.RcAt A s u v c /\ SeqAt.RcNeAt A s u v (!c):=by
  have gE : A.units < cLine:=by omega
  have hu1 : A.in1.units + k < cLine:=by show A.units + 1 + k < cLine; omega
  by_cases f : bT y = true /\ bT z = true
  · rw [rF f.1 f.2] at e;cases e;rw [kI r1 f.1] at q1;rw [kI r2 f.2] at q2;exact En f.1 f.2 q1 q2
  cases r1 with
  | @lst p xs l hO h hl hr=>
    cases q1;obtain ⟨aY, v1, p1, _⟩:=I.list (fk.of (K:=X.K) h)
    cases r2 with
    | @lst p' xs' l' hO' h' hl' hr'=>
      cases q2;obtain ⟨cL, v2, p2, _⟩:=I.list (fk.of (K:=X.K) h');obtain ⟨g, hg, hc⟩:=rE e;have e1 : aY.toArray.size = l.length:=by rw [LF, <- v1.length, hl]
      have e2 : cL.toArray.size = l'.length:=by rw [LF, <- v2.length, hl']
      by_cases hs : l.length = l'.length
      · have he : ∀ j (h1 : j < aY.toArray.size) (h2 : j < cL.toArray.size), SeqAt.EqAt A.in1 s aY.toArray[j] cL.toArray[j] (g j):=λj h1 h2=>by
          have j1 : j < l.length:=e1 ▸ h1;have j2 : j < l'.length:=e2 ▸ h2;obtain ⟨u1, a1, a2⟩:=v1.get (i:=j) (x:=xs[j]) (Lx _);obtain ⟨u2, b1, b2⟩:=v2.get (i:=j) (x:=xs'[j]) (Lx _)
          have a3 : aY.toArray[j] = u1:=by
            have:=(LG.mp a1).2;simpa using this
          have b3 : cL.toArray[j] = u2:=by
            have:=(LG.mp b1).2;simpa using this
          rw [a3, b3];exact Gh I hB k A.in1 l[j] l'[j] _ _ _ _ _ (hr j _ _ (Lx j1) (Lx _)) (hr' j _ _ (Lx j2) (Lx _)) a2 b2 (hg j _ _ (Lx j1) (Lx j2)) hu1
        have h1:=SeqAt.RcAt.lists (A:=A) (e:=g) p1.isList p2.isList (by rw [e1, e2, hs]) gE he;have h2:=SeqAt.RcNeAt.lists (A:=A) (e:=g) p1.isList p2.isList (by rw [e1, e2, hs]) gE he;rw [hc, <- hs, Nat.min_self, Mv, Bool.and_true, <- e1]; exact ⟨h1, h2⟩
      · have : c = false:=by rw [hc]; simp [hs]
        rw [this]
        exact ⟨SeqAt.RcAt.lists_lengths p1.isList p2.isList (by rw [e1, e2]; simpa using hs) gE, SeqAt.RcNeAt.lists_lengths p1.isList p2.isList (by rw [e1, e2]; simpa using hs) gE⟩
    | @tup p' xs' l' hO' h' hl' hr'=>
      cases q2;obtain ⟨cL, v2, p2, _⟩:=I.tuple (ji.of (K:=X.K) h');cases e
      exact ⟨.list_tuple p1.isList p2 gE, .list_tuple p1.isList p2 gE⟩
    | cB=>cases q2; cases e; exact ⟨.list_none p1.isList gE, .list_none p1.isList gE⟩
    | bl b=>cases q2; cases e; exact ⟨.list_bool b p1.isList gE, .list_bool b p1.isList gE⟩
    | int b=>obtain ⟨t, rfl⟩:=q2; cases e; exact ⟨.list_int b t p1.isList gE, .list_int b t p1.isList gE⟩
    | str b=>obtain ⟨t, rfl⟩:=q2; cases e; exact ⟨.list_str b t p1.isList gE, .list_str b t p1.isList gE⟩
    | _=>cases e
  | @tup p xs l hO h hl hr=>
    cases q1;obtain ⟨aY, v1, p1, _⟩:=I.tuple (ji.of (K:=X.K) h)
    cases r2 with
    | @tup p' xs' l' hO' h' hl' hr'=>
      cases q2;obtain ⟨cL, v2, p2, _⟩:=I.tuple (ji.of (K:=X.K) h');obtain ⟨g, hg, hc⟩:=rE e;have e1 : aY.toArray.size = l.length:=by rw [LF, <- v1.length, hl]
      have e2 : cL.toArray.size = l'.length:=by rw [LF, <- v2.length, hl']
      have he : ∀ j (h1 : j < aY.toArray.size) (h2 : j < cL.toArray.size), SeqAt.EqAt A.in1 s aY.toArray[j] cL.toArray[j] (g j):=λj h1 h2=>by
        have j1 : j < l.length:=e1 ▸ h1;have j2 : j < l'.length:=e2 ▸ h2;obtain ⟨u1, a1, a2⟩:=v1.get (i:=j) (x:=xs[j]) (Lx _);obtain ⟨u2, b1, b2⟩:=v2.get (i:=j) (x:=xs'[j]) (Lx _)
        have a3 : aY.toArray[j] = u1:=by
          have:=(LG.mp a1).2;simpa using this
        have b3 : cL.toArray[j] = u2:=by
          have:=(LG.mp b1).2;simpa using this
        rw [a3, b3];exact Gh I hB k A.in1 l[j] l'[j] _ _ _ _ _ (hr j _ _ (Lx j1) (Lx _)) (hr' j _ _ (Lx j2) (Lx _)) a2 b2 (hg j _ _ (Lx j1) (Lx j2)) hu1
      have h1:=SeqAt.RcAt.tuples (A:=A) (e:=g) p1 p2 gE he;have h2:=SeqAt.RcNeAt.tuples (A:=A) (e:=g) p1 p2 gE he
      rw [hc, <- e1, <- e2]; exact ⟨h1, h2⟩
    | @lst p' xs' l' hO' h' hl' hr'=>
      cases q2;obtain ⟨cL, v2, p2, _⟩:=I.list (fk.of (K:=X.K) h');cases e
      exact ⟨.tuple_list p1 p2.isList gE, .tuple_list p1 p2.isList gE⟩
    | cB=>cases q2; cases e; exact ⟨.tuple_none p1 gE, .tuple_none p1 gE⟩
    | bl b=>cases q2; cases e; exact ⟨.tuple_bool b p1 gE, .tuple_bool b p1 gE⟩
    | int b=>obtain ⟨t, rfl⟩:=q2; cases e; exact ⟨.tuple_int b t p1 gE, .tuple_int b t p1 gE⟩
    | str b=>obtain ⟨t, rfl⟩:=q2; cases e; exact ⟨.tuple_str b t p1 gE, .tuple_str b t p1 gE⟩
    | _=>cases e
  | cB=>
    cases r2 with
    | lst a h' b c=>cases q1; cases q2; obtain ⟨cL, v2, p2, _⟩:=I.list (fk.of (K:=X.K) h'); cases e; exact ⟨.none_list p2.isList gE, .none_list p2.isList gE⟩
    | tup a h' b c=>cases q1; cases q2; obtain ⟨cL, v2, p2, _⟩:=I.tuple (ji.of (K:=X.K) h'); cases e; exact ⟨.none_tuple p2 gE, .none_tuple p2 gE⟩
    | _=>first | exact absurd ⟨rfl, rfl⟩ f | cases e
  | bl b=>
    cases r2 with
    | lst a h' _ c=>cases q1; cases q2; obtain ⟨cL, v2, p2, _⟩:=I.list (fk.of (K:=X.K) h'); cases e; exact ⟨.bool_list b p2.isList gE, .bool_list b p2.isList gE⟩
    | tup a h' _ c=>cases q1; cases q2; obtain ⟨cL, v2, p2, _⟩:=I.tuple (ji.of (K:=X.K) h'); cases e; exact ⟨.bool_tuple b p2 gE, .bool_tuple b p2 gE⟩
    | _=>first | exact absurd ⟨rfl, rfl⟩ f | cases e
  | int b=>
    cases r2 with
    | lst a h' _ c=>obtain ⟨t, rfl⟩:=q1; cases q2; obtain ⟨cL, v2, p2, _⟩:=I.list (fk.of (K:=X.K) h'); cases e; exact ⟨.int_list b t p2.isList gE, .int_list b t p2.isList gE⟩
    | tup a h' _ c=>obtain ⟨t, rfl⟩:=q1; cases q2; obtain ⟨cL, v2, p2, _⟩:=I.tuple (ji.of (K:=X.K) h'); cases e; exact ⟨.int_tuple b t p2 gE, .int_tuple b t p2 gE⟩
    | _=>first | exact absurd ⟨rfl, rfl⟩ f | cases e
  | str b=>
    cases r2 with
    | lst a h' _ c=>obtain ⟨t, rfl⟩:=q1; cases q2; obtain ⟨cL, v2, p2, _⟩:=I.list (fk.of (K:=X.K) h'); cases e; exact ⟨.str_list b t p2.isList gE, .str_list b t p2.isList gE⟩
    | tup a h' _ c=>obtain ⟨t, rfl⟩:=q1; cases q2; obtain ⟨cL, v2, p2, _⟩:=I.tuple (ji.of (K:=X.K) h'); cases e; exact ⟨.str_tuple b t p2 gE, .str_tuple b t p2 gE⟩
    | _=>first | exact absurd ⟨rfl, rfl⟩ f | cases e
  | _=>cases z <;> cases e
def GP (neg : Bool) : R2:=λx y H Q=>∃ (B : Addr) (O : Addr -> Prop) (a b : PV) (c : Bool), O B /\ Rep B O H a x /\ Rep B O H b y /\ yj 20 a b = some c /\ Q (.bl (xor neg c)) H
def bI (hU : X.A.units + 64 < cLine) : jj X (compareOp .Eq) (GP false):=by
  intro pZ s σ H x y v u Q I rx ry h;obtain ⟨B, O, a, b, c, hB, r1, r2, e, q⟩:=h;exact (FF I hB 19 X.A a b x y v u c r1 r2 rx ry e (by omega)).1 _ _ _ _ (ff I q (by cases c <;> rfl))
def mV (hU : X.A.units + 64 < cLine) : jj X (compareOp .NotEq) (GP true):=by
  intro pZ s σ H x y v u Q I rx ry h;obtain ⟨B, O, a, b, c, hB, r1, r2, e, q⟩:=h;exact (FF I hB 19 X.A a b x y v u c r1 r2 rx ry e (by omega)).2 _ _ _ _ (ff I q (by cases c <;> rfl))
end
def f6 (neg : Bool) (y z : PV) : M PV:=(M.dW (yj 20 y z)).bind λc=>.ret (.bl (xor neg c))
def bY (neg : Bool) : pj (GP neg) (f6 neg):=λφ G O H n R Q y z x x' pr dm ok r1 r2 w q=>by
  unfold f6 at w
  cases e : yj 20 y z with
  | none=>rw [e] at w; exact w.elim
  | some c=>rw [e] at w; exact ⟨G.B, G.fL, y, z, c, G.pB, r1.low pr, r2.low pr, e, q.sc ok (.bl _) w⟩
noncomputable def sh (C : Int -> Int -> Prop) [∀ i j, Decidable (C i j)] (f : Int -> Int -> PV) : PV -> PV -> M PV
  | .int i, .int j=>if C i j then .ret (f i j) else .fail
  | _, _=>.fail
def xG {C : Int -> Int -> Prop} [∀ i j, Decidable (C i j)] {f : Int -> Int -> PV} {g : Int -> Int -> V} (hf : ∀ B O H i j, Rep B O H (f i j) (g i j)) : pj (rI C g) (sh C f):=λφ G O H n R Q y z x x' pr dm ok r1 r2 w q=>by
  cases y <;> cases z <;> first | exact w.elim | skip
  rename_i i j;rw [r1.fD, r2.fD];unfold sh at w;dsimp only at w;by_cases hc : C i j
  · rw [Mk hc] at w; exact ⟨i, j, rfl, rfl, hc, q.sc ok (hf _ _ _ _ _) w⟩
  · rw [Ml hc] at w; exact w.elim
noncomputable def gS (f : Int -> Int -> Bool) : PV -> PV -> M PV
  | .int i, .int j=>.ret (.bl (f i j))
  | _, _=>.fail
def zc {f : Int -> Int -> Bool} : pj (yT λi j=>.bl (f i j)) (gS f):=λφ G O H n R Q y z x x' pr dm ok r1 r2 w q=>by
  cases y <;> cases z <;> first | exact w.elim | skip
  rename_i i j;rw [r1.fD, r2.fD];exact ⟨i, j, rfl, rfl, q.sc ok (.bl _) w⟩
def mx:=gS λi j=>decide (i < j)
def mH:=gS λi j=>decide (j < i)
def rQ:=gS λi j=>decide (j <= i)
def zd : pj (yT λi j=>.bl (decide (i < j))) mx:=zc
def ze : pj (yT λi j=>.bl (decide (j < i))) mH:=zc
def eU : PV -> PV -> M PV
  | .int i, .int j=>.ret (.int (i - j))
  | _, _=>.fail
def kh : pj (yT λi j=>.int (i - j)) eU:=λφ G O H n R Q y z x x' pr dm ok r1 r2 w q=>by
  cases y <;> cases z <;> first | exact w.elim | skip
  rename_i i j;rw [r1.fD, r2.fD];exact ⟨i, j, rfl, rfl, q.sc ok (.int _) w⟩
instance (i j : Int) : Decidable (qa i j):=by unfold qa; infer_instance
instance (i j : Int) : Decidable (DV i j):=by unfold DV; infer_instance
instance (i j : Int) : Decidable (Bi i j):=by unfold Bi; infer_instance
def v9:=sh (λ_ j=>0 < j) λi j=>.int (i % j)
def rA:=sh Bi λi j=>.int (i / j)
def vL:=sh DV λi j=>.int (i ^ j.toNat)
def CC : pj (rI (λ_ j=>0 < j) λi j=>.int (i % j)) v9:=xG λ_ _ _ _ _=>.int _
def zf : pj (rI Bi λi j=>.int (i / j)) rA:=xG λ_ _ _ _ _=>.int _
def xF : pj (rI DV λi j=>.int (i ^ j.toNat)) vL:=xG λ_ _ _ _ _=>.int _
def FO (K : Frag) : R2:=λx y H Q=>(yT λi j=>.int (i + j)) x y H Q \/ (∃ i j, x = .str i /\ y = .str j /\ i.length + j.length <= sizeLine /\ Q (.str (i ++ j)) H) \/ IY x y H Q \/ FN K x y H Q \/
  (∃ a b ys, x = .ref a /\ y = .ref b /\ H a = some (.tup []) /\ H b = some (.tup ys) /\ Q (.ref b) H)
def CH {X : Cx} : jj X (binaryOp .Add) (λx y H Q=>∃ a b ys, x = .ref a /\ y = .ref b /\ H a = some (.tup []) /\ H b = some (.tup ys) /\ Q (.ref b) H):=by
  intro pZ s σ H x y v u Q I rx ry h;obtain ⟨a, b, ys, rfl, rfl, ha, hb, q⟩:=h;cases rx;cases ry;obtain ⟨aY, r1, p1, _⟩:=I.tuple (ji.of (K:=X.K) ha);obtain ⟨Dd, r2, p2, _⟩:=I.tuple (ji.of (K:=X.K) hb);cases r1;obtain ⟨⟨cls, dd, data, sl⟩, ho, hc, n, hd⟩:=id p1;obtain ⟨⟨cls2, dd2, data2, sl2⟩, ho2, hc2, n2, hd2⟩:=id p2;simp only at hc hd hc2 hd2;subst hc hd hc2 hd2
  exact concat_meets ⟨_, ho, rfl⟩ ⟨_, ho2, rfl⟩ noFill_tuple_add seq_tuple_add PySem.F.slot_tuple_add PySem.F.entry_tuple_add (PySem.F.args_tuple_add_2 _ _)
      (tuple_addW0 a b _ Dd.toArray n n2 dd dd2 sl sl2 rfl) ⟨ho, ho2, ⟨.ref b, H, I, rfl, q⟩⟩
def cK {X : Cx} : jj X (binaryOp .Add) (FO X.K):=jT.or (xJ.or (G9.or (EI.or CH)))
noncomputable def dq : PV -> PV -> M PV
  | .int i, .int j=>.ret (.int (i + j))
  | .str i, .str j=>if i.length + j.length <= 100000 then .ret (.str (i ++ j)) else .fail
  | .lst a, .lst b=>if a.length + b.length <= 100000 then .ret (.lst (a ++ b)) else .fail
  | .tup a, .tup b=>if a.length + b.length <= 100000 then .ret (.tup (a ++ b)) else .fail
  | _, _=>.fail
def dZ {K : Frag} : pj (FO K) dq:=λφ G O H n R Q y z x x' pr dm ok r1 r2 w q=>by
  have hB : O G.B:=pr _ G.pB;cases y <;> cases z <;> first | exact w.elim | skip
  · rename_i i j;rw [r1.fD, r2.fD];exact .inl ⟨i, j, rfl, rfl, q.sc ok (.int _) w⟩
  · rename_i i j;rw [r1.gz, r2.gz];unfold dq at w;dsimp only at w;by_cases hc : i.length + j.length <= 100000
    · rw [Mk hc] at w; exact .inr (.inl ⟨i, j, rfl, rfl, LV hc iC, q.sc ok (.str _) w⟩)
    · rw [Ml hc] at w; exact w.elim
  · rename_i i j;obtain ⟨a, xs, rfl, h1, e1⟩:=r1.lB;obtain ⟨b, ys, rfl, h2, e2⟩:=r2.lB;unfold dq at w;dsimp only at w;by_cases hc : i.length + j.length <= 100000
    · rw [Mk hc] at w;by_cases hn : i = []
      · subst hn;rw [e1.nil_inv] at h1
        cases r2 with
        | full r2=>exact .inr (.inr (.inr (.inr ⟨a, b, ys, rfl, rfl, h1, h2, q.sc ok r2 w⟩)))
      · refine .inr (.inr (.inr (.inl ⟨a, b, xs, ys, rfl, rfl, ji.of h1, ji.of h2, λz=>hn ?_, LV (by rw [<- e1.1, <- e2.1]; exact hc) iC, λhz=>?_, λ_ p hp=>q.tup ok dm hp hB (e1.append e2) w⟩)))
        · subst z; exact Mc e1.1
        · subst hz;have : j = []:=Mc e2.1;subst this;rw [MD] at w
          cases r1 with
          | full r1=>exact q.sc ok r1 w
    · rw [Ml hc] at w; exact w.elim
  · rename_i i j;obtain ⟨a, xs, rfl, h1, e1⟩:=r1.kG;obtain ⟨b, ys, rfl, h2, e2⟩:=r2.kG;unfold dq at w;dsimp only at w;by_cases hc : i.length + j.length <= 100000
    · rw [Mk hc] at w;exact .inr (.inr (.inl ⟨a, b, xs, ys, rfl, rfl, h1, h2, LV (by rw [<- e1.1, <- e2.1]; exact hc) iC, λp hp=>q.lst ok dm hp hB (e1.append e2) w⟩))
    · rw [Ml hc] at w; exact w.elim
noncomputable def oN (i : Str) (k : Int) : Str:=⟨(List.replicate k.toNat i.cps).foldl (· ++ ·) #[]⟩
def FI : R2:=λx y H Q=>∃ i k, x = .str i /\ y = .int k /\ (1 < k /\ k < 1000 /\ 0 < i.length /\ i.length < 1000 /\ (oN i k).length <= 100000) /\ Q (.str (oN i k)) H
def Cj : R2:=λx y H Q=>rI qa (λi j=>.int (i * j)) x y H Q \/ FI x y H Q \/ IS x y H Q
def EE {X : Cx} : jj X (binaryOp .Mult) FI:=by
  intro pZ s σ H x y v u Q I rx ry h;obtain ⟨i, k, rfl, rfl, ⟨h1, h2, h3, h4, h5⟩, q⟩:=h;obtain ⟨t, rfl⟩:=rx;obtain ⟨t', rfl⟩:=ry
  have e1 : ¬ k < -(2 ^ 63 : Int):=by
    have : (2 : Int) ^ 63 = 9223372036854775808:=by decide
    omega
  have e2 : ¬ k ≥ 2 ^ 63:=by
    have : (2 : Int) ^ 63 = 9223372036854775808:=by decide
    omega
  have hz : (i.length * k.toNat) <= 1000000:=LV (Nat.mul_le_mul (Nat.le_of_lt h4) (by omega : k.toNat <= 1000)) (by decide)
  have jx : (k == 1 || i.length == 0) = false:=by
    simp only [Bool.or_eq_false_iff, beq_eq_false_iff_ne];exact ⟨by omega, by omega⟩
  refine PySem.P.mul_str (by rw [LZ e1, LZ e2]; rfl) (λ_ _ hgt=>?_) (λ_ _=>?_) ?_
  · have : (i.length : Int) <= (2 ^ 63 - 1) / k:=by
      rw [Int.le_ediv_iff_mul_le (by omega)];have : (i.length : Int) * k <= 1000 * 1000:=Int.mul_le_mul (by omega) (by omega) (by omega) (by omega);have e : (2 : Int) ^ 63 - 1 = 9223372036854775807:=by decide
      omega
    omega
  · have hs : sizeLine = 16777216:=Md;show decide (i.length * k.toNat > sizeLine) = false;exact LZ (by omega)
  · rw [Ml (by omega), Ml (by rw [jx]; simp)];exact ⟨LV h5 iC, ⟨.str (oN i k), H, I.tok _, ⟨_, rfl⟩, q⟩⟩
def EH {X : Cx} : jj X (binaryOp .Mult) Cj:=oV.or (EE.or G8)
def xX : PV -> PV -> M PV
  | .int i, .int j=>if qa i j then .ret (.int (i * j)) else .fail
  | .str i, .int k=>if 1 < k /\ k < 1000 /\ 0 < i.length /\ i.length < 1000 /\ (oN i k).length <= 100000 then .ret (.str (oN i k)) else .fail
  | .lst l, .int k=>if -1000 < k /\ k < 1000 /\ l.length * k.toNat <= 100000 then .ret (.lst (List.replicate k.toNat l).flatten) else .fail
  | _, _=>.fail
theorem bC.rep {B : Addr} {O : Addr -> Prop} {H : Hp} {l : List PV} {xs : List V} (h : bC B O H l xs) : ∀ k : Nat, bC B O H (List.replicate k l).flatten (List.replicate k xs).flatten
  | 0=>.nil
  | k + 1=>by rw [List.replicate_succ, List.replicate_succ, List.flatten_cons, List.flatten_cons]; exact h.append (bC.rep h k)
def G7 : pj Cj xX:=λφ G O H n R Q y z x x' pr dm ok r1 r2 w q=>by
  have hB : O G.B:=pr _ G.pB;cases y <;> cases z <;> first | exact w.elim | skip
  · rename_i i j;rw [r1.fD, r2.fD];unfold xX at w;dsimp only at w;by_cases hc : qa i j
    · rw [Mk hc] at w; exact .inl ⟨i, j, rfl, rfl, hc, q.sc ok (.int _) w⟩
    · rw [Ml hc] at w; exact w.elim
  · rename_i i k;rw [r1.gz, r2.fD];unfold xX at w;dsimp only at w;by_cases hc : 1 < k /\ k < 1000 /\ 0 < i.length /\ i.length < 1000 /\ (oN i k).length <= 100000
    · rw [Mk hc] at w; exact .inr (.inl ⟨i, k, rfl, rfl, hc, q.sc ok (.str _) w⟩)
    · rw [Ml hc] at w; exact w.elim
  · rename_i l k;obtain ⟨a, xs, rfl, h1, e1⟩:=r1.kG;rw [r2.fD];unfold xX at w;dsimp only at w;by_cases hc : -1000 < k /\ k < 1000 /\ l.length * k.toNat <= 100000
    · rw [Mk hc] at w;have e : (2 : Int) ^ 63 = 9223372036854775808:=by decide
      exact .inr (.inr ⟨a, k, xs, rfl, rfl, h1, by omega, by omega, LV (by rw [<- e1.1]; exact hc.2.2) iC, λp hp=>q.lst ok dm hp hB (e1.rep _) w⟩)
    · rw [Ml hc] at w; exact w.elim
theorem ed.rn {G : Bg φ} {O : Addr -> Prop} {H : Hp} : ∀ {l : List PV} {xs : List V}, bC G.B O H l xs -> l.all bT = true -> xs = l.map toV
  | [], xs, h, _=>h.nil_inv
  | y :: l, xs, h, f=>by
    obtain ⟨x, r, rfl, h1, h2⟩:=h.cons_inv;rw [List.all_cons, Mb] at f;rw [LJ, kI h1 f.1, ed.rn h2 f.2]
def IX (K : Frag) (neg : Bool) : R2:=λx y H Q=>Le K neg x y H Q \/ ∃ i j, x = .str i /\ y = .str j /\ Q (.bl (xor neg (!(Builtin.Str.occurrences j i 0 j.length 1).isEmpty))) H
def CG {X : Cx} : jj X (compareOp .In) (IX X.K false):=by
  intro pZ s σ H x y v u Q I rx ry h;rcases h with h | ⟨i, j, h1, h2, q⟩
  · exact Au pZ s σ H x y v u Q I rx ry h
  · exact As pZ s σ H x y v u Q I rx ry ⟨i, j, h1, h2, by simpa using q⟩
def si (y : PV) (l : List PV) : Bool:=l.any λz=>rR (toV z) (toV y)
def Hx (neg : Bool) : PV -> PV -> M PV
  | .str i, .str j=>.ret (.bl (xor neg (!(Builtin.Str.occurrences j i 0 j.length 1).isEmpty)))
  | y, .lst l=>if bT y && l.all bT then .ret (.bl (xor neg (si y l))) else .fail
  | y, .tup l=>if bT y && l.all bT then .ret (.bl (xor neg (si y l))) else .fail
  | _, _=>.fail
def zu (y : PV) (l : List PV) : Kf (toV y) (l.map toV) = si y l:=by unfold Kf si; rw [List.any_map]; rfl
def FT {K : Frag} (neg : Bool) : pj (IX K neg) (Hx neg):=λφ G O H n R Q y z x x' pr dm ok r1 r2 w q=>by
  cases z with
  | lst l=>
    have w' : (if (bT y && l.all bT) = true then M.ret (.bl (xor neg (si y l))) else M.fail : M PV).wp n R:=by cases y <;> exact w
    by_cases hc : (bT y && l.all bT) = true
    · rw [Mk hc] at w';rw [Mb] at hc;obtain ⟨p, xs, rfl, h1, e1⟩:=r2.kG;have e2:=ed.rn e1 hc.2;rw [tD r1 hc.1];refine .inl ⟨p, xs, rfl, .inl (fk.of h1), hc.1, ?_, ?_⟩
      · rw [e2, List.all_map]; exact hc.2
      · rw [e2, zu]; cases neg <;> simpa using q.sc ok (.bl _) w'
    · rw [Ml hc] at w'; exact w'.elim
  | tup l=>
    have w' : (if (bT y && l.all bT) = true then M.ret (.bl (xor neg (si y l))) else M.fail : M PV).wp n R:=by cases y <;> exact w
    by_cases hc : (bT y && l.all bT) = true
    · rw [Mk hc] at w';rw [Mb] at hc;obtain ⟨p, xs, rfl, h1, e1⟩:=r2.lB;have e2:=ed.rn e1 hc.2;rw [tD r1 hc.1];refine .inl ⟨p, xs, rfl, .inr (ji.of h1), hc.1, ?_, ?_⟩
      · rw [e2, List.all_map]; exact hc.2
      · rw [e2, zu]; cases neg <;> simpa using q.sc ok (.bl _) w'
    · rw [Ml hc] at w'; exact w'.elim
  | str j=>
    cases y <;> first | exact w.elim | skip
    rename_i i;rw [r1.gz, r2.gz]
    exact .inr ⟨i, j, rfl, rfl, q.sc ok (.bl _) w⟩
  | _=>cases y <;> exact w.elim
def JC : PV -> Bool
  | .cB=>true
  | _=>false
def KU (neg : Bool) (y z : PV) : M PV:=match z with | .cB=>.ret (.bl (xor neg (JC y))) | _=>.fail
def E2 {G : Bg φ} {O : Addr -> Prop} {H : Hp} {y : PV} {x : V} (r : ed G O H y x) : decide (x = .cB) = JC y:=by
  cases r with
  | full h=>cases h <;> rfl
  | top _ _ _=>rfl
  | xm _ _ _=>rfl
def EC : pj (λx y H Q=>y = .cB /\ Q (.bl (!decide (x = .cB))) H) (KU true):=λφ G O H n R Q y z x x' pr dm ok r1 r2 w q=>by
  cases z <;> first | exact w.elim | skip
  refine ⟨r2.FV, q.sc ok (y:=.bl (!JC y)) (by rw [E2 r1]; exact .bl _) ?_⟩;have w' : R (.bl (xor true (JC y))) n:=w;simpa using w'
noncomputable def Bk (i j : Str) : Bool:=!decide (j.cps.toList < i.cps.toList)
def IT : R2:=λx y H Q=>(yT λi j=>.bl (decide (i <= j))) x y H Q \/ ∃ i j, x = .str i /\ y = .str j /\ Q (.bl (!decide (j.cps.toList < i.cps.toList))) H
def kq {X : Cx} : jj X (compareOp .LtE) IT:=Ji.or Ar
def cS : PV -> PV -> M PV
  | .int i, .int j=>.ret (.bl (decide (i <= j)))
  | .str i, .str j=>.ret (.bl (Bk i j))
  | _, _=>.fail
def kj : pj IT cS:=λφ G O H n R Q y z x x' pr dm ok r1 r2 w q=>by
  cases y <;> cases z <;> first | exact w.elim | skip
  · rename_i i j;rw [r1.fD, r2.fD];exact .inl ⟨i, j, rfl, rfl, q.sc ok (.bl _) w⟩
  · rename_i i j;rw [r1.gz, r2.gz];exact .inr ⟨i, j, rfl, rfl, q.sc ok (.bl _) w⟩
def xa {B : Addr} {O : Addr -> Prop} {H : Hp} {l : List PV} {xs : List V} (h : bC B O H l xs) {i : Int} {y : PV} (e : jY l i = some y) : ∃ x, jY xs i = some x /\ Rep B O H y x:=by
  unfold jY at e ⊢;rw [<- h.1]
  cases q : Bm l.length i with
  | none=>rw [q] at e; cases e
  | some j=>rw [q] at e; exact h.at e
def bJ : PV -> PV -> M PV
  | .lst l, .int i=>.dW (jY l i)
  | .tup l, .int i=>.dW (jY l i)
  | .str z, .int i=>if z.length <= 100000 then (M.dW (jY z.cps.toList i)).bind λc=>.ret (.str ⟨#[c]⟩) else .fail
  | _, _=>.fail
def bo {K : Frag} : pj (Ld K) bJ:=λφ G O H n R Q y z x x' pr dm ok r1 r2 w q=>by
  cases y <;> cases z <;> first | exact w.elim | skip
  · rename_i s i;rw [r1.gz, r2.fD];unfold bJ at w;dsimp only at w;by_cases hc : s.length <= 100000
    · rw [Mk hc] at w
      cases e : jY s.cps.toList i with
      | none=>rw [e] at w; exact w.elim
      | some c=>rw [e] at w; exact .inr (.inr ⟨s, i, c, rfl, rfl, LV hc iC, e, q.sc ok (.str _) w⟩)
    · rw [Ml hc] at w; exact w.elim
  · rename_i l i;obtain ⟨p, xs, rfl, h1, e1⟩:=r1.lB;rw [r2.fD];unfold bJ at w;dsimp only at w
    cases e : jY l i with
    | none=>rw [e] at w; exact w.elim
    | some y=>
      rw [e] at w;obtain ⟨v, a, b⟩:=xa e1 e;exact .inr (.inl ⟨p, xs, i, v, rfl, rfl, ji.of h1, a, q.sc ok b w⟩)
  · rename_i l i;obtain ⟨p, xs, rfl, h1, e1⟩:=r1.kG;rw [r2.fD];unfold bJ at w;dsimp only at w
    cases e : jY l i with
    | none=>rw [e] at w; exact w.elim
    | some y=>
      rw [e] at w;obtain ⟨v, a, b⟩:=xa e1 e;exact .inl ⟨p, xs, i, v, rfl, rfl, fk.of h1, a, q.sc ok b w⟩
section
variable {X : Cx} {e : Expr} {es : List Expr} {me : ak -> M PV} {ml : ak -> M (List PV)}
def BA.mono {t t' : TA} (h : BA X es t) (f : ∀ σ H Q, t' σ H Q -> t σ H Q) : BA X es t':=⟨λpos pZ s σ H Q I q=>h.out pos pZ s σ H Q I (f σ H Q q)⟩
def aa (me : ak -> M PV) (ml : ak -> M (List PV)) : ak -> M (List PV):=λρ=>(me ρ).bind λy=>(ml ρ).bind λl=>.ret (y :: l)
def av : AV φ X [] (λ_=>.ret []):=BA.mono ⟨jq⟩ λσ H Q ⟨G, O, ρ, n, R, s, w, q⟩=>q [] [] H n (Ext.refl _ _) s.ok .nil w
def ae (h : EV φ X e me) (t : AV φ X es ml) (hs : isStar e = false:=by rfl) : AV φ X (e :: es) (aa me ml):=BA.mono ⟨xE h.out t.out hs⟩ λσ H Q ⟨G, O, ρ, n, R, s, w, q⟩=>by
  unfold aa at w;rw [M.wZ] at w;refine ⟨G, O, ρ, n, _, s, w, λy x H1 n1 e1 du r1 w1=>?_⟩;rw [M.wZ] at w1;exact ⟨G, O, ρ, n1, _, s.ext e1 du, w1, λl xs H2 n2 e2 oY r2 w2=>q (y :: l) (x :: xs) H2 n2 (e1.trans e2) oY (.cons (r1.ext s.B e2) r2) w2⟩
def jh.nil {G : Bg φ} {O : Addr -> Prop} {H : Hp} : jh G O H [] []:=⟨rfl, λi y x a=>by simp at a⟩
def jh.cons {G : Bg φ} {O : Addr -> Prop} {H : Hp} {y : PV} {x : V} {l : List PV} {xs : List V} (h : ed G O H y x) (t : jh G O H l xs) : jh G O H (y :: l) (x :: xs):=⟨by simp [t.1], λi y' x' a b=>by
  cases i with
  | zero=>simp at a b; subst a b; exact h
  | succ i=>simp at a b; exact t.2 i y' x' a b⟩
def jh.nil_inv {G : Bg φ} {O : Addr -> Prop} {H : Hp} {xs : List V} (h : jh G O H [] xs) : xs = []:=Mc h.1.symm
def jh.cons_inv {G : Bg φ} {O : Addr -> Prop} {H : Hp} {y : PV} {l : List PV} {xs : List V} (h : jh G O H (y :: l) xs) : ∃ x r, xs = x :: r /\ ed G O H y x /\ jh G O H l r:=by
  cases xs with
  | nil=>have:=h.1; simp at this
  | cons x r=>exact ⟨x, r, rfl, h.2 0 y x rfl rfl, by simpa using h.1, λi y' x' a b=>h.2 (i + 1) y' x' (by simpa using a) (by simpa using b)⟩
def jh.one {G : Bg φ} {O : Addr -> Prop} {H : Hp} {y : PV} {xs : List V} (h : jh G O H [y] xs) : ∃ x, xs = [x] /\ ed G O H y x:=by
  obtain ⟨x, r, rfl, a, b⟩:=h.cons_inv;rw [b.nil_inv]; exact ⟨x, rfl, a⟩
def jh.two {G : Bg φ} {O : Addr -> Prop} {H : Hp} {y z : PV} {xs : List V} (h : jh G O H [y, z] xs) : ∃ x x', xs = [x, x'] /\ ed G O H y x /\ ed G O H z x':=by
  obtain ⟨x, r, rfl, a, b⟩:=h.cons_inv;obtain ⟨x', rfl, c⟩:=b.one;exact ⟨x, x', rfl, a, c⟩
def aN : AB φ X [] (λ_=>.ret []):=BA.mono ⟨jq⟩ λσ H Q ⟨G, O, ρ, n, R, s, w, q⟩=>q [] [] H n (Ext.refl _ _) s.ok .nil w
def aC (h : EB φ X e me) (t : AB φ X es ml) (hs : isStar e = false:=by rfl) : AB φ X (e :: es) (aa me ml):=BA.mono ⟨xE h.out t.out hs⟩ λσ H Q ⟨G, O, ρ, n, R, s, w, q⟩=>by
  unfold aa at w;rw [M.wZ] at w;refine ⟨G, O, ρ, n, _, s, w, λy x H1 n1 e1 du r1 w1=>?_⟩;rw [M.wZ] at w1;exact ⟨G, O, ρ, n1, _, s.ext e1 du, w1, λl xs H2 n2 e2 oY r2 w2=>q (y :: l) (x :: xs) H2 n2 (e1.trans e2) oY (.cons (r1.ext s.B e2) r2) w2⟩
def bE (l : List PV) : M PV:=if l.length <= 100000 then .ret (.tup l) else .fail
def bb (l : List PV) : M (List PV):=if l.length <= 100000 then .ret l else .fail
def iA {k : Nat} {pos : Pos} (h : AV φ X es ml) : EV φ X (.Tuple es k pos) (λρ=>(ml ρ).bind bE):=BE.mono ⟨uu h.out⟩ λσ H Q ⟨G, O, ρ, n, R, s, w, q⟩=>by
  rw [M.wZ] at w;refine ⟨G, O, ρ, n, _, s, w, λl xs H1 n1 e1 du r1 w1=>?_⟩;unfold bE at w1;by_cases hc : l.length <= 100000
  · rw [Mk hc] at w1;refine ⟨LV (by rw [<- r1.1]; exact hc) iC, λp hp=>?_⟩;have q' : ph G O H1 R Q:=λy x H' n' e o r h=>q y x H' n' (e1.trans e) o r h;exact q'.tup du (s.ext e1 du).dm hp s.B r1 w1
  · rw [Ml hc] at w1; exact w1.elim
def dS {pos : Pos} (h : AV φ X es ml) : EF φ X (.List es pos) (λρ=>(ml ρ).bind bb):=BE.mono ⟨Cz h.out⟩ λσ H Q ⟨G, O, ρ, n, R, s, w, q⟩=>by
  rw [M.wZ] at w;refine ⟨G, O, ρ, n, _, s, w, λl xs H1 n1 e1 du r1 w1=>?_⟩;unfold bb at w1;by_cases hc : l.length <= 100000
  · rw [Mk hc] at w1;refine ⟨LV (by rw [<- r1.1]; exact hc) iC, λp hp=>?_⟩;have e2:=Ext.new (B:=G.B) hp (.lst xs)
    refine q l p xs _ n1 (e1.trans e2) (Bg.new du hp _) ?_ aA ((r1.grow λq z=>by
      rcases z with z | z
      · exact .inl z
      · subst z; exact .inr hp).ext (.inl s.B) e2) w1
    cases hh : H p with
    | none=>rfl
    | some o=>
      by_cases pb : p = G.B
      · subst pb; obtain ⟨o', g⟩:=G.DX _ _ _ du G.pB; rw [hp] at g; cases g
      · obtain ⟨_, this⟩:=(e1 p o pb hh).there; rw [hp] at this; cases this
  · rw [Ml hc] at w1; exact w1.elim
def mX {G : Bg φ} {H H1 : Hp} {n : Nat} (e1 : Ext G.B H H1) (du : G.ok H1 n) {p : Addr} (hp : H1 p = none) : H p = none:=by
  cases hh : H p with
  | none=>rfl
  | some o=>
    by_cases pb : p = G.B
    · subst pb; obtain ⟨o', g⟩:=G.DX _ _ _ du G.pB; rw [hp] at g; cases g
    · obtain ⟨_, this⟩:=(e1 p o pb hh).there; rw [hp] at this; cases this
def p4 (r : List V -> Hp -> VK -> Prop) (op : List PV -> M PV) : Prop:=∀ (φ : iE) (G : Bg φ) (O : Addr -> Prop) (H : Hp) (n : Nat) (R : PV -> Nat -> Prop) (Q : VK) (l : List PV) (xs : List V),
  (∀ p, G.fL p -> O p) -> (∀ p, O p -> ∃ o, H p = some o) -> G.ok H n -> jh G O H l xs -> (op l).wp n R -> ph G O H R Q -> r xs H Q
def aR {e : Expr} {r : List V -> Hp -> VK -> Prop} {op : List PV -> M PV} (h : BE X e (BR r (Ip φ ml))) (hv : p4 r op) : EV φ X e (λρ=>(ml ρ).bind op):=BE.mono h λσ H Q ⟨G, O, ρ, n, R, s, w, q⟩=>by
  rw [M.wZ] at w;exact ⟨G, O, ρ, n, _, s, w, λl xs H1 n1 e1 du r1 w1=>hv φ G O H1 n1 R Q l xs s.pr (s.ext e1 du).dm du r1 w1 λy x H' n' e o r h=>q y x H' n' (e1.trans e) o r h⟩
def eV : List PV -> M PV
  | [.str z]=>if z.length <= 100000 then .ret (.int z.length) else .fail
  | [.lst l]=>.ret (.int l.length)
  | [.tup l]=>.ret (.int l.length)
  | [.vw l]=>.ret (.int l.length)
  | [.pR l]=>.ret (.int l.length)
  | _=>.fail
def Cm (K : Frag) : List V -> Hp -> VK -> Prop:=λxs H Q=>(∃ x n, xs = [x] /\ J6 K x H n /\ Q (.int n) H) \/ ∃ a kvs, xs = [.ref a] /\ Rd H a (.dK kvs) /\ Q (.int kvs.length) H
def bB : iF X (.builtin "len") (Cm X.K):=by
  intro pZ s σ H xs us Q I r h;rcases h with h | ⟨a, kvs, rfl, h, q⟩
  · exact wO pZ s σ H xs us Q I r h
  · obtain ⟨u, rfl, rx⟩:=vals1 r;cases rx;exact JN I h λt s' I'=>⟨.int kvs.length, H, I', ⟨_, rfl⟩, q⟩
def fM {K : Frag} : p4 (Cm K) eV:=λφ G O H n R Q l xs pr dm ok r w q=>by
  match l, r, w with
  | [.str z], r, w=>
    obtain ⟨x, ex, r1⟩:=r.one; subst ex; clear r; have r:=r1; clear r1
    rw [r.gz];unfold eV at w;dsimp only at w;by_cases hc : z.length <= 100000
    · rw [Mk hc] at w; exact .inl ⟨_, _, rfl, ⟨LV hc iC, rfl⟩, q.sc ok (.int _) w⟩
    · rw [Ml hc] at w; exact w.elim
  | [.lst z], r, w=>
    obtain ⟨x, ex, r1⟩:=r.one; subst ex; clear r; have r:=r1; clear r1
    obtain ⟨p, xs, rfl, h, e⟩:=r.kG
    exact .inl ⟨_, _, rfl, .inl ⟨xs, fk.of h, rfl⟩, q.sc ok (y:=.int z.length) (by rw [e.1]; exact .int _) w⟩
  | [.tup z], r, w=>
    obtain ⟨x, ex, r1⟩:=r.one; subst ex; clear r; have r:=r1; clear r1
    obtain ⟨p, xs, rfl, h, e⟩:=r.lB
    exact .inl ⟨_, _, rfl, .inr ⟨xs, ji.of h, rfl⟩, q.sc ok (y:=.int z.length) (by rw [e.1]; exact .int _) w⟩
  | [.vw z], r, w=>
    obtain ⟨x, ex, r1⟩:=r.one; subst ex; clear r; have r:=r1; clear r1
    obtain ⟨p, o, rfl, h⟩:=r.FD
    exact .inl ⟨_, _, rfl, .inl ⟨_, .inl (.inr ⟨o, h⟩), rfl⟩, q.sc ok (y:=.int z.length) (by rw [LA]; exact .int _) w⟩
  | [.pR z], r, w=>
    obtain ⟨x, ex, r1⟩:=r.one; subst ex; clear r; have r:=r1; clear r1
    obtain ⟨p, ks, rfl, h, e⟩:=r.DE;have e1 : z.length = ks.length:=by simpa using congrArg List.length e.1
    exact .inr ⟨p, ks, rfl, h, q.sc ok (y:=.int z.length) (by rw [e1]; exact .int _) w⟩
def kL : List PV -> Option (List Bool)
  | []=>some []
  | .bl b :: r=>(kL r).map (b :: ·)
  | _=>none
theorem zO {B : Addr} {O : Addr -> Prop} {H : Hp} : ∀ {l : List PV} {xs : List V} {bs : List Bool}, bC B O H l xs -> kL l = some bs -> xs = bs.map V.bl
  | [], xs, bs, h, e=>by simp [kL] at e; subst e; exact h.nil_inv
  | y :: l, xs, bs, h, e=>by
    cases y <;> simp [kL] at e;obtain ⟨bs', e1, rfl⟩:=e;obtain ⟨x, r, rfl, h1, h2⟩:=h.cons_inv;cases h1;rw [LJ, zO h2 e1]
def fN : List PV -> M PV
  | [.lst l]=>(M.dW (kL l)).bind λbs=>.ret (.bl (bs.all id))
  | _=>.fail
def uY {K : Frag} : p4 (λxs H Q=>∃ (p : Addr) (bs : List Bool), xs = [.ref p] /\ fk K H p (bs.map V.bl) /\ Q (.bl (bs.all id)) H) fN:=λφ G O H n R Q l xs pr dm ok r w q=>by
  match l, r, w with
  | [.lst z], r, w=>
    obtain ⟨x, ex, r1⟩:=r.one; subst ex; clear r; have r:=r1; clear r1
    obtain ⟨p, xs, rfl, h, e⟩:=r.kG;unfold fN at w;dsimp only at w
    cases eb : kL z with
    | none=>rw [eb] at w; exact w.elim
    | some bs=>rw [eb] at w; rw [zO e eb] at h; exact ⟨p, bs, rfl, fk.of h, q.sc ok (.bl _) w⟩
def CW : List PV -> M PV
  | [.int i, .int j]=>.ret (.int (if j > i then j else i))
  | _=>.fail
def Fj : p4 (λxs H Q=>∃ i j, xs = [.int i, .int j] /\ Q (.int (if j > i then j else i)) H) CW:=λφ G O H n R Q l xs pr dm ok r w q=>by
  match l, r, w with
  | [.int i, .int j], r, w=>obtain ⟨x, x', ex, r1, r'⟩:=r.two; subst ex; clear r; have r:=r1; clear r1; rw [r.fD, r'.fD]; exact ⟨i, j, rfl, q.sc ok (.int _) w⟩
def oG : List PV -> M PV
  | [.lst l]=>.ret (.tup l)
  | [.tup l]=>.ret (.tup l)
  | _=>.fail
def m5 {K : Frag} : p4 (λxs H Q=>∃ p ys, xs = [.ref p] /\ ((fk K H p ys /\ ∀ l, H l = none -> Q (.ref l) (upd H l (.tup ys))) \/ (ji K H p ys /\ Q (.ref p) H))) oG:=λφ G O H n R Q l xs pr dm ok r w q=>by
  match l, r, w with
  | [.lst z], r, w=>
    obtain ⟨x, ex, r1⟩:=r.one; subst ex; clear r; have r:=r1; clear r1
    obtain ⟨p, xs, rfl, h, e⟩:=r.kG
    exact ⟨p, xs, rfl, .inl ⟨fk.of h, λl hl=>q.tup ok dm hl (pr _ G.pB) e w⟩⟩
  | [.tup z], r, w=>
    obtain ⟨x, ex, r1⟩:=r.one; subst ex; clear r; have r:=r1; clear r1
    obtain ⟨p, xs, rfl, h, e⟩:=r.lB
    cases r with
    | full r=>exact ⟨p, xs, rfl, .inr ⟨ji.of h, q.sc ok r w⟩⟩
def nC : PV -> Option String
  | .cB=>some "NoneType"
  | .bl _=>some "bool"
  | .int _=>some "int"
  | .str _=>some "str"
  | .tup _=>some "tuple"
  | .lst _=>some "list"
  | .vw _=>some "list"
  | .pR _=>some "dict"
  | .bH=>none
def inst (T : String) (t : String) : Bool:=t == T || (t == "bool" && T == "int")
def fj (T : String) (y : PV) : M PV:=(M.dW (nC y)).bind λt=>.ret (.bl (inst T t))
def xc (T : String) : Prop:=∀ (K : Frag) (t : String), t ∈ ["NoneType", "bool", "int", "str", "tuple", "list", "dict"] -> PySem.W.kitOne K (.type t) (.type T) = some (inst T t)
def n6 : xc "str":=λK t h=>by
  simp only [LK, LL, or_false] at h;rcases h with rfl | rfl | rfl | rfl | rfl | rfl | rfl <;> rfl
def EY : xc "int":=λK t h=>by
  simp only [LK, LL, or_false] at h;rcases h with rfl | rfl | rfl | rfl | rfl | rfl | rfl <;> rfl
def C5 : xc "bool":=λK t h=>by
  simp only [LK, LL, or_false] at h;rcases h with rfl | rfl | rfl | rfl | rfl | rfl | rfl <;> rfl
def kit_tuple : xc "tuple":=λK t h=>by
  simp only [LK, LL, or_false] at h;rcases h with rfl | rfl | rfl | rfl | rfl | rfl | rfl <;> rfl
def Bw {K : Frag} {G : Bg φ} {O : Addr -> Prop} {H : Hp} {y : PV} {x : V} {t : String} (r : ed G O H y x) (e : nC y = some t) : nc K H x (.type t) /\ t ∈ ["NoneType", "bool", "int", "str", "tuple", "list", "dict"]:=by
  cases y with
  | cB=>cases e; rw [r.FV]; exact ⟨.cB, by decide⟩
  | bl b=>cases e; rw [r.K6]; exact ⟨.bl b, by decide⟩
  | int i=>cases e; rw [r.fD]; exact ⟨.int i, by decide⟩
  | str z=>cases e; rw [r.gz]; exact ⟨.str z, by decide⟩
  | tup l=>cases e; obtain ⟨p, xs, rfl, h, _⟩:=r.lB; exact ⟨.tup h, by decide⟩
  | lst l=>cases e; obtain ⟨p, xs, rfl, h, _⟩:=r.kG; exact ⟨.lst h, by decide⟩
  | pR l=>cases e; obtain ⟨p, xs, rfl, h, _⟩:=r.DE; exact ⟨.dK h, by decide⟩
  | vw l=>cases e; obtain ⟨p, o, rfl, h⟩:=r.FD; exact ⟨.og h, by decide⟩
  | bH=>cases e
def kr {e : Expr} {T : String} {ma : ak -> M PV} (h : BE X e (BR (λxs H Q=>∃ x T t b, xs = [x, .ty T] /\ nc X.K H x t /\ PySem.W.kitOne X.K t (.type T) = some b /\ Q (.bl b) H) (fU (zZ φ ma) (fU (tC (.ty T)) mM)))) (hk : xc T) : EV φ X e (λρ=>(ma ρ).bind (fj T)):=BE.mono h λσ H Q ⟨G, O, ρ, n, R, s, w, q⟩=>by
  rw [M.wZ] at w;refine ⟨G, O, ρ, n, _, s, w, λy x H1 n1 e1 du r1 w1=>?_⟩;unfold fj at w1
  cases et : nC y with
  | none=>rw [et] at w1; exact w1.elim
  | some t=>
    rw [et] at w1;obtain ⟨a1, a2⟩:=Bw (K:=X.K) r1 et;exact ⟨x, T, _, _, rfl, a1, hk X.K t a2, q _ _ _ _ e1 du (.bl _) w1⟩
end
def cG (φ : iE) (f : List PV -> M PV) : Sp:=λvs H Q _=>∃ (G : Bg φ) (O : Addr -> Prop) (l : List PV) (n : Nat) (R : PV -> Nat -> Prop), (∀ p, G.fL p -> O p) /\ (∀ p, O p -> ∃ o, H p = some o) /\ G.ok H n /\ bC G.B O H l vs /\ (f l).wp n R /\ ph G O H R Q
section
variable {X : Cx} {e : Expr} {es : List Expr} {ml : ak -> M (List PV)} {f : List PV -> M PV}
def ax (h : BE X e (yI (cG φ f) [] E0 (Io φ ml))) : EV φ X e (λρ=>(ml ρ).bind f):=BE.mono h λσ H Q ⟨G, O, ρ, n, R, s, w, q⟩=>by
  rw [M.wZ] at w;refine ⟨G, O, ρ, n, _, s, w, λl xs H1 n1 e1 du r1 w1=>?_⟩;show cG φ f (xs ++ []) H1 Q E0;rw [MD];exact ⟨G, O, l, n1, R, s.pr, (s.ext e1 du).dm, du, r1, w1, λy x H' n' e o r h=>q y x H' n' (e1.trans e) o r h⟩
def Lj (r : V -> Option Int -> Option Int -> Hp -> VK -> Prop) (op : PV -> Option Int -> Option Int -> M PV) : Prop:=∀ (φ : iE) (G : Bg φ) (O : Addr -> Prop) (H : Hp) (n : Nat) (R : PV -> Nat -> Prop) (Q : VK) (y : PV) (lo hi : Option Int) (x : V),
  (∀ p, G.fL p -> O p) -> (∀ p, O p -> ∃ o, H p = some o) -> G.ok H n -> ed G O H y x -> (op y lo hi).wp n R -> ph G O H R Q -> r x lo hi H Q
def JY (G : Bg φ) (H : Hp) (R : Option Int -> Nat -> Prop) (Q : Option Int -> Hp -> Prop) : Prop:=∀ (o : Option Int) (H' : Hp) (n' : Nat), Ext G.B H H' -> G.ok H' n' -> R o n' -> Q o H'
def Kt (φ : iE) (m : ak -> M (Option Int)) : TO:=λσ H Q=>∃ (G : Bg φ) (O : Addr -> Prop) (ρ : ak) (n : Nat) (R : Option Int -> Nat -> Prop), ES G O H σ ρ n /\ (m ρ).wp n R /\ JY G H R Q
def OV (φ : iE) (X : Cx) (e : Option Expr) (m : ak -> M (Option Int)) : Prop:=BO X e (Kt φ m)
def BO.mono {e : Option Expr} {t t' : TO} (h : BO X e t) (f : ∀ σ H Q, t' σ H Q -> t σ H Q) : BO X e t':=⟨λpZ s σ H Q I q=>h.out pZ s σ H Q I (f σ H Q q)⟩
def iZ : OV φ X none (λ_=>.ret none):=BO.mono ⟨uq⟩ λσ H Q ⟨G, O, ρ, n, R, s, w, q⟩=>q none H n (Ext.refl _ _) s.ok w
def jb : PV -> M Int
  | .int i=>.ret i
  | _=>.fail
def iY {m : ak -> M PV} (h : EB φ X e m) : OV φ X (some e) (λρ=>(m ρ).bind λy=>(jb y).bind λi=>.ret (some i)):=BO.mono ⟨uo h.out⟩ λσ H Q ⟨G, O, ρ, n, R, s, w, q⟩=>by
  rw [M.wZ] at w;refine ⟨G, O, ρ, n, _, s, w, λy x H1 n1 e1 du r1 w1=>?_⟩;cases y <;> first | exact w1.elim | skip
  rename_i i;rw [r1.fD];exact ⟨i, rfl, q _ _ _ e1 du w1⟩
def mO (op : PV -> Option Int -> Option Int -> M PV) (me : ak -> M PV) (ml mh : ak -> M (Option Int)) : ak -> M PV:=λρ=>(me ρ).bind λy=>(ml ρ).bind λlo=>(mh ρ).bind λhi=>op y lo hi
def gJ {r : V -> Option Int -> Option Int -> Hp -> VK -> Prop} {op : PV -> Option Int -> Option Int -> M PV} {me : ak -> M PV} {ml mh : ak -> M (Option Int)} (h : BE X e (Kv r (zZ φ me) (Kt φ ml) (Kt φ mh))) (hv : Lj r op) : EV φ X e (mO op me ml mh):=BE.mono h λσ H Q ⟨G, O, ρ, n, R, s, w, q⟩=>by
  unfold mO at w;rw [M.wZ] at w;refine ⟨G, O, ρ, n, _, s, w, λy x H1 n1 e1 du r1 w1=>?_⟩;rw [M.wZ] at w1;refine ⟨G, O, ρ, n1, _, s.ext e1 du, w1, λlo H2 n2 e2 oY w2=>?_⟩;rw [M.wZ] at w2;refine ⟨G, O, ρ, n2, _, s.ext (e1.trans e2) oY, w2, λhi H3 n3 e3 ok3 w3=>?_⟩;exact hv φ G O H3 n3 R Q y lo hi x s.pr (s.ext (e1.trans (e2.trans e3)) ok3).dm ok3 (r1.ext s.B (e2.trans e3)) w3 λy x H' n' e o r h=>q y x H' n' (e1.trans (e2.trans (e3.trans e))) o r h
def lM (l : List PV) (lo hi : Option Int) : List PV:=(l.drop (HT.fC l.length 0 lo)).take (HT.fC l.length l.length hi - HT.fC l.length 0 lo)
def wH {B : Addr} {O : Addr -> Prop} {H : Hp} {l : List PV} {xs : List V} (h : bC B O H l xs) (lo hi : Option Int) : bC B O H (lM l lo hi) (sy xs lo hi):=by
  unfold lM sy;rw [<- h.1];exact (h.drop _).take _
def ym (l : List PV) (lo hi : Option Int) (h : HT.fC l.length 0 lo = 0 /\ HT.fC l.length l.length hi = l.length) : lM l lo hi = l:=by
  unfold lM;rw [h.1, h.2];simp
def IP (K : Frag) : V -> Option Int -> Option Int -> Hp -> VK -> Prop:=λx lo hi H Q=>IL K x lo hi H Q \/ IJ K x lo hi H Q
def KA : Br X (IP X.K):=t8.or GH
noncomputable def gA (x : Str) : List PV:=x.cps.toList.map λc=>.str ⟨#[c]⟩
noncomputable def eB (lo : Int) (n : Nat) : List PV:=(List.range n).map λi=>.int (lo + (i : Nat))
inductive jI (K : Frag) (G : Bg φ) (O : Addr -> Prop) (c : Bool) (H : Hp) : List PV -> It -> Prop where
  | lst {p : Addr} {xs : List V} {l : List PV} (np : ¬ G.fL p) (hp : c = true -> ¬ O p) (h : H p = some (.lst xs)) (r : bC G.B O H l xs) : jI K G O c H l (Fu K p)
  | tup {p : Addr} {xs : List V} {l : List PV} (hp : ¬ O p) (h : H p = some (.tup xs)) (r : bC G.B O H l xs) : jI K G O c H l (Kr K p)
  | txt (x : Str) : jI K G O c H (gA x) (Kq x)
  | vF (lo : Int) (n : Nat) : jI K G O c H (eB lo n) (Ii lo n)
def Hw {K : Frag} {H : Hp} {p : Addr} {xs : List V} (h : H p = some (.lst xs)) {i : Nat} (hi : i < xs.length) : (Fu K p).go i H:=⟨xs, xs[i], fk.of h, by simp [hi]⟩
def Hv {K : Frag} {H : Hp} {p : Addr} {xs : List V} (h : H p = some (.tup xs)) {i : Nat} (hi : i < xs.length) : (Kr K p).go i H:=⟨xs, xs[i], ji.of h, by simp [hi]⟩
def jI.go {K : Frag} {G : Bg φ} {O : Addr -> Prop} {c : Bool} {H : Hp} {l : List PV} {J : It} (t : jI K G O c H l J) {i : Nat} {y : PV} (hi : l[i]? = some y) : J.go i H /\ ∀ x H2, J.Fw i H x H2 -> H2 = H /\ Rep G.B O H y x:=by
  have hl : i < l.length:=(LG.mp hi).1
  cases t with
  | lst np hp h r=>
    refine ⟨Hw h (r.1 ▸ hl), λx H2 z=>?_⟩;obtain ⟨e, z⟩:=z
    exact ⟨e, r.2 i y x hi (z _ (fk.of h))⟩
  | tup hp h r=>
    refine ⟨Hv h (r.1 ▸ hl), λx H2 z=>?_⟩;obtain ⟨e, z⟩:=z
    exact ⟨e, r.2 i y x hi (z _ (ji.of h))⟩
  | txt z=>
    unfold gA at hi hl;refine ⟨by show i < z.cps.size; simpa using hl, λx H2 q=>?_⟩;obtain ⟨e, c', hc, rfl⟩:=q;refine ⟨e, ?_⟩;rw [LU] at hi;have : z.cps.toList[i]? = some c':=by simpa using hc
    rw [this] at hi;cases hi
    exact .str _
  | vF lo n=>
    unfold eB at hi hl;have hn : i < n:=by simpa using hl
    refine ⟨hn, λx H2 q=>?_⟩;obtain ⟨e, rfl⟩:=q;refine ⟨e, ?_⟩;rw [LU, List.getElem?_range hn] at hi;cases hi;exact .int _
def jI.stop {K : Frag} {G : Bg φ} {O : Addr -> Prop} {c : Bool} {H : Hp} {l : List PV} {J : It} (t : jI K G O c H l J) : J.stop l.length H:=by
  cases t with
  | lst np hp h r=>exact ⟨_, fk.of h, Nat.le_of_eq r.1.symm⟩
  | tup hp h r=>exact ⟨_, ji.of h, Nat.le_of_eq r.1.symm⟩
  | txt z=>show (gA z).length = z.cps.size; simp [gA]
  | vF lo n=>show n <= (eB lo n).length; simp [eB]
theorem jI.j9 {K : Frag} {G : Bg φ} {O O' : Addr -> Prop} {c : Bool} {H H' : Hp} {l : List PV} {J : It} (t : jI K G O c H l J) (k : ∀ p o, ¬ O p -> H p = some o -> kM H' p o /\ ¬ O' p) (k2 : c = true \/ ∀ p xs, ¬ G.fL p -> H p = some (.lst xs) -> H' p = some (.lst xs)) (hc : ∀ p, c = true -> ¬ O p -> ¬ O' p) : jI K G O' c H' l J:=by
  cases t with
  | lst np hp h r=>
    refine .lst np (λz=>hc _ z (hp z)) ?_ (r.j9 k);rcases k2 with z | z
    · exact (k _ _ (hp z) h).1
    · exact z _ _ np h
  | tup hp h r=>exact .tup (k _ _ hp h).2 (k _ _ hp h).1 (r.j9 k)
  | txt z=>exact .txt z
  | vF lo n=>exact .vF lo n
def jI.keep {K : Frag} {G : Bg φ} {O O' : Addr -> Prop} {c : Bool} {H H' : Hp} {l : List PV} {J : It} (t : jI K G O c H l J) (k : ∀ p o, ¬ O p -> H p = some o -> H' p = some o /\ ¬ O' p) (k2 : c = true \/ ∀ p xs, ¬ G.fL p -> H p = some (.lst xs) -> H' p = some (.lst xs)) (hc : ∀ p, c = true -> ¬ O p -> ¬ O' p) : jI K G O' c H' l J:=t.j9 (λp o n q=>⟨.of (k p o n q).1, (k p o n q).2⟩) k2 hc
noncomputable def Gz (φ : iE) (K : Frag) (c : Bool) (m : ak -> M (List PV)) : TI:=λσ H Q=>∃ (G : Bg φ) (O : Addr -> Prop) (ρ : ak) (n : Nat) (R : List PV -> Nat -> Prop), ES G O H σ ρ n /\ (m ρ).wp n R /\
  ∀ (l : List PV) (J : It) (H' : Hp) (n' : Nat), Ext G.B H H' -> G.ok H' n' -> jI K G O c H' l J -> R l n' -> Q J H'
def IV (φ : iE) (X : Cx) (c : Bool) (tg iter : Expr) (m : ak -> M (List PV)) : Prop:=BI X tg iter (Gz φ X.K c m)
def ba : PV -> M (List PV)
  | .lst l=>.ret l
  | .tup l=>.ret l
  | .str x=>.ret (gA x)
  | _=>.fail
def Cw {tg l : Expr} {tl : TE} (hl : PE X l tl) : PI X tg l (λσ H R=>tl σ H λx H1=>(∃ a, x = .ref a /\ (∃ xs, fk X.K H1 a xs) /\ R (Fu X.K a) H1) \/ (∃ a, x = .ref a /\ (∃ xs, ji X.K H1 a xs) /\ R (Kr X.K a) H1) \/ ∃ z, x = .str z /\ R (Kq z) H1):=by
  intro pZ s σ H R I h;refine eg (hl pZ s σ H _ I h) λv s1 ⟨x, H1, I1, r1, q1⟩=>?_;rcases q1 with ⟨a, e, ⟨xs, hq⟩, q⟩ | ⟨a, e, ⟨xs, hq⟩, q⟩ | ⟨z, e, q⟩
  · subst e;cases r1;obtain ⟨aY, rv, p, hz⟩:=I1.list hq;refine wpAny_pyIter_list p.isList ?_;refine ⟨s1.heap.objs.size, [s1.heap.objs.size], _, _, H1, rfl, I1.kept (t':=s1.toks) λb o e=>LB _ e, sI a _, ⟨_, LO _ rfl, rfl, rfl⟩, λb hb=>?_, q⟩;have e : b = s1.heap.objs.size:=by simpa using hb
    subst e;exact I1.yf (LH _) (I1.dz.fresh (LH _))
  · subst e;cases r1;obtain ⟨aY, rv, p, hz⟩:=I1.tuple hq;refine wpAny_pyIter_tuple (show s1.heap.IsTuple a aY.toArray from p) ?_;refine ⟨s1.heap.objs.size, [s1.heap.objs.size], _, _, H1, rfl, I1.kept (t':=s1.toks) λb o e=>LB _ e, xj a _, ⟨_, LO _ rfl, rfl, rfl⟩, λb hb=>?_, q⟩;have e : b = s1.heap.objs.size:=by simpa using hb
    subst e;exact I1.yf (LH _) (I1.dz.fresh (LH _))
  · subst e;obtain ⟨t, rfl⟩:=r1
    have fin : ∀ (o : Obj) (ty : String), o.cls = .type ty -> o.data = .fields #[.str z t, .int (0 : Nat) 0] -> Turn X.prog X.w X.K tg (Kq z) [s1.heap.objs.size] s1.heap.objs.size (λi h=>h.IsStrIter s1.heap.objs.size ty z t i) -> o.isFreed = false ->
        K9 X pZ σ tg R (.ref s1.heap.objs.size) { s1 with heap:=s1.heap.push o }:=λo ty h1 h2 T hfr=>by
      refine ⟨s1.heap.objs.size, [s1.heap.objs.size], _, _, H1, rfl, I1.kept (t':=s1.toks) λb o e=>LB _ e, T, ⟨_, LO _ hfr, h1, h2⟩, λb hb=>?_, q⟩;have e : b = s1.heap.objs.size:=by simpa using hb
      subst e;exact I1.yf (LH _) (I1.dz.fresh (LH _))
    cases ha : z.cps.all (· < 128)
    · exact wpAny_pyIter_wide ha (fin _ _ rfl rfl (sH _ z t (by decide) (λA hA=>Walks.strWide hA _ z t) λ_ _ _ _ _ st h=>wpAny_pyIter_striter_wide st h) rfl)
    · exact wpAny_pyIter_ascii ha (fin _ _ rfl rfl (sH _ z t (by decide) (λA hA=>Walks.strAscii hA _ z t) λ_ _ _ _ _ st h=>wpAny_pyIter_striter_ascii st h) rfl)
def BI.mono {tg iter : Expr} {t t' : TI} (h : BI X tg iter t) (f : ∀ σ H Q, t' σ H Q -> t σ H Q) : BI X tg iter t':=⟨λpZ s σ H Q I q=>h.out pZ s σ H Q I (f σ H Q q)⟩
def my {tg : Expr} {m : ak -> M PV} (h : EB φ X e m) : IV φ X false tg e (λρ=>(m ρ).bind ba):=BI.mono ⟨Cw h.out⟩ λσ H Q ⟨G, O, ρ, n, R, s, w, q⟩=>by
  rw [M.wZ] at w;refine ⟨G, O, ρ, n, _, s, w, λy x H1 n1 e1 du r1 w1=>?_⟩;cases y <;> first | exact w1.elim | skip
  · rw [r1.gz];exact .inr (.inr ⟨_, rfl, q _ _ _ _ e1 du (.txt _) w1⟩)
  · cases r1 with
    | full r1=>cases r1 with
      | tup a b c d=>exact .inr (.inl ⟨_, rfl, ⟨_, ji.of b⟩, q _ _ _ _ e1 du (.tup a b ⟨c, d⟩) w1⟩)
  · cases r1 with
    | full r1=>cases r1 with
      | lst a b c d=>exact .inl ⟨_, rfl, ⟨_, fk.of b⟩, q _ _ _ _ e1 du (.lst (λz=>a (s.pr _ z)) (λz=>by cases z) b ⟨c, d⟩) w1⟩
    | top a b c=>exact .inl ⟨_, rfl, ⟨_, fk.of b⟩, q _ _ _ _ e1 du (.lst a (λz=>by cases z) b c) w1⟩
def JB {tg : Expr} {m : ak -> M PV} (h : EV φ X e m) : IV φ X true tg e (λρ=>(m ρ).bind ba):=BI.mono ⟨Cw h.out⟩ λσ H Q ⟨G, O, ρ, n, R, s, w, q⟩=>by
  rw [M.wZ] at w;refine ⟨G, O, ρ, n, _, s, w, λy x H1 n1 e1 du r1 w1=>?_⟩
  cases r1 with
  | str z=>exact .inr (.inr ⟨_, rfl, q _ _ _ _ e1 du (.txt _) w1⟩)
  | tup a b c d=>exact .inr (.inl ⟨_, rfl, ⟨_, ji.of b⟩, q _ _ _ _ e1 du (.tup a b ⟨c, d⟩) w1⟩)
  | lst a b c d=>exact .inl ⟨_, rfl, ⟨_, fk.of b⟩, q _ _ _ _ e1 du (.lst (λz=>a (s.pr _ z)) (λ_=>a) b ⟨c, d⟩) w1⟩
  | _=>exact w1.elim
def j7 : List PV -> M (List PV)
  | [.int j]=>if -1000000 <= j /\ j <= 100000 then .ret (eB 0 j.toNat) else .fail
  | _=>.fail
def mj {c : Bool} {tg : Expr} (h : BI X tg e (zw (Ip φ ml))) : IV φ X c tg e (λρ=>(ml ρ).bind j7):=BI.mono h λσ H Q ⟨G, O, ρ, n, R, s, w, q⟩=>by
  rw [M.wZ] at w;refine ⟨G, O, ρ, n, _, s, w, λl xs H1 n1 e1 du r1 w1=>?_⟩
  match l, r1, w1 with
  | [.int j], r1, w1=>
    obtain ⟨x, rfl, r2⟩:=r1.one;rw [r2.fD];unfold j7 at w1;dsimp only at w1;by_cases hc : -1000000 <= j /\ j <= 100000
    · rw [Mk hc] at w1;have e62 : (2 : Int) ^ 62 = 4611686018427387904:=by decide
      exact ⟨j, rfl, by omega, by omega, q _ _ _ _ e1 du (.vF 0 j.toNat) w1⟩
    · rw [Ml hc] at w1; exact w1.elim
noncomputable def Ib (φ : iE) (b : PV -> ak -> M ak) : TG:=λv σ H Q=>∃ (G : Bg φ) (O : Addr -> Prop) (ρ : ak) (n : Nat) (R : ak -> Nat -> Prop) (y : PV), ES G O H σ ρ n /\ Rep G.B O H y v /\ (b y ρ).wp n R /\
  ∀ (σ' : St) (ρ' : ak) (n' : Nat), ES G O H σ' ρ' n' -> R ρ' n' -> Q σ' H
def GV (φ : iE) (X : Cx) (tg : Expr) (b : PV -> ak -> M ak) : Prop:=BG X tg (Ib φ b)
def nB.set {G : Bg φ} {O : Addr -> Prop} {H : Hp} {σ : St} {ρ : ak} (h : nB G O H σ ρ) (k : Nat) {t : Ent} {x : V} (r : lV G O H t (some x)) : nB G O H (σ.set k (some x)) (ρ.set k t):=by
  refine ⟨by simp [h.1], λi e he=>?_⟩;by_cases hk : k = i
  · subst hk;have hl : k < ρ.length:=by have:=(LG.mp he).1; simpa using this
    rw [Mm hl] at he;cases he;rw [Mm (h.1 ▸ hl)];exact r
  · rw [L7 hk] at he ⊢;exact h.2 i e he
theorem ES.set {G : Bg φ} {O : Addr -> Prop} {H : Hp} {σ : St} {ρ : ak} {n : Nat} (s : ES G O H σ ρ n) (k : Nat) {t : Ent} {x : V} (r : lV G O H t (some x)) : ES G O H (σ.set k (some x)) (ρ.set k t) n:=⟨s.er.set k r, s.ok, s.pr, s.dm⟩
def aX (k : Nat) (y : PV) (ρ : ak) : M ak:=.ret (ρ.set k (.val y))
def BG.mono {tg : Expr} {t t' : TG} (h : BG X tg t) (f : ∀ v σ H Q, t' v σ H Q -> t v σ H Q) : BG X tg t':=⟨λpZ s σ H v u Q I r q=>h.out pZ s σ H v u Q I r (f v σ H Q q)⟩
def dX {tg : Expr} {k : Nat} (h : BG X tg (jc k)) : GV φ X tg (aX k):=BG.mono h λv σ H Q ⟨G, O, ρ, n, R, y, s, r, w, q⟩=>q _ _ n (s.set k (t:=.val y) ⟨v, rfl, r⟩) w
noncomputable def dA : List Nat -> List PV -> ak -> ak
  | k :: ks, y :: l, ρ=>dA ks l (ρ.set k (.val y))
  | _, _, ρ=>ρ
def gc (ks : List Nat) (y : PV) (ρ : ak) : M ak:=match y with
  | .tup l=>if l.length = ks.length then .ret (dA ks l ρ) else .fail
  | _=>.fail
def qk (bd : PV -> ak -> M ak) (tt : ak -> M Bool) (te : ak -> M PV) : List PV -> ak -> M (List PV)
  | [], _=>.ret []
  | y :: r, ρ=>(bd y ρ).bind λρ1=>(tt ρ1).bind λok=>if ok = true then (te ρ1).bind λz=>(qk bd tt te r ρ1).bind λl=>.ret (z :: l) else qk bd tt te r ρ1
def f7 (js : List (Option Nat)) (ρ : ak) : ak:=js.map λo=>match o with | some j=>(ρ[j]?).getD .un | none=>.un
def wN {G : Bg φ} {O : Addr -> Prop} {H : Hp} {σ : St} {ρ : ak} (h : nB G O H σ ρ) (js : List (Option Nat)) : nB G O H (jU js σ) (f7 js ρ):=by
  refine ⟨by simp [jU, f7], λi e he=>?_⟩;unfold f7 at he;unfold jU;rw [LU] at he ⊢
  cases q : js[i]? with
  | none=>rw [q] at he; cases he
  | some o=>
    rw [q] at he;simp only [Option.map_some, Option.some.injEq] at he ⊢;subst he
    cases o with
    | none=>trivial
    | some j=>
      dsimp only
      cases q2 : ρ[j]? with
      | none=>rw [Option.getD_none]; trivial
      | some t=>
        have:=h.2 j t q2;rw [Mu];simpa using this
def bS : ak -> M Bool:=λ_=>.ret true
def Gs.mono {ifs : List Expr} {t t' : TT} (h : Gs X ifs t) (f : ∀ σ H Q, t' σ H Q -> t σ H Q) : Gs X ifs t':=⟨λpZ s σ H Q I q=>h.out pZ s σ H Q I (f σ H Q q)⟩
def Lh (φ : iE) (X : Cx) (ifs : List Expr) (m : ak -> M Bool) : Prop:=Gs X ifs (Bj φ m)
def fT : Lh φ X [] bS:=Gs.mono ⟨yW⟩ λσ H Q ⟨G, O, ρ, n, R, s, w, q⟩=>q true H n (Ext.refl _ _) s.ok w
def Gx {c : Expr} {m : ak -> M Bool} (h : TV φ X c m) : Lh φ X [c] m:=⟨Ep h.out⟩
def cC (js : List (Option Nat)) (mi : ak -> M (List PV)) (bd : PV -> ak -> M ak) (tt : ak -> M Bool) (te : ak -> M PV) : ak -> M (List PV):=λρ=>(mi ρ).bind λl=>if l.length <= 100000 then qk bd tt te l (f7 js ρ) else .fail
noncomputable def Bg.with (G : Bg φ) (D : Addr) (hD : D ≠ G.B) : Bg φ where
  B:=G.B
  fL:=λp=>G.fL p \/ p = D
  ok:=λH n=>G.ok H n /\ ∃ ys, H D = some (.lst ys)
  pB:=.inl G.pB
  keep:=λH H' n k h=>⟨G.keep H H' n (λp o z=>k p o (z.imp .inl id)) h.1, by obtain ⟨ys, e⟩:=h.2; exact ⟨ys, k D _ (.inl (.inr rfl)) e⟩⟩
  tp:=λe he=>.inl (G.tp e he)
  tab:=λH n h=>G.tab H n h.1
  zY:=λH H' n h h1 h2=>⟨G.zY H H' n h.1 h1 h2, by
    obtain ⟨ys, e⟩:=h.2;refine ⟨ys, h2 D _ (λz=>?_) e⟩;obtain ⟨q, hq, rfl⟩:=LM.mp z;obtain ⟨ps, e2, _⟩:=G.tab H n h.1 q hq
    rw [e] at e2; cases e2⟩
  DX:=λH n p h z=>by
    rcases z with z | z
    · exact G.DX H n p h.1 z
    · subst z; obtain ⟨ys, e⟩:=h.2; exact ⟨_, e⟩
  dr:=λH n m Q E h h0 h1 q=>G.dr H n m Q E h.1 h0 h1 λd H' d0 d1 e o=>q d H' d0 d1 e ⟨o, by
    obtain ⟨ys, e2⟩:=h.2
    exact ⟨ys, e D _ hD e2⟩⟩
def FZ {K : Frag} {js : List (Option Nat)} {mi : ak -> M (List PV)} {bd : PV -> ak -> M ak} {tt : ak -> M Bool} {te : ak -> M PV} : ∀ σ H Q, Fz φ (cC js mi bd tt te) σ H Q -> GB js (Gz φ K false mi) (Ib φ bd) (Bj φ tt) (xf φ te) σ H Q:=λσ H Q ⟨G, O, ρ, n, R, s, w, q⟩=>by
  unfold cC at w;rw [M.wZ] at w;refine ⟨G, O, ρ, n, _, s, w, λl J H1 n1 e1 du it w1=>λD hD=>?_⟩;by_cases hl : l.length <= 100000
  case neg=>rw [Ml hl] at w1; exact w1.elim
  rw [Mk hl] at w1;have s1:=s.ext e1 du;have nD : ¬ O D:=λz=>by obtain ⟨o, g⟩:=s1.dm D z; rw [hD] at g; cases g
  have pD : ¬ G.fL D:=λz=>nD (s.pr _ z);have hBD : D ≠ G.B:=λz=>pD (z ▸ G.pB);have jx : ∀ p o, H1 p = some o -> p ≠ D:=λp o hp z=>by subst z; rw [hD] at hp; cases hp
  let O' : Addr -> Prop:=λp=>O p \/ p = D;let G' : Bg φ:=G.with D hBD
  have k0 : ∀ p o, ¬ O p -> H1 p = some o -> upd H1 D (HO.lst []) p = some o /\ ¬ O' p:=λp o np hp=>⟨by rw [az (jx p o hp)]; exact hp, λz=>by
    rcases z with z | z
    · exact np z
    · exact jx p o hp z⟩
  have kD : ∀ (H5 : Hp) (o : HO) p u, ¬ O' p -> H5 p = some u -> upd H5 D o p = some u /\ ¬ O' p:=λH5 o p u np hp=>⟨by rw [az (λz=>np (.inr z))]; exact hp, np⟩
  refine ⟨λi m σ' H'=>m = l.length - i /\ i <= l.length /\ ∃ (ys : List V) (zs : List PV) (ρ' : ak) (n' : Nat), ys.length <= i /\ H' D = some (.lst ys) /\ bC G.B O' H' zs ys /\ ES G' O' H' σ' ρ' n' /\ Ext G.B H1 H' /\ jI K G' O' false H' l J /\
    (qk bd tt te (l.drop i) ρ').wp n' (λt k=>R (zs ++ t) k), ⟨l.length, by simp, L1 _, [], [], f7 js ρ, n1, LH _, aA, .nil, ?_, Ext.new hD _, ?_, ?_⟩, ?_⟩
  · have er:=wN s1.er js;refine ⟨⟨er.1, λi e he=>?_⟩, ⟨Bg.new du hD _, [], aA⟩, λp z=>?_, λp z=>?_⟩
    · have r1:=er.2 i e he
      cases e with
      | un=>trivial
      | val y=>obtain ⟨x, hx, rr⟩:=r1; exact ⟨x, hx, rr.keep k0⟩
      | own t=>
        obtain ⟨p, xs, hx, hp, np, hh, rr⟩:=r1
        exact ⟨p, xs, hx, .inl hp, λz=>by
          rcases z with z | z
          · exact np z
          · exact jx p _ hh z, by rw [az (jx p _ hh)]; exact hh, rr.keep k0⟩
      | mU t=>
        obtain ⟨p, xs, hx, hp, np, hh, rr⟩:=r1
        exact ⟨p, xs, hx, .inl hp, λz=>by
          rcases z with z | z
          · exact np z
          · exact jx p _ hh z, by rw [az (jx p _ hh)]; exact hh, rr.keep k0⟩
    · rcases z with z | z
      · exact .inl (s.pr p z)
      · exact .inr z
    · rcases z with z | z
      · obtain ⟨o, g⟩:=s1.dm p z; exact ⟨o, by rw [az (jx p o g)]; exact g⟩
      · subst z; exact ⟨_, aA⟩
  · cases it with
    | lst np hp h r=>
      exact .lst (λz=>by
        rcases z with z | z
        · exact np z
        · exact jx _ _ h z) (λz=>by cases z) (by rw [az (jx _ _ h)]; exact h) (r.keep k0)
    | tup hp h r=>exact .tup (k0 _ _ hp h).2 (k0 _ _ hp h).1 (r.keep k0)
    | txt z=>exact .txt z
    | vF lo n=>exact .vF lo n
  · simpa using w1
  · rintro i m σ' H' ⟨rfl, hi, ys, zs, ρ', n', hy, hDy, rz, s', ex, it', w'⟩;by_cases kY : i < l.length
    · have hget : l[i]? = some l[i]:=Lx kY;have n9 : l.drop i = l[i] :: l.drop (i + 1):=List.drop_eq_getElem_cons kY;rw [n9] at w';unfold qk at w';obtain ⟨g1, g2⟩:=it'.go hget;refine .inr ⟨g1, λx H2 yl=>?_⟩;obtain ⟨eH, rx⟩:=g2 x H2 yl;subst eH;rw [M.wZ] at w';refine ⟨G', O', ρ', n', _, l[i], s', rx, w', λσ2 ρ2 n2 s2 w2=>?_⟩;rw [M.wZ] at w2;refine ⟨G', O', ρ2, n2, _, s2, w2, λok H4 n4 e4 ok4 w4=>?_⟩;have D4 : H4 D = some (.lst ys):=e4 D _ hBD hDy;have it4 : jI K G' O' false H4 l J:=it'.j9 (λp o np hp=>⟨e4 p o (λz=>np (.inl (z ▸ s.B))) hp, np⟩) (.inr λp xs np hp=>e4 p _ (λz=>np (z ▸ G'.pB)) hp) λp z=>by cases z
      cases ok with
      | true=>
        simp only [if_true] at w4 ⊢;rw [M.wZ] at w4;refine ⟨G', O', ρ2, n4, _, s2.ext e4 ok4, w4, λz x5 H5 n5 e5 ok5 r5 w5=>?_⟩;have D5 : H5 D = some (.lst ys):=e5 D _ hBD D4;rw [M.wZ] at w5;have s5:=s2.ext (e4.trans e5) ok5;have it5 : jI K G' O' false H5 l J:=it4.j9 (λp o np hp=>⟨e5 p o (λz=>np (.inl (z ▸ s.B))) hp, np⟩) (.inr λp xs np hp=>e5 p _ (λz=>np (z ▸ G'.pB)) hp) λp z=>by cases z
        refine ⟨ys, D5, by rw [Md]; omega, l.length - (i + 1), by omega, rfl, kY, ys ++ [x5], zs ++ [z], ρ2, n5, by simp; omega, aA, ?_, ?_, ?_, ?_, ?_⟩
        · exact ((rz.ext (.inl s.B) (e4.trans e5)).append (.cons r5 .nil)).keep (kD H5 _)
        · refine ⟨⟨s5.er.1, λj e he=>?_⟩, ⟨G.keep H5 _ _ (λp o hp hpo=>by
            have hpd : p ≠ D:=λz=>by
              rcases hp with hp | hp
              · exact pD (z ▸ hp)
              · rw [z, D5] at hpo; cases hpo; exact hp
            rw [az hpd]; exact hpo) ok5.1, _, aA⟩, s5.pr, λp hp=>?_⟩
          · have r1:=s5.er.2 j e he
            cases e with
            | un=>trivial
            | val y=>obtain ⟨x, hx, rr⟩:=r1; exact ⟨x, hx, rr.keep (kD H5 _)⟩
            | own t=>
              obtain ⟨p, xs, hx, hp, np, hh, rr⟩:=r1
              exact ⟨p, xs, hx, hp, np, by rw [az (λz=>np (.inr z))]; exact hh, rr.keep (kD H5 _)⟩
            | mU t=>
              obtain ⟨p, xs, hx, hp, np, hh, rr⟩:=r1;exact ⟨p, xs, hx, hp, np, by rw [az (λz=>np (.inr z))]; exact hh, rr.keep (kD H5 _)⟩
          · by_cases hpd : p = D
            · subst hpd; exact ⟨_, aA⟩
            · obtain ⟨o, g⟩:=s5.dm p hp; exact ⟨o, by rw [az hpd]; exact g⟩
        · intro p o np hp;exact ((ex.trans (e4.trans e5)) p o np hp).to λu e=>.of (by rw [az (jx p o hp)]; exact e)
        · exact it5.keep (kD H5 _) (.inr λp xs np hp=>by rw [az (λz=>np (.inr z))]; exact hp) λp z=>by cases z
        · refine M.wp_mono w5 λt k' hk=>?_;have hk' : R (zs ++ z :: t) k':=hk
          simpa using hk'
      | false=>
        exact ⟨l.length - (i + 1), by omega, rfl, kY, ys, zs, ρ2, n4, by omega, D4, rz.ext (.inl s.B) e4, s2.ext e4 ok4, ex.trans e4, it4, w4⟩
    · have e : i = l.length:=by omega
      subst e;refine .inl ⟨it'.stop, ?_⟩;rw [List.drop_length] at w';have w2 : R (zs ++ []) n':=w';rw [MD] at w2;exact q zs D ys H' n' (e1.trans ex) s'.ok.1 (mX e1 du hD) hDy rz w2
def jy {js : List (Option Nat)} {mi : ak -> M (List PV)} {bd : PV -> ak -> M ak} {tt : ak -> M Bool} {te : ak -> M PV} (h : BE X e (GB js (Gz φ X.K false mi) (Ib φ bd) (Bj φ tt) (xf φ te))) : EF φ X e (cC js mi bd tt te):=BE.mono h FZ
end
set_option genInjectivity true in
inductive Fl where
  | nx (ρ : ak) | rt (y : PV) | bk (ρ : ak) | ct (ρ : ak)
def Ent.De : Ent -> Bool
  | .own _=>true
  | .mU _=>true
  | _=>false
def Ent.freeze : Ent -> Ent
  | .own l=>.val (.lst l)
  | .mU l=>.val (.pR l)
  | e=>e
def kc (ρ : ak) (σ : St) (i : Nat) (p : Addr) : Prop:=∃ t, ρ[i]? = some t /\ t.De = true /\ σ[i]? = some (some (.ref p))
structure SI (G : Bg φ) (O0 : Addr -> Prop) (H0 : Hp) (O : Addr -> Prop) (H : Hp) (σ : St) (ρ : ak) (n : Nat) : Prop where
  es : ES G O H σ ρ n
  p0 : ∀ p, G.fL p -> O0 p
  sub : ∀ p, O0 p -> O p
  ext : Ext G.B H0 H
  gr : ∀ p, O p -> O0 p \/ H0 p = none
  d0 : ∀ p, O0 p -> ∃ o, H0 p = some o
  fr : ∀ i p, kc ρ σ i p -> H0 p = none
  dj : ∀ i j p, kc ρ σ i p -> kc ρ σ j p -> i = j
section
variable {G : Bg φ} {O0 O : Addr -> Prop} {H0 H H' : Hp} {σ : St} {ρ : ak} {n n' : Nat}
def SI.to (s : SI G O0 H0 O H σ ρ n) (x : Ext G.B H H') (ok : G.ok H' n') : SI G O0 H0 O H' σ ρ n':=⟨s.es.ext x ok, s.p0, s.sub, s.ext.trans x, s.gr, s.d0, s.fr, s.dj⟩
def uw {t : Ent} (ht : t.De = false) {k : Nat} {o : Option V} {i : Nat} {p : Addr} (h : kc (ρ.set k t) (σ.set k o) i p) : kc ρ σ i p:=by
  obtain ⟨e, h1, h2, h3⟩:=h;by_cases hk : k = i
  · subst hk;rw [List.getElem?_set] at h1;split at h1
    · split at h1
      · cases h1; rw [ht] at h2; cases h2
      · cases h1
    · exact ⟨e, h1, h2, by rw [L7 (by omega)] at h3; exact h3⟩
  · rw [L7 hk] at h1 h3;exact ⟨e, h1, h2, h3⟩
def SI.vv (s : SI G O0 H0 O H σ ρ n) (k : Nat) {y : PV} {x : V} (r : Rep G.B O H y x) : SI G O0 H0 O H (σ.set k (some x)) (ρ.set k (.val y)) n:=
  ⟨s.es.set k (t:=.val y) ⟨x, rfl, r⟩, s.p0, s.sub, s.ext, s.gr, s.d0, λi p h=>s.fr i p (uw rfl h), λi j p h h'=>s.dj i j p (uw rfl h) (uw rfl h')⟩
def nU (s : ES G O H σ ρ n) {i : Nat} {p : Addr} (h : kc ρ σ i p) : O p /\ ¬ G.fL p /\ ∃ o, H p = some o:=by
  obtain ⟨t, h1, h2, h3⟩:=h;have r:=s.er.2 i t h1;rw [h3] at r
  cases t with
  | own l=>obtain ⟨q, xs, e, a, b, c, _⟩:=r; cases e; exact ⟨a, b, _, c⟩
  | mU l=>obtain ⟨q, xs, e, a, b, c, _⟩:=r; cases e; exact ⟨a, b, _, c⟩
  | _=>cases h2
def CB (s : ES G O H σ ρ n) {i : Nat} {p : Addr} {o : HO} (h : kc ρ σ i p) (e : H p = some o) : ¬ J7 o:=by
  obtain ⟨t, h1, h2, h3⟩:=h;have r:=s.er.2 i t h1;rw [h3] at r
  cases t with
  | own l=>obtain ⟨q, xs, e', a, b, c, _⟩:=r; cases e'; rw [c] at e; cases e; exact id
  | mU l=>obtain ⟨q, xs, e', a, b, c, _⟩:=r; cases e'; rw [c] at e; cases e; exact id
  | _=>cases h2
def SI.np (s : SI G O0 H0 O H σ ρ n) {p : Addr} (hp : H p = none) : ¬ G.fL p:=λz=>by obtain ⟨o, g⟩:=s.es.dm p (s.es.pr p z); rw [hp] at g; cases g
def SI.KC (s : SI G O0 H0 O H σ ρ n) (k : Nat) {t : Ent} {p : Addr} {o : HO} (x : Ext G.B H H') (ok : G.ok H' n') (hp : H p = none) (hp' : H' p = some o) (r : lV G (λq=>O q \/ q = p) H' t (some (.ref p))) :
    SI G O0 H0 (λq=>O q \/ q = p) H' (σ.set k (some (.ref p))) (ρ.set k t) n':=by
  have nO : ¬ O p:=λz=>by obtain ⟨o, g⟩:=s.es.dm p z; rw [hp] at g; cases g
  have np : ¬ G.fL p:=λz=>nO (s.es.pr p z)
  have h0 : H0 p = none:=by
    cases e : H0 p with
    | none=>rfl
    | some o=>obtain ⟨_, this⟩:=(s.ext p o (λz=>np (z ▸ G.pB)) e).there; rw [hp] at this; cases this
  have hB : O G.B:=s.es.B
  have gw : ∀ q, (O q \/ q = p) -> O q \/ H q = none:=λq z=>by
    rcases z with z | z
    · exact .inl z
    · subst z; exact .inr hp
  have s':=s.es.ext x ok
  have es : ES G (λq=>O q \/ q = p) H' σ ρ n':=by
    refine ⟨⟨s.es.er.1, λi e he=>?_⟩, ok, λq z=>.inl (s.es.pr q z), λq z=>?_⟩
    · have r1:=s.es.er.2 i e he
      cases e with
      | un=>trivial
      | val y=>obtain ⟨v, hv, rr⟩:=r1; exact ⟨v, hv, (rr.grow gw).ext (.inl hB) x⟩
      | own t=>
        obtain ⟨q, ys, hv, hq, nq, hh, rr⟩:=r1
        exact ⟨q, ys, hv, .inl hq, nq, x q _ (λz=>nq (z ▸ G.pB)) hh, (rr.grow gw).ext (.inl hB) x⟩
      | mU t=>
        obtain ⟨q, ys, hv, hq, nq, hh, rr⟩:=r1;exact ⟨q, ys, hv, .inl hq, nq, x q _ (λz=>nq (z ▸ G.pB)) hh, ⟨rr.1, λi a b c d=>((rr.2 i a b c d).grow gw).ext (.inl hB) x⟩⟩
    · rcases z with z | z
      · exact s'.dm q z
      · subst z; exact ⟨_, hp'⟩
  have ow : ∀ i q, kc (ρ.set k t) (σ.set k (some (.ref p))) i q -> (i = k /\ q = p) \/ (i ≠ k /\ kc ρ σ i q):=λi q h=>by
    obtain ⟨t, h1, h2, h3⟩:=h;by_cases hk : k = i
    · subst hk;rw [List.getElem?_set] at h3;split at h3
      · split at h3
        · cases h3; exact .inl ⟨rfl, rfl⟩
        · cases h3
      · rename_i hh; exact absurd rfl hh
    · rw [L7 hk] at h1 h3;exact .inr ⟨λz=>hk z.symm, t, h1, h2, h3⟩
  refine ⟨es.set k (t:=t) r, s.p0, λq z=>.inl (s.sub q z), s.ext.trans x, λq z=>?_, s.d0, λi q h=>?_, λi j q h h'=>?_⟩
  · rcases z with z | z
    · exact s.gr q z
    · subst z; exact .inr h0
  · rcases ow i q h with ⟨_, rfl⟩ | ⟨_, h⟩
    · exact h0
    · exact s.fr i q h
  · rcases ow i q h with ⟨rfl, rfl⟩ | ⟨n1, h1⟩
    · rcases ow j q h' with ⟨rfl, _⟩ | ⟨n2, h2⟩
      · rfl
      · obtain ⟨_, _, o, g⟩:=nU s.es h2; rw [hp] at g; cases g
    · rcases ow j q h' with ⟨rfl, rfl⟩ | ⟨n2, h2⟩
      · obtain ⟨_, _, o, g⟩:=nU s.es h1; rw [hp] at g; cases g
      · exact s.dj i j q h1 h2
def SI.gG (s : SI G O0 H0 O H σ ρ n) (k : Nat) {l : List PV} {p : Addr} {xs : List V} (x : Ext G.B H H') (ok : G.ok H' n') (hp : H p = none) (hp' : H' p = some (.lst xs)) (r : bC G.B (λq=>O q \/ q = p) H' l xs) :
    SI G O0 H0 (λq=>O q \/ q = p) H' (σ.set k (some (.ref p))) (ρ.set k (.own l)) n':=
  s.KC k x ok hp hp' ⟨p, xs, rfl, .inr rfl, s.np hp, hp', r⟩
def SI.KG (s : SI G O0 H0 O H σ ρ n) {k : Nat} {t t' : Ent} {p : Addr} {o' : HO} (ht : t.De = true) (hk : ρ[k]? = some t) (hp : σ[k]? = some (some (.ref p))) (r : O p -> ¬ G.fL p -> (∀ q u, ¬ O q -> H q = some u -> upd H p o' q = some u /\ ¬ O q) -> lV G O (upd H p o') t' (some (.ref p))) : SI G O0 H0 O (upd H p o') σ (ρ.set k t') n:=by
  have ho : kc ρ σ k p:=⟨_, hk, ht, hp⟩;obtain ⟨hO, np, o, hh⟩:=nU s.es ho;have nfz:=CB s.es ho hh
  have kp : ∀ q u, ¬ O q -> H q = some u -> upd H p o' q = some u /\ ¬ O q:=λq u nq hq=>⟨by
    have jx : q ≠ p:=λz=>nq (z ▸ hO)
    rw [az jx]; exact hq, nq⟩
  have ow : ∀ i q, kc (ρ.set k t') σ i q -> kc ρ σ i q:=λi q h=>by
    obtain ⟨t, h1, h2, h3⟩:=h;by_cases e : k = i
    · subst e; exact ⟨_, hk, ht, h3⟩
    · rw [L7 e] at h1; exact ⟨t, h1, h2, h3⟩
  refine ⟨⟨⟨by simp [s.es.er.1], λi e he=>?_⟩, G.keep H _ _ (λq u hq hu=>by
      have jx : q ≠ p:=λz=>by
        rcases hq with hq | hq
        · exact np (z ▸ hq)
        · rw [z, hh] at hu; cases hu; exact nfz hq
      rw [az jx]; exact hu) s.es.ok, s.es.pr, λq hq=>?_⟩, s.p0, s.sub, λq u nb hq=>?_, s.gr, s.d0, λi q h=>s.fr i q (ow i q h), λi j q h h'=>s.dj i j q (ow i q h) (ow j q h')⟩
  · by_cases e1 : k = i
    · subst e1;have hl : k < ρ.length:=(LG.mp hk).1;rw [Mm hl] at he;cases he;rw [hp];exact r hO np kp
    · rw [L7 e1] at he;have r1:=s.es.er.2 i e he
      cases e with
      | un=>trivial
      | val y=>obtain ⟨v, hv, rr⟩:=r1; exact ⟨v, hv, rr.keep kp⟩
      | own t=>
        obtain ⟨q, ys, hv, hq, nq, hh', rr⟩:=r1
        have jx : q ≠ p:=λz=>by
          subst z;exact e1 (s.dj k i q ho ⟨_, he, rfl, kQ s.es.er he hv⟩)
        exact ⟨q, ys, hv, hq, nq, by rw [az jx]; exact hh', rr.keep kp⟩
      | mU t=>
        obtain ⟨q, ys, hv, hq, nq, hh', rr⟩:=r1
        have jx : q ≠ p:=λz=>by
          subst z;exact e1 (s.dj k i q ho ⟨_, he, rfl, kQ s.es.er he hv⟩)
        exact ⟨q, ys, hv, hq, nq, by rw [az jx]; exact hh', rr.keep kp⟩
  · by_cases e1 : q = p
    · subst e1; exact ⟨_, aA⟩
    · obtain ⟨u, g⟩:=s.es.dm q hq; exact ⟨u, by rw [az e1]; exact g⟩
  · have jx : q ≠ p:=λz=>by subst z; rw [s.fr k q ho] at hq; cases hq
    exact (s.ext q u nb hq).to λv e=>.of (by rw [az jx]; exact e)
def SI.put (s : SI G O0 H0 O H σ ρ n) {k : Nat} {l l' : List PV} {p : Addr} {xs' : List V} (hk : ρ[k]? = some (.own l)) (hp : σ[k]? = some (some (.ref p))) (r : bC G.B O H l' xs') : SI G O0 H0 O (upd H p (.lst xs')) σ (ρ.set k (.own l')) n:=
  s.KG rfl hk hp λhO np kp=>⟨p, xs', rfl, hO, np, aA, r.keep kp⟩
def SI.frozen (s : SI G O0 H0 O H σ ρ n) : ES G O0 H σ (ρ.map Ent.freeze) n:=by
  refine ⟨⟨by simp [s.es.er.1], λi e he=>?_⟩, s.es.ok, s.p0, λp h=>s.es.dm p (s.sub p h)⟩;rw [LU] at he
  cases q : ρ[i]? with
  | none=>rw [q] at he; cases he
  | some t=>
    rw [q] at he;cases he;have r1:=s.es.er.2 i t q
    cases t with
    | un=>trivial
    | val y=>obtain ⟨v, hv, rr⟩:=r1; exact ⟨v, hv, rr.less s.sub⟩
    | own t=>
      obtain ⟨p, ys, hv, hq, nq, hh', rr⟩:=r1;have h0:=s.fr i p ⟨_, q, rfl, kQ s.es.er q hv⟩
      exact ⟨_, hv, .lst (λz=>by obtain ⟨o, g⟩:=s.d0 p z; rw [h0] at g; cases g) hh' rr.1 (rr.less s.sub).2⟩
    | mU t=>
      obtain ⟨p, ys, hv, hq, nq, hh', rr⟩:=r1;have h0:=s.fr i p ⟨_, q, rfl, kQ s.es.er q hv⟩;exact ⟨_, hv, .pR (λz=>by obtain ⟨o, g⟩:=s.d0 p z; rw [h0] at g; cases g) (.inl hh') rr.1 λi a b c d=>(rr.2 i a b c d).less s.sub⟩
def hide (O0 O : Addr -> Prop) (H : Hp) : Hp:=λp=>by
  classical exact if O p /\ ¬ O0 p then none else H p
def uQ {p : Addr} (h : O p) (h' : ¬ O0 p) : hide O0 O H p = none:=by unfold hide; rw [Mk ⟨h, h'⟩]
def n8 {p : Addr} (h : ¬ (O p /\ ¬ O0 p)) : hide O0 O H p = H p:=by unfold hide; rw [Ml h]
def SI.now (s : SI G O0 H0 O H σ ρ n) : SI G O0 (hide O0 O H) O H σ ρ n:=by
  refine ⟨s.es, s.p0, s.sub, λp o nb h=>?_, λp h=>?_, λp h=>?_, λi p h=>?_, s.dj⟩
  · by_cases c : O p /\ ¬ O0 p
    · rw [uQ c.1 c.2] at h; cases h
    · rw [n8 c] at h; exact .of h
  · by_cases c : O0 p
    · exact .inl c
    · exact .inr (uQ h c)
  · rw [n8 (λz=>z.2 h)]; exact s.es.dm p (s.sub p h)
  · have h1:=nU s.es h;have h0:=s.fr i p h;exact uQ h1.1 (λz=>by obtain ⟨o, g⟩:=s.d0 p z; rw [h0] at g; cases g)
def SI.base (s : SI G O0 H0 O H σ ρ n) : Ext G.B H0 (hide O0 O H):=λp o nb h=>by
  have c : ¬ (O p /\ ¬ O0 p):=λz=>by
    rcases s.gr p z.1 with w | w
    · exact z.2 w
    · rw [w] at h; cases h
  exact (s.ext p o nb h).to λv e=>.of (by rw [n8 c]; exact e)
def SI.back {H1 : Hp} {O' : Addr -> Prop} {σ' : St} {ρ' : ak} (s : SI G O0 H0 O H σ ρ n) (x : SI G O0 (hide O0 O H) O' H1 σ' ρ' n') : SI G O0 H0 O' H1 σ' ρ' n':=by
  have none0 : ∀ p, ¬ G.fL p -> hide O0 O H p = none -> H0 p = none:=λp np h=>by
    cases e : H0 p with
    | none=>rfl
    | some o=>obtain ⟨_, this⟩:=(s.base p o (λz=>np (z ▸ G.pB)) e).there; rw [h] at this; cases this
  refine ⟨x.es, x.p0, x.sub, s.base.trans x.ext, λp h=>?_, s.d0, λi p h=>none0 p (nU x.es h).2.1 (x.fr i p h), x.dj⟩;by_cases c : O0 p
  · exact .inl c
  · rcases x.gr p h with w | w
    · exact .inl w
    · exact .inr (none0 p (λz=>c (s.p0 p z)) w)
def SI.walk {K : Frag} {H1 : Hp} {O' : Addr -> Prop} {σ' : St} {ρ' : ak} {l : List PV} {J : It} (s : SI G O0 H0 O H σ ρ n) (x : SI G O0 (hide O0 O H) O' H1 σ' ρ' n') (it : jI K G O true H l J) : jI K G O' true H1 l J:=by
  have k : ∀ p o, ¬ O p -> H p = some o -> kM H1 p o /\ ¬ O' p:=λp o np hp=>by
    have e : hide O0 O H p = some o:=by rw [n8 (λz=>np z.1)]; exact hp
    refine ⟨x.ext p o (λz=>np (z ▸ s.es.B)) e, λz=>?_⟩;rcases x.gr p z with w | w
    · exact np (s.sub p w)
    · rw [w] at e; cases e
  cases it with
  | lst np hp h r=>exact .lst np (λ_=>(k _ _ (hp rfl) h).2) (k _ _ (hp rfl) h).1 (r.j9 k)
  | tup hp h r=>exact .tup (k _ _ hp h).2 (k _ _ hp h).1 (r.j9 k)
  | txt z=>exact .txt z
  | vF lo n=>exact .vF lo n
end
def Bf (G : Bg φ) (O0 : Addr -> Prop) (H0 : Hp) (D : Ends) (n : Nat) : Fl -> Prop
  | .nx ρ=>∀ O σ H, SI G O0 H0 O H σ ρ n -> D.nx σ H
  | .bk ρ=>∀ O σ H, SI G O0 H0 O H σ ρ n -> D.bk σ H
  | .ct ρ=>∀ O σ H, SI G O0 H0 O H σ ρ n -> D.ct σ H
  | .rt y=>∀ x H, Ext G.B H0 H -> G.ok H n -> Rep G.B O0 H y x -> D.rt x H
def yH (φ : iE) (m : ak -> M Fl) : TS:=λD σ H=>∃ (G : Bg φ) (O0 : Addr -> Prop) (H0 : Hp) (O : Addr -> Prop) (ρ : ak) (n : Nat), SI G O0 H0 O H σ ρ n /\ (m ρ).wp n λf n'=>Bf G O0 H0 D n' f
def SV (φ : iE) (X : Cx) (st : Stmt) (m : ak -> M Fl) : Prop:=BS X st (yH φ m)
def DZ (φ : iE) (X : Cx) (sts : List Stmt) (m : ak -> M Fl) : Prop:=vf X sts (yH φ m)
section
variable {X : Cx} {st : Stmt} {sts : List Stmt}
def BS.mono {t t' : TS} (h : BS X st t) (f : ∀ D σ H, t' D σ H -> t D σ H) : BS X st t':=⟨λpZ s σ H D I q=>h.out pZ s σ H D I (f D σ H q)⟩
def vf.mono {t t' : TS} (h : vf X sts t) (f : ∀ D σ H, t' D σ H -> t D σ H) : vf X sts t':=⟨λpZ s σ H D I q=>h.out pZ s σ H D I (f D σ H q)⟩
def aG (m1 m2 : ak -> M Fl) : ak -> M Fl:=λρ=>(m1 ρ).bind λf=>match f with | .nx ρ'=>m2 ρ' | o=>.ret o
def bW : DZ φ X [] (λρ=>.ret (.nx ρ)):=vf.mono ⟨qf⟩ λD σ H ⟨G, O0, H0, O, ρ, n, s, w⟩=>w O σ H s
def aF {m : ak -> M Fl} (h : SV φ X st m) : DZ φ X [st] m:=⟨iX h.out⟩
def aD {m1 m2 : ak -> M Fl} (h : SV φ X st m1) (h' : DZ φ X sts m2) : DZ φ X (st :: sts) (aG m1 m2):=vf.mono ⟨cA h.out h'.out⟩ λD σ H ⟨G, O0, H0, O, ρ, n, s, w⟩=>by
  unfold aG at w;rw [M.wZ] at w;refine ⟨G, O0, H0, O, ρ, n, s, M.wp_mono w λf n' h=>?_⟩
  cases f with
  | nx ρ'=>exact λO' σ' H' s'=>⟨G, O0, H0, O', ρ', n', s', h⟩
  | rt y=>exact h
  | bk ρ'=>exact h
  | ct ρ'=>exact h
def bF (k : Nat) (m : ak -> M PV) : ak -> M Fl:=λρ=>(m ρ).bind λy=>.ret (.nx (ρ.set k (.val y)))
def di {k : Nat} {m : ak -> M PV} (h : BS X st (nG (xf φ m) (jc k))) : SV φ X st (bF k m):=BS.mono h λD σ H ⟨G, O0, H0, O, ρ, n, s, w⟩=>by
  unfold bF at w;rw [M.wZ] at w;exact ⟨G, O, ρ, n, _, s.es, w, λy x H1 n1 e1 du r1 w1=>w1 O _ _ ((s.to e1 du).vv k r1)⟩
def i9 (k : Nat) (m : ak -> M (List PV)) : ak -> M Fl:=λρ=>(m ρ).bind λl=>.ret (.nx (ρ.set k (.own l)))
def GD {k : Nat} {m : ak -> M (List PV)} (h : BS X st (nG (Fz φ m) (jc k))) : SV φ X st (i9 k m):=BS.mono h λD σ H ⟨G, O0, H0, O, ρ, n, s, w⟩=>by
  unfold i9 at w;rw [M.wZ] at w;exact ⟨G, O, ρ, n, _, s.es, w, λl p xs H1 n1 e1 du hp hp' r1 w1=>w1 _ _ _ (s.gG k e1 du hp hp' r1)⟩
def HQ {k : Nat} {js : List (Option Nat)} {mi : ak -> M (List PV)} {bd : PV -> ak -> M ak} {tt : ak -> M Bool} {te : ak -> M PV} (h : BS X st (nG (GB js (Gz φ X.K false mi) (Ib φ bd) (Bj φ tt) (xf φ te)) (jc k))) : BS X st (nG (Fz φ (cC js mi bd tt te)) (jc k)):=
  BS.mono h λD σ H q=>FZ σ H _ q
def a8 (m : ak -> M (List PV)) : ak -> M PV:=λρ=>(m ρ).bind λl=>.ret (.lst l)
def JV {k : Nat} {m : ak -> M (List PV)} (h : BS X st (nG (Fz φ m) (jc k))) : BS X st (nG (xf φ (a8 m)) (jc k)):=BS.mono h λD σ H ⟨G, O, ρ, n, R, s, w, q⟩=>by
  unfold a8 at w;rw [M.wZ] at w;refine ⟨G, O, ρ, n, _, s, w, λl p xs H' n' a b c d e f=>q (.lst l) _ H' n' a b (.lst (λz=>?_) d e.1 (e.less λq z=>.inl z).2) f⟩;obtain ⟨o, g⟩:=s.dm p z;rw [c] at g; cases g
def jZ (ks : List Nat) (m : ak -> M PV) : ak -> M Fl:=λρ=>(m ρ).bind λy=>(gc ks y ρ).bind λρ'=>.ret (.nx ρ')
def ij (i j : Nat) (m : ak -> M (List PV)) : ak -> M Fl:=λρ=>(m ρ).bind λl=>match l with | [y, z]=>.ret (.nx ((ρ.set i (.val y)).set j (.val z))) | _=>.fail
def xp {i j : Nat} {m : ak -> M (List PV)} (h : BS X st (BK i j (Io φ m))) : SV φ X st (ij i j m):=BS.mono h λD σ H ⟨G, O0, H0, O, ρ, n, s, w⟩=>by
  unfold ij at w;rw [M.wZ] at w;refine ⟨G, O, ρ, n, _, s.es, w, λl xs H1 n1 e1 du r1 w1=>?_⟩
  match l, r1, w1 with
  | [y, z], r1, w1=>
    obtain ⟨x, t, rfl, h1, h2⟩:=r1.cons_inv;obtain ⟨x', t', rfl, h3, h4⟩:=h2.cons_inv;rw [h4.nil_inv];exact ⟨x, x', rfl, w1 O _ _ (((s.to e1 du).vv i h1).vv j h3)⟩
def BJ (i j k : Nat) (ta : TA) : TS:=λD σ H=>ta σ H λvs H1=>∃ u v w, vs = [u, v, w] /\ D.nx (((σ.set i (some u)).set j (some v)).set k (some w)) H1
def Er {i j k : Nat} {x y z : Str} {a b c : Expr} {ta : TA} {px py pz pt pos : Pos} {kt k2 pt2} (hc : X.calm = true) (hN : X.N.Nodup) (hi : X.N[i]? = some x) (hj : X.N[j]? = some y) (hk : X.N[k]? = some z) (hij : i ≠ j) (hik : i ≠ k) (hjk : j ≠ k)
    (hx : X.env.scope.names.lookup x = some .local) (hy : X.env.scope.names.lookup y = some .local) (hz : X.env.scope.names.lookup z = some .local) (ha : PA X [a, b, c] ta)
    (hw : swappedStores [.Tuple [.Name x px, .Name y py, .Name z pz] kt pt] (.Tuple [a, b, c] k2 pt2) X.env = pure (some [x, y, z]))
    (hs : swapsWithSole [.Tuple [.Name x px, .Name y py, .Name z pz] kt pt] (.Tuple [a, b, c] k2 pt2) pos.line X.env = pure false:=by rfl) :
    PS X (.Assign [.Tuple [.Name x px, .Name y py, .Name z pz] kt pt] (.Tuple [a, b, c] k2 pt2) pos) (BJ i j k ta):=by
  intro pZ s σ H D I h;rw [exec_Assign_arm];refine Ly (wpAny_standAt ?_);rw [hs];refine Ly (LD ?_);rw [Ml (by decide)];refine Ly (Tuple_ (eg (ha _ pZ s σ H _ I h) λus s1 ⟨vs, H1, I1, r1, q1⟩=>?_));obtain ⟨v1, v2, v3, e1, q1⟩:=q1;subst e1
  obtain ⟨u1, u2, u3, rfl, r1', r2', r3'⟩ : ∃ u1 u2 u3, us = [u1, u2, u3] /\ RelV v1 u1 /\ RelV v2 u2 /\ RelV v3 u3:=by
    cases r1 with
    | cons p q=>
      cases q with
      | cons p' q'=>
        cases q' with
        | cons p'' q''=>
          cases q'';exact ⟨_, _, _, rfl, p, p', p''⟩
  refine wpAny_newObj_type ?_ (by show 3 <= sizeLine; decide);have I2 : Inv X pZ σ H1 { s1 with heap:=s1.heap.push { cls:=.type "tuple", data:=.seq [u1, u2, u3].toArray } }:=I1.kept (t':=s1.toks) λb o e=>LB _ e;rw [hw];refine Ly (LD ?_);show wpAny (model X.prog X.w) X.A (do rule "assign.swapped-stores"; let items <- unpackItems (.ref s1.heap.objs.size) 3 none; assignInOrder [λv=>bindName X.env z v, λv=>bindName X.env y v, λv=>bindName X.env x v] items.reverse; pure Flow.next) _ _ _;refine Ly (wpAny_rule (Ly (unpackItems_tuple (items:=#[u1, u2, u3]) (I.ok.hd hc) (IsTup.new s1.heap _) λh' hx'=>?_)));have I3:=I2.kept (h':=h') (t':=s1.toks) λb o e=>hx' b o (L4 (LQ e)) e;show wpAny _ _ (assignInOrder [λv=>bindName X.env z v, λv=>bindName X.env y v, λv=>bindName X.env x v] [u3, u2, u1] >>= λ_=>pure Flow.next) _ _ _;refine Ly (assignInOrder_cons (wpAny_bindName (i7 I3 hN hk (.inl hz) r3' (λs2 I4=>?_) (.inr hz))));refine assignInOrder_cons (wpAny_bindName (i7 I4 hN hj (.inl hy) r2' (λs3 I5=>?_) (.inr hy)));refine assignInOrder_cons (wpAny_bindName (i7 I5 hN hi (.inl hx) r1' (λs4 I6=>assignInOrder_nil (LD ?_)) (.inr hx)));refine ⟨_, H1, ?_, q1⟩
  have e1 : ((σ.set k (some v3)).set j (some v2)).set i (some v1) = ((σ.set i (some v1)).set j (some v2)).set k (some v3):=by
    rw [List.set_comm _ _ (Ne.symm hjk), List.set_comm _ _ (Ne.symm hik), List.set_comm _ _ (Ne.symm hij)]
  rw [<- e1];exact I6
def eT (i j k : Nat) (m : ak -> M (List PV)) : ak -> M Fl:=λρ=>(m ρ).bind λl=>match l with | [y, z, u]=>.ret (.nx (((ρ.set i (.val y)).set j (.val z)).set k (.val u))) | _=>.fail
def yJ {i j k : Nat} {m : ak -> M (List PV)} (h : BS X st (BJ i j k (Io φ m))) : SV φ X st (eT i j k m):=BS.mono h λD σ H ⟨G, O0, H0, O, ρ, n, s, w⟩=>by
  unfold eT at w;rw [M.wZ] at w;refine ⟨G, O, ρ, n, _, s.es, w, λl xs H1 n1 e1 du r1 w1=>?_⟩
  match l, r1, w1 with
  | [y, z, u], r1, w1=>
    obtain ⟨x, t, rfl, h1, h2⟩:=r1.cons_inv;obtain ⟨x', t', rfl, h3, h4⟩:=h2.cons_inv;obtain ⟨x'', t'', rfl, h5, h6⟩:=h4.cons_inv;rw [h6.nil_inv];exact ⟨x, x', x'', rfl, w1 O _ _ ((((s.to e1 du).vv i h1).vv j h3).vv k h5)⟩
def aP (m : ak -> M PV) : ak -> M Fl:=λρ=>(m (ρ.map Ent.freeze)).bind λy=>.ret (.rt y)
def aL {m : ak -> M PV} (h : BS X st (D6 (xf φ m))) : SV φ X st (aP m):=BS.mono h λD σ H ⟨G, O0, H0, O, ρ, n, s, w⟩=>by
  unfold aP at w;rw [M.wZ] at w;exact ⟨G, O0, _, n, _, s.frozen, w, λy x H1 n1 e1 du r1 w1=>w1 x H1 (s.ext.trans e1) du r1⟩
def gB (mc : ak -> M Bool) (ma mb : ak -> M Fl) : ak -> M Fl:=λρ=>(mc ρ).bind λb=>if b = true then ma ρ else mb ρ
def dB {mc : ak -> M Bool} {ma mb : ak -> M Fl} (h : BS X st (BN (Bj φ mc) (yH φ ma) (yH φ mb))) : SV φ X st (gB mc ma mb):=BS.mono h λD σ H ⟨G, O0, H0, O, ρ, n, s, w⟩=>by
  unfold gB at w;rw [M.wZ] at w;refine ⟨G, O, ρ, n, _, s.es, w, λb H1 n1 e1 du w1=>?_⟩
  cases b with
  | true=>exact ⟨G, O0, H0, O, ρ, n1, s.to e1 du, w1⟩
  | false=>exact ⟨G, O0, H0, O, ρ, n1, s.to e1 du, w1⟩
def sD (k : Nat) (m : ak -> M PV) : ak -> M Fl:=λρ=>match ρ[k]? with | some (.own l)=>(m ρ).bind λy=>if l.length < 100000 then .ret (.nx (ρ.set k (.own (l ++ [y])))) else .fail | _=>.fail
def t5 {k : Nat} {m : ak -> M PV} (h : BS X st (BQ (Iz X.K "list" yU (p6 k) (fU (xf φ m) mM)))) : SV φ X st (sD k m):=BS.mono h λD σ H ⟨G, O0, H0, O, ρ, n, s, w⟩=>by
  unfold sD at w
  cases hk : ρ[k]? with
  | none=>simp only [hk] at w; exact w.elim
  | some t=>
    cases t with
    | own l=>
      simp only [hk] at w;obtain ⟨p, xs, hx, hO, np, hh, rr⟩:=s.es.er.2 k _ hk;have hs:=kQ s.es.er hk hx;have npB : p ≠ G.B:=λz=>np (z ▸ G.pB);rw [M.wZ] at w;refine ⟨_, hs, .inl ⟨rfl, xs, fk.of hh⟩, G, O, ρ, n, _, s.es, w, λy x H1 n1 e1 du r1 w1=>?_⟩;by_cases hc : l.length < 100000
      · rw [Mk hc] at w1;have s1:=s.to e1 du;have big:=iC;refine ⟨p, xs, x, rfl, rfl, e1 p _ npB hh, by rw [<- rr.1]; omega, w1 O _ _ (s1.put hk hs ((rr.ext s.es.B e1).append (.cons r1 .nil)))⟩
      · rw [Ml hc] at w1; exact w1.elim
    | _=>simp only [hk] at w; exact w.elim
noncomputable def Kd (φ : iE) (b : PV -> ak -> M ak) : TG:=λv σ H Q=>∃ (G : Bg φ) (O0 : Addr -> Prop) (H0 : Hp) (O : Addr -> Prop) (ρ : ak) (n : Nat) (R : ak -> Nat -> Prop) (y : PV), SI G O0 H0 O H σ ρ n /\ Rep G.B O H y v /\ (b y ρ).wp n R /\
  ∀ (σ' : St) (ρ' : ak) (n' : Nat), SI G O0 H0 O H σ' ρ' n' -> R ρ' n' -> Q σ' H
def GS (φ : iE) (X : Cx) (tg : Expr) (b : PV -> ak -> M ak) : Prop:=BG X tg (Kd φ b)
def kZ {tg : Expr} {k : Nat} (h : BG X tg (jc k)) : GS φ X tg (aX k):=BG.mono h λv σ H Q ⟨G, O0, H0, O, ρ, n, R, y, s, r, w, q⟩=>q _ _ n (s.vv k r) w
def jG (bd : PV -> ak -> M ak) (mb : ak -> M Fl) : List PV -> ak -> M Fl
  | [], ρ=>.ret (.nx ρ)
  | y :: r, ρ=>(bd y ρ).bind λρ1=>(mb ρ1).bind λf=>match f with
    | .nx ρ2=>jG bd mb r ρ2
    | .ct ρ2=>jG bd mb r ρ2
    | .bk ρ2=>.ret (.nx ρ2)
    | .rt v=>.ret (.rt v)
def jw (mi : ak -> M (List PV)) (bd : PV -> ak -> M ak) (mb : ak -> M Fl) : ak -> M Fl:=λρ=>(mi ρ).bind λl=>jG bd mb l ρ
def oH {mi : ak -> M (List PV)} {bd : PV -> ak -> M ak} {mb : ak -> M Fl} (h : BS X st (BP (Gz φ X.K true mi) (Kd φ bd) (yH φ mb))) : SV φ X st (jw mi bd mb):=BS.mono h λD σ H ⟨G, O0, H0, O, ρ, n, s, w⟩=>by
  unfold jw at w;rw [M.wZ] at w;refine ⟨G, O, ρ, n, _, s.es, w, λl J H1 n1 e1 du it w1=>?_⟩;have s1:=s.to e1 du
  refine ⟨λi m σ' H'=>m = l.length - i /\ i <= l.length /\ ∃ (O' : Addr -> Prop) (ρ' : ak) (n' : Nat), SI G O0 (hide O0 O H1) O' H' σ' ρ' n' /\ (jG bd mb (l.drop i) ρ').wp n' (λf n'=>Bf G O0 H0 D n' f),
    ⟨l.length, by simp, L1 _, O, ρ, n1, s1.now, by simpa using w1⟩, ?_⟩
  rintro i m σ' H' ⟨rfl, hi, O', ρ', n', s', w'⟩;have it':=s1.walk s' it;by_cases kY : i < l.length
  · have hget : l[i]? = some l[i]:=Lx kY;have n9 : l.drop i = l[i] :: l.drop (i + 1):=List.drop_eq_getElem_cons kY;rw [n9] at w';unfold jG at w';obtain ⟨g1, g2⟩:=it'.go hget;refine .inr ⟨g1, λσ2 H2=>∃ (O' : Addr -> Prop) (ρ' : ak) (n' : Nat), SI G O0 (hide O0 O H1) O' H2 σ2 ρ' n' /\ (jG bd mb (l.drop (i + 1)) ρ').wp n' (λf n'=>Bf G O0 H0 D n' f), λσ2 H2 hh=>⟨l.length - (i + 1), by omega, rfl, kY, hh⟩, λx H2 yl=>?_⟩;obtain ⟨eH, rx⟩:=g2 x H2 yl;subst eH;rw [M.wZ] at w';refine ⟨G, O0, _, O', ρ', n', _, l[i], s', rx, w', λσ2 ρ2 n2 s2 w2=>?_⟩;rw [M.wZ] at w2;refine ⟨G, O0, _, O', ρ2, n2, s2, M.wp_mono w2 λf n3 w3=>?_⟩
    cases f with
    | nx ρ3=>exact λO3 σ3 H3 s3=>⟨O3, ρ3, n3, s3, w3⟩
    | ct ρ3=>exact λO3 σ3 H3 s3=>⟨O3, ρ3, n3, s3, w3⟩
    | bk ρ3=>exact λO3 σ3 H3 s3=>w3 O3 σ3 H3 (s1.back s3)
    | rt y=>exact λx3 H3 e3 ok3 r3=>w3 x3 H3 (s1.base.trans e3) ok3 r3
  · have e : i = l.length:=by omega
    subst e;rw [List.drop_length] at w';exact .inl ⟨it'.stop, w' O' σ' H' (s1.back s')⟩
end
def bR : Fl -> M PV
  | .nx _=>.ret .cB
  | .rt y=>.ret y
  | _=>.fail
def br (k : Nat) (l : List PV) : ak:=l.map val ++ List.replicate (k - l.length) .un
def gF (a k : Nat) (m : ak -> M Fl) (l : List PV) : M PV:=if l.length = a then (m (br k l)).bind bR else .fail
def jK {N : List Str} {vs : List V} {i : Nat} {x : V} (h : vs[i]? = some x) : (start N vs)[i]? = some (some x):=by
  unfold start;have hi : i < vs.length:=(LG.mp h).1;rw [Me (by simpa using hi), LU, h];rfl
section
variable {P : Program} {w : World} {K : Frag} {mg : Str -> Option Value} {base : Heap}
def JL {x qual : Str} {st : Stmt} {f : Addr} {fd : FuncData} {N ps : List Str} {k : Nat} {m : ak -> M Fl} (F : jC K x qual st f fd) (S : aH N ps (ag st)) (hN : ps.length <= N.length)
    (hb : ∀ (fi : Value) (A : Around) (outer : List Env) (s : Shared) (H : Hp) (E : XK), fR k (A.deeper (envOfC qual (ag st) s.heap.objs.size f fi)) -> DZ φ (jd bO P w K mg base N qual (ag st) f fi A outer s H E).mW (ar st) m) :
    aI P w K mg base bO (k + 1) f fd ps (cG φ (gF ps.length N.length m)):=by
  refine F.ok S (λvs H Q E h=>?_) (λfi A outer s H vs Q E hr h=>⟨_, (hb fi A outer s H E hr).out, ?_⟩)
  · obtain ⟨G, O, l, n, R, _, _, _, r, w, _⟩:=h;unfold gF at w;by_cases hc : l.length = ps.length
    · rw [<- r.1, hc]
    · rw [Ml hc] at w; exact w.elim
  · obtain ⟨G, O, l, n, R, pr, dm, ok, r, w, q⟩:=h;unfold gF at w;by_cases hc : l.length = ps.length
    · rw [Mk hc, M.wZ] at w;refine ⟨G, O, H, O, br N.length l, n, ⟨⟨⟨?_, λi e he=>?_⟩, ok, pr, dm⟩, pr, λp h=>h, Ext.refl _ _, λp h=>.inl h, dm, λi p h=>?_, λi j p h=>?_⟩, M.wp_mono w λf n' h=>?_⟩
      · unfold start br; simp [r.1]
      · unfold br at he;by_cases hi : i < l.length
        · rw [Me (by simpa using hi), LU, Lx hi] at he;cases he;obtain ⟨x, hx, rr⟩:=r.at (Lx hi);exact ⟨x, by rw [jK hx]; rfl, rr⟩
        · rw [List.getElem?_append_right (by simpa using hi), MB] at he;split at he
          · cases he; trivial
          · cases he
      all_goals try (
        obtain ⟨t, h1, h2, _⟩:=h;exfalso;unfold br at h1;by_cases hi : i < l.length
        · rw [Me (by simpa using hi), LU, Lx hi] at h1;cases h1; cases h2
        · rw [List.getElem?_append_right (by simpa using hi), MB] at h1;split at h1
          · cases h1; cases h2
          · cases h1)
      cases f with
      | nx ρ=>exact λO' σ' H' s'=>q .cB .cB H' n' s'.ext s'.es.ok .cB h
      | rt y=>exact λx' H' e' ok' r'=>q y x' H' n' e' ok' r' h
      | bk ρ=>exact h.elim
      | ct ρ=>exact h.elim
    · rw [Ml hc] at w; exact w.elim
end
section
variable {X : Cx} {e a b : Expr} {ma mb : ak -> M PV}
def Ko (K : Frag) (T : String) (r : V -> List V -> Hp -> VK -> Prop) (op : PV -> List PV -> M PV) : Prop:=∀ (φ : iE) (G : Bg φ) (O : Addr -> Prop) (H0 H : Hp) (n : Nat) (R : PV -> Nat -> Prop) (Q : VK) (y : PV) (x : V) (l : List PV) (xs : List V),
  (∀ p, G.fL p -> O p) -> (∀ p, O p -> ∃ o, H p = some o) -> G.ok H n -> ed G O H y x -> jh G O H l xs -> (op y l).wp n R -> ph G O H R Q -> r x xs H Q
def tyP : PV -> String
  | .str _=>"str"
  | .lst _=>"list"
  | .pR _=>"dict"
  | _=>""
def oB (T : String) (op : PV -> List PV -> M PV) (mo : ak -> M PV) (ml : ak -> M (List PV)) : ak -> M PV:=λρ=>(mo ρ).bind λy=>if tyP y = T then (ml ρ).bind λl=>op y l else .fail
def kJ {T : String} {r : V -> List V -> Hp -> VK -> Prop} {op : PV -> List PV -> M PV} {mo : ak -> M PV} {ml : ak -> M (List PV)} (h : BE X e (Iz X.K T r (zZ φ mo) (Ip φ ml))) (hv : Ko X.K T r op) (hT : T ≠ "":=by decide) : EV φ X e (oB T op mo ml):=BE.mono h λσ H Q ⟨G, O, ρ, n, R, s, w, q⟩=>by
  unfold oB at w;rw [M.wZ] at w;refine ⟨G, O, ρ, n, _, s, w, λy x H1 n1 e1 du r1 w1=>?_⟩;by_cases hc : tyP y = T
  · rw [Mk hc] at w1
    have ty : Ks X.K T x H1:=by
      subst hc;cases y <;> first | exact absurd rfl hT | skip
      · rw [r1.gz]; rfl
      · obtain ⟨p, xs, rfl, hh, _⟩:=r1.kG; exact .inl ⟨rfl, xs, fk.of hh⟩
      · obtain ⟨p, ks, rfl, hh, _⟩:=r1.DE; exact .inr (.inr (.inl ⟨rfl, .inl ⟨ks, hh⟩⟩))
    refine ⟨ty, ?_⟩;rw [M.wZ] at w1;refine ⟨G, O, ρ, n1, _, s.ext e1 du, w1, λl xs H2 n2 e2 oY r2 w2=>?_⟩;exact hv φ G O H1 H2 n2 R Q y x l xs s.pr (s.ext (e1.trans e2) oY).dm oY (r1.ext s.B e2) r2 w2 λy x H' n' e o r h=>q y x H' n' (e1.trans (e2.trans e)) o r h
  · rw [Ml hc] at w1; exact w1.elim
def strsOf : List PV -> Option (List Str)
  | []=>some []
  | .str b :: r=>(strsOf r).map (b :: ·)
  | _=>none
theorem vk {B : Addr} {O : Addr -> Prop} {H : Hp} : ∀ {l : List PV} {xs : List V} {bs : List Str}, bC B O H l xs -> strsOf l = some bs -> xs = bs.map V.str
  | [], xs, bs, h, e=>by simp [strsOf] at e; subst e; exact h.nil_inv
  | y :: l, xs, bs, h, e=>by
    cases y <;> simp [strsOf] at e;obtain ⟨bs', e1, rfl⟩:=e;obtain ⟨x, r, rfl, h1, h2⟩:=h.cons_inv;cases h1;rw [LJ, vk h2 e1]
def dY : PV -> List PV -> M PV
  | .str sep, [.lst l]=>(M.dW (strsOf l)).bind λys=>if (ys.map (·.length)).sum + ys.length * sep.length <= 16777216 then .ret (.str (Txt.join sep ys)) else .fail
  | _, _=>.fail
def AI {y : PV} {l : List PV} {n : Nat} {R : PV -> Nat -> Prop} (w : (dY y l).wp n R) : ∃ sep m, y = .str sep /\ l = [.lst m]:=by
  unfold dY at w;split at w
  · exact ⟨_, _, rfl, rfl⟩
  · exact w.elim
def iw {K : Frag} : Ko K "str" (λx xs H Q=>∃ (sep : Str) (p : Addr) (ys : List Str), x = .str sep /\ xs = [.ref p] /\ fk K H p (ys.map V.str) /\ (ys.map (·.length)).sum + ys.length * sep.length <= 16777216 /\ Q (.str (Txt.join sep ys)) H) dY:=λφ G O H0 H n R Q y x l xs pr dm ok r1 r2 w q=>by
  obtain ⟨sep, l, rfl, rfl⟩:=AI w
  · rw [r1.gz];obtain ⟨x2, ex, r3⟩:=r2.one;subst ex;obtain ⟨p, xs, ep, hh, rr⟩:=r3.kG;subst ep;unfold dY at w;dsimp only at w
    cases es : strsOf l with
    | none=>rw [es] at w; exact w.elim
    | some ys=>
      rw [es] at w;replace w : (if (ys.map (·.length)).sum + ys.length * sep.length <= 16777216 then M.ret (.str (Txt.join sep ys)) else .fail : M PV).wp n R:=w;by_cases hc : (ys.map (·.length)).sum + ys.length * sep.length <= 16777216
      · rw [Mk hc] at w;rw [vk rr es] at hh;exact ⟨sep, p, ys, rfl, rfl, fk.of hh, hc, q.sc ok (.str _) w⟩
      · rw [Ml hc] at w; exact w.elim
def uJ : PV -> M PV
  | .int i=>.ret (.int (-i))
  | _=>.fail
def uV (h : BE X e (Ku (rU λi=>.int (-i)) (zZ φ ma))) : EV φ X e (λρ=>(ma ρ).bind uJ):=BE.mono h λσ H Q ⟨G, O, ρ, n, R, s, w, q⟩=>by
  rw [M.wZ] at w;refine ⟨G, O, ρ, n, _, s, w, λy x H1 n1 e1 du r1 w1=>?_⟩;cases y <;> first | exact w1.elim | skip
  rw [r1.fD];exact ⟨_, rfl, q _ _ _ _ e1 du (.int _) w1⟩
end
section
variable {X : Cx} {e a b o : Expr} {es : List Expr} {pos p : Pos} {x : Str} {id T : String} {r : List V -> Hp -> VK -> Prop} {t : TA} {st : Stmt}
def bv (i : Nat) {x : Str} {pos : Pos} (hN : X.N[i]? = some x:=by rfl) (hv : Kk X.env.scope x:=by first | exact Or.inl rfl | exact Or.inr (Or.inl rfl) | exact Or.inr (Or.inr rfl)) (hd : (x == ("__debug__" : Str)) = false:=by decide)
    (hcd : (x == ("__classdict__" : Str)) = false:=by decide) : BE X (.Name x pos) (p6 i):=⟨xD hN hv hd hcd⟩
def aT (hc : iF X (.builtin id) r) (hg : Gl X x) (hm : X.mg x = none) (hv : bootBuiltins x = some (.builtin id)) (ha : BA X (e :: es) t) (hn : x ≠ "__name__":=by decide) (ye : (x == ("__debug__" : Str)) = false:=by decide)
    (he : starEach (e :: es) X.env = (false, eval e X.env) :: starEach es X.env:=by rfl) (tm : (backTo pos (starEach es X.env)).any (·.1) = false:=by rfl) : BE X (.Call (.Name x p) (e :: es) [] pos) (BR r t):=⟨nR hc hg hm hv ha.out hn ye he tm⟩
def dh (hc : iF X (.type T) r) (hg : Gl X x) (hm : X.mg x = none) (hv : bootBuiltins x = some (.type T)) (ha : BA X (e :: es) t) (hn : x ≠ "__name__":=by decide) (ye : (x == ("__debug__" : Str)) = false:=by decide)
    (he : starEach (e :: es) X.env = (false, eval e X.env) :: starEach es X.env:=by rfl) (tm : (backTo pos (starEach es X.env)).any (·.1) = false:=by rfl) : BE X (.Call (.Name x p) (e :: es) [] pos) (BR r t):=⟨Ao hc hg hm hv ha.out hn ye he tm⟩
def aw {CX : zV} {k : Nat} {f : Addr} {fd : FuncData} {ps : List Str} {sp : Sp} {ds : List Value} {dvs : List V} {E : XK} (F : aI X.prog X.w X.K X.mg X.base CX k f fd ps sp) (hr : fR k X.A) (hg : Gl X x) (hm : X.mg x = some (.ref f)) (hk : keepIn X.K (.ref f) = true) (hb : Binds X.K fd ps ds) (hd : Vals dvs ds) (hx : Passes CX X E)
    (ha : BA X (e :: es) t) (ye : (x == ("__debug__" : Str)) = false:=by decide) (he : starEach (e :: es) X.env = (false, eval e X.env) :: starEach es X.env:=by rfl) (tm : (backTo pos (starEach es X.env)).any (·.1) = false:=by rfl) :
    BE X (.Call (.Name x p) (e :: es) [] pos) (yI sp dvs E t):=⟨Ey F hr hg hm hk hb hd hx ha.out ye he tm⟩
def d8 : BA X [] mM:=⟨jq⟩
def bg {te : TE} (ha : BE X e te) (hr : BA X es t) (hs : starEach (e :: es) X.env = (false, eval e X.env) :: starEach es X.env:=by rfl) : BA X (e :: es) (fU te t):=⟨fO ha.out hr.out hs⟩
def i5 {v : V} {u : Value} (hg : Gl X x) (hm : X.mg x = none) (hv : bootBuiltins x = some u) (r : RelV v u) (hn : x ≠ "__name__":=by decide) (hd : (x == ("__debug__" : Str)) = false:=by decide) : BE X (.Name x pos) (tC v):=⟨Ez hg hm hv r hn hd⟩
def gM {apos mB : Pos} {name : Str} {to : TE} {r : V -> List V -> Hp -> VK -> Prop} (pa : PlainAttrs T) (slot : Slot T name id) (hty : typeOf (.builtin id) = pure (.type "method_descriptor")) (hm : Ig X id r) (ho : BE X o to) (ha : BA X (e :: es) t)
    (hbase : attributeBase o name X.env (eval o X.env) = eval o X.env:=by rfl)
    (hfew : ((backTo mB (starEach (e :: es) X.env)).all (λx=>!x.1) && (backToKw mB (keywordEach [] X.env)).all (λx=>x.1.isSome)
      && decide ((e :: es).length + ([] : List Keyword).length + (if ([] : List Keyword).isEmpty then 0 else 1) < 30)) = true:=by rfl)
    (hline : (apos.endLine == mB.line) = true:=by rfl) (hs : starEach (e :: es) X.env = (false, eval e X.env) :: starEach es X.env:=by rfl) (hplain : (backTo mB (starEach es X.env)).any (·.1) = false:=by rfl) :
    BE X (.Call (.Attribute o name apos) (e :: es) [] mB) (Iz X.K T r to t):=⟨Jg pa slot hty hm ho.out ha.out hbase hfew hline hs hplain⟩
def jz {elt target iter : Expr} {ifs : List Expr} {scope : Scope} {N : List Str} {js : List (Option Nat)} {wi : TI} {g : TG} {tt : TT} {te : TE} (L : bc X scope N js) (hc : X.calm = true) (hi : BI X target iter wi)
    (hg : ∀ s₀ H₀ ex pn, BG (lb X scope N s₀ H₀ ex pn) target g) (ht : ∀ s₀ H₀ ex pn, Gs (lb X scope N s₀ H₀ ex pn) ifs tt) (he : ∀ s₀ H₀ ex pn, BE (lb X scope N s₀ H₀ ex pn) elt te)
    (hs : ∀ x, foldedSetIterable iter X.env x = pure x:=by intro _; rfl) : BE X (.ListComp elt [⟨target, iter, ifs, 0⟩] scope pos) (GB js wi g tt te):=⟨FQ L hc hi.out (λa b c d=>(hg a b c d).out) (λa b c d=>(ht a b c d).out) (λa b c d=>(he a b c d).out) hs⟩
def JR {elt target iter : Expr} {ifs : List Expr} {scope : Scope} {N : List Str} {js : List (Option Nat)} {spos py : Pos} {y : Str} {k : Nat} {wi : TI} {g : TG} {tt : TT} {te : TE} (hN : X.N.Nodup) (hk : X.N[k]? = some y) (hy : Loc X.env.scope y) (L : bc X scope N js) (hc : X.calm = true) (hi : BI X target iter wi)
    (hg : ∀ s₀ H₀ ex pn, BG (lb X scope N s₀ H₀ ex pn) target g) (ht : ∀ s₀ H₀ ex pn, Gs (lb X scope N s₀ H₀ ex pn) ifs tt) (he : ∀ s₀ H₀ ex pn, BE (lb X scope N s₀ H₀ ex pn) elt te)
    (hsw : swapsWith (.ListComp elt [⟨target, iter, ifs, 0⟩] scope pos) (some (.Name y py)) spos.line X.env = pure true:=by rfl)
    (hs : ∀ x, foldedSetIterable iter X.env x = pure x:=by intro _; rfl) (hf : X.fn y = true \/ X.env.scope.names.lookup y = some .local:=by first | exact .inl rfl | exact .inr rfl | assumption) :
    BS X (.Assign [.Name y py] (.ListComp elt [⟨target, iter, ifs, 0⟩] scope pos) spos) (nG (GB js wi g tt te) (jc k)):=⟨Ja hN hk hy L hc hi.out (λa b c d=>(hg a b c d).out) (λa b c d=>(ht a b c d).out) (λa b c d=>(he a b c d).out) hsw hs hf⟩
def dc {i : Nat} {te : TE} {pos' : Pos} (hN : X.N.Nodup) (hi : X.N[i]? = some x) (hx : Loc X.env.scope x) (he : BE X e te) (hs : swapsWith e (some (.Name x pos')) pos.line X.env = pure false:=by rfl) (hf : X.fn x = true \/ X.env.scope.names.lookup x = some .local:=by first | exact .inl rfl | exact .inr rfl | assumption) :
    BS X (.Assign [.Name x pos'] e pos) (nG te (jc i)):=⟨mS hN hi hx he.out hs hf⟩
def rL {i j : Nat} {x y : Str} {ta : TA} {px py pt : Pos} {kt k2 pt2} (hc : X.calm = true) (hN : X.N.Nodup) (hi : X.N[i]? = some x) (hj : X.N[j]? = some y) (hij : i ≠ j)
    (hx : X.env.scope.names.lookup x = some .local) (hy : X.env.scope.names.lookup y = some .local) (ha : BA X [a, b] ta)
    (hw : swappedStores [.Tuple [.Name x px, .Name y py] kt pt] (.Tuple [a, b] k2 pt2) X.env = pure (some [x, y]))
    (hs : swapsWithSole [.Tuple [.Name x px, .Name y py] kt pt] (.Tuple [a, b] k2 pt2) pos.line X.env = pure false:=by rfl) :
    BS X (.Assign [.Tuple [.Name x px, .Name y py] kt pt] (.Tuple [a, b] k2 pt2) pos) (BK i j ta):=⟨GY hc hN hi hj hij hx hy ha.out hw hs⟩
def zN {i j k : Nat} {x y z : Str} {c : Expr} {ta : TA} {px py pz pt : Pos} {kt k2 pt2} (hc : X.calm = true) (hN : X.N.Nodup) (hi : X.N[i]? = some x) (hj : X.N[j]? = some y) (hk : X.N[k]? = some z) (hij : i ≠ j) (hik : i ≠ k) (hjk : j ≠ k)
    (hx : X.env.scope.names.lookup x = some .local) (hy : X.env.scope.names.lookup y = some .local) (hz : X.env.scope.names.lookup z = some .local) (ha : BA X [a, b, c] ta)
    (hw : swappedStores [.Tuple [.Name x px, .Name y py, .Name z pz] kt pt] (.Tuple [a, b, c] k2 pt2) X.env = pure (some [x, y, z]))
    (hs : swapsWithSole [.Tuple [.Name x px, .Name y py, .Name z pz] kt pt] (.Tuple [a, b, c] k2 pt2) pos.line X.env = pure false:=by rfl) :
    BS X (.Assign [.Tuple [.Name x px, .Name y py, .Name z pz] kt pt] (.Tuple [a, b, c] k2 pt2) pos) (BJ i j k ta):=⟨Er hc hN hi hj hk hij hik hjk hx hy hz ha.out hw hs⟩
def aM {te : TE} (he : BE X e te) : BS X (.Return (some e) pos) (D6 te):=⟨qC he.out⟩
def dJ {c : Expr} {ss tt : List Stmt} {tc : TT} {t u : TS} (hc : BT X c tc) (ha : vf X ss t) (hb : vf X tt u) : BS X (.If c ss tt pos) (BN tc t u):=⟨yX hc.out ha.out hb.out⟩
def m7 {tg iter : Expr} {body : List Stmt} {wi : TI} {g : TG} {tb : TS} (hp : PassesOwn (model X.prog X.w) X.A X.env X.xe) (hc : X.calm = true) (hi : BI X tg iter wi) (hg : BG X tg g) (hb : vf X body tb)
    (hs : ∀ x, foldedSetIterable iter X.env x = pure x:=by intro _; rfl) : BS X (.For tg iter body [] pos) (BP wi g tb):=⟨Cq hp hc hi.out hg.out hb.out hs⟩
def qp {te : TE} (he : BE X e te) (hs : swapsWith e none pos.line X.env = pure false:=by rfl) : BS X (.Expr e pos) (BQ te):=⟨Es he.out hs⟩
def iS {tg : Expr} {ta : TA} (hg : Gl X "range") (hm : X.mg "range" = none) (ha : BA X [a] ta) (hs : starEach [a] X.env = [(false, eval a X.env)]:=by rfl) : BI X tg (.Call (.Name "range" p) [a] [] pos) (zw ta):=⟨An hg hm ha.out hs⟩
def gL {r : V -> Option Int -> Option Int -> Hp -> VK -> Prop} {te : TE} {tl th : TO} {lo hi : Option Expr} {p2 : Pos} (hr : Br X r) (he : BE X e te) (hl : BO X lo tl) (hu : BO X hi th) : BE X (.Subscript e (.Slice lo hi none p2) pos) (Kv r te tl th):=⟨qH hr he.out hl.out hu.out⟩
def zR {op : UnaryOp} {r : V -> Hp -> VK -> Prop} {ta : TE} (ho : Kl X (unaryOp op) r) (ha : BE X a ta) : BE X (.UnaryOp op a pos) (Ku r ta):=⟨Jc ho ha.out⟩
def cf {i : Nat} (hN : X.N.Nodup) (hi : X.N[i]? = some x) (hx : Loc X.env.scope x) (hf : X.fn x = true \/ X.env.scope.names.lookup x = some .local:=by first | exact .inl rfl | exact .inr rfl | assumption) : BG X (.Name x pos) (jc i):=⟨nQ hN hi hx hf⟩
end
section
variable {P : Program} {w : World} {K : Frag} {mg : Str -> Option Value} {base : Heap}
def bL {x qual : Str} {st : Stmt} {f : Addr} {fd : FuncData} {N ps : List Str} {k : Nat} {m : ak -> M Fl} {body : List Stmt} {sc : Scope} {Ff : List PV -> M PV} (hF : Ff = gF ps.length N.length m) (F : jC K x qual st f fd) (S : aH N ps (ag st)) (hN : ps.length <= N.length) (eb : ar st = body) (es : ag st = sc)
    (hb : ∀ (fi : Value) (A : Around) (outer : List Env) (s : Shared) (H : Hp) (E : XK), fR k (A.deeper (envOfC qual sc s.heap.objs.size f fi)) -> DZ φ (jd bO P w K mg base N qual sc f fi A outer s H E).mW body m) :
    aI P w K mg base bO (k + 1) f fd ps (cG φ Ff):=by
  subst hF eb es;exact JL F S hN hb
end
end
section
open PySem.AutoSeq1 (wpAny_loadPart')
def oZ : fillsNumberSlot (.type "tuple") "mul" = pure false:=
  PySem.fillsNumberSlot_seq (id:="tuple.__mul__") (r:=some (.builtin "tuple.__rmul__")) F.slot_tuple_mul.lookup (by decide +kernel) F.slot_tuple_rmul.lookup (by decide +kernel)
def uj : seqRepeat? (.type "tuple") = pure (some (.builtin "tuple.__mul__")):=by
  unfold seqRepeat?;rw [PySem.seqSlot_of (T:="tuple") (name:="__mul__") (id:="tuple.__mul__") F.slot_tuple_mul.lookup (by decide +kernel), PySem.seqSlot_of (T:="tuple") (name:="__rmul__") (id:="tuple.__rmul__") F.slot_tuple_rmul.lookup (by decide +kernel)];rfl
def rg (a : Int) (t : Tok) (l : Addr) (items : Array Value) (n : Nat) (dd : Option Addr) (sl : Array (Option Value)) :
    Meets (Builtin.«int.__rmul__» ⟨[.int a t, .ref l], []⟩) (λ_ R s=>s.heap.get? l = some { cls:=.type "tuple", dict:=dd, data:=.seq items n, slots:=sl } /\ R (.ok (.ret Value.notImplemented)) s):=
  .of_wp λprog w A R s h=>by obtain ⟨hp, g, d, tk, os⟩:=s; obtain ⟨hl, h⟩:=h; wp_walk using wpAny_loadPart' hl; exact ⟨_, rfl, h⟩
def xl (l : Addr) (items : Array Value) (n : Nat) (dd : Option Addr) (sl : Array (Option Value)) (x : Int) (u : Tok) (hc0 : ¬(decide (x < -(2 ^ 63)) || decide (x ≥ 2 ^ 63)) = true) (hc1 : ¬(items.isEmpty || x == 1) = true) (hc2 : ¬(decide (x <= 0) || items.isEmpty) = true) (hc3 : ¬((items.size : Int) * x > (2 ^ 63 - 1) / 8)) (hc4 : ¬Builtin.Tuple.tupleTooMany (items.size * x) = true) (hc5 : ¬ (List.foldl (λx1 x2=>x1 ++ x2) #[] (List.replicate x.toNat items)).size > sizeLine) :
    Meets (Builtin.«tuple.__mul__» ⟨[.ref l, .int x u], []⟩) (λ_ R s=>s.heap.get? l = some { cls:=.type "tuple", dict:=dd, data:=.seq items n, slots:=sl } /\ R (.ok (.ret (Value.ref s.heap.objs.size))) { s with heap:=s.heap.push { cls:=Value.type "tuple", data:=Data.seq ((List.replicate x.toNat items).foldl (· ++ ·) #[]) }, toks:=s.toks }):=
  .of_wp λprog w A R s h=>by
    obtain ⟨hp, g, d, tk, os⟩:=s; obtain ⟨hl, h⟩:=h;have f1:=AutoSeq1.idx_int
    wp_walk using wpAny_loadPart' hl
    refine wpAny_ite_false (LZ hc0) ?_
    wp_walk using wpAny_loadPart' hl
    refine wpAny_ite_false (LZ hc3) ?_
    wp_walk using wpAny_loadPart' hl
    exact ⟨_, rfl, h⟩
def FH : R2:=λx y H Q=>∃ l k xs, x = .ref l /\ y = .int k /\ H l = some (.tup xs) /\ xs ≠ [] /\ 1 < k /\ k < 1000 /\ xs.length * k.toNat <= 100000 /\ ∀ p, H p = none -> Q (.ref p) (upd H p (.tup (List.replicate k.toNat xs).flatten))
def ED {X : Cx} : jj X (binaryOp .Mult) FH:=by
  intro pZ s σ H x y v u Q I rx ry h;obtain ⟨l, k, xs, rfl, rfl, hH, jx, h1, h2, hz, q⟩:=h;cases rx;obtain ⟨t, rfl⟩:=ry;obtain ⟨aY, r, p, _⟩:=I.tuple (ji.of (K:=X.K) hH);obtain ⟨⟨cls, dd, data, sl⟩, ho, hc, n, hd⟩:=id p;simp only at hc hd;subst hc hd;have hlen:=r.length;have hie : aY ≠ []:=λz=>jx (r.qj.mp z)
  have hnew : List.foldl (λx1 x2=>x1 ++ x2) #[] (List.replicate k.toNat aY.toArray) = (List.replicate k.toNat aY).flatten.toArray:=by
    have:=foldl_rep aY k.toNat [];rw [List.nil_append] at this;exact this
  have e63 : (2 : Int) ^ 63 = 9223372036854775808:=by decide
  have hsz : (aY.length : Int) * k <= 100000:=by
    have e : (k.toNat : Int) = k:=by omega
    have : ((aY.length * k.toNat : Nat) : Int) <= 100000:=by
      rw [<- hlen];exact Int.ofNat_le.mpr hz
    rw [Int.natCast_mul, e] at this;exact this
  have hs : sizeLine = 16777216:=Md;have hfl : (List.replicate k.toNat xs).flatten.length <= sizeLine:=by rw [len_rep, Nat.mul_comm]; omega
  refine wpAny_binaryOp_repeat_ref (T:="tuple") (U:="int") (by decide) ⟨_, ho, rfl⟩ (λs'=>typeIs_int s' k t) oZ F.fills_int_mul F.slot_int_rmul uj F.slot_int_index.lookup
    (call_meets F.slot_int_rmul (typeIs_int s k t) F.entry_int_rmul (F.args_int_rmul_2 _ _) (rg k t l aY.toArray n dd sl)
      ⟨ho, rfl, ⟨_, ho, rfl⟩, call_meets F.slot_tuple_mul ⟨_, ho, rfl⟩ F.entry_tuple_mul (F.args_tuple_mul_2 _ _) (xl l aY.toArray n dd sl k t ?_ ?_ ?_ ?_ ?_ ?_) ⟨ho, ?_⟩⟩)
  · simp; omega
  · simp [hie]; omega
  · simp [hie]; omega
  · simp only [LF]; omega
  · unfold Builtin.Tuple.tupleTooMany; simp only [LF, MA]; omega
  · rw [hnew, LF, len_rep, Nat.mul_comm, <- hlen]; omega
  · rw [hnew];refine ⟨.ref s.heap.objs.size, _, I.laid (t':=s.toks) (o:=.tup (List.replicate k.toNat xs).flatten) (λb ob q=>LB _ q) (LH _) ?_, rfl, q _ (I.dz.fresh (LH _))⟩;exact ⟨hfl, _, r.rep k.toNat, lh.new _ _⟩
def FK : R2:=λx y H Q=>Cj x y H Q \/ FH x y H Q
def mf {X : Cx} : jj X (binaryOp .Mult) FK:=EH.or ED
def mY (y z : PV) : M PV:=match y, z with
  | .tup l, .int k=>if 0 < l.length /\ 1 < k /\ k < 1000 /\ l.length * k.toNat <= 100000 then .ret (.tup (List.replicate k.toNat l).flatten) else .fail
  | y, z=>xX y z
def lX : pj FK mY:=λφ G O H n R Q y z x x' pr dm ok r1 r2 w q=>by
  have hB : O G.B:=pr _ G.pB
  cases y with
  | tup l=>
    cases z <;> first | exact w.elim | skip
    rename_i k;obtain ⟨a, xs, rfl, h1, e1⟩:=r1.lB;rw [r2.fD];unfold mY at w;dsimp only at w;by_cases hc : 0 < l.length /\ 1 < k /\ k < 1000 /\ l.length * k.toNat <= 100000
    · rw [Mk hc] at w;refine .inr ⟨a, k, xs, rfl, rfl, h1, λz=>?_, hc.2.1, hc.2.2.1, by rw [<- e1.1]; exact hc.2.2.2, λp hp=>q.tup ok dm hp hB (e1.rep _) w⟩;subst z;have:=e1.1;simp at this;have:=hc.1;simp_all
    · rw [Ml hc] at w; exact w.elim
  | _=>exact .inl (G7 φ G O H n R Q _ z x x' pr dm ok r1 r2 w q)
end
def B1 : Sp:=λvs H Q _=>∃ (a c : Addr) (n : Nat) (m : Int), vs = [.ref a, .int m] /\ Fv H a c n /\ n < 1000000 /\ 0 < m /\ m < 1073741824 /\
  ∀ (d : Int) (o : HO), 0 <= d -> d < m -> Fv (upd H a o) a c (n + 1) -> Q (.int d) (upd H a o)
def B2 (K : Frag) : Sp:=λvs H Q _=>∃ (a : Addr) (ns : List Int), vs = [.ref a] /\ fk K H a (ns.map V.int) /\ ns.length <= 63 /\ ∀ (b c : Addr) (H' : Hp), ng H H' -> Fv H' b c 0 -> Q (.ref b) H'
def zF : List PV -> M PV:=λl=>match l with | [.bH, .int m]=>.draw m λd=>.ret (.int d) | _=>.fail
def A0 {φ : iE} {P : Program} {w : World} {K : Frag} {mg : Str -> Option Value} {base : Heap} {k : Nat} {f : Addr} {fd : FuncData} {ps : List Str} (F : aI P w K mg base bO k f fd ps φ.sp) : aI P w K mg base bO k f fd ps (cG φ zF):=by
  refine F.imp λvs H Q E h=>?_;obtain ⟨G, O, l, n, R, pr, dm, ok, r, w, q⟩:=h
  match l, r, w with
  | [.bH, .int m], r, w=>
    obtain ⟨x, t, rfl, r1, r2⟩:=r.cons_inv;obtain ⟨x', t', rfl, r3, r4⟩:=r2.cons_inv;rw [r4.nil_inv];cases r1;cases r3;obtain ⟨h0, h1, n', rfl, h⟩:=w;exact G.dr H n' m Q E ok h0 h1 λd H' d0 d1 e o=>q (.int d) _ H' n' e o (.int d) (h d d0 d1)
structure Gen {α : Type} (m : M α) (c : Nat) (Pr : α -> Prop) : Prop where
  h : ∀ n, c <= n -> m.wp n λy n'=>n <= n' + c /\ Pr y
def Gen.ret {α : Type} {y : α} {Pr : α -> Prop} (h : Pr y) : Gen (.ret y) 0 Pr:=⟨λn _=>⟨LH _, h⟩⟩
def Gen.bind {α β : Type} {m : M α} {f : α -> M β} {c d : Nat} {Pr : α -> Prop} {Rr : β -> Prop} (h : Gen m c Pr) (k : ∀ y, Pr y -> Gen (f y) d Rr) : Gen (m.bind f) (c + d) Rr:=⟨λn hn=>by
  rw [M.wZ];refine M.wp_mono (h.h n (by omega)) λy n1 ⟨h1, h2⟩=>?_
  exact M.wp_mono ((k y h2).h n1 (by omega)) λz n2 ⟨h3, h4⟩=>⟨by omega, h4⟩⟩
def Gen.mono {α : Type} {m : M α} {c d : Nat} {Pr Rr : α -> Prop} (h : Gen m c Pr) (hc : c <= d) (k : ∀ y, Pr y -> Rr y) : Gen m d Rr:=⟨λn hn=>M.wp_mono (h.h n (by omega)) λy n1 ⟨h1, h2⟩=>⟨by omega, k y h2⟩⟩
def Gen.le {α : Type} {m : M α} {c d : Nat} {Pr : α -> Prop} (h : Gen m c Pr) (hc : c <= d) : Gen m d Pr:=h.mono hc λ_ z=>z
def Gen.draw {m : Int} (h0 : 0 < m) (h1 : m < 1073741824) : Gen (zF [.bH, .int m]) 1 λy=>∃ d, y = .int d /\ 0 <= d /\ d < m:=⟨λn hn=>by
  obtain ⟨n', rfl⟩ : ∃ n', n = n' + 1:=⟨n - 1, by omega⟩
  exact ⟨h0, h1, n', rfl, λd d0 d1=>⟨LH _, d, rfl, d0, d1⟩⟩⟩
def Gen.eq {α : Type} {m : M α} {y : α} {Pr : α -> Prop} (e : m = .ret y) (h : Pr y) : Gen m 0 Pr:=e ▸ Gen.ret h
theorem Gen.lc {k : Nat} {te : ak -> M PV} {c : Nat} {Pr : PV -> Prop} {ρ : ak} : ∀ (l : List PV) (ρ' : ak), (∀ e, ρ'.set k e = ρ.set k e) -> (∀ y ∈ l, Gen (te (ρ.set k (.val y))) c Pr) -> Gen (qk (aX k) bS te l ρ') (l.length * c) (λzs=>zs.length = l.length /\ ∀ z ∈ zs, Pr z)
  | [], ρ', _, _=>Gen.le (Gen.ret ⟨rfl, λz hz=>by simp at hz⟩) (by simp)
  | y :: l, ρ', hρ, h=>by
    unfold qk;simp only [aX, bS, rZ, if_true];rw [hρ];refine Gen.le (Gen.bind (h y Lz) λz hz=>Gen.bind (Gen.lc (ρ:=ρ) l _ (λe=>by rw [List.set_set]) λy' hy=>h y' (LC _ hy)) λzs hzs=>Gen.ret ?_) (Nat.le_of_eq ?_)
    · refine ⟨by simp [hzs.1], λu hu=>?_⟩;rcases LK.mp hu with rfl | hu
      · exact hz
      · exact hzs.2 u hu
    · simp only [LN, Nat.succ_mul];omega
theorem j8 {k : Nat} {te : ak -> M PV} {f : PV -> PV} {ρ : ak} : ∀ (l : List PV) (ρ' : ak), (∀ e, ρ'.set k e = ρ.set k e) -> (∀ y ∈ l, te (ρ.set k (.val y)) = .ret (f y)) -> qk (aX k) bS te l ρ' = .ret (l.map f)
  | [], ρ', _, _=>rfl
  | y :: l, ρ', hρ, h=>by
    unfold qk;simp only [aX, bS, rZ, if_true];rw [hρ, h y Lz, j8 (f:=f) (ρ:=ρ) l _ (λe=>by rw [List.set_set]) λy' hy=>h y' (LC _ hy)];rfl
theorem qX {k : Nat} {tt : ak -> M Bool} {te : ak -> M PV} {p : PV -> Bool} {f : PV -> PV} {ρ : ak} : ∀ (l : List PV) (ρ' : ak), (∀ e, ρ'.set k e = ρ.set k e) -> (∀ y ∈ l, tt (ρ.set k (.val y)) = .ret (p y)) -> (∀ y ∈ l, p y = true -> te (ρ.set k (.val y)) = .ret (f y)) -> qk (aX k) tt te l ρ' = .ret ((l.filter p).map f)
  | [], ρ', _, _, _=>rfl
  | y :: l, ρ', hρ, h, h'=>by
    unfold qk;simp only [aX, rZ];have ih:=qX (p:=p) (f:=f) (ρ:=ρ) l (ρ.set k (.val y)) (λe=>by rw [List.set_set]) (λy' hy=>h y' (LC _ hy)) (λy' hy=>h' y' (LC _ hy));rw [hρ, h y Lz, rZ]
    cases hp : p y with
    | true=>
      simp only [if_true];rw [h' y Lz hp, rZ, ih, List.filter_cons_of_pos hp]
      rfl
    | false=>
      simp only [Mf, if_false];rw [ih, List.filter_cons_of_neg (by simp [hp])]
theorem Gen.JK {k : Nat} {mb : ak -> M Fl} {c : Nat} {Iv : ak -> Prop} : ∀ (l : List PV) (ρ : ak), Iv ρ -> (∀ y ∈ l, ∀ ρ, Iv ρ -> Gen (mb (ρ.set k (.val y))) c λf=>∃ ρ', f = .nx ρ' /\ Iv ρ') -> Gen (jG (aX k) mb l ρ) (l.length * c) λf=>∃ ρ', f = .nx ρ' /\ Iv ρ'
  | [], ρ, h, _=>Gen.le (Gen.ret ⟨ρ, rfl, h⟩) (by simp)
  | y :: l, ρ, h, hb=>by
    unfold jG;simp only [aX, rZ];refine Gen.le (Gen.bind (hb y Lz ρ h) λf hf=>?_) (d:=(y :: l).length * c) (Nat.le_of_eq (?_ : c + l.length * c = _))
    · obtain ⟨ρ', rfl, h'⟩:=hf;exact Gen.JK l ρ' h' λy' hy=>hb y' (LC _ hy)
    · simp only [LN, Nat.succ_mul]; omega
section
variable {φ : iE}
def IK : V -> Option Int -> Option Int -> Hp -> VK -> Prop:=λx lo hi H Q=>∃ z, x = .str z /\ z.length <= 100000 /\ Q (.str (Txt.slice z lo hi)) H
def part_of {v : Value} {o : Option Int} (p : IsPart v o) : ∃ l : Option (Int × Tok), v = PySem.partValue l /\ l.map (·.1) = o:=by
  cases p with
  | none=>exact ⟨none, rfl, rfl⟩
  | int i t=>exact ⟨some (i, t), rfl, rfl⟩
def GI {X : Cx} : Br X IK:=by
  intro pZ s σ H x v vl vu lo hi sl Q I rx hs pl pu h;obtain ⟨z, rfl, hz, q⟩:=h;obtain ⟨t, rfl⟩:=rx;obtain ⟨l, rfl, hl⟩:=part_of pl;obtain ⟨u, rfl, hu⟩:=part_of pu;refine ⟨"str", _, F.slot_str_getitem.lookup, typeIs_str _ _ _, wpAny_getItem_str_slice (l:=l) (u:=u) (st:=none) hs rfl ?_⟩;subst hl hu;exact (post_val_or_str ⟨LV (Txt.slice_le z _ _) (LV hz iC), λt' k=>⟨.str (Txt.slice z _ _), H, I.tok _, ⟨_, rfl⟩, q⟩⟩)
def CU {X : Cx} : Ig X "str.index" (λx xs H Q=>∃ (z c : Str) (i : Nat) (r : List Nat), x = .str z /\ xs = [.str c] /\ Builtin.Str.occurrences z c 0 z.length 1 = i :: r /\ Q (.int i) H):=by
  intro pZ s σ H x xs v us Q I rx rv h;obtain ⟨z, c, i, r, rfl, rfl, e, q⟩:=h;obtain ⟨t, rfl⟩:=rx;obtain ⟨u, rfl, t', rfl⟩:=vals1 rv;exact PySem.call_gives F.slot_str_index (typeIs_str s z t) F.entry_str_index (F.args_str_index_2 _ _) (PySem.gives_str_index z c t t' i r e) ⟨.int i, H, I.tok _, ⟨_, rfl⟩, q⟩
def lH : PV -> List PV -> M PV
  | .str z, [.str c]=>match Builtin.Str.occurrences z c 0 z.length 1 with | i :: _=>.ret (.int (i : Nat)) | []=>.fail
  | _, _=>.fail
def yd {y : PV} {l : List PV} {n : Nat} {R : PV -> Nat -> Prop} (w : (lH y l).wp n R) : ∃ z c, y = .str z /\ l = [.str c]:=by
  unfold lH at w;split at w
  · exact ⟨_, _, rfl, rfl⟩
  · exact w.elim
def CS {K : Frag} : Ko K "str" (λx xs H Q=>∃ (z c : Str) (i : Nat) (r : List Nat), x = .str z /\ xs = [.str c] /\ Builtin.Str.occurrences z c 0 z.length 1 = i :: r /\ Q (.int i) H) lH:=λφ G O H0 H n R Q y x l xs pr dm ok r1 r2 w q=>by
  obtain ⟨z, c, rfl, rfl⟩:=yd w
  · rw [r1.gz];obtain ⟨x2, ex, r3⟩:=r2.one;subst ex;rw [r3.gz];unfold lH at w;dsimp only at w
    cases e : Builtin.Str.occurrences z c 0 z.length 1 with
    | nil=>rw [e] at w; exact w.elim
    | cons i r=>rw [e] at w; exact ⟨z, c, i, r, rfl, rfl, e, q.sc ok (.int _) w⟩
section
open HT
variable {prog : Program} {w : World} {A : Around} {E : Value -> Shared -> Prop} {s : Shared}
def mz {t sl : Addr} {items : Array Value} {vl vu : Value} {lo hi : Option Int} {Q : Value -> Shared -> Prop} (ht : IsTup s.heap t items) (hs : s.heap.IsSliceOf sl vl vu .none) (pl : IsPart vl lo) (pu : IsPart vu hi)
    (hw : fC items.size 0 lo = 0 /\ fC items.size items.size hi = items.size) (h : Q (.ref t) s) : wpAny (model prog w) A (getItem (.ref t) (.ref sl)) Q E s:=by
  obtain ⟨os, hos, hcs, hds⟩:=id hs;have hTs : s.TypeIs (.ref sl) "slice":=⟨os, hos, hcs⟩;unfold getItem;try with_reducible refine wpAny_holding ?_
  first | refine Ly (LD ?_) | skip
  refine Ly (wpAny_sequenceKey ht.typeIs (by decide) ?_)
  refine Ly (wpAny_callSpecial?_slot (name:=Str.ofString "__getitem__") ht.typeIs PyProof.Rows.slot_tuple_getitem
    (wpAny_call_entry PyProof.Rows.slot_tuple_getitem ht.typeIs entry_tuple_getitem ?_ (args_tuple_getitem _ _)))
  show wpAny _ _ (Builtin.Tuple.tupleItemsOf (.ref t) >>= _) _ _ s;refine Ly (tupleItemsOf_ ht ?_);refine Ly (wpAny_typeOf hTs ?_);rw [Mk (by decide)];refine Ly (kB hs pl pu ?_)
  have hyes : ((((fC items.size 0 lo : Nat) : Int) == 0 && (1 : Int) == 1 && (fC items.size items.size hi - fC items.size 0 lo) == items.size) = true):=by
    rw [hw.1, hw.2]; simp
  show wpAny _ _ (if (((fC items.size 0 lo : Nat) : Int) == 0 && (1 : Int) == 1 && (fC items.size items.size hi - fC items.size 0 lo) == items.size) = true then _ else _) _ _ s;rw [Mk hyes];refine Ly (m:=Builtin.Tuple.tupleIsExact _) (Ly (wpAny_typeOf ht.typeIs (LD ?_)));rw [Mk (by decide)];refine Ly (wpAny_rule ?_);exact LD ⟨_, rfl, LD h⟩
end
def II : V -> Option Int -> Option Int -> Hp -> VK -> Prop:=λx lo hi H Q=>∃ a xs, x = .ref a /\ H a = some (.tup xs) /\ (HT.fC xs.length 0 lo = 0 /\ HT.fC xs.length xs.length hi = xs.length) /\ Q (.ref a) H
def Ef {X : Cx} : Br X II:=by
  intro pZ s σ H x v vl vu lo hi sl Q I rx hs pl pu h;obtain ⟨a, xs, rfl, hx, hw, q⟩:=h;cases rx;obtain ⟨aY, r, ht, hz⟩:=I.tuple (ji.of (K:=X.K) hx);have hlen : aY.toArray.size = xs.length:=by rw [LF]; exact r.length.symm
  exact ⟨"tuple", _, PyProof.Rows.slot_tuple_getitem.lookup, ht.typeIs, mz ht hs pl pu (by rw [hlen]; exact hw) ⟨.ref a, H, I, rfl, q⟩⟩
def IM (K : Frag) : V -> Option Int -> Option Int -> Hp -> VK -> Prop:=λx lo hi H Q=>IP K x lo hi H Q \/ II x lo hi H Q \/ IK x lo hi H Q
def r6 {X : Cx} : Br X (IM X.K):=KA.or (Ef.or GI)
def pF : PV -> Option Int -> Option Int -> M PV
  | .lst l, lo, hi=>.ret (.lst (lM l lo hi))
  | .tup l, lo, hi=>.ret (.tup (lM l lo hi))
  | .str z, lo, hi=>if z.length <= 100000 then .ret (.str (Txt.slice z lo hi)) else .fail
  | _, _, _=>.fail
def rT {K : Frag} : Lj (IM K) pF:=λφ G O H n R Q y lo hi x pr dm ok r w q=>by
  cases y <;> first | exact w.elim | skip
  · rename_i z;rw [r.gz];unfold pF at w;dsimp only at w;by_cases hc : z.length <= 100000
    · rw [Mk hc] at w; exact .inr (.inr ⟨z, rfl, hc, q.sc ok (.str _) w⟩)
    · rw [Ml hc] at w; exact w.elim
  · rename_i l;obtain ⟨p, xs, rfl, h, e⟩:=r.lB;replace w : R (.tup (lM l lo hi)) n:=w;by_cases hc : HT.fC l.length 0 lo = 0 /\ HT.fC l.length l.length hi = l.length
    · rw [ym l lo hi hc] at w
      cases r with
      | full r=>exact .inr (.inl ⟨p, xs, rfl, h, by rw [<- e.1]; exact hc, q.sc ok r w⟩)
    · exact .inl (.inr ⟨p, xs, rfl, ji.of h, by rw [<- e.1]; exact hc, λp' hp=>q.tup ok dm hp (pr _ G.pB) (wH e lo hi) w⟩)
  · rename_i l;obtain ⟨p, xs, rfl, h, e⟩:=r.kG;exact .inl (.inl ⟨p, xs, rfl, fk.of h, λp' hp=>q.lst ok dm hp (pr _ G.pB) (wH e lo hi) w⟩)
section
variable {X : Cx} {st : Stmt}
def y9 (i j : Nat) (ma : ak -> M PV) (mb : ak -> M (List PV)) : ak -> M Fl:=λρ=>(ma ρ).bind λy=>(mb ρ).bind λl=>.ret (.nx ((ρ.set i (.val y)).set j (.own l)))
def BU {i j : Nat} {ma : ak -> M PV} {mb : ak -> M (List PV)} (h : BS X st (BK i j (fU (xf φ ma) (fU (Fz φ mb) mM)))) : SV φ X st (y9 i j ma mb):=BS.mono h λD σ H ⟨G, O0, H0, O, ρ, n, s, w⟩=>by
  unfold y9 at w;rw [M.wZ] at w;refine ⟨G, O, ρ, n, _, s.es, w, λy x H1 n1 e1 du r1 w1=>?_⟩;rw [M.wZ] at w1;have s1:=s.to e1 du;refine ⟨G, O, ρ, n1, _, s1.es, w1, λl p xs H2 n2 e2 oY hp hp' r2 w2=>?_⟩;exact ⟨x, .ref p, rfl, w2 _ _ _ ((s1.vv i r1).gG j e2 oY hp hp' r2)⟩
end
def Hy {K : Frag} {tI : TI} {bd : PV -> ak -> M ak} {mb : ak -> M Fl} {G : Bg φ} {O0 O : Addr -> Prop} {H0 H : Hp} {σ : St} {ρ : ak} {n : Nat} {D : Ends} {l : List PV} {J : It} (hI : ∀ Q : It -> Hp -> Prop, Q J H -> tI σ H Q) (it : jI K G O true H l J) (s1 : SI G O0 H0 O H σ ρ n)
    (w1 : (jG bd mb l ρ).wp n (λf n'=>Bf G O0 H0 D n' f)) : BP tI (Kd φ bd) (yH φ mb) D σ H:=by
  refine hI _ ?_
  refine ⟨λi m σ' H'=>m = l.length - i /\ i <= l.length /\ ∃ (O' : Addr -> Prop) (ρ' : ak) (n' : Nat), SI G O0 (hide O0 O H) O' H' σ' ρ' n' /\ (jG bd mb (l.drop i) ρ').wp n' (λf n'=>Bf G O0 H0 D n' f),
    ⟨l.length, by simp, L1 _, O, ρ, n, s1.now, by simpa using w1⟩, ?_⟩
  rintro i m σ' H' ⟨rfl, hi, O', ρ', n', s', w'⟩;have it':=s1.walk s' it;by_cases kY : i < l.length
  · have hget : l[i]? = some l[i]:=Lx kY;have n9 : l.drop i = l[i] :: l.drop (i + 1):=List.drop_eq_getElem_cons kY;rw [n9] at w';unfold jG at w';obtain ⟨g1, g2⟩:=it'.go hget;refine .inr ⟨g1, λσ2 H2=>∃ (O' : Addr -> Prop) (ρ' : ak) (n' : Nat), SI G O0 (hide O0 O H) O' H2 σ2 ρ' n' /\ (jG bd mb (l.drop (i + 1)) ρ').wp n' (λf n'=>Bf G O0 H0 D n' f), λσ2 H2 hh=>⟨l.length - (i + 1), by omega, rfl, kY, hh⟩, λx H2 yl=>?_⟩;obtain ⟨eH, rx⟩:=g2 x H2 yl;subst eH;rw [M.wZ] at w';refine ⟨G, O0, _, O', ρ', n', _, l[i], s', rx, w', λσ2 ρ2 n2 s2 w2=>?_⟩;rw [M.wZ] at w2;refine ⟨G, O0, _, O', ρ2, n2, s2, M.wp_mono w2 λf n3 w3=>?_⟩
    cases f with
    | nx ρ3=>exact λO3 σ3 H3 s3=>⟨O3, ρ3, n3, s3, w3⟩
    | ct ρ3=>exact λO3 σ3 H3 s3=>⟨O3, ρ3, n3, s3, w3⟩
    | bk ρ3=>exact λO3 σ3 H3 s3=>w3 O3 σ3 H3 (s1.back s3)
    | rt y=>exact λx3 H3 e3 ok3 r3=>w3 x3 H3 (s1.base.trans e3) ok3 r3
  · have e : i = l.length:=by omega
    subst e;rw [List.drop_length] at w';exact .inl ⟨it'.stop, w' O' σ' H' (s1.back s')⟩
def sk (a b : Int) (n : Nat) : Int:=(λj=>if j > a then j else a) (if (n : Int) < b then (n : Int) else b)
def JE (K : Frag) (a b : Int) : TI:=zw (fU (BR (λxs H Q=>∃ i j, xs = [.int i, .int j] /\ Q (.int (if j > i then j else i)) H) (fU (tC (.int a)) (fU (BR (λxs H Q=>∃ i j, xs = [.int i, .int j] /\ Q (.int (if j < i then j else i)) H) (fU (tC (.int b)) (fU (BR (Cm K) (fU (p6 0) mM)) mM))) mM))) mM)
def E6 {K : Frag} {a b : Int} {p : Addr} {ns : List Int} {σ : St} {H : Hp} {Q : It -> Hp -> Prop} (h0 : σ[0]? = some (some (.ref p))) (hS : fk K H p (ns.map V.int)) (hr : -1000000 <= sk a b ns.length /\ sk a b ns.length <= 1000000) (q : Q (Ii 0 (sk a b ns.length).toNat) H) : JE K a b σ H Q:=by
  have e62 : (2 : Int) ^ 62 = 4611686018427387904:=by decide
  refine ⟨.ref p, h0, .inl ⟨.ref p, ns.length, rfl, .inl ⟨_, hS, by simp⟩, ?_⟩⟩;refine ⟨_, _, rfl, ?_⟩;refine ⟨_, _, rfl, ?_⟩;exact ⟨sk a b ns.length, rfl, by omega, by omega, q⟩
section
variable {X : Cx} {st : Stmt}
def za (i j : Nat) (ma mb : ak -> M (List PV)) : ak -> M Fl:=λρ=>(ma ρ).bind λy=>(mb ρ).bind λl=>match l with | []=>.ret (.nx ((ρ.set i (.own y)).set j (.own []))) | _=>.fail
def BV {i j : Nat} {ma mb : ak -> M (List PV)} (h : BS X st (BK i j (fU (Fz φ ma) (fU (Fz φ mb) mM)))) : SV φ X st (za i j ma mb):=BS.mono h λD σ H ⟨G, O0, H0, O, ρ, n, s, w⟩=>by
  unfold za at w;rw [M.wZ] at w;refine ⟨G, O, ρ, n, _, s.es, w, λy p1 xs1 H1 n1 e1 du hp1 hp1' r1 w1=>?_⟩;rw [M.wZ] at w1;have s1:=s.to e1 du;refine ⟨G, O, ρ, n1, _, s1.es, w1, λl p xs H2 n2 e2 oY hp hp' r2 w2=>?_⟩
  cases l with
  | cons a l=>exact w2.elim
  | nil=>
    have ex:=r2.nil_inv;subst ex;exact ⟨.ref p1, .ref p, rfl, w2 _ _ _ ((s.gG i e1 du hp1 hp1' r1).gG j e2 oY hp hp' .nil)⟩
end
end
def gG (P : Program) (w : World) (D : Addr) (S : Key -> Bool) (n : Nat) : HO:=.ext λh=>h.SetOf (fP P w) D S n
def t9 {P : Program} {w : World} {H : Hp} {h : Heap} {D : Addr} {S : Key -> Bool} {n : Nat} (hS : h.SetOf (fP P w) D S n) : fE P w H h D (gG P w D S n):=by
  refine ⟨hS, ?_, ?_⟩
  · obtain ⟨o, es, ep, t, e, _⟩:=hS;exact ⟨o, e⟩
  · rintro h1 h2 ⟨o, es, ep, t, e, c⟩ k;exact ⟨o, es, ep, t, k _ e, c⟩
def yO {P : Program} {w : World} {H : Hp} {h : Heap} {D : Addr} {S : Key -> Bool} {n : Nat} (x : lO P w H h) (e : H D = some (gG P w D S n)) : h.SetOf (fP P w) D S n:=(x D _ e).1
section
variable {X : Cx}
def IZ (P : Program) (w : World) : V -> List V -> Hp -> VK -> Prop:=λx vs H Q=>∃ (D : Addr) (k : Key) (S : Key -> Bool) (n : Nat), x = .ref D /\ vs = [kV k] /\ H D = some (gG P w D S n) /\ n + 1 < PySem.scanBound /\ Q .cB (upd H D (gG P w D (λk'=>S k' || decide (k' = k)) (if S k = true then n else n + 1)))
def Em {k : Key} {u : Value} (r : RelV (kV k) u) : qY k u = true /\ u.scannable = true:=by
  cases k with
  | inl i=>obtain ⟨t, rfl⟩:=r; exact ⟨sV i t, rfl⟩
  | inr x=>obtain ⟨t, rfl⟩:=r; exact ⟨sU x t, rfl⟩
def EU : Kp X "set.add" (IZ X.prog X.w):=by
  intro pZ s σ H x vs v us Q I rx rv h;obtain ⟨D, k, S, n, rfl, rfl, hH, hn, q⟩:=h;cases rx;obtain ⟨u, rfl, ru⟩:=rv.one;obtain ⟨hk, hs⟩:=Em ru;refine PySem.call_set_add (knd:=fP X.prog X.w) hk hs (yO I.dz hH) hn λh' hsb hS'=>?_;refine ⟨.cB, _, I.write (t':=s.toks + 1) (x:=D) (e:=D) (o:=gG X.prog X.w D (λk'=>S k' || decide (k' = k)) (if S k = true then n else n + 1)) (by rw [hH]; exact trivial) (.inl rfl) (λb u hb hu=>(hsb.2 b hb).trans hu) (t9 (P:=X.prog) (w:=X.w) (H:=H) hS').2.1 (t9 hS'), rfl, q⟩
def A4 : iF X (.builtin "len") (λxs H Q=>∃ (D : Addr) (S : Key -> Bool) (n : Nat), xs = [.ref D] /\ H D = some (gG X.prog X.w D S n) /\ Q (.int n) H):=by
  intro pZ s σ H xs us Q I r h;obtain ⟨D, S, n, rfl, e, q⟩:=h;obtain ⟨u, rfl, rx⟩:=vals1 r;cases rx;obtain ⟨o, es, ep, t, ho, hex, hd, hel, hmem, hb, hf, hn⟩:=yO I.dz e;have hb' : es.size < 4096:=hb;refine PySem.call_len_set ho hex hd hf (by omega) ?_;exact ⟨.int n, H, I.tok _, ⟨_, by rw [hn]⟩, q⟩
end
def uU {env : Env} (elt gens scope pos) : eval (.SetComp elt gens scope pos) env =
    comprehension (.SetComp elt gens scope pos) scope env (firstIterPos gens pos) (newSet (.type "set")) (firstAsync gens) (firstIter gens env):=rfl
def By (elt target iter : Expr) (ifs : List Expr) (scope : Scope) (pos : Pos) (it acc : Value) (env : Env) : compTurn (.SetComp elt [⟨target, iter, ifs, 0⟩] scope pos) 0 it acc env = (standAt iter.pos >>= λ_=>pyNext it >>= λr=>match r with
    | none=>pure (.done .next)
    | some v=>letOwnedTupleGo target it v >>= λ_=>assign target env v >>= λ_=>(forIn ifs true λc r=>if r = true then do let ok <- isTrue c env (eval c env); pure (ForInStep.yield ok) else pure (ForInStep.yield r)) >>= λok=>
      if ok = true then (eval elt env >>= λx=>standAt elt.pos >>= λ_=>call (.builtin "set.add") [acc, x] >>= λ_=>pure ()) >>= λ_=>again (.compLoop (.SetComp elt [⟨target, iter, ifs, 0⟩] scope pos) 0 it acc env)
      else again (.compLoop (.SetComp elt [⟨target, iter, ifs, 0⟩] scope pos) 0 it acc env)):=rfl
def Ab {prog : Program} {w : World} {A : Around} {R : Result -> Shared -> Prop} {s : Shared} {elt target iter : Expr} {ifs : List Expr} {scope : Scope} {pos : Pos} {it acc : Value} {env : Env}
    (one : codeAny (model prog w) A (.compLoop (.SetComp elt [⟨target, iter, ifs, 0⟩] scope pos) 0 it acc env) R s)
    (two : wpAny (model prog w) A (pyIter it) (λj s'=>codeAny (model prog w) A (.compLoop (.SetComp elt [⟨target, iter, ifs, 0⟩] scope pos) 0 j acc env) R s') (notedBy (model prog w) A env λx s'=>R (.error x) s') s) :
    codeAny (model prog w) A (.compStart (.SetComp elt [⟨target, iter, ifs, 0⟩] scope pos) 0 it acc env) R s:=
  codeAny_of_tree (wpAny_notedAt (pos:=theWindowsPlace) (m:=compStart (.SetComp elt [⟨target, iter, ifs, 0⟩] scope pos) 0 it acc env) (by
    have again_at : ∀ (j : Value) (s' : Shared), codeAny (model prog w) A (.compLoop (.SetComp elt [⟨target, iter, ifs, 0⟩] scope pos) 0 j acc env) R s' -> (Code.compLoop (.SetComp elt [⟨target, iter, ifs, 0⟩] scope pos) 0 j acc env).quiet = true /\ codeAny (model prog w) A (.compLoop (.SetComp elt [⟨target, iter, ifs, 0⟩] scope pos) 0 j acc env) R s':=λ_ _ q=>⟨rfl, q⟩;unfold compStart;change wpAny _ _ (ask >>= _) _ _ s;apply Ly;apply wpAny_askSetting;apply wpAny_ite;split
    · exact LD (again_at it s one)
    · apply Ly;apply wpAny_rule;apply Ly;apply wpAny_standAt;apply Ly
      exact wpAny_mono two (λj s' q=>LD (again_at j s' q)) λ_ _ q=>q))
def yn {prog : Program} {w : World} {A : Around} {R : Result -> Shared -> Prop} {s : Shared} {elt target iter : Expr} {ifs : List Expr} {scope : Scope} {pos : Pos} {it acc : Value} {env : Env} (I : Nat -> Shared -> Prop)
    (turn : ∀ n s, I n s -> wpAny (model prog w) A (pyNext it) (λr s₁=>match r with
      | none=>R (.ok .next) s₁
      | some v=>wpAny (model prog w) A (letOwnedTupleGo target it v) (λ_ s₁'=>wpAny (model prog w) A (assign target env v) (λ_ s₂=>
          wpAny (model prog w) A (forIn ifs true λc r=>if r = true then do let ok <- isTrue c env (eval c env); pure (ForInStep.yield ok) else pure (ForInStep.yield r)) (λok s₃=>
            if ok = true then wpAny (model prog w) A (eval elt env) (λx s₄=>
              wpAny (model prog w) A (call (.builtin "set.add") [acc, x]) (λ_ s₅=>∃ m, m < n /\ I m s₅) (λ_ _=>False) s₄) (λ_ _=>False) s₃
            else ∃ m, m < n /\ I m s₃) (λ_ _=>False) s₂) (λ_ _=>False) s₁') (λ_ _=>False) s₁) (λ_ _=>False) s)
    (n : Nat) (h : I n s) :
    codeAny (model prog w) A (.compLoop (.SetComp elt [⟨target, iter, ifs, 0⟩] scope pos) 0 it acc env) R s:=by
  refine codeAny_loop rfl I (λn s hI=>?_) n h;show wpAny _ A ((compTurn (.SetComp elt [⟨target, iter, ifs, 0⟩] scope pos) 0 it acc env).onRaise (λx=>do noteFrame x env; theTreesLotGoes x)) _ _ s;refine wpAny_noted ?_;refine wpAny_mono (E:=λ_ _=>False) ?_ (λ_ _ q=>q) λ_ _ q=>q.elim;rw [By];refine Ly (wpAny_standAt (Ly (eg (turn n s hI) λr s₁ h₁=>?_)))
  cases r with
  | none=>exact LD h₁
  | some v=>
    refine Ly (eg h₁ λ_ s₁' h₁'=>?_);refine Ly (eg h₁' λ_ s₂ h₂=>Ly (eg h₂ λok s₃ h₃=>?_))
    cases ok with
    | false=>exact LD ⟨rfl, h₃⟩
    | true=>exact Ly (Ly (eg h₃ λx s₄ h₄=>Ly (wpAny_standAt (Ly (eg h₄ λ_ s₅ h₅=>LD (LD ⟨rfl, h₅⟩))))))
section
variable {X : Cx} {pZ : List (Addr × Obj)} {σ : St} {H : Hp} {s : Shared} {scope : Scope} {N : List Str} {js : List (Option Nat)} {fp : List Addr}
def Lw (P : Program) (w : World) (J : It) (D : Addr) (g : TG) (tt : TT) (te : TE) (Q : VK) (σ0 : St) (H1 : Hp) : Prop:=
  ∃ W : Nat -> Nat -> St -> Hp -> Prop, (∃ m, W 0 m σ0 (upd H1 D (gG P w D (λ_=>false) 0))) /\ ∀ i m σ' H', W i m σ' H' ->
    (J.stop i H' /\ Q (.ref D) H') \/ (J.go i H' /\ ∀ x H2, J.Fw i H' x H2 -> g x σ' H2 λσ2 H3=>tt σ2 H3 λok H4=>
      if ok = true then te σ2 H4 λy H5=>∃ (k : Key) (S : Key -> Bool) (c : Nat), y = kV k /\ H5 D = some (gG P w D S c) /\ c + 1 < PySem.scanBound /\ ∃ m', m' < m /\ W (i + 1) m' σ2 (upd H5 D (gG P w D (λk'=>S k' || decide (k' = k)) (if S k = true then c else c + 1)))
      else ∃ m', m' < m /\ W (i + 1) m' σ2 H4)
def Ke (P : Program) (w : World) (js : List (Option Nat)) (wi : TI) (g : TG) (tt : TT) (te : TE) : TE:=λσ H Q=>wi σ H λJ H1=>∀ D, H1 D = none -> Lw P w J D g tt te Q (jU js σ) H1
def Eh {elt target iter : Expr} {ifs : List Expr} {pos : Pos} {g : TG} {tt : TT} {te : TE} {it : Addr} {tn : Nat -> Heap -> Prop} {J : It} {Q : VK} {R : Value -> Addr -> Result -> Shared -> Prop}
    (L : bc X scope N js) (hc : X.calm = true)
    (hg : ∀ s₀ H₀ ex pn, PG (lb X scope N s₀ H₀ ex pn) target g) (ht : ∀ s₀ H₀ ex pn, Be (lb X scope N s₀ H₀ ex pn) ifs tt) (he : ∀ s₀ H₀ ex pn, PE (lb X scope N s₀ H₀ ex pn) elt te)
    (I : Inv X pZ σ H s) (T : Turn X.prog X.w X.K target J fp it tn) (st : tn 0 s.heap) (hf : ∀ b ∈ fp, gX X pZ H b)
    {D : Addr} {s3 : Shared} {h₁ : Heap} {tk : Nat} (I3 : Inv X pZ σ (upd H D (gG X.prog X.w D (λ_=>false) 0)) s3) (hDl : ∀ b o, s.heap.get? b = some o -> b ≠ D) (k3 : ∀ b o, s.heap.get? b = some o -> s3.heap.get? b = some o)
    (hns₁ : h₁.Ns s3.heap.objs.size (λ_=>none)) (kk : ∀ b o, s3.heap.get? b = some o -> h₁.get? b = some o)
    (w : ∃ W : Nat -> Nat -> St -> Hp -> Prop, (∃ m, W 0 m (jU js σ) (upd H D (gG X.prog X.w D (λ_=>false) 0))) /\ ∀ i m σ' H', W i m σ' H' ->
      (J.stop i H' /\ Q (.ref D) H') \/ (J.go i H' /\ ∀ x H2, J.Fw i H' x H2 -> g x σ' H2 λσ2 H3=>tt σ2 H3 λok H4=>
        if ok = true then te σ2 H4 λy H5=>∃ (k : Key) (S : Key -> Bool) (c : Nat), y = kV k /\ H5 D = some (gG X.prog X.w D S c) /\ c + 1 < PySem.scanBound /\ ∃ m', m' < m /\ W (i + 1) m' σ2 (upd H5 D (gG X.prog X.w D (λk'=>S k' || decide (k' = k)) (if S k = true then c else c + 1)))
        else ∃ m', m' < m /\ W (i + 1) m' σ2 H4))
    (hR : ∀ C s' H', Inv X pZ σ H' s' -> gX X pZ H' C -> (∃ m, s'.heap.Ns C m) -> Q (.ref D) H' -> R (.ref D) C (.ok .next) s') :
    codeAny (model X.prog X.w) X.A (.compStart (.SetComp elt [⟨target, iter, ifs, 0⟩] scope pos) 0 (.ref it) (.ref D) { newEnv scope s3.heap.objs.size X.env.globals (A2 scope.names X.env.cells) X.env.qual none .none (some X.env) builtinsNs with scope:=relabel scope X.env }) (R (.ref D) s3.heap.objs.size) { s3 with heap:=h₁, toks:=tk }:=by
  have obj:=T.obj 0 s.heap st;have ho3 : ∀ b ∈ fp, ∃ o, s3.heap.get? b = some o:=λb hb=>by obtain ⟨o, e, _⟩:=obj b hb; exact ⟨o, k3 b o e⟩
  have hf3 : ∀ b ∈ fp, gX X pZ (upd H D (gG X.prog X.w D (λ_=>false) 0)) b:=λb hb=>by
    refine ⟨?_, (hf b hb).2⟩;obtain ⟨o, e, _⟩:=obj b hb;rw [az (hDl b o e)];exact (hf b hb).1
  have I4 : Inv (lb X scope N s3 (upd H D (gG X.prog X.w D (λ_=>false) 0)) fp (X.pn ++ pZ)) [] (jU js σ) (upd H D (gG X.prog X.w D (λ_=>false) 0)) { s3 with heap:=h₁, toks:=tk }:=
    L.start I3 hc hf3 ho3 hns₁ kk
  obtain ⟨W, ⟨m0, w0⟩, turn⟩:=w;have st4 : tn 0 h₁:=T.keep 0 _ _ st λb _ o e=>kk b o (k3 b o e);generalize hX : lb X scope N s3 (upd H D (gG X.prog X.w D (λ_=>false) 0)) fp (X.pn ++ pZ) = Y at I4
  have fpY : ∀ b ∈ fp, b ≠ Y.env.locals /\ b ∉ Y.fs /\ (b ∈ Y.ex \/ Y.s₀.heap.objs.size <= b) /\ (∀ x c, Y.env.cells.lookup x = some c -> c ≠ b) /\ ∀ p ∈ Y.pn ++ [], p.1 ≠ b:=λb hb=>by
    rw [<- hX];obtain ⟨o, e⟩:=ho3 b hb;refine ⟨L4 (LQ e), λz=>?_, .inl hb, λx c h=>(hf b hb).2.2.2.2.1 x c (iB _ _ _ (λ_ _ e=>by simp at e) x c h), λp hp=>(hf b hb).2.2.2.2.2 p (by simpa [lb] using hp)⟩;rcases LK.mp (I3.oI b z) with q | q
    · exact (hf b hb).2.1 q
    · exact (hf b hb).2.2.1 q
  have loop : codeAny (model X.prog X.w) X.A (.compLoop (.SetComp elt [⟨target, iter, ifs, 0⟩] scope pos) 0 (.ref it) (.ref D) Y.env) (R (.ref D) s3.heap.objs.size) { s3 with heap:=h₁, toks:=tk }:=by
    have pr : Y.prog = X.prog:=by rw [<- hX]; rfl
    have pw : Y.w = X.w:=by rw [<- hX]; rfl
    have pK : Y.K = X.K:=by rw [<- hX]; rfl
    have pA : Y.A = X.A:=by rw [<- hX]; rfl
    have pc : Y.calm = true:=by rw [<- hX]; rfl
    have px : Y.xe = λ_ _=>False:=by rw [<- hX]; rfl
    have qq : ∀ {H' : Hp}, (∀ b ∈ fp, H' b = none) -> ∀ b ∈ fp, gX Y [] H' b:=λhn b hb=>⟨hn b hb, fpY b hb⟩;refine yn (λn s'=>∃ i σ' H', Inv Y [] σ' H' s' /\ tn i s'.heap /\ (∀ b ∈ fp, H' b = none) /\ W i n σ' H') ?_ m0 ⟨0, _, _, I4, st4, λb hb=>(hf3 b hb).1, w0⟩;rintro n s5 ⟨i, σ5, H5, I5, st5, fr5, w5⟩;have gY : PG Y target g:=by rw [<- hX]; exact hg _ _ _ _
    have tY : Be Y ifs tt:=by rw [<- hX]; exact ht _ _ _ _
    have eY : PE Y elt te:=by rw [<- hX]; exact he _ _ _ _
    unfold PG at gY; unfold Be at tY; unfold PE at eY;rw [pr, pw, pA, px] at gY tY eY;have ap:=EU (X:=Y);unfold Kp at ap;rw [pr, pw, pA, px] at ap;rcases turn i n σ5 H5 w5 with ⟨stop, q⟩ | ⟨go, step⟩
    · have d:=T.done Y pr pw pK pc i [] s5 σ5 H5 (λ_ _=>False) I5 (qq fr5) st5 stop;rw [pA] at d;refine eg d λr s6 ⟨hr, I6⟩=>?_;subst hr;have I6' : Inv (lb X scope N s3 (upd H D (gG X.prog X.w D (λ_=>false) 0)) fp (X.pn ++ pZ)) [] σ5 H5 s6:=by rw [hX]; exact I6
      obtain ⟨a1, a2, a3⟩:=C1 I3 hf3 I6';exact hR _ s6 H5 a1 a2 a3 q
    · have d:=T.item Y pr pw pK pc i [] s5 σ5 H5 (λ_ _=>False) I5 (qq fr5) st5 go;rw [pA] at d;refine eg d λr s6 ⟨u, hr, h6⟩=>?_;subst hr;refine eg h6 λ_ s7 ⟨x, H7, I7, r7, y7, st7, fr7⟩=>?_;have I7':=I7.pinned (qq fr7) (T.obj _ _ st7);refine eg (gY _ s7 σ5 H7 x u _ I7' r7 (step x H7 y7)) λ_ s8 ⟨σ8, H8, I8, q8⟩=>?_
      have again : ∀ {σ9 : St} {H9 : Hp} {s9 : Shared}, Inv Y ([] ++ oR fp s7.heap) σ9 H9 s9 -> (∃ m', m' < n /\ W (i + 1) m' σ9 H9) -> ∃ m, m < n /\ ∃ i σ' H', Inv Y [] σ' H' s9 /\ tn i s9.heap /\ (∀ b ∈ fp, H' b = none) /\ W i m σ' H':=λ{σ9 H9 s9} I9 ⟨m', hm, w9⟩=>by
        refine ⟨m', hm, i + 1, σ9, H9, I9.ly, T.keep _ _ _ st7 λb hb o e=>(I9.pin (b, o) (LS _ (LS _ (iI hb e)))).1, λb hb=>?_, w9⟩;obtain ⟨o, e, d⟩:=T.obj _ _ st7 b hb;exact (I9.pin (b, o) (LS _ (LS _ (iI hb e)))).2.1
      refine eg (tY _ s8 σ8 H8 _ I8 q8) λok s9 ⟨H9, I9, q9⟩=>?_
      cases ok with
      | false=>
        rw [Ml (by decide)] at q9;rw [Ml (by decide)]
        exact again I9 q9
      | true=>
        rw [Mk rfl] at q9;rw [Mk rfl];refine eg (eY _ s9 σ8 H9 _ I9 q9) λv s10 ⟨y, H10, I10, r10, ky, S, c, eky, eys, lys, q10⟩=>?_;refine eg (ap _ s10 σ8 H10 (.ref D) [y] (.ref D) [v] (λ_ H'=>∃ m', m' < n /\ W (i + 1) m' σ8 H') I10 rfl (.cons r10 .nil) ⟨D, ky, S, c, rfl, by rw [eky], eys, lys, q10⟩) λv2 s11 ⟨y2, H11, I11, _, q11⟩=>?_;exact again I11 q11
  have ee : ({ newEnv scope s3.heap.objs.size X.env.globals (A2 scope.names X.env.cells) X.env.qual none .none (some X.env) builtinsNs with scope:=relabel scope X.env } : Env) = Y.env:=by rw [<- hX]; rfl
  rw [ee];exact Ab loop (T.self _ 0 _ _ _ st4 loop)
def B6 {elt target iter : Expr} {ifs : List Expr} {pos : Pos} {g : TG} {tt : TT} {te : TE} {it : Addr} {tn : Nat -> Heap -> Prop} {J : It} {Q : VK} {E : Value -> Shared -> Prop} {R : Value -> Addr -> Result -> Shared -> Prop}
    (L : bc X scope N js) (hc : X.calm = true)
    (hg : ∀ s₀ H₀ ex pn, PG (lb X scope N s₀ H₀ ex pn) target g) (ht : ∀ s₀ H₀ ex pn, Be (lb X scope N s₀ H₀ ex pn) ifs tt) (he : ∀ s₀ H₀ ex pn, PE (lb X scope N s₀ H₀ ex pn) elt te)
    (I : Inv X pZ σ H s) (T : Turn X.prog X.w X.K target J fp it tn) (st : tn 0 s.heap) (hf : ∀ b ∈ fp, gX X pZ H b)
    (w : ∀ D, H D = none -> ∃ W : Nat -> Nat -> St -> Hp -> Prop, (∃ m, W 0 m (jU js σ) (upd H D (gG X.prog X.w D (λ_=>false) 0))) /\ ∀ i m σ' H', W i m σ' H' ->
      (J.stop i H' /\ Q (.ref D) H') \/ (J.go i H' /\ ∀ x H2, J.Fw i H' x H2 -> g x σ' H2 λσ2 H3=>tt σ2 H3 λok H4=>
        if ok = true then te σ2 H4 λy H5=>∃ (k : Key) (S : Key -> Bool) (c : Nat), y = kV k /\ H5 D = some (gG X.prog X.w D S c) /\ c + 1 < PySem.scanBound /\ ∃ m', m' < m /\ W (i + 1) m' σ2 (upd H5 D (gG X.prog X.w D (λk'=>S k' || decide (k' = k)) (if S k = true then c else c + 1)))
        else ∃ m', m' < m /\ W (i + 1) m' σ2 H4))
    (hR : ∀ D C s' H', Inv X pZ σ H' s' -> gX X pZ H' C -> (∃ m, s'.heap.Ns C m) -> Q (.ref D) H' -> R (.ref D) C (.ok .next) s') :
    wpAny (model X.prog X.w) X.A (newSet (.type "set")) (λacc s₃=>wpAny (model X.prog X.w) X.A (newFunctionEnv scope X.env.globals (A2 scope.names X.env.cells) [] X.env.qual none .none (some X.env)) (λcenv s₄=>
      codeAny (model X.prog X.w) X.A (.compStart (.SetComp elt [⟨target, iter, ifs, 0⟩] scope pos) 0 (.ref it) acc { cenv with scope:=relabel scope X.env }) (R acc cenv.locals) s₄) E s₃) E s:=by
  have hD:=I.fresh;refine wpAny_newSet_of (knd:=fP X.prog X.w) λled hS=>?_;have I3 : Inv X pZ σ (upd H s.heap.objs.size (gG X.prog X.w s.heap.objs.size (λ_=>false) 0)) { s with heap:=s.heap.push { cls:=.type "set", dict:=none, data:=.set #[] 0 (.fresh 0 0 led) } }:=I.laid (t':=s.toks) (λb o e=>LB _ e) (LH _) (t9 hS);refine wpAny_newFunctionEnv L.xW (by intro y hy; simp at hy) (λh₁ hns₁ hsb₁=>?_) L.kind;dsimp only at hns₁ hsb₁
  exact Eh (Q:=Q) (R:=R) (s3:={ s with heap:=s.heap.push { cls:=.type "set", dict:=none, data:=.set #[] 0 (.fresh 0 0 led) } }) L hc hg ht he I T st hf I3 (λb o e=>L4 (LQ e)) (λb o e=>LB _ e) hns₁
    (λb o e=>hsb₁.extBut b o (L4 (LQ e)) (LB _ e)) (w _ hD) (λC=>hR _ C)
def Jd {elt target iter : Expr} {ifs : List Expr} {pos : Pos} {wi : TI} {g : TG} {tt : TT} {te : TE} (L : bc X scope N js) (hc : X.calm = true) (hi : PI X target iter wi)
    (hg : ∀ s₀ H₀ ex pn, PG (lb X scope N s₀ H₀ ex pn) target g) (ht : ∀ s₀ H₀ ex pn, Be (lb X scope N s₀ H₀ ex pn) ifs tt) (he : ∀ s₀ H₀ ex pn, PE (lb X scope N s₀ H₀ ex pn) elt te)
    (hs : ∀ x, foldedSetIterable iter X.env x = pure x:=by intro _; rfl) : PE X (.SetComp elt [⟨target, iter, ifs, 0⟩] scope pos) (Ke X.prog X.w js wi g tt te):=by
  intro pZ s σ H Q I h;rw [uU];refine wpAny_comprehension_free (use:=none) rfl hs (m6 (L.HL I.ok)) L.kind L.names (eg (hi pZ s σ H _ I h) λv s1 h1=>eg h1 λitv s2 h2=>?_);obtain ⟨it, fp, tn, J, H2, e, I2, T, st2, f2, w⟩:=h2;subst e;refine B6 (Q:=Q) (R:=λacc C=>compPost (model X.prog X.w) X.A X.xe none (EP X pZ σ Q) acc C) L hc hg ht he I2 T st2 f2 w ?_;intro D C s' H' I' f' ⟨m, hn⟩ q;exact ⟨m, hn, λh' hs'=>⟨.ref D, H', I'.gone (m:=m) f' hs', rfl, q⟩⟩
end
section
variable {φ : iE}
section
variable {X : Cx} {e : Expr} {pos : Pos}
def JT {elt target iter : Expr} {ifs : List Expr} {scope : Scope} {N : List Str} {js : List (Option Nat)} {wi : TI} {g : TG} {tt : TT} {te : TE} (L : bc X scope N js) (hc : X.calm = true) (hi : BI X target iter wi)
    (hg : ∀ s₀ H₀ ex pn, BG (lb X scope N s₀ H₀ ex pn) target g) (ht : ∀ s₀ H₀ ex pn, Gs (lb X scope N s₀ H₀ ex pn) ifs tt) (he : ∀ s₀ H₀ ex pn, BE (lb X scope N s₀ H₀ ex pn) elt te)
    (hs : ∀ x, foldedSetIterable iter X.env x = pure x:=by intro _; rfl) : BE X (.SetComp elt [⟨target, iter, ifs, 0⟩] scope pos) (Ke X.prog X.w js wi g tt te):=⟨Jd L hc hi.out (λa b c d=>(hg a b c d).out) (λa b c d=>(ht a b c d).out) (λa b c d=>(he a b c d).out) hs⟩
def Ck (P : Program) (w : World) : List V -> Hp -> VK -> Prop:=λxs H Q=>∃ (D : Addr) (S : Key -> Bool) (n : Nat), xs = [.ref D] /\ H D = some (gG P w D S n) /\ Q (.int n) H
def yq : iF X (.builtin "len") (Ck X.prog X.w):=A4
noncomputable def keyOf : PV -> Key
  | .int i=>.inl i
  | .str x=>.inr x
  | _=>.inl 0
def C8 : PV -> M PV
  | .int i=>.ret (.int i)
  | .str x=>.ret (.str x)
  | _=>.fail
def qm (ks : List Key) (k : Key) : Bool:=ks.any λk'=>decide (k' = k)
def dk (zs : List PV) : List Key:=zs.foldl (λks z=>if qm ks (keyOf z) = true then ks else ks ++ [keyOf z]) []
def mZ (zs : List PV) : M PV:=.ret (.int (dk zs).length)
def zG (zs : List PV) (z : PV) : dk (zs ++ [z]) = if qm (dk zs) (keyOf z) = true then dk zs else dk zs ++ [keyOf z]:=by unfold dk; rw [List.foldl_append]; rfl
theorem m4 : ∀ (zs : List PV) (ks : List Key), (zs.foldl (λks z=>if qm ks (keyOf z) = true then ks else ks ++ [keyOf z]) ks).length <= ks.length + zs.length
  | [], ks=>by simp
  | z :: zs, ks=>by
    rw [Mr];have h:=m4 zs (if qm ks (keyOf z) = true then ks else ks ++ [keyOf z]);have : (if qm ks (keyOf z) = true then ks else ks ++ [keyOf z]).length <= ks.length + 1:=by split <;> simp
    simp only [LN];omega
def HH (zs : List PV) : (dk zs).length <= zs.length:=by have:=m4 zs []; simpa [dk] using this
def K5 (zs : List PV) (z : PV) : (λk'=>qm (dk zs) k' || decide (k' = keyOf z)) = λk'=>qm (dk (zs ++ [z])) k':=by
  funext k';rw [zG];by_cases h : qm (dk zs) (keyOf z) = true
  · rw [Mk h];by_cases e : k' = keyOf z
    · subst e; simp [h]
    · simp [e]
  · rw [Ml h];unfold qm;rw [List.any_append];by_cases e : k' = keyOf z
    · subst e; simp
    · have e' : ¬ keyOf z = k':=λz=>e z.symm;simp [e, e']
def K4 (zs : List PV) (z : PV) : (if qm (dk zs) (keyOf z) = true then (dk zs).length else (dk zs).length + 1) = (dk (zs ++ [z])).length:=by
  rw [zG];by_cases h : qm (dk zs) (keyOf z) = true
  · rw [Mk h, Mk h]
  · rw [Ml h, Ml h]; simp
def EZ {B : Addr} {O : Addr -> Prop} {H : Hp} {z : PV} {x : V} {α : Type} {f : PV -> M α} {n : Nat} {R : α -> Nat -> Prop} (r : Rep B O H z x) (w : ((C8 z).bind f).wp n R) : x = kV (keyOf z) /\ (f z).wp n R:=by
  cases r <;> first | exact ⟨rfl, w⟩ | exact w.elim
def CV (js : List (Option Nat)) (mi : ak -> M (List PV)) (bd : PV -> ak -> M ak) (tt : ak -> M Bool) (te : ak -> M PV) : ak -> M (List PV):=λρ=>(mi ρ).bind λl=>if l.length <= 4000 then qk bd tt (λρ=>(te ρ).bind C8) l (f7 js ρ) else .fail
def Bg.Ik (G : Bg φ) (D : Addr) (hD : D ≠ G.B) : Bg φ where
  B:=G.B
  fL:=λp=>G.fL p \/ p = D
  ok:=λH n=>G.ok H n /\ ∃ o, H D = some o
  pB:=.inl G.pB
  keep:=λH H' n k h=>⟨G.keep H H' n (λp o z=>k p o (z.imp .inl id)) h.1, by obtain ⟨o, e⟩:=h.2; exact ⟨o, k D _ (.inl (.inr rfl)) e⟩⟩
  tp:=λe he=>.inl (G.tp e he)
  tab:=λH n h=>G.tab H n h.1
  zY:=λH H' n h h1 h2=>⟨G.zY H H' n h.1 h1 h2, by
    obtain ⟨o, e⟩:=h.2;by_cases z : D ∈ φ.tabs.map (·.1)
    · obtain ⟨q, hq, e3⟩:=LM.mp z;obtain ⟨ps, e2, _⟩:=h1 q hq;exact ⟨_, e3 ▸ e2⟩
    · exact ⟨o, h2 D _ z e⟩⟩
  DX:=λH n p h z=>by
    rcases z with z | z
    · exact G.DX H n p h.1 z
    · subst z; exact h.2
  dr:=λH n m Q E h h0 h1 q=>G.dr H n m Q E h.1 h0 h1 λd H' d0 d1 e o=>q d H' d0 d1 e ⟨o, by
    obtain ⟨u, e2⟩:=h.2
    exact (e D u hD e2).there⟩
def IF {K : Frag} {P : Program} {wd : World} {js : List (Option Nat)} {mi : ak -> M (List PV)} {bd : PV -> ak -> M ak} {tt : ak -> M Bool} {te : ak -> M PV} : ∀ σ H Q, xf φ (λρ=>(CV js mi bd tt te ρ).bind mZ) σ H Q -> Ke P wd js (Gz φ K false mi) (Ib φ bd) (Bj φ tt) (xf φ te) σ H (λx H'=>Ck P wd [x] H' Q):=λσ H Q ⟨G, O, ρ, n, R, s, w, q⟩=>by
  rw [M.wZ] at w;unfold CV at w;rw [M.wZ] at w;refine ⟨G, O, ρ, n, _, s, w, λl J H1 n1 e1 du it w1=>λD hD=>?_⟩;by_cases hl : l.length <= 4000
  case neg=>rw [Ml hl] at w1; exact w1.elim
  rw [Mk hl] at w1;have s1:=s.ext e1 du;have nD : ¬ O D:=λz=>by obtain ⟨o, g⟩:=s1.dm D z; rw [hD] at g; cases g
  have pD : ¬ G.fL D:=λz=>nD (s.pr _ z);have hBD : D ≠ G.B:=λz=>pD (z ▸ G.pB);have jx : ∀ p o, H1 p = some o -> p ≠ D:=λp o hp z=>by subst z; rw [hD] at hp; cases hp
  let O' : Addr -> Prop:=λp=>O p \/ p = D;let G' : Bg φ:=G.Ik D hBD
  have k0 : ∀ p o, ¬ O p -> H1 p = some o -> upd H1 D (gG P wd D (λ_=>false) 0) p = some o /\ ¬ O' p:=λp o np hp=>⟨by rw [az (jx p o hp)]; exact hp, λz=>by
    rcases z with z | z
    · exact np z
    · exact jx p o hp z⟩
  have kD : ∀ (H5 : Hp) (o : HO) p u, ¬ O' p -> H5 p = some u -> upd H5 D o p = some u /\ ¬ O' p:=λH5 o p u np hp=>⟨by rw [az (λz=>np (.inr z))]; exact hp, np⟩
  refine ⟨λi m σ' H'=>m = l.length - i /\ i <= l.length /\ ∃ (zs : List PV) (ρ' : ak) (n' : Nat), zs.length <= i /\ H' D = some (gG P wd D (λk=>qm (dk zs) k) (dk zs).length) /\ ES G' O' H' σ' ρ' n' /\ Ext G.B H1 H' /\ jI K G' O' false H' l J /\
    (qk bd tt (λρ=>(te ρ).bind C8) (l.drop i) ρ').wp n' (λt k=>(mZ (zs ++ t)).wp k R), ⟨l.length, by simp, L1 _, [], f7 js ρ, n1, LH _, aA, ?_, Ext.new hD _, ?_, ?_⟩, ?_⟩
  · have er:=wN s1.er js;refine ⟨⟨er.1, λi e he=>?_⟩, ⟨Bg.new du hD _, _, aA⟩, λp z=>?_, λp z=>?_⟩
    · have r1:=er.2 i e he
      cases e with
      | un=>trivial
      | val y=>obtain ⟨x, hx, rr⟩:=r1; exact ⟨x, hx, rr.keep k0⟩
      | own t=>
        obtain ⟨p, xs, hx, hp, np, hh, rr⟩:=r1
        exact ⟨p, xs, hx, .inl hp, λz=>by
          rcases z with z | z
          · exact np z
          · exact jx p _ hh z, by rw [az (jx p _ hh)]; exact hh, rr.keep k0⟩
      | mU t=>
        obtain ⟨p, xs, hx, hp, np, hh, rr⟩:=r1
        exact ⟨p, xs, hx, .inl hp, λz=>by
          rcases z with z | z
          · exact np z
          · exact jx p _ hh z, by rw [az (jx p _ hh)]; exact hh, rr.keep k0⟩
    · rcases z with z | z
      · exact .inl (s.pr p z)
      · exact .inr z
    · rcases z with z | z
      · obtain ⟨o, g⟩:=s1.dm p z; exact ⟨o, by rw [az (jx p o g)]; exact g⟩
      · subst z; exact ⟨_, aA⟩
  · cases it with
    | lst np hp h r=>
      exact .lst (λz=>by
        rcases z with z | z
        · exact np z
        · exact jx _ _ h z) (λz=>by cases z) (by rw [az (jx _ _ h)]; exact h) (r.keep k0)
    | tup hp h r=>exact .tup (k0 _ _ hp h).2 (k0 _ _ hp h).1 (r.keep k0)
    | txt z=>exact .txt z
    | vF lo n=>exact .vF lo n
  · simpa using w1
  · rintro i m σ' H' ⟨rfl, hi, zs, ρ', n', hy, hDy, s', ex, it', w'⟩;by_cases kY : i < l.length
    · have hget : l[i]? = some l[i]:=Lx kY;have n9 : l.drop i = l[i] :: l.drop (i + 1):=List.drop_eq_getElem_cons kY;rw [n9] at w';unfold qk at w';obtain ⟨g1, g2⟩:=it'.go hget;refine .inr ⟨g1, λx H2 yl=>?_⟩;obtain ⟨eH, rx⟩:=g2 x H2 yl;subst eH;rw [M.wZ] at w';refine ⟨G', O', ρ', n', _, l[i], s', rx, w', λσ2 ρ2 n2 s2 w2=>?_⟩;rw [M.wZ] at w2;refine ⟨G', O', ρ2, n2, _, s2, w2, λok H4 n4 e4 ok4 w4=>?_⟩;have D4 : H4 D = some (gG P wd D (λk=>qm (dk zs) k) (dk zs).length):=e4 D _ hBD hDy;have it4 : jI K G' O' false H4 l J:=it'.j9 (λp o np hp=>⟨e4 p o (λz=>np (.inl (z ▸ s.B))) hp, np⟩) (.inr λp xs np hp=>e4 p _ (λz=>np (z ▸ G'.pB)) hp) λp z=>by cases z
      cases ok with
      | true=>
        simp only [if_true] at w4 ⊢;rw [M.bZ, M.wZ] at w4;refine ⟨G', O', ρ2, n4, _, s2.ext e4 ok4, w4, λz x5 H5 n5 e5 ok5 r5 w5=>?_⟩;have D5 : H5 D = some (gG P wd D (λk=>qm (dk zs) k) (dk zs).length):=e5 D _ hBD D4;obtain ⟨ek, w5⟩:=EZ r5 w5;rw [M.wZ] at w5;have s5:=s2.ext (e4.trans e5) ok5;have it5 : jI K G' O' false H5 l J:=it4.j9 (λp o np hp=>⟨e5 p o (λz=>np (.inl (z ▸ s.B))) hp, np⟩) (.inr λp xs np hp=>e5 p _ (λz=>np (z ▸ G'.pB)) hp) λp z=>by cases z
        have hdl:=HH zs;refine ⟨keyOf z, _, _, ek, D5, by show _ < 4096; omega, l.length - (i + 1), by omega, rfl, kY, zs ++ [z], ρ2, n5, by simp; omega, by rw [aA, K5, K4], ?_, ?_, ?_, ?_⟩
        · refine ⟨⟨s5.er.1, λj e he=>?_⟩, ⟨G.keep H5 _ _ (λp o hp hpo=>by
            have hpd : p ≠ D:=λz=>by
              rcases hp with hp | hp
              · exact pD (z ▸ hp)
              · rw [z, D5] at hpo; cases hpo; exact hp
            rw [az hpd]; exact hpo) ok5.1, _, aA⟩, s5.pr, λp hp=>?_⟩
          · have r1:=s5.er.2 j e he
            cases e with
            | un=>trivial
            | val y=>obtain ⟨x, hx, rr⟩:=r1; exact ⟨x, hx, rr.keep (kD H5 _)⟩
            | own t=>
              obtain ⟨p, xs, hx, hp, np, hh, rr⟩:=r1
              exact ⟨p, xs, hx, hp, np, by rw [az (λz=>np (.inr z))]; exact hh, rr.keep (kD H5 _)⟩
            | mU t=>
              obtain ⟨p, xs, hx, hp, np, hh, rr⟩:=r1;exact ⟨p, xs, hx, hp, np, by rw [az (λz=>np (.inr z))]; exact hh, rr.keep (kD H5 _)⟩
          · by_cases hpd : p = D
            · subst hpd; exact ⟨_, aA⟩
            · obtain ⟨o, g⟩:=s5.dm p hp; exact ⟨o, by rw [az hpd]; exact g⟩
        · intro p o np hp;exact ((ex.trans (e4.trans e5)) p o np hp).to λu e=>.of (by rw [az (jx p o hp)]; exact e)
        · exact it5.keep (kD H5 _) (.inr λp xs np hp=>by rw [az (λz=>np (.inr z))]; exact hp) λp z=>by cases z
        · refine M.wp_mono w5 λt k' hk=>?_;have hk' : (mZ (zs ++ z :: t)).wp k' R:=hk
          simpa using hk'
      | false=>
        exact ⟨l.length - (i + 1), by omega, rfl, kY, zs, ρ2, n4, by omega, D4, s2.ext e4 ok4, ex.trans e4, it4, w4⟩
    · have e : i = l.length:=by omega
      subst e;refine .inl ⟨it'.stop, ?_⟩;rw [List.drop_length] at w';have w2 : (mZ (zs ++ [])).wp n' R:=w';rw [MD] at w2;exact ⟨D, _, _, rfl, hDy, q (.int (dk zs).length) (.int (dk zs).length) H' n' (e1.trans ex) s'.ok.1 (.int _) w2⟩
def Dy {js : List (Option Nat)} {mi : ak -> M (List PV)} {bd : PV -> ak -> M ak} {tt : ak -> M Bool} {te : ak -> M PV} (h : BE X e (BR (Ck X.prog X.w) (fU (Ke X.prog X.w js (Gz φ X.K false mi) (Ib φ bd) (Bj φ tt) (xf φ te)) mM))) : EV φ X e (λρ=>(CV js mi bd tt te ρ).bind mZ):=BE.mono h λσ H Q hq=>IF σ H Q hq
end
end
def yL {φ : iE} {X : Cx} {sts : List Stmt} : DZ φ X sts (λ_=>.fail):=⟨λpZ s σ H D I h=>by
  obtain ⟨G, O0, H0, O, ρ, n, s', w⟩:=h
  exact w.elim⟩
mutual
def toD : PV -> Option PyData
  | .cB=>some .none
  | .bl b=>some (.bool b)
  | .int i=>some (.int i)
  | .str x=>some (.str x)
  | .tup l=>(Gy l).map .tuple
  | .lst l=>(Gy l).map .list
  | _=>none
def Gy : List PV -> Option (List PyData)
  | []=>some []
  | y :: l=>(toD y).bind λd=>(Gy l).map (d :: ·)
end
section
open PySem.W (KasT kas_rev kas_asc kas_desc kas_tail3 kas_descPart kas_count kas_place kas_bin kas_sort)
section
variable (r : Nat -> Int)
noncomputable def runK {α : Type} : KasT α -> α
  | .ret a=>a
  | .ask i j k=>runK (k (decide (r i < r j)))
theorem run_bind {α β : Type} (f : α -> KasT β) : ∀ t : KasT α, runK r (t.bind f) = runK r (f (runK r t))
  | .ret a=>rfl
  | .ask i j k=>run_bind f (k (decide (r i < r j)))
def yP {α : Type} {c : Prop} [Decidable c] (a b : KasT α) : runK r (if c then a else b) = if c then runK r a else runK r b:=by split <;> rfl
def kg (p : Array Nat) (k : Nat) : Int:=r (p.getD k 0)
def Bq (p : Array Nat) (m : Nat) : Prop:=∀ i j, i < j -> j < m -> kg r p i < kg r p j
def DY (p : Array Nat) : Prop:=∀ i j, i < p.size -> j < p.size -> i ≠ j -> kg r p i ≠ kg r p j
variable {r}
def Bu {p : Array Nat} {n : Nat} (h1 : 1 <= n) (h : Bq r p n) (h' : kg r p (n - 1) < kg r p n) : Bq r p (n + 1):=λi j hij hj=>by
  by_cases e : j = n
  · subst e;by_cases e2 : i = j - 1
    · subst e2; exact h'
    · exact Int.lt_trans (h i (j - 1) (by omega) (by omega)) h'
  · exact h i j hij (by omega)
theorem yy {p : Array Nat} (u : DY r p) : ∀ (f n : Nat), 1 <= n -> n + f <= p.size -> Bq r p n -> ∃ m, runK r (kas_asc p f n) = m /\ n <= m /\ m <= n + f /\ Bq r p m /\ (m < n + f -> kg r p m < kg r p (m - 1))
  | 0, n, h1, hz, h=>⟨n, rfl, by omega, by omega, h, λz=>by omega⟩
  | f + 1, n, h1, hz, h=>by
    unfold kas_asc;show ∃ m, runK r (if decide (r (p.getD n 0) < r (p.getD (n - 1) 0)) = true then KasT.ret n else kas_asc p f (n + 1)) = m /\ _;by_cases c : r (p.getD n 0) < r (p.getD (n - 1) 0)
    · rw [Mk (by simpa using c)];exact ⟨n, rfl, by omega, by omega, h, λ_=>c⟩
    · rw [Ml (by simpa using c)];have ne:=u (n - 1) n (by omega) (by omega) (by omega)
      have lt : kg r p (n - 1) < kg r p n:=by
        have : ¬ kg r p n < kg r p (n - 1):=c;omega
      obtain ⟨m, e, a1, a2, a3, a4⟩:=yy u f (n + 1) (by omega) (by omega) (Bu h1 h lt);exact ⟨m, e, by omega, by omega, a3, λz=>a4 (by omega)⟩
def Kb (r : Nat -> Int) (p : Array Nat) (m : Nat) : Prop:=∀ i j, i < j -> j < m -> kg r p j < kg r p i
def wF {p : Array Nat} {n : Nat} (h1 : 1 <= n) (h : Kb r p n) (h' : kg r p n < kg r p (n - 1)) : Kb r p (n + 1):=λi j hij hj=>by
  by_cases e : j = n
  · subst e;by_cases e2 : i = j - 1
    · subst e2; exact h'
    · exact Int.lt_trans h' (h i (j - 1) (by omega) (by omega))
  · exact h i j hij (by omega)
theorem zI {p : Array Nat} (u : DY r p) : ∀ (f n : Nat), 1 <= n -> n + f <= p.size -> Kb r p n -> ∃ m, runK r (kas_desc f p n 0) = (p, m, 0) /\ n <= m /\ m <= n + f /\ Kb r p m
  | 0, n, h1, hz, h=>⟨n, rfl, by omega, by omega, h⟩
  | f + 1, n, h1, hz, h=>by
    unfold kas_desc;by_cases c : r (p.getD n 0) < r (p.getD (n - 1) 0)
    · obtain ⟨m, e, a1, a2, a3⟩:=zI u f (n + 1) (by omega) (by omega) (wF h1 h c);refine ⟨m, ?_, by omega, by omega, a3⟩;show runK r (if decide (r (p.getD n 0) < r (p.getD (n - 1) 0)) = true then _ else _) = _;rw [Mk (by simpa using c), Ml (by omega)];exact e
    · have ne:=u (n - 1) n (by omega) (by omega) (by omega)
      have lt : r (p.getD (n - 1) 0) < r (p.getD n 0):=by
        have n1 : ¬ kg r p n < kg r p (n - 1):=c;have n2 : kg r p (n - 1) < kg r p n:=by omega
        exact n2
      refine ⟨n, ?_, by omega, by omega, h⟩;show runK r (if decide (r (p.getD n 0) < r (p.getD (n - 1) 0)) = true then _ else _) = _;rw [Ml (by simpa using c)];show runK r (if decide (r (p.getD (n - 1) 0) < r (p.getD n 0)) = true then _ else _) = _;rw [Mk (by simpa using lt)];rfl
def GN {p : Array Nat} {m k : Nat} (hm : m <= p.size) : (kas_rev p 0 m).getD k 0 = if k < m then p.getD (m - 1 - k) 0 else p.getD k 0:=by
  have e:=getElem?_mirror_all (xs:=p) (i:=0) (j:=m) hm k;unfold kas_rev;rw [LW, e];by_cases c : k < m
  · rw [Mk ⟨L1 _, c⟩, Mk c, LW];congr 2;omega
  · rw [Ml (λz=>c z.2), Ml c, LW]
def ui {p : Array Nat} {m : Nat} (hm : m <= p.size) (k : Nat) : kg r (kas_rev p 0 m) k = if k < m then kg r p (m - 1 - k) else kg r p k:=by
  unfold kg;rw [GN hm];by_cases c : k < m
  · rw [Mk c, Mk c]
  · rw [Ml c, Ml c]
def yR {p : Array Nat} {m : Nat} (hm : m <= p.size) (u : DY r p) : DY r (kas_rev p 0 m):=λi j hi hj ne=>by
  have hz : (kas_rev p 0 m).size = p.size:=mirror_size _ _ _ _;rw [hz] at hi hj;rw [ui hm, ui hm];split <;> split
  · exact u _ _ (by omega) (by omega) (by omega)
  · exact u _ _ (by omega) (by omega) (by omega)
  · exact u _ _ (by omega) (by omega) (by omega)
  · exact u _ _ hi hj ne
def El {p : Array Nat} {m : Nat} (hm : m <= p.size) (h : Kb r p m) : Bq r (kas_rev p 0 m) m:=λi j hij hj=>by
  rw [ui hm, ui hm, Mk (by omega), Mk hj];exact h (m - 1 - j) (m - 1 - i) (by omega) (by omega)
def count_is {p : Array Nat} (u : DY r p) (h2 : 1 <= p.size) : ∃ m p', runK r (kas_count p.size p) = (m, p') /\ 1 <= m /\ m <= p.size /\ p'.size = p.size /\ p'.Perm p /\ DY r p' /\ Bq r p' m:=by
  unfold kas_count;rw [run_bind];obtain ⟨n, e, a1, a2, a3, a4⟩:=yy u (p.size - 1) 1 (by omega) (by omega) (λi j hij hj=>by omega);rw [e];by_cases c1 : n = p.size
  · rw [Mk (by simpa using c1)];exact ⟨n, p, rfl, a1, by omega, rfl, .refl _, u, a3⟩
  · rw [Ml (by simpa using c1)];by_cases c2 : n > 1
    · rw [Mk c2];have lt : r (p.getD 0 0) < r (p.getD (n - 1) 0):=a3 0 (n - 1) (by omega) (by omega);refine ⟨n, p, ?_, a1, by omega, rfl, .refl _, u, a3⟩;show runK r (if decide (r (p.getD 0 0) < r (p.getD (n - 1) 0)) = true then _ else _) = _;rw [Mk (by simpa using lt)];rfl
    · rw [Ml c2];have en : n = 1:=by omega
      subst en;have lt:=a4 (by omega);unfold kas_descPart;rw [run_bind];obtain ⟨m, e2, b1, b2, b3⟩:=zI u (p.size - (1 + 1)) (1 + 1) (by omega) (by omega) (wF (LH 1) (λi j hij hj=>by omega) lt);rw [e2];rw [Ml (by show ¬ (0 > 0); omega)];unfold kas_tail3;rw [run_bind];have hz : (kas_rev p 0 m).size = p.size:=mirror_size _ _ _ _;obtain ⟨m', e3, d1, d2, d3, d4⟩:=yy (yR (m:=m) (by omega) u) (p.size - m) m (by omega) (by rw [hz]; omega) (El (by omega) b3);rw [e3];exact ⟨m', kas_rev p 0 m, rfl, by omega, by omega, hz, mirror_perm _ _ _ _, yR (by omega) u, d3⟩
theorem qD {p : Array Nat} {k : Nat} (u : DY r p) (hk : k < p.size) (h : Bq r p k) : ∀ (f l q : Nat), q <= l + f -> q <= k -> l <= q -> (∀ i, i < l -> kg r p i < kg r p k) -> (∀ i, q <= i -> i < k -> kg r p k < kg r p i) -> ∃ m, runK r (kas_place p k f l q) = m /\ m <= k /\ (∀ i, i < m -> kg r p i < kg r p k) /\ ∀ i, m <= i -> i < k -> kg r p k < kg r p i
  | 0, l, q, hf, hq, hl, lo, hi=>⟨l, rfl, by omega, lo, λi h1 h2=>hi i (by omega) h2⟩
  | f + 1, l, q, hf, hq, hl, lo, hi=>by
    unfold kas_place;rw [yP];by_cases c : l ≥ q
    · rw [Mk c];exact ⟨l, rfl, by omega, lo, λi h1 h2=>hi i (by omega) h2⟩
    · rw [Ml c];show ∃ m, runK r (if decide (r (p.getD k 0) < r (p.getD ((l + q) / 2) 0)) = true then _ else _) = m /\ _;have hmid : (l + q) / 2 < q:=by omega
      by_cases d : r (p.getD k 0) < r (p.getD ((l + q) / 2) 0)
      · rw [Mk (by simpa using d)];refine qD u hk h f l ((l + q) / 2) (by omega) (by omega) (by omega) lo λi h1 h2=>?_;by_cases e : i = (l + q) / 2
        · subst e; exact d
        · exact Int.lt_trans d (h _ i (by omega) h2)
      · rw [Ml (by simpa using d)];have ne:=u ((l + q) / 2) k (by omega) hk (by omega)
        have lt : kg r p ((l + q) / 2) < kg r p k:=by
          have d' : ¬ kg r p k < kg r p ((l + q) / 2):=d;omega
        refine qD u hk h f ((l + q) / 2 + 1) q (by omega) hq (by omega) (λi h1=>?_) hi;by_cases e : i = (l + q) / 2
        · subst e; exact lt
        · exact Int.lt_trans (h i _ (by omega) (by omega)) lt
def HM {p : Array Nat} {k l i : Nat} (hk : k < p.size) (hl : l <= k) : kg r (bubble p k (k - l)) i = if i = l then kg r p k else if l < i /\ i <= k then kg r p (i - 1) else kg r p i:=by
  have e:=getElem?_bubble (xs:=p) hk (k - l) (by omega) i;unfold kg;rw [LW, e, show k - (k - l) = l by omega];by_cases c1 : i = l
  · rw [Mk c1, Mk c1, LW]
  · rw [Ml c1, Ml c1];by_cases c2 : l < i /\ i <= k
    · rw [Mk c2, Mk c2, LW]
    · rw [Ml c2, Ml c2, LW]
theorem DN : ∀ (f : Nat) (p : Array Nat) (k : Nat), k + f = p.size -> DY r p -> Bq r p k -> ∃ p', runK r (kas_bin f p k) = p' /\ p'.size = p.size /\ p'.Perm p /\ Bq r p' p.size
  | 0, p, k, hz, u, h=>⟨p, rfl, rfl, .refl _, by rw [<- hz]; exact h⟩
  | f + 1, p, k, hz, u, h=>by
    unfold kas_bin;rw [run_bind];obtain ⟨l, e, a1, a2, a3⟩:=qD u (show k < p.size by omega) h k 0 k (by omega) (LH _) (L1 _) (λi hi=>by omega) (λi h1 h2=>by omega);rw [e];have hb : (bubble p k (k - l)).size = p.size:=bubble_size _ _ _;have at_:=λi=>HM (r:=r) (p:=p) (k:=k) (l:=l) (i:=i) (by omega) a1
    have u' : DY r (bubble p k (k - l)):=λi j hi hj ne=>by
      rw [hb] at hi hj;rw [at_ i, at_ j]
      repeat' split
      all_goals first | (exfalso; omega) | exact u _ _ (by omega) (by omega) (by omega)
    have h' : Bq r (bubble p k (k - l)) (k + 1):=λi j hij hj=>by
      rw [at_ i, at_ j]
      repeat' split
      all_goals first | (exfalso; omega) | exact a2 _ (by omega) | exact a3 _ (by omega) (by omega) | exact h _ _ (by omega) (by omega)
    obtain ⟨p', e', b1, b2, b3⟩:=DN f (bubble p k (k - l)) (k + 1) (by rw [hb]; omega) u' h';exact ⟨p', e', b1.trans hb, b2.trans (bubble_perm _ _ _), by rw [hb] at b3; exact b3⟩
def D9 {n : Nat} (hn : 1 <= n) (u : ∀ i j, i < n -> j < n -> i ≠ j -> r i ≠ r j) : ∃ p, runK r (kas_sort n) = p /\ p.size = n /\ p.Perm (List.toArray (List.range n)) /\ Bq r p n:=by
  have hz : (List.toArray (List.range n)).size = n:=by simp
  have u0 : DY r (List.toArray (List.range n)):=λi j hi hj ne=>by
    rw [hz] at hi hj;unfold kg
    have e : ∀ k, k < n -> (List.toArray (List.range n)).getD k 0 = k:=λk hk=>by
      rw [LW];simp [hk]
    rw [e i hi, e j hj];exact u i j hi hj ne
  unfold kas_sort;rw [run_bind];obtain ⟨m, p', e, a1, a2, a3, a4, a5, a6⟩:=count_is u0 (by rw [hz]; exact hn);rw [hz] at e a2 a3;rw [e];dsimp only;rw [yP];by_cases c : m < n
  · rw [Mk c, Nat.max_eq_left a1];obtain ⟨p2, e2, b1, b2, b3⟩:=DN (n - m) p' m (by omega) a5 a6;rw [a3] at b1 b3;exact ⟨p2, e2, b1, b2.trans a4, b3⟩
  · rw [Ml c];have : m = n:=by omega
    subst this;exact ⟨p', rfl, a3, a4, a6⟩
end
end
def D3 (h : Heap) (mg : Str -> Option Value) : Prop:=∃ bm ob, mg "__builtins__" = some (.ref bm) /\ bm ≠ builtinsNs /\ h.get? bm = some ob /\ ob.cls = .type "module" /\ ob.dict = some builtinsNs /\ ob.data = .plain
abbrev wB : Obj:={ cls:=.none, data:=.fields #[] }
def AS {P : Program} {w : World} {K : Frag} {mg mb : Str -> Option Value} {CX : zV} {k : Nat} {fa a : Addr} {tbs : List Addr} {fd : FuncData} {x : Str} {sp : Sp} {s : Shared} {vs : List Value} {ns : List Int}
    (KX : K.In s.heap) (hns : s.heap.Ns mainGlobals mg) (hbn : s.heap.Ns builtinsNs mb) (hbb : ∀ x : Str, x ≠ "__name__" -> mb x = bootBuiltins x) (hlim : s.heap.NoLimit) (hbm : D3 s.heap mg) (hg : s.gens = #[])
    (ha : s.heap.get? a = some { cls:=.type "list", data:=.seq vs.toArray }) (hi : IntsAre vs ns) (hl : ns.length <= sizeLine) (hr : fR k callerA)
    (ht : ∀ tb ∈ tbs, isCodeTable s.heap tb /\ s.heap.get? tb = some wB /\ K.lookup tb = none)
    (F : ∀ base : Heap, K.In base -> base.Ns mainGlobals mg -> D3 base mg -> aI P w K mg base CX k fa fd [x] sp) (hbind : ∀ (s : Shared) (u : Value), BindsTo s fd ⟨[u], []⟩ [(x, u)])
    (hsp : ∀ H : Hp, (∀ tb ∈ tbs, H tb = some (.qc #[])) -> fk K H a (ns.map V.int) -> sp [.ref a] H (λv _=>v = .bl true) λ_ _ _=>False)
    (hCX : ∀ H e s', CX [] H s (λ_ _ _=>False) e s' -> False) :
    codeAny (model P w) callerA (.call (.ref fa) ⟨[.ref a], []⟩) (λr s'=>r = .ok (.ret (.bool true)) /\ OldK s.heap s'.heap /\ s'.os = s.os /\ AllBare s'.gens) s:=by
  have hta : a ∉ tbs:=λz=>by
    have gt:=(ht a z).2.1;rw [ha] at gt;cases gt
  let so : HO:=.og { cls:=.type "list", data:=.seq vs.toArray } (.lst (ns.map V.int));let H : Hp:=λb=>if b ∈ tbs then some (.qc #[]) else if b = a /\ K.lookup a = none then some so else none
  have Ht : ∀ tb ∈ tbs, H tb = some (.qc #[]):=λtb z=>Mk z
  have cases_ : ∀ b u, H b = some u -> (b ∈ tbs /\ u = .qc #[]) \/ (b = a /\ K.lookup a = none /\ u = so):=λb u e=>by
    by_cases c1 : b ∈ tbs
    · rw [Ht b c1] at e;cases e;exact .inl ⟨c1, rfl⟩
    · by_cases c2 : b = a /\ K.lookup a = none
      · rw [show H b = some so from (Ml c1).trans (Mk c2)] at e;cases e;exact .inr ⟨c2.1, c2.2, rfl⟩
      · rw [show H b = none from (Ml c1).trans (Ml c2)] at e;cases e
  have dz : lO P w H s.heap:=λb u e=>by
    rcases cases_ b u e with ⟨z, rfl⟩ | ⟨rfl, _, rfl⟩
    · exact (ht b z).2.1
    · exact ⟨ha, by rw [LA]; exact hl, vs, _, oF hi, ha⟩
  have free' : ∀ {b : Addr} {o : Obj}, s.heap.get? b = some o -> o ≠ wB -> o ≠ { cls:=.type "list", data:=.seq vs.toArray } -> H b = none:=λ{b o} e n1 n2=>by
    cases q : H b with
    | none=>rfl
    | some u=>
      rcases cases_ b u q with ⟨z, _⟩ | ⟨rfl, _, _⟩
      · rw [(ht b z).2.1] at e; cases e; exact (n1 rfl).elim
      · rw [ha] at e; cases e; exact (n2 rfl).elim
  have free : ∀ {b : Addr} {o : Obj} {es : Array DictEntry} {ep : Nat}, s.heap.get? b = some o -> o.data = .dict es ep -> H b = none:=λ{b o es ep} e d=>free' e (λz=>by rw [z] at d; cases d) (λz=>by rw [z] at d; cases d);have nsK : ∀ {b : Addr} {m : Str -> Option Value}, s.heap.Ns b m -> (uR s.heap H).Ns b m:=λ{b m} ⟨o, es, ep, e, d, r⟩=>⟨o, es, ep, rh e (free e d), d, r⟩
  have hKb : K.In (uR s.heap H):=λb o e=>rh (KX b o e) (by
    cases q : H b with
    | none=>rfl
    | some u=>
      rcases cases_ b u q with ⟨z, _⟩ | ⟨rfl, hk, _⟩
      · rw [(ht b z).2.2] at e; cases e
      · rw [hk] at e; cases e)
  have hBI : D3 (uR s.heap H) mg:=by
    obtain ⟨bm, ob, b1, b2, b3, b4, b5, b6⟩:=hbm;exact ⟨bm, ob, b1, b2, rh b3 (free' b3 (λz=>by rw [z] at b6; cases b6) (λz=>by rw [z] at b6; cases b6)), b4, b5, b6⟩
  have md : Mod K mg (uR s.heap H):=⟨hKb, nsK hns, ⟨mb, nsK hbn, hbb⟩, let ⟨mc, h1, h2⟩:=hlim; ⟨mc, nsK h1, h2⟩⟩;have e0 : Bh P w K mg (uR s.heap H) callerA [] s H:=⟨rfl, md, λb o e=>EL e, Nat.le_of_eq (AR _ _), trivial, λb hb=>(nomatch (show b ∈ ([] : List Addr) from hb)), dz, .of_eq hg⟩
  have sq : fk K H a (ns.map V.int):=by
    cases hk : K.lookup a with
    | some o=>
      have e:=KX a o hk;rw [ha] at e;cases e
      exact .inr ⟨_, vs.toArray, _, hk, rfl, rfl, rfl, by rw [LF, hi.length]; exact hl, by simpa using oF hi⟩
    | none=>exact .inl (.inr ⟨_, (Ml hta).trans (Mk ⟨rfl, hk⟩)⟩)
  refine codeAny_mono ((F _ hKb (nsK hns) hBI).run callerA [] s H ⟨[.ref a], []⟩ [.ref a] [.ref a] _ _ hr e0 (hbind s (.ref a)) (.cons rfl .nil) (hsp H Ht sq)) λr s' h=>?_
  match r, h with
  | .error e, h=>exact (hCX H e s' h).elim
  | .ok (.ret u), h=>
    obtain ⟨v, H', os, bare, un, hok', r', q⟩:=h;obtain rfl : v = .bl true:=q;obtain rfl : u = Value.bool true:=r'
    have kept : ∀ b o, b ∉ tbs -> s.heap.get? b = some o -> s'.heap.get? b = some o:=λb o nb e=>by
      cases qb : H b with
      | none=>exact un.keep b o e qb (λz=>nomatch (show b ∈ ([] : List Addr) from z)) (λz=>nomatch z)
      | some u=>
        rcases cases_ b u qb with ⟨z, _⟩ | ⟨rfl, _, rfl⟩
        · exact absurd z nb
        · obtain ⟨e1, _⟩:=dz b _ qb;obtain ⟨e2, _⟩:=hok' b _ (un.lK b _ _ qb);rw [e] at e1;cases e1;exact e2
    have grown : ∀ b ∈ tbs, ∃ more, s'.heap.get? b = some { cls:=.none, data:=.fields (#[] ++ more) }:=λb z=>by
      obtain ⟨more, et⟩:=un.lC b #[] (Ht b z);exact ⟨more, hok' b _ et⟩
    refine ⟨rfl, ⟨λb o e=>?_, λb o e=>?_⟩, os, bare⟩
    · by_cases nb : b ∈ tbs
      · obtain ⟨more, gt'⟩:=grown b nb;rw [(ht b nb).2.1] at e;cases e;exact .inr (.inl ⟨(ht b nb).1, rfl, #[], more, rfl, gt'⟩)
      · exact .inl (kept b o nb e)
    · by_cases nb : b ∈ tbs
      · obtain ⟨more, gt'⟩:=grown b nb;exact ⟨_, gt'⟩
      · exact ⟨o, kept b o nb e⟩
def zW {l : PySem.W.OpenLaw} {n k : Nat} {q : Program} {loose : List Str} {XP : (Str -> Option Value) -> Heap -> Prop} {YP : World -> Heap -> Prop} {d : DefRec} {K : Params -> Frag} {CX : World -> zV} {sp : World -> List Addr -> Sp} {x : Str}
    (hn : l.most = some n) (hn2 : n <= sizeLine) (hdf : d.params.defaults = []) (hr : fR k callerA)
    (hY : ∀ (w : World) (h : Heap), YP w h -> (K w.params).In h)
    (F : ∀ (w : World) (mg : Str -> Option Value) (fa : Addr) (h : Heap), (K w.params).In h -> h.Ns mainGlobals mg -> mg d.name = some (.ref fa) ->
      ∃ (fd : FuncData) (ts : List (Str × Addr × Addr)), (∀ e ∈ ts, PySem.W.tabIn (K w.params) e.1 = some e.2 /\ (K w.params).lookup e.2.2 = none /\ ((recsOf q).find? λr=>r.name == e.1).isSome = true) /\
        (∀ (s : Shared) (u : Value), BindsTo s fd ⟨[u], []⟩ [(x, u)]) /\
        ∀ base : Heap, (K w.params).In base -> base.Ns mainGlobals mg -> D3 base mg -> aI l.prog w (K w.params) mg base (CX w) k fa fd [x] (sp w (ts.map (·.2.2))))
    (hsp : ∀ (w : World) (H : Hp) (a : Addr) (ns : List Int) (tbs : List Addr), ns.length <= n -> (∀ tb ∈ tbs, H tb = some (.qc #[])) -> fk (K w.params) H a (ns.map V.int) -> sp w tbs [.ref a] H (λv _=>v = .bl true) λ_ _ _=>False)
    (hCX : ∀ (w : World) (H : Hp) (s : Shared) (e : Value) (s' : Shared), CX w [] H s (λ_ _ _=>False) e s' -> False) :
    PySem.W.WalkO q loose XP YP l.row.toRowW d [] (λf vs=>PySem.call f vs):=by
  refine Att.w8 hn hdf λw s₀ s₁ mg mb fa o pm cd doc a vs ns G Y ho hd hcd hmg hobj hints hlen hg=>?_;have KX:=hY w _ Y;obtain ⟨fd, ts, hts, hb, hF⟩:=F w mg fa _ KX G.T.g hmg;refine AS (tbs:=ts.map (·.2.2)) KX G.T.g G.T.b G.T.builtins G.T.nolimit ?_ hg hobj hints (LV hlen hn2) hr (λtb z=>?_) hF hb (λH hO hS=>hsp w H a ns _ hlen hO hS) λH e s'=>hCX w H s₁ e s'
  · obtain ⟨bm, ob, b1, b2, b3, b4, b5, b6⟩:=G.T.bmain;exact ⟨bm, ob, b1, b2, b3, b4, b5, b6⟩
  · obtain ⟨e, he, rfl⟩:=LM.mp z;obtain ⟨h1, h2, h3⟩:=hts e he;obtain ⟨d', h3⟩:=Option.isSome_iff_exists.mp h3;obtain ⟨g1, g2⟩:=PySem.W.tab_of G.T KX h3 h1;exact ⟨(g1.tab g2).isCodeTable, g2, h2⟩
section
open PySem.W (KasT kas_rev kas_asc kas_desc kas_tail3 kas_descPart kas_count kas_place kas_bin kas_sort)
def iq (N : Nat) {α : Type} (V : α -> Prop) : KasT α -> Prop
  | .ret a=>V a
  | .ask i j k=>i < N /\ j < N /\ ∀ b, iq N V (k b)
theorem iq.bind {N : Nat} {α β : Type} {V : α -> Prop} {W : β -> Prop} {f : α -> KasT β} : ∀ {t : KasT α}, iq N V t -> (∀ a, V a -> iq N W (f a)) -> iq N W (t.bind f)
  | .ret a, h, k=>k a h
  | .ask i j g, h, k=>⟨h.1, h.2.1, λb=>iq.bind (h.2.2 b) k⟩
def iq.ite {N : Nat} {α : Type} {V : α -> Prop} {c : Prop} [Decidable c] {a b : KasT α} (h1 : iq N V a) (h2 : iq N V b) : iq N V (if c then a else b):=by
  by_cases h : c
  · rw [Mk h]; exact h1
  · rw [Ml h]; exact h2
def Bd (N : Nat) (p : Array Nat) : Prop:=0 < N /\ ∀ x ∈ p.toList, x < N
def Bd.at {N : Nat} {p : Array Nat} (h : Bd N p) (k : Nat) : p.getD k 0 < N:=by
  rw [LW]
  cases e : p[k]? with
  | none=>exact h.1
  | some x=>exact h.2 x (Array.mem_toList_iff.mpr (Array.mem_of_getElem? e))
def Bd.perm {N : Nat} {p q : Array Nat} (h : Bd N p) (pm : q.Perm p) : Bd N q:=⟨h.1, λx hx=>h.2 x ((Array.perm_iff_toList_perm.mp pm).mem_iff.mp hx)⟩
def Bd.rev {N : Nat} {p : Array Nat} (h : Bd N p) (i j : Nat) : Bd N (kas_rev p i j):=h.perm (mirror_perm _ _ _ _)
section
variable {N : Nat}
theorem yz {p : Array Nat} (h : Bd N p) : ∀ f n, iq N (λ_=>True) (kas_asc p f n)
  | 0, _=>trivial
  | f + 1, n=>⟨h.at _, h.at _, λb=>iq.ite trivial (yz h f (n + 1))⟩
theorem qo : ∀ (f : Nat) {p : Array Nat} (n q : Nat), Bd N p -> iq N (λr=>Bd N r.1) (kas_desc f p n q)
  | 0, _, _, _, h=>h
  | f + 1, p, n, q, h=>⟨h.at _, h.at _, λb=>iq.ite (iq.ite (qo f _ _ (h.rev _ _)) (qo f _ _ h)) ⟨h.at _, h.at _, λd=>iq.ite h (qo f _ _ h)⟩⟩
def vj {p : Array Nat} (h : Bd N p) (n m : Nat) : iq N (λr=>Bd N r.2) (kas_tail3 n m p):=iq.bind (yz (h.rev _ _) _ _) λa _=>h.rev _ _
def pQ {p : Array Nat} (h : Bd N p) (n m : Nat) : iq N (λr=>Bd N r.2) (kas_descPart n m p):=iq.bind (qo _ _ _ h) λr hr=>iq.ite (vj (hr.rev _ _) _ _) (vj hr _ _)
def DG {p : Array Nat} (h : Bd N p) (m : Nat) : iq N (λr=>Bd N r.2) (kas_count m p):=
  iq.bind (yz h _ _) λn _=>iq.ite h (iq.ite ⟨h.at _, h.at _, λc=>iq.ite h (pQ (h.rev _ _) _ _)⟩ (pQ h _ _))
theorem qE {p : Array Nat} (h : Bd N p) (k : Nat) : ∀ f l r, iq N (λ_=>True) (kas_place p k f l r)
  | 0, _, _=>trivial
  | f + 1, l, r=>by
    unfold kas_place;exact iq.ite trivial ⟨h.at _, h.at _, λc=>iq.ite (qE h k f _ _) (qE h k f _ _)⟩
theorem DO : ∀ (f : Nat) {p : Array Nat} (k : Nat), Bd N p -> iq N (Bd N) (kas_bin f p k)
  | 0, _, _, h=>h
  | f + 1, p, k, h=>iq.bind (qE h _ _ _ _) λl _=>DO f (k + 1) (h.perm (bubble_perm _ _ _))
def Ea (hN : 0 < N) : iq N (Bd N) (kas_sort N):=by
  have h : Bd N (List.toArray (List.range N)):=⟨hN, λx hx=>by simpa using hx⟩;exact iq.bind (DG h _) λr hr=>iq.ite (DO _ _ hr) hr
theorem wp_run {α : Type} {V : α -> Prop} {r : Nat -> Int} {cmp : Nat -> Nat -> (Bool -> Shared -> Prop) -> Shared -> Prop} {Q : α -> Shared -> Prop} {s : Shared} (hc : ∀ i j C, i < N -> j < N -> C (decide (r i < r j)) s -> cmp i j C s) : ∀ (t : KasT α), iq N V t -> Q (runK r t) s -> t.kasWp cmp Q s
  | .ret a, _, h=>h
  | .ask i j k, hi, h=>hc i j _ hi.1 hi.2.1 (wp_run hc (k (decide (r i < r j))) (hi.2.2 _) h)
end
def Ho {prog : Program} {w : World} {A : Around} {E : Value -> Shared -> Prop} {s : Shared} {Q : Bool -> Shared -> Prop} {x y : Addr} {ox oy : Obj} {nx ny : Nat} {a b c d : Int} {ta tb tc td : Tok} (hx : s.heap.get? x = some ox) (dx : ox.data = .seq #[.int a ta, .int b tb] nx) (hy : s.heap.get? y = some oy) (dy : oy.data = .seq #[.int c tc, .int d td] ny)
    (hb : 0 <= b /\ b < 1000000) (hd : 0 <= d /\ d < 1000000) (h : Q (decide (a * 1000000 + b < c * 1000000 + d)) s) : wpAny (model prog w) A (keyLt' (tuples' true) (.ref x) (.ref y)) Q E s:=by
  refine PySem.W.kat_lt hx dx hy dy ?_;show PySem.W.KatLex prog w A true false Q [(.int a ta, .int c tc), (.int b tb, .int d td)] 0 s;refine PySem.W.kat_cons (wpAny_eqBool_int ?_);by_cases e1 : a = c
  · subst e1;have z : (a == a) = true:=by simp
    rw [z];refine PySem.W.kat_yes (PySem.W.kat_cons (wpAny_eqBool_int ?_));by_cases e2 : b = d
    · subst e2;have z : (b == b) = true:=by simp
      rw [z];refine PySem.W.kat_yes (PySem.W.kat_nil ?_);have q : decide (a * 1000000 + b < a * 1000000 + b) = false:=by simp
      rw [q] at h;exact h
    · have z : (b == d) = false:=by simpa using e2
      rw [z];refine PySem.W.kat_no ?_;show wpAny (model prog w) A (oneLt' false (.int b tb) (.int d td)) Q _ s;refine PySem.W.kat_one _ _ ?_;have q : decide (a * 1000000 + b < a * 1000000 + d) = decide (b < d):=decide_eq_decide.mpr ⟨λz=>by omega, λz=>by omega⟩;rw [q] at h;exact lt_int h
  · have z : (a == c) = false:=by simpa using e1
    rw [z];refine PySem.W.kat_no ?_;show wpAny (model prog w) A (oneLt' true (.int a ta) (.int c tc)) Q _ s;refine oneLt_int ?_;have q : decide (a * 1000000 + b < c * 1000000 + d) = decide (a < c):=decide_eq_decide.mpr ⟨λz=>by omega, λz=>by omega⟩;rw [q] at h;exact h
end
section
open PySem.W (kla_fn kla_obj CodeHd tabObj)
def EX {CX : zV} {P : Program} {w : World} {K : Frag} {mg : Str -> Option Value} {base : Heap} {f c : Addr} {name qual : Str} {params : Arguments} {body : Expr} {scope : Scope} {pm ctv : Value} {oc : Obj} {fs : Array Value} {tq : Tok} {N ps : List Str} {k : Nat}
    {A : Around} {outer : List Env} {s : Shared} {H : Hp} {args : Args} {us : List Value} {vs : List V} {Q : VK} {E : XK} {tE : TE}
    (S : aH N ps scope) (hr : fR (k + 1) A) (e0 : Bh P w K mg base A outer s H) (hf : s.heap.get? f = some (kla_obj name qual params body scope [] pm c ctv))
    (hc : s.heap.get? c = some oc) (hoc : oc.data = .fields fs) (hfs : fs[1]? = some (.str qual tq))
    (hb : BindsTo s (kla_fn name qual params body scope [] pm (.ref c) ctv) args (ps.zip us)) (hl : vs.length = ps.length) (r : Vals vs us)
    (lI : PE (jd CX P w K mg base N qual scope f (.ref c) A outer s H E) body tE) (hq : tE (start N vs) H Q) :
    codeAny (model P w) A (.call (.ref f) args) (CR CX outer P w H s Q E) s:=by
  have lim : s.heap.NoLimit:=e0.mod.nolimit.keeps λb o e=>(e0.bs b o e).1
  have hkind : ∀ y ∈ ps.zip us, scope.names.lookup y.1 = some .local \/ (scope.names.lookup y.1 = some .cell /\ ((cellsFrom (s.heap.objs.size + 1) scope.names []).lookup y.1).isSome = true):=λ⟨n, v⟩ hy=>by
    rcases S.par n (List.of_mem_zip hy).1 with q | q
    · exact .inl q
    · exact .inr ⟨q, PySem.W.cellsFrom_some _ _ _ (.inl q)⟩
  refine PySem.W.kla_callFunE hr.depth hf rfl S.co S.gen rfl ⟨c, oc, fs, tq, rfl, hc, hoc, hfs⟩ (hb _ _ _ _ ?_);refine wpAny_newFunctionEnv_cells S.kind hkind λenv he s1 x=>?_;subst he;refine ⟨lim.keeps x.toInCall.keep, PySem.W.kla_codeExpr ?_⟩;have I : Inv (jd CX P w K mg base N qual scope f (.ref c) A outer s H E) [] (start N vs) H s1:=sX S hr.hd e0 hl r x;refine wpAny_mono (lI [] s1 (start N vs) H _ I hq) (λu s' hs=>?_) λe s' hs=>hs;obtain ⟨v, H', J, rv, q⟩:=hs;exact ⟨v, H', J.os, J.bare, J.base, J.dz, rv, q⟩
def C4 {X : Cx} {A : Around} {pZ : List (Addr × Obj)} {σ : St} {f c : Addr} {name qual : Str} {params : Arguments} {body : Expr} {scope : Scope} {pm ctv : Value} {oc : Obj} {fs : Array Value} {tq : Tok} {N ps : List Str} {k : Nat}
    {s : Shared} {H : Hp} {us : List Value} {vs : List V} {Q : VK} {tE : TE}
    (S : aH N ps scope) (hr : fR (k + 1) A) (hA : A.frames = X.A.frames) (I : Inv X pZ σ H s) (hf : s.heap.get? f = some (kla_obj name qual params body scope [] pm c ctv))
    (hc : s.heap.get? c = some oc) (hoc : oc.data = .fields fs) (hfs : fs[1]? = some (.str qual tq))
    (hb : BindsTo s (kla_fn name qual params body scope [] pm (.ref c) ctv) ⟨us, []⟩ (ps.zip us)) (hl : vs.length = ps.length) (r : Vals vs us)
    (lI : PE (jd bO X.prog X.w X.K X.mg X.base N qual scope f (.ref c) A X.stack s H E0).mW body tE) (hq : tE (start N vs) H Q) :
    wpAny (model X.prog X.w) A (call (.ref f) us) (EP X pZ σ Q) (λ_ _=>False) s:=by
  have e0 : Bh X.prog X.w X.K X.mg X.base A X.stack s H:=⟨hA.trans I.sr.frames, I.sr.mod, I.sr.bs, I.sr.Bo, I.sr.lJ, I.sr.DW, I.sr.dz, I.sr.bare⟩;refine wpAny_call (codeAny_mono (EX S hr e0 hf hc hoc hfs hb hl r lI.mW hq) λr s' h=>?_)
  cases r with
  | error e=>exact h
  | ok fl=>
    cases fl with
    | ret u=>exact I.after h
    | next=>exact False.elim h
    | brk=>exact False.elim h
    | cont=>exact False.elim h
end
section
open PySem.W (kas_sort kas_ask KatTups)
def Inv.KY {X : Cx} {pZ : List (Addr × Obj)} {σ : St} {H : Hp} {s : Shared} {h' : Heap} {D : Addr} {o : HO} {t' : Nat} (I : Inv X pZ σ H s) (fp : gX X pZ H D) (k : ∀ b u, b ≠ D -> s.heap.get? b = some u -> h'.get? b = some u) (new : fE X.prog X.w (upd H D o) h' D o) :
    Inv X pZ σ (upd H D o) { s with heap:=h', toks:=t' }:=by
  obtain ⟨hn, hL, hF, h1, h2, h3⟩:=fp;have nD : ∀ b u, H b = some u -> b ≠ D:=λb u e z=>by rw [z, hn] at e; cases e
  refine I.step (g':=s.gens) (d':=s.drawn) (ch:=[D]) (λb hb=>?_) (λb u _ _ hc e _=>k b u (λz=>hc (by simp [z])) e) (λb u _ _ hc e _=>⟨u.slots, k b u (λz=>hc (by simp [z])) e⟩) (λb u hc _ n=>by rw [az (λz=>hc (by simp [z]))]; exact n)
    (λb u hc e=>⟨u, k b u (λz=>hc (by simp [z])) e⟩) (λb xs e=>by rw [az (nD b _ e)]; exact e) (λb ob u e=>by rw [az (nD b _ e)]; exact e) (λb ps e=>⟨#[], by rw [az (nD b _ e), e]; simp⟩) (λm hm=>?_) (λb u e=>?_) I.bare
  · have e : b = D:=by simpa using hb
    subst e;exact ⟨h1, hL, h2, h3⟩
  · obtain ⟨ob, es, ep, ho, r⟩:=hm;exact ⟨ob, es, ep, k _ ob (Ne.symm hL) ho, r⟩
  · by_cases z : b = D
    · subst z;rw [aA] at e;cases e;exact new
    · rw [az z] at e;refine (I.dz b u e).rV (λc v hc q=>k c v ?_ q) (λc q=>?_) λc xs q=>?_
      · rcases hc with y | y
        · rw [y]; exact z
        · exact nD c _ y
      · rw [az (nD c _ q)]; exact q
      · rw [az (nD c _ q)]; exact q
def rk (kf : Nat -> Int × Int) (i : Nat) : Int:=(kf i).1 * 1000000 + (kf i).2
theorem sF : ∀ {Ts : List Addr} {us : List Value}, Vals (Ts.map V.ref) us -> us = Ts.map Value.ref
  | [], us, h=>by cases h; rfl
  | T :: Ts, us, h=>by
    cases h with
    | cons r t=>cases r; rw [sF t]; rfl
def uv {P : Program} {w : World} {H : Hp} {h : Heap} {T : Addr} {a b : Int} (hk : lO P w H h) (e : H T = some (.tup [.int a, .int b])) : ∃ o n ta tb, h.get? T = some o /\ o.cls = .type "tuple" /\ o.data = .seq #[.int a ta, .int b tb] n:=by
  obtain ⟨_, aY, rv, pT⟩:=hk T _ e;obtain ⟨o, ho, hc, n, hd⟩:=pT.is
  cases rv with
  | cons r1 t=>
    cases t with
    | cons r2 t=>
      cases t;obtain ⟨ta, rfl⟩:=r1;obtain ⟨tb, rfl⟩:=r2;exact ⟨o, n, ta, tb, ho, hc, hd⟩
theorem yG {h : Heap} : ∀ (Ts : List Addr), (∀ T ∈ Ts, ∃ o n a b ta tb, h.get? T = some o /\ o.cls = .type "tuple" /\ o.data = .seq #[.int a ta, .int b tb] n) -> ∃ fs, KatTups h (Ts.map Value.ref) fs /\ fs.length = Ts.length /\ ∀ v ∈ fs, ∃ i t, v = Value.int i t
  | [], _=>⟨[], PySem.W.KatTups.nil, rfl, λv hv=>nomatch hv⟩
  | T :: Ts, k=>by
    obtain ⟨o, n, a, b, ta, tb, h1, h2, h3⟩:=k T Lz;obtain ⟨fs, g1, g2, g3⟩:=yG Ts λT' h'=>k T' (LC _ h');refine ⟨.int a ta :: fs, PySem.W.KatTups.cons h1 h2 h3 rfl g1, by simp [g2], λv hv=>?_⟩;rcases LK.mp hv with rfl | hv
    · exact ⟨a, ta, rfl⟩
    · exact g3 v hv
section
variable {X : Cx} {A : Around} {E : Value -> Shared -> Prop} {pZ : List (Addr × Obj)} {σ : St} {H : Hp} {s : Shared} {f D : Addr} {aY : List Value} {xs : List V} {kf : Nat -> Int × Int} {P : PySem.Fin -> Shared -> Prop}
def sO {kS : Addr} {Ts : List Addr} {e1 : Nat} {st : SortSt} {p : Array Nat} {H1 : Hp} (I : Inv X ((D, seqObj "list" #[] e1) :: pZ) σ H1 s) (fp : gX X pZ H1 D) (hk : H1 kS = some (.lst (Ts.map V.ref))) (rv : Vals xs aY) (h64 : xs.length < 64) (hTs : Ts.length = xs.length)
    (hz : p.size = xs.length) (har : (arrOf st).map (·.2) = List.toArray (p.toList.map λi=>aY.getD i Value.none)) (hin : ∀ i ∈ p.toList, i < xs.length) (hf : failedOf st = none)
    (h : ∀ s', Inv X pZ σ (upd (upd H1 kS (.lst [])) D (.lst (p.toList.map λi=>xs.getD i .cB))) s' -> P (.done (.ret .none)) s') :
    wpAny (model X.prog X.w) A (ksk_tail D false e1 (.ref kS) st) P E s:=by
  obtain ⟨_, cL, n', r1, r2, ho⟩:=I.xZ hk;have hl:=rv.length;unfold ksk_tail;try dsimp only
  rw [har];refine Ly (listUpdate_at ho rfl ?_ (by rw [LF, Md]; simp at r2; omega) (L1 _));have I1:=I.Hl (t':=s.toks) (f:=λ_=>(#[] : Array Value)) (cL:=[]) (ys:=[]) hk ho rfl .nil (L1 _);have hD:=(I1.pin _ (LS _ Lz)).1;refine Ly (wpAny_letGo ?_);refine Ly (seqEpoch_at hD rfl ?_);refine Ly (listUpdate_at hD rfl ?_ (L1 _) (by simp only [Mf, if_false, LF, LA, Ma]; rw [hz, Md]; omega));rw [hf];simp only [bne_self_eq_false, Mf, if_false];have neD : kS ≠ D:=λz=>by rw [z, fp.1] at hk; cases hk
  have fp1 : gX X pZ (upd H1 kS (.lst [])) D:=⟨by rw [az (Ne.symm neD)]; exact fp.1, fp.2⟩;have I2 : Inv X pZ σ (upd H1 kS (.lst [])) { s with heap:=s.heap.update kS (Obj.mapSeq λ_=>(#[] : Array Value)) }:=I1.qg λq hq=>I1.pin q (LS _ (LC _ hq));refine LD (h _ (I2.KY (t':=s.toks) fp1 (λb u hb e=>(Heap.get?_update_other _ _ (Ne.symm hb)).trans e) ?_));have g:=get?_update_seq hD λ_=>List.toArray (p.toList.map λi=>aY.getD i Value.none);refine ⟨by rw [LA, Ma, hz, Md]; omega, p.toList.map λi=>aY.getD i Value.none, _, ?_, g⟩
  have go : ∀ l : List Nat, (∀ i ∈ l, i < xs.length) -> Vals (l.map λi=>xs.getD i V.cB) (l.map λi=>aY.getD i Value.none):=λl=>by
    induction l with
    | nil=>intro _; exact .nil
    | cons i l ih=>
      intro hl';refine .cons ?_ (ih λj hj=>hl' j (LC _ hj));have hi:=hl' i Lz;obtain ⟨u, hu, ru⟩:=rv.get (Lx hi);show RelV (xs.getD i V.cB) (aY.getD i Value.none);rw [LR, LR, hu, Lx hi];exact ru
  exact go _ hin
end
end
section
open PySem.W (kla_fn kla_obj CodeHd tabObj)
def yC {pos : Pos} {a b : Int} {c cv : Value} (l : List Value) (h : TriplesOk l) (hn : codeAmong pos (l ++ [rawInt a, rawInt b, c]) = some cv) : codeAmong pos l = some cv \/ cv = c:=by
  fun_induction TriplesOk l with
  | case1=>
    simp [codeAmong, rawInt] at hn
    exact .inr hn.2.symm
  | case2 a' t b' u x rest ih=>
    simp only [List.cons_append, codeAmong] at hn ⊢;split at hn
    · rename_i hc;rw [Mk hc];exact .inl hn
    · rename_i hc;rw [Ml hc]
      exact ih h hn
  | case3 l h1 h2=>exact h.elim
def C3 {X : Cx} {pZ : List (Addr × Obj)} {σ : St} {H : Hp} {s : Shared} {c P : Addr} {params : Arguments} {body : Expr} {scope : Scope} {pos : Pos} {E : Value -> Shared -> Prop} {Q : Value -> Shared -> Prop}
    (I : Inv X pZ σ H s) (hB : D3 X.base X.mg) (hcode : X.env.code = .ref c) (hC : CodeHd X.base c P) (tab : TabAt H (P, X.env.qual ++ "<lambda>")) (hcl : closureFor scope X.env = pure []) (hdef : defaultsOf params X.env = ([], []))
    (h : ∀ (f c' : Addr) (oc : Obj) (fs : Array Value) (tq : Tok) (pm ctv : Value) (H' : Hp) (s' : Shared), Inv X pZ σ H' s' -> H f = none -> H' f = some (.og (kla_obj "<lambda>" (X.env.qual ++ "<lambda>") params body scope [] pm c' ctv) (.own f)) -> H' c' = some (.og oc (.own c')) -> oc.data = .fields fs -> fs[1]? = some (.str (X.env.qual ++ "<lambda>") tq) ->
      TabAt H' (P, X.env.qual ++ "<lambda>") -> (∀ b o, b ≠ P -> H b = some o -> H' b = some o) -> Q (.ref f) s') :
    wpAny (model X.prog X.w) X.A (eval (.Lambda params body scope pos) X.env) Q E s:=by
  obtain ⟨ps, hP, ht, hrow⟩:=tab;have gP : s.heap.get? P = some (tabObj ps):=I.dz P _ hP;obtain ⟨bm, ob, b1, b2, b3, b4, b5, b6⟩:=hB;have hg : s.heap.Ns mainGlobals X.mg:=I.mod.glob.keeps I.bk
  have hgP : mainGlobals ≠ P:=λq=>by
    obtain ⟨o, es, ep, e, hd, _⟩:=hg;rw [q, gP] at e; cases e; cases hd
  have hbP : bm ≠ P:=λq=>by
    have e:=I.bk _ _ b3;rw [q, gP] at e; cases e; cases b4
  have hbG : bm ≠ mainGlobals:=λq=>by
    obtain ⟨o, es, ep, e, hd, _⟩:=I.mod.glob;rw [q, e] at b3; cases b3; rw [hd] at b6; cases b6
  have hBA : s.heap.BuiltinsAt X.mg P:=⟨bm, ob, b1, b2, hbG, hbP, I.bk _ _ b3, b4, b5, b6⟩;refine PySem.W.kla_eval hdef ?_
  cases hf : codeAmong pos ps.toList with
  | none=>
    refine PySem.W.kla_makeFunction (mg:=X.mg) hcl I.ok.glob hg hcode (hC.keeps I.bk) gP ht hf hgP hBA λc' ctv h' tk hx hge kY hrec htb=>?_;obtain ⟨c2, oc, fs, tq, e2, hoc, hfd, hfs⟩:=hrec;cases e2;generalize hko : kla_obj "<lambda>" (X.env.qual ++ "<lambda>") params body scope [] ((X.mg "__name__").getD .none) c' ctv = ko;have hkf : ko.isFreed = false:=by rw [<- hko]; rfl
    have hcn : H c' = none:=I.dz.fresh hge;have hfn : H h'.objs.size = none:=I.dz.fresh (LV hge (Nat.le_of_lt kY));have ncP : c' ≠ P:=λz=>by rw [z, hP] at hcn; cases hcn
    have nfP : h'.objs.size ≠ P:=λz=>by rw [z, hP] at hfn; cases hfn
    have nfc : h'.objs.size ≠ c':=Nat.ne_of_gt kY;let H' : Hp:=upd (upd (upd H P (.qc (ps ++ #[rawInt pos.line, rawInt pos.col, .ref c']))) c' (.og oc (.own c'))) h'.objs.size (.og ko (.own h'.objs.size));have at_f : H' h'.objs.size = some (.og ko (.own h'.objs.size)):=aA
    have at_c : H' c' = some (.og oc (.own c')):=by
      show upd _ _ _ c' = _;rw [az (Ne.symm nfc), aA]
    have at_P : H' P = some (.qc (ps ++ #[rawInt pos.line, rawInt pos.col, .ref c'])):=by
      show upd _ _ _ P = _;rw [az (Ne.symm nfP), az (Ne.symm ncP), aA]
    have at_o : ∀ b, b ≠ h'.objs.size -> b ≠ c' -> b ≠ P -> H' b = H b:=λb n1 n2 n3=>by
      show upd _ _ _ b = _;rw [az n1, az n2, az n3]
    have kH : ∀ b o, b ≠ P -> H b = some o -> H' b = some o:=λb o nb e=>by
      rw [at_o b (bx e hfn) (bx e hcn) nb];exact e
    have kp : ∀ b o, b ≠ P -> s.heap.get? b = some o -> (h'.push ko).get? b = some o:=λb o nb e=>LB _ (hx b o nb e);have tbP : (h'.push ko).get? P = some (tabObj (ps ++ #[rawInt pos.line, rawInt pos.col, .ref c'])):=LB _ htb
    have un : Un X.fs [] H H' s.heap (h'.push ko):=by
      have nP : ∀ b, H b = none -> b ≠ P:=λb n z=>by rw [z, hP] at n; cases n
      refine ⟨λb o e n _ _=>kp b o (nP b n) e, λb o e n _ _=>⟨o.slots, kp b o (nP b n) e⟩, λb o e n _=>?_, λb o e _=>?_, λb xs e=>kH b _ (λz=>by rw [z, hP] at e; cases e) e, λb ob u e=>kH b _ (λz=>by rw [z, hP] at e; cases e) e, λb qs e=>?_⟩
      · have lt:=LQ e;rw [at_o b (L4 (LX lt (LV hge (Nat.le_of_lt kY)))) (L4 (LX lt hge)) (nP b n)];exact n
      · by_cases z : b = P
        · exact ⟨_, z ▸ tbP⟩
        · exact ⟨o, kp b o z e⟩
      · by_cases z : b = P
        · subst z;rw [hP] at e;cases e;exact ⟨_, at_P⟩
        · exact ⟨#[], by rw [kH b _ z e]; simp⟩
    have dz : lO X.prog X.w H' (h'.push ko):=λb u e=>by
      by_cases n1 : b = h'.objs.size
      · subst n1;rw [at_f] at e;cases e;exact ⟨LO _ hkf, _, LO _ hkf⟩
      · by_cases n2 : b = c'
        · subst n2;rw [at_c] at e;cases e;exact ⟨LB _ hoc, _, LB _ hoc⟩
        · by_cases n3 : b = P
          · subst n3;rw [at_P] at e;cases e;exact tbP
          · rw [at_o b n1 n2 n3] at e;refine (I.dz b u e).rV (λd v hd q=>kp d v ?_ q) (λd q=>kH d _ (λz=>by rw [z, hP] at q; cases q) q) λd xs q=>kH d _ (λz=>by rw [z, hP] at q; cases q) q;rcases hd with z | z
            · rw [z]; exact n3
            · exact λy=>by rw [y, hP] at z; cases z
    subst hko;refine h h'.objs.size c' oc fs tq _ ctv H' _ (I.un (t':=tk) un dz) hfn at_f at_c hfd hfs ⟨_, at_P, ?_, λpos' cv e=>?_⟩ kH
    · rw [Array.toList_append];exact TriplesOk_snoc _ _ _ _ ht
    · rw [Array.toList_append] at e;rcases yC _ ht e with e | rfl
      · obtain ⟨c3, o3, f3, t3, rfl, g1, g2, g3⟩:=hrow pos' cv e;exact ⟨c3, o3, f3, t3, rfl, kH _ _ (λz=>by rw [z, hP] at g1; cases g1) g1, g2, g3⟩
      · exact ⟨c', oc, fs, tq, rfl, at_c, hfd, hfs⟩
  | some cv=>
    obtain ⟨c', oc, fs, tq, rfl, g1, hfd, hfs⟩:=hrow pos cv hf;refine PySem.W.kla_makeFunctionHit (mg:=X.mg) hcl I.ok.glob hg hcode (hC.keeps I.bk) gP ht hf hBA λctv h' tk hk hsz=>?_;have hfn : H h'.objs.size = none:=I.dz.fresh hsz;have nf : ∀ b u, H b = some u -> b ≠ h'.objs.size:=λb u e=>bx e hfn
    have J:=I.laid (t':=tk) (h':=h'.push (kla_obj "<lambda>" (X.env.qual ++ "<lambda>") params body scope [] ((X.mg "__name__").getD .none) c' ctv)) (a:=h'.objs.size) (o:=.og (kla_obj "<lambda>" (X.env.qual ++ "<lambda>") params body scope [] ((X.mg "__name__").getD .none) c' ctv) (.own h'.objs.size))
      (λb u e=>LB _ (hk b u e)) hsz ⟨LO _ rfl, _, LO _ rfl⟩
    refine h h'.objs.size c' oc fs tq _ ctv _ _ J hfn aA (by rw [az (nf _ _ g1)]; exact g1) hfd hfs ⟨ps, by rw [az (nf _ _ hP)]; exact hP, ht, λpos' cv e=>?_⟩ λb o _ e=>by rw [az (nf _ _ e)]; exact e
    obtain ⟨c3, o3, f3, t3, rfl, k1, k2, k3⟩:=hrow pos' cv e;exact ⟨c3, o3, f3, t3, rfl, by rw [az (nf _ _ k1)]; exact k1, k2, k3⟩
end
section
open PySem.W (kla_fn kla_obj CodeHd tabObj)
def FC (K : Frag) (i j : Int) : TE:=Iq (fU (GA (Eo K) (p6 0) (tC (.int i))) (fU (GA (Eo K) (p6 0) (tC (.int j))) mM))
def BL {K : Frag} {i j a b : Int} {N : List Str} {H : Hp} {p : Addr} {ys : List V} (h : H p = some (.tup ys)) (hi : jY ys i = some (.int a)) (hj : jY ys j = some (.int b)) :
    FC K i j (start N [.ref p]) H λv H3=>∃ T, v = .ref T /\ H T = none /\ H3 = upd H T (.tup [.int a, .int b]):=by
  have e0 : (start N [V.ref p])[0]? = some (some (.ref p)):=jK rfl;exact ⟨_, e0, p, ys, i, _, rfl, rfl, ji.of h, hi, _, e0, p, ys, j, _, rfl, rfl, ji.of h, hj, by show 2 <= sizeLine; rw [Md]; omega, λT hT=>⟨T, rfl, hT, rfl⟩⟩
def pN : PV -> Option (Int × Int)
  | .tup l=>match (l[2]? : Option PV), (l[1]? : Option PV) with
    | some (PV.int m), some (PV.int n)=>some (m, n)
    | _, _=>none
  | _=>none
def Bl (y : PV) : Int × Int:=(pN y).getD (0, 0)
def pI (y : PV) : Int:=(Bl y).1 * 1000000 + (Bl y).2
def AG {y : PV} {k : Int × Int} (h : pN y = some k) : ∃ l, y = .tup l /\ l[2]? = some (.int k.1) /\ l[1]? = some (.int k.2):=by
  cases y with
  | tup l=>
    simp only [pN] at h;split at h
    · rename_i m n e1 e2;cases h;exact ⟨l, rfl, e1, e2⟩
    · cases h
  | _=>cases h
def AO (y : PV) : List PV -> List PV
  | []=>[y]
  | z :: l=>if pI y < pI z then y :: z :: l else z :: AO y l
def AJ : List PV -> List PV
  | []=>[]
  | y :: l=>AO y (AJ l)
def FU (y : PV) : Bool:=match pN y with
  | some k=>decide (0 <= k.2) && decide (k.2 < 1000000)
  | none=>false
def zh {y : PV} (h : FU y = true) : ∃ k, pN y = some k /\ 0 <= k.2 /\ k.2 < 1000000:=by
  unfold FU at h
  cases e : pN y with
  | none=>rw [e] at h; cases h
  | some k=>
    rw [e] at h;simp only [Mb, MA] at h;exact ⟨k, rfl, h.1, h.2⟩
theorem o4 (y : PV) : ∀ l, (AO y l).Perm (y :: l)
  | []=>.refl _
  | z :: l=>by
    unfold AO;split
    · exact .refl _
    · exact ((o4 y l).cons z).trans (.swap _ _ _)
theorem o2 : ∀ l, (AJ l).Perm l
  | []=>.refl _
  | y :: l=>(o4 y _).trans ((o2 l).cons y)
abbrev Ih (a b : PV) : Prop:=pI a < pI b
theorem zt (y : PV) : ∀ l, l.Pairwise Ih -> (∀ z ∈ l, pI y ≠ pI z) -> (AO y l).Pairwise Ih
  | [], _, _=>List.pairwise_singleton _ _
  | z :: l, h, n=>by
    have h':=Mn.mp h;unfold AO;split
    · rename_i c;refine Mn.mpr ⟨λx hx=>?_, h⟩;rcases LK.mp hx with rfl | hx
      · exact c
      · exact Int.lt_trans c (h'.1 x hx)
    · rename_i c;have nz:=n z Lz;refine Mn.mpr ⟨λx hx=>?_, zt y l h'.2 λx hx=>n x (LC _ hx)⟩;rcases LK.mp ((o4 y l).mem_iff.mp hx) with rfl | hx
      · show pI z < pI x;omega
      · exact h'.1 x hx
theorem ql : ∀ l, (l.map pI).Nodup -> (AJ l).Pairwise Ih
  | [], _=>.nil
  | y :: l, h=>by
    rw [LJ, List.nodup_cons] at h;refine zt y _ (ql l h.2) λz hz e=>h.1 ?_;rw [e];exact L5 ((o2 l).mem_iff.mp hz)
theorem Bv : ∀ (l m : List PV), l.Pairwise Ih -> m.Pairwise Ih -> l.Perm m -> l = m
  | [], m, _, _, p=>(List.nil_perm.mp p).symm
  | a :: l, [], _, _, p=>absurd p.length_eq (by simp)
  | a :: l, b :: m, h1, h2, p=>by
    have h1':=Mn.mp h1;have h2':=Mn.mp h2
    have ea : a = b:=by
      rcases LK.mp (p.mem_iff.mp Lz) with e | ha
      · exact e
      rcases LK.mp (p.mem_iff.mpr Lz) with e | hb
      · exact e.symm
      have x1 : pI a < pI b:=h1'.1 b hb;have x2 : pI b < pI a:=h2'.1 a ha;omega
    subst ea;rw [Bv l m h1'.2 h2'.2 (List.perm_cons a |>.mp p)]
def zq {l m : List PV} (nd : (l.map pI).Nodup) (p : m.Perm l) (u : m.Pairwise Ih) : AJ l = m:=Bv _ _ (ql l nd) u ((o2 l).trans p.symm)
def CF {l : List PV} {p : Array Nat} {kf : Nat -> Int × Int} (nd : (l.map pI).Nodup) (hk : ∀ i, i < l.length -> kf i = Bl (l.getD i .cB)) (hz : p.size = l.length) (hp : p.Perm (List.toArray (List.range l.length))) (hu : Bq (rk kf) p l.length) : AJ l = p.toList.map λi=>l.getD i .cB:=by
  have tm : p.toList.Perm (List.range l.length):=Array.perm_iff_toList_perm.mp hp
  have kY : ∀ i ∈ p.toList, i < l.length:=λi hi=>by
    have:=tm.mem_iff.mp hi;simpa using this
  refine zq nd ?_ ?_
  · have e : (List.range l.length).map (λi=>l.getD i .cB) = l:=by
      apply List.ext_getElem?;intro i;rw [LU];by_cases hi : i < l.length
      · rw [List.getElem?_range hi, Lx hi];simp [hi]
      · rw [MC (by simpa using hi), MC (by simpa using hi)];rfl
    rw [<- e];have:=tm.map λi=>l.getD i .cB;rw [e] at this ⊢;exact this
  · rw [List.pairwise_map, List.pairwise_iff_getElem];intro i j hi hj hij;have hj' : j < l.length:=by rw [Ma, hz] at hj; exact hj
    have x:=hu i j hij hj';unfold kg rk at x
    have gi : p.getD i 0 = p.toList[i]:=by
      rw [LW, Array.getElem?_eq_getElem (by rw [hz]; omega)];rfl
    have gj : p.getD j 0 = p.toList[j]:=by
      rw [LW, Array.getElem?_eq_getElem (by rw [hz]; omega)];rfl
    rw [gi, gj, hk _ (kY _ (Mg hi)), hk _ (kY _ (Mg hj))] at x;exact x
end
section
variable {φ : iE}
def sP : PV -> Option (List PV)
  | .lst l=>some l
  | .tup l=>some l
  | _=>none
def Eg {G : Bg φ} {O : Addr -> Prop} {H : Hp} {y : PV} {x : V} {l : List PV} (r : ed G O H y x) (e : sP y = some l) : ∃ p xs, x = .ref p /\ (H p = some (.lst xs) \/ H p = some (.tup xs)) /\ bC G.B O H l xs:=by
  cases y with
  | lst l'=>
    cases e;obtain ⟨p, xs, rfl, h, r⟩:=r.kG
    exact ⟨p, xs, rfl, .inl h, r⟩
  | tup l'=>
    cases e;obtain ⟨p, xs, rfl, h, r⟩:=r.lB
    exact ⟨p, xs, rfl, .inr h, r⟩
  | _=>cases e
def DQ {α : Type} {l : List α} {k : Nat} {x : α} (h : l[k]? = some x) : jY l (k : Int) = some x:=by
  have hk : k < l.length:=(LG.mp h).1;unfold jY Bm;rw [Mk (by omega), Mk (by omega)];show l[((k : Nat) : Int).toNat]? = _;rw [Int.toNat_natCast];exact h
end
section
variable {X : Cx} {φ : iE} {e : Expr}
def Ak {B : Addr} {O : Addr -> Prop} {H : Hp} (ys : List Str) : bC B O H (ys.map PV.str) (ys.map V.str):=by
  refine ⟨by simp, λi y x hy hx=>?_⟩;rw [LU] at hy hx;obtain ⟨z, hz, rfl⟩:=LY.mp hy;rw [hz] at hx;cases hx;exact .str z
end
structure yF (K : Frag) (x qual : Str) (st : Stmt) (f : Addr) (fd : FuncData) (c tb : Addr) : Prop where
  ex : ∃ (oc : Value) (od : Option Addr) (kV doc pm : Value) (an : Option Addr) (ct : Value) (osl : Array (Option Value)),
    fd = fnOf x qual (aS st) (ar st) (ag st) .none kV doc pm an (.ref c) ct /\ K.lookup f = some ⟨oc, od, .func fd, osl⟩ /\ codeIn K (.ref c) qual = true
  hd : PySem.W.codeHdIn K c tb = true
section
variable {φ : iE} {P : Program} {w : World} {K : Frag} {mg : Str -> Option Value} {base : Heap}
def yF.ok {x qual : Str} {st : Stmt} {f c tb : Addr} {fd : FuncData} {N ps : List Str} {k : Nat} {sp : Sp} (F : yF K x qual st f fd c tb) (S : aH N ps (ag st)) (len : ∀ vs H Q E, sp vs H Q E -> vs.length = ps.length)
    (lI : ∀ (A : Around) (outer : List Env) (s : Shared) (H : Hp) (vs : List V) (Q : VK) (E : XK), fR k (A.deeper (envOfC qual (ag st) s.heap.objs.size f (.ref c))) -> sp vs H Q E ->
      ∃ t, xg (jd bO P w K mg base N qual (ag st) f (.ref c) A outer s H E).mW (ar st) t /\ t { nx:=λ_ H'=>Q .cB H', rt:=Q } (start N vs) H) : aI P w K mg base bO (k + 1) f fd ps sp:=by
  obtain ⟨oc, od, kV, doc, pm, an, ct, osl, rfl, lk, hcd⟩:=F.ex;refine zA lk hcd S len λA outer s H vs Q E hr hsp=>?_;obtain ⟨t, h, q⟩:=lI A outer s H vs Q E hr hsp;exact ⟨t, h.mW, q⟩
def E9 {x qual : Str} {st : Stmt} {f c tb : Addr} {fd : FuncData} {N ps : List Str} {k : Nat} {m : ak -> M Fl} (F : yF K x qual st f fd c tb) (S : aH N ps (ag st)) (hN : ps.length <= N.length)
    (hb : ∀ (A : Around) (outer : List Env) (s : Shared) (H : Hp) (E : XK), fR k (A.deeper (envOfC qual (ag st) s.heap.objs.size f (.ref c))) -> DZ φ (jd bO P w K mg base N qual (ag st) f (.ref c) A outer s H E).mW (ar st) m) :
    aI P w K mg base bO (k + 1) f fd ps (cG φ (gF ps.length N.length m)):=by
  refine F.ok S (λvs H Q E h=>?_) (λA outer s H vs Q E hr h=>⟨_, (hb A outer s H E hr).out, ?_⟩)
  · obtain ⟨G, O, l, n, R, _, _, _, r, w, _⟩:=h;unfold gF at w;by_cases hc : l.length = ps.length
    · rw [<- r.1, hc]
    · rw [Ml hc] at w; exact w.elim
  · obtain ⟨G, O, l, n, R, pr, dm, ok, r, w, q⟩:=h;unfold gF at w;by_cases hc : l.length = ps.length
    · rw [Mk hc, M.wZ] at w;refine ⟨G, O, H, O, br N.length l, n, ⟨⟨⟨?_, λi e he=>?_⟩, ok, pr, dm⟩, pr, λp h=>h, Ext.refl _ _, λp h=>.inl h, dm, λi p h=>?_, λi j p h=>?_⟩, M.wp_mono w λf n' h=>?_⟩
      · unfold start br; simp [r.1]
      · unfold br at he;by_cases hi : i < l.length
        · rw [Me (by simpa using hi), LU, Lx hi] at he;cases he;obtain ⟨x, hx, rr⟩:=r.at (Lx hi);exact ⟨x, by rw [jK hx]; rfl, rr⟩
        · rw [List.getElem?_append_right (by simpa using hi), MB] at he;split at he
          · cases he; trivial
          · cases he
      all_goals try (
        obtain ⟨t, h1, h2, _⟩:=h;exfalso;unfold br at h1;by_cases hi : i < l.length
        · rw [Me (by simpa using hi), LU, Lx hi] at h1;cases h1; cases h2
        · rw [List.getElem?_append_right (by simpa using hi), MB] at h1;split at h1
          · cases h1; cases h2
          · cases h1)
      cases f with
      | nx ρ=>exact λO' σ' H' s'=>q .cB .cB H' n' s'.ext s'.es.ok .cB h
      | rt y=>exact λx' H' e' ok' r'=>q y x' H' n' e' ok' r' h
      | bk ρ=>exact h.elim
      | ct ρ=>exact h.elim
    · rw [Ml hc] at w; exact w.elim
def HC {x qual : Str} {st : Stmt} {f c tb : Addr} {fd : FuncData} {N ps : List Str} {k : Nat} {m : ak -> M Fl} {body : List Stmt} {sc : Scope} {Ff : List PV -> M PV} (hF : Ff = gF ps.length N.length m) (F : yF K x qual st f fd c tb) (S : aH N ps (ag st)) (hN : ps.length <= N.length) (eb : ar st = body) (es : ag st = sc)
    (hb : ∀ (A : Around) (outer : List Env) (s : Shared) (H : Hp) (E : XK), fR k (A.deeper (envOfC qual sc s.heap.objs.size f (.ref c))) -> DZ φ (jd bO P w K mg base N qual sc f (.ref c) A outer s H E).mW body m) :
    aI P w K mg base bO (k + 1) f fd ps (cG φ Ff):=by
  subst hF eb es;exact E9 F S hN hb
end
abbrev rB (K : Frag) (tabs : List (Addr × Str)) : iE:=⟨K, B1, tabs⟩
def oJ (K : Frag) (tbs : List Addr) : Sp:=λvs H Q _=>∃ (a : Addr) (ns : List Int), vs = [.ref a] /\ fk K H a (ns.map V.int) /\ ns.length <= 63 /\ (∀ tb ∈ tbs, H tb = some (.qc #[])) /\ ∀ H', Q (.bl true) H'
def sM (K : Frag) (tabs : List (Addr × Str)) (a c : Addr) : Bg (rB K tabs) where
  B:=a
  fL:=λp=>p = a \/ p = c \/ p ∈ tabs.map (·.1)
  ok:=λH n=>(∃ k, k + n <= 1000000 /\ Fv H a c k) /\ ∀ e ∈ tabs, TabAt H e
  pB:=.inl rfl
  keep:=λH H' n k h=>by
    obtain ⟨⟨j, hj, b⟩, ht⟩:=h;obtain ⟨p, q, sd, cells, h1, h2, r⟩:=b.ex;exact ⟨⟨j, hj, p, q, sd, cells, k a _ (.inl (.inl rfl)) h1, k c _ (.inl (.inr (.inl rfl))) h2, r⟩, λe he=>(ht e he).keep (λps z=>k _ _ (.inl (.inr (.inr (L5 he)))) z) λb ob u z=>k _ _ (.inr trivial) z⟩
  tp:=λe he=>.inr (.inr (L5 he))
  tab:=λH n h=>h.2
  zY:=λH H' n h h1 h2=>by
    obtain ⟨⟨j, hj, b⟩, ht⟩:=h;obtain ⟨p, q, sd, cells, g1, g2, r⟩:=b.ex
    have no : ∀ b xs, H b = some (.lst xs) -> b ∉ tabs.map (·.1):=λb xs e z=>by
      obtain ⟨e', he', rfl⟩:=LM.mp z;obtain ⟨ps, e2, _⟩:=ht e' he';rw [e] at e2; cases e2
    exact ⟨⟨j, hj, p, q, sd, cells, h2 a _ (no _ _ g1) g1, h2 c _ (no _ _ g2) g2, r⟩, h1⟩
  DX:=λH n p h z=>by
    obtain ⟨⟨j, hj, b⟩, ht⟩:=h;obtain ⟨⟨xs, e1⟩, ys, e2⟩:=b.there;rcases z with rfl | rfl | z
    · exact ⟨_, e1⟩
    · exact ⟨_, e2⟩
    · obtain ⟨e', he', rfl⟩:=LM.mp z;obtain ⟨ps, e3, _⟩:=ht e' he';exact ⟨_, e3⟩
  dr:=λH n m Q E ok h0 h1 q=>by
    obtain ⟨⟨k, hk, b⟩, ht⟩:=ok;obtain ⟨⟨xs, e1⟩, _⟩:=b.there;exact ⟨a, c, k, m, rfl, b, by omega, h0, h1, λd o d0 d1 b'=>q d _ d0 d1 (λp u np hp=>.of (by rw [az np]; exact hp)) ⟨⟨k + 1, by omega, b'⟩, λe he=>(ht e he).keep (λps z=>by rw [az (FX z e1 (by intro y; cases y))]; exact z) λb ob u z=>by rw [az (FX z e1 (by intro y; cases y))]; exact z⟩⟩
def Li (c dp : Nat) (y : PV) : Prop:=∃ d : PyData, toD y = some d /\ d.showable = true /\ d.hasDict = false /\ d.shown.length <= c /\ d.depth <= dp
def Ec {i : Int} (h : i.natAbs < 10 ^ 61) : Li 62 0 (.int i):=by
  refine ⟨.int i, by simp only [toD], ?_, by simp only [PyData.hasDict], ?_, by simp only [PyData.depth]; omega⟩
  · simp only [PyData.showable, MA];by_cases z : i.natAbs = 0
    · rw [z]; decide
    · rw [Nat.log2_lt z];exact LX h (by decide +kernel)
  · simp only [PyData.shown];have:=int_text_length_le10 (k:=61) (by decide) h;show (Str.ofString (toString i)).length <= 62;rw [PySem.ofString_length];omega
def Eb {x : Str} {k : Nat} (h : x.length <= k) (hc : ∀ c ∈ x.cps.toList, c < 16 ^ 8) : Li (10 * k + 2) 0 (.str x):=by
  refine ⟨.str x, by simp only [toD], by simp only [PyData.showable], by simp only [PyData.hasDict], ?_, by simp only [PyData.depth]; omega⟩;simp only [PyData.shown];have:=PySem.StrLaws.reprText_len x hc;omega
theorem join_le {c : Nat} : ∀ (ts : List Str), (∀ t ∈ ts, t.length <= c) -> (Str.join ", " ts).length <= ts.length * (c + 2)
  | [], _=>by show (0 : Nat) <= _; omega
  | [x], h=>by
    have:=h x Lz;show x.length <= 1 * (c + 2)
    omega
  | x :: y :: r, h=>by
    have ih:=join_le (y :: r) λt ht=>h t (LC _ ht);have hx:=h x Lz;show (x ++ ", " ++ Str.join ", " (y :: r)).length <= _;have e2 : ((", " : String) : Str).length = 2:=rfl;rw [strLen_append, strLen_append, e2, LN, Nat.succ_mul];omega
section
open PySem.W (KasT kas_rev kas_asc kas_desc kas_tail3 kas_descPart kas_count kas_place kas_bin kas_sort)
open PySem.W (kas_ask KatTups)
open PySem.W (kla_fn kla_obj CodeHd tabObj)
def Bp (N : Nat) (p0 p : Array Nat) : Prop:=Bd N p /\ p.Perm p0
theorem Bp.at {N : Nat} {p0 p : Array Nat} (h : Bp N p0 p) (k : Nat) : p.getD k 0 < N:=h.1.at k
theorem Bp.perm {N : Nat} {p0 p q : Array Nat} (h : Bp N p0 p) (pm : q.Perm p) : Bp N p0 q:=⟨h.1.perm pm, pm.trans h.2⟩
def Bp.rev {N : Nat} {p0 p : Array Nat} (h : Bp N p0 p) (i j : Nat) : Bp N p0 (kas_rev p i j):=h.perm (mirror_perm _ _ _ _)
section
variable {N : Nat} {p0 : Array Nat}
theorem va {p : Array Nat} (h : Bp N p0 p) : ∀ f n, iq N (λ_=>True) (kas_asc p f n)
  | 0, _=>trivial
  | f + 1, n=>⟨h.at _, h.at _, λb=>iq.ite trivial (va h f (n + 1))⟩
theorem oq : ∀ (f : Nat) {p : Array Nat} (n q : Nat), Bp N p0 p -> iq N (λr=>Bp N p0 r.1) (kas_desc f p n q)
  | 0, _, _, _, h=>h
  | f + 1, p, n, q, h=>⟨h.at _, h.at _, λb=>iq.ite (iq.ite (oq f _ _ (h.rev _ _)) (oq f _ _ h)) ⟨h.at _, h.at _, λd=>iq.ite h (oq f _ _ h)⟩⟩
def sL {p : Array Nat} (h : Bp N p0 p) (n m : Nat) : iq N (λr=>Bp N p0 r.2) (kas_tail3 n m p):=iq.bind (va (h.rev _ _) _ _) λa _=>h.rev _ _
def ot {p : Array Nat} (h : Bp N p0 p) (n m : Nat) : iq N (λr=>Bp N p0 r.2) (kas_descPart n m p):=iq.bind (oq _ _ _ h) λr hr=>iq.ite (sL (hr.rev _ _) _ _) (sL hr _ _)
def A1 {p : Array Nat} (h : Bp N p0 p) (m : Nat) : iq N (λr=>Bp N p0 r.2) (kas_count m p):=
  iq.bind (va h _ _) λn _=>iq.ite h (iq.ite ⟨h.at _, h.at _, λc=>iq.ite h (ot (h.rev _ _) _ _)⟩ (ot h _ _))
theorem oP {p : Array Nat} (h : Bp N p0 p) (k : Nat) : ∀ f l r, iq N (λ_=>True) (kas_place p k f l r)
  | 0, _, _=>trivial
  | f + 1, l, r=>by
    unfold kas_place;exact iq.ite trivial ⟨h.at _, h.at _, λc=>iq.ite (oP h k f _ _) (oP h k f _ _)⟩
theorem zQ : ∀ (f : Nat) {p : Array Nat} (k : Nat), Bp N p0 p -> iq N (Bp N p0) (kas_bin f p k)
  | 0, _, _, h=>h
  | f + 1, p, k, h=>iq.bind (oP h _ _ _ _) λl _=>zQ f (k + 1) (h.perm (bubble_perm _ _ _))
def B3 (hN : 0 < N) : iq N (Bp N (List.toArray (List.range N))) (kas_sort N):=by
  have h : Bp N (List.toArray (List.range N)) (List.toArray (List.range N)):=⟨⟨hN, λx hx=>by simpa using hx⟩, Array.Perm.refl _⟩;exact iq.bind (A1 h _) λr hr=>iq.ite (zQ _ _ hr) hr
end
theorem B7 {N : Nat} {α : Type} {V : α -> Prop} {r : Nat -> Int} : ∀ (t : KasT α), iq N V t -> V (runK r t)
  | .ret a, h=>h
  | .ask i j k, h=>B7 (k (decide (r i < r j))) (h.2.2 _)
def oS (r : Nat -> Int) (n : Nat) : Array Nat:=if n < 2 then List.toArray (List.range n) else runK r (kas_sort n)
def lY (r : Nat -> Int) (n : Nat) : (oS r n).Perm (List.toArray (List.range n)):=by
  unfold oS;split
  · exact Array.Perm.refl _
  · exact (B7 (r:=r) _ (B3 (N:=n) (by omega))).2
def Aq (r : Nat -> Int) (n : Nat) : (oS r n).size = n:=by
  have:=(Array.perm_iff_toList_perm.mp (lY r n)).length_eq;simpa using this
section
variable {X : Cx} {A : Around} {E : Value -> Shared -> Prop} {pZ : List (Addr × Obj)} {σ : St} {H : Hp} {s : Shared} {f D : Addr} {aY : List Value} {xs : List V} {kf : Nat -> Int × Int} {P : PySem.Fin -> Shared -> Prop}
def vp {n0 : Nat} (I : Inv X pZ σ H s) (fp : gX X pZ H D) (ho : s.heap.get? D = some (seqObj "list" aY.toArray n0)) (rv : Vals xs aY) (h64 : xs.length < 64)
    (Di : ∀ (nN : List (Addr × Obj)) (H1 : Hp) (s1 : Shared) (i : Nat) (u : Value), aY[i]? = some u -> ng H H1 -> Inv X nN σ H1 s1 -> wpAny (model X.prog X.w) A (call (.ref f) [u]) (EP X nN σ λv H2=>∃ T, v = .ref T /\ H1 T = none /\ H2 = upd H1 T (.tup [.int (kf i).1, .int (kf i).2])) (λ_ _=>False) s1)
    (hb : ∀ i, i < xs.length -> 0 <= (kf i).2 /\ (kf i).2 < 1000000)
    (h : ∀ (H' : Hp) (s' : Shared), Inv X pZ σ H' s' -> H' D = some (.lst ((oS (rk kf) xs.length).toList.map λi=>xs.getD i .cB)) -> ng H H' -> P (.done (.ret .none)) s') :
    wpAny (model X.prog X.w) A (Builtin.«list.sort» ⟨[.ref D], [(Str.ofString "key", .ref f)]⟩) P E s:=by
  have hl:=rv.length;have hzL : aY.length <= sizeLine:=by rw [Md]; omega
  rw [ksk_t1];unfold ksk_tree;refine Ly (listItems_at ho rfl ?_);refine Ly (listUpdate_at ho rfl ?_ (by rw [LF]; exact hzL) (L1 _));obtain ⟨e1, ho1⟩ : ∃ e1, (s.heap.update D (Obj.mapSeq λ_=>(#[] : Array Value))).get? D = some (seqObj "list" #[] e1):=⟨_, get?_update_seq ho λ_=>#[]⟩;refine Ly (seqEpoch_at ho1 rfl ?_);refine Ly (wpAny_newTuple ?_ hzL);refine Ly (wpAny_newList ?_ (L1 _));refine wpAny_holding ?_;have I1 : Inv X pZ σ H { s with heap:=s.heap.update D (Obj.mapSeq λ_=>(#[] : Array Value)) }:=I.turned (t':=s.toks) (λb u hb' e=>(Heap.get?_update_other _ _ (Ne.symm hb')).trans e) fp.1 fp.2.1 fp.2.2.2.1 fp.2.2.2.2.1 fp.2.2.2.2.2
  have I2 : Inv X ((D, seqObj "list" #[] e1) :: pZ) σ H { s with heap:=s.heap.update D (Obj.mapSeq λ_=>(#[] : Array Value)) }:=I1.qg λq hq=>by
    rcases LK.mp hq with rfl | hq
    · exact ⟨ho1, fp.1, fp.2.1, fp.2.2.1, λv z=>by cases z⟩
    · exact I1.pin q (LS _ hq)
  have I3 : Inv X ((D, seqObj "list" #[] e1) :: pZ) σ H { s with heap:=(s.heap.update D (Obj.mapSeq λ_=>(#[] : Array Value))).push (seqObj "tuple" aY.toArray 0) }:=I2.kept (t':=s.toks) λb u e=>LB _ e;have hkn : H ((s.heap.update D (Obj.mapSeq λ_=>(#[] : Array Value))).push (seqObj "tuple" aY.toArray 0)).objs.size = none:=I3.fresh;have I4:=I3.ya (t':=s.toks) (ys:=[]) (aY:=[]) .nil (L1 _);generalize hks : ((s.heap.update D (Obj.mapSeq λ_=>(#[] : Array Value))).push (seqObj "tuple" aY.toArray 0)).objs.size = kS at *;have hDk : ∀ (H1 : Hp), H1 D = none -> H1 kS ≠ none -> kS ≠ D:=λH1 a b z=>b (z ▸ a);unfold ksk_rest;refine Ly (wpAny_rule ?_);rw [List.forIn_toArray];refine Ly (ksk_fold (λi s'=>∃ (Hi : Hp) (Ts : List Addr), Inv X ((D, seqObj "list" #[] e1) :: pZ) σ Hi s' /\ Hi kS = some (.lst (Ts.map V.ref)) /\ Ts.length = i /\ (∀ j T, Ts[j]? = some T -> Hi T = some (.tup [.int (kf j).1, .int (kf j).2])) /\ ng H Hi) aY 0 _ ?_ (λj x s' hx hJ=>?_) λs' hJ=>?_)
  · refine ⟨_, [], I4, aA, rfl, λj T e=>by simp at e, λb o e=>?_⟩;rw [az (bx e hkn)];exact e
  · obtain ⟨Hi, Ts, J, hk, hT, tt, sm⟩:=hJ;rw [Nat.zero_add] at hT;refine Ly (wpAny_attempt (wpAny_mono (Di _ Hi s' j x hx sm J) (λk s'' hk'=>?_) λ_ _ hF=>hF.elim));obtain ⟨v, H2, J2, rk', T, rfl, hTn, rfl⟩:=hk';cases rk';have nT : kS ≠ T:=bx hk hTn;have hk2 : upd Hi T (.tup [.int (kf j).1, .int (kf j).2]) kS = some (.lst (Ts.map V.ref)):=by rw [az nT]; exact hk
    obtain ⟨_, cL, n', r1, r2, hob⟩:=J2.xZ hk2;have hjl : j < aY.length:=(LG.mp hx).1;have hs' : cL.length = j:=by rw [<- r2, LA, hT]
    try dsimp only
    refine Ly (listUpdate_at hob rfl ?_ (by rw [LF, Md]; omega) (LV (Nat.le_of_eq (Array.size_push ..)) (by rw [LF, Md]; omega)));have J3:=J2.Hl (t':=s''.toks) (f:=(·.push (Value.ref T))) (cL:=cL ++ [.ref T]) (ys:=Ts.map V.ref ++ [.ref T]) hk2 hob (by simp) (r1.append (show Vals [V.ref T] [Value.ref T] from .cons rfl .nil)) (by rw [L0, LA, List.length_singleton, Md]; omega);refine LD ⟨rfl, _, Ts ++ [T], J3, by rw [aA]; simp, by simp [hT], λi T' e=>?_, λb o e=>?_⟩
    · by_cases c : i < Ts.length
      · rw [Me c] at e;have g:=tt i T' e;have n1 : T' ≠ kS:=λz=>by rw [z, hk] at g; cases g
        rw [az n1, az (bx g hTn)];exact g
      · rw [List.getElem?_append_right (by omega)] at e
        have hi : i = Ts.length:=by
          by_cases z : i - Ts.length = 0
          · omega
          · rw [MC (by simp; omega)] at e; cases e
        subst hi;simp at e;subst e;rw [az (Ne.symm nT), aA, hT]
    · have g:=sm b o e;have n1 : b ≠ kS:=bx e hkn;rw [az n1, az (bx g hTn)];exact g
  · obtain ⟨Hi, Ts, J, hk, hT, tt, sm⟩:=hJ;rw [Nat.zero_add] at hT;have hTx : Ts.length = xs.length:=by omega
    obtain ⟨_, cL, n', r1, r2, hob⟩:=J.xZ hk;have hks':=sF r1;subst hks';have fpD : gX X pZ Hi D:=⟨(J.pin _ (LS _ Lz)).2.1, fp.2⟩;have hkD : kS ≠ D:=λz=>by rw [z, fpD.1] at hk; cases hk
    have fin : ∀ (p : Array Nat) (s'' : Shared), p = oS (rk kf) xs.length -> Inv X pZ σ (upd (upd Hi kS (.lst [])) D (.lst (p.toList.map λi=>xs.getD i .cB))) s'' -> P (.done (.ret .none)) s'':=λp s'' hp J'=>by
      subst hp;refine h _ s'' J' aA λb o e=>?_;rw [az (bx e fp.1), az (bx e hkn)];exact sm b o e
    have inP : ∀ p : Array Nat, p.Perm (List.toArray (List.range xs.length)) -> ∀ i ∈ p.toList, i < xs.length:=λp hp i hi=>by
      have:=(Array.perm_iff_toList_perm.mp hp).mem_iff.mp hi;simpa using this
    have hkl : (Ts.map Value.ref).length = aY.length:=by simp [hT]
    try dsimp only
    refine Ly (listItems_at hob rfl ?_);unfold ksk_end;try dsimp only
    simp only [Mf, if_false];by_cases h2 : aY.toArray.size < 2
    · rw [Mk h2, Mk h2];refine Ly (LD ?_);rw [StateT.run_pure];refine Ly (LD ?_);try dsimp only
      rw [LF] at h2;have hz : (List.toArray (List.range xs.length)).size = xs.length:=by simp
      refine sO (p:=List.toArray (List.range xs.length)) J fpD hk rv h64 hTx hz ?_ (inP _ (Array.Perm.refl _)) rfl λs'' J'=>fin _ s'' (by unfold oS; rw [Mk (by omega)]) J'
      have hmap:=PySem.W.kat_snds (ks:=Ts.map Value.ref) (vs:=aY) hkl (st:=SortSt.mk' general' ((Ts.map Value.ref).toArray.zip aY.toArray) #[] 7 none) (p:=List.toArray (List.range xs.length)) (by
        have e:=PySem.W.kas_range ((Ts.map Value.ref).toArray.zip aY.toArray);rw [show ((Ts.map Value.ref).toArray.zip aY.toArray).size = xs.length by simp [hT]; omega] at e
        exact e.symm)
      exact hmap
    · rw [Ml h2, Ml h2];rw [LF] at h2
      obtain ⟨fs, kt, hfl, hfi⟩:=yG (h:=s'.heap) Ts λT hT'=>by
        obtain ⟨i, hi, e⟩:=List.getElem_of_mem hT';obtain ⟨o, n, ta, tb, g1, g2, g3⟩:=uv J.dz (tt i T (LG.mpr ⟨hi, e⟩));exact ⟨o, n, _, _, ta, tb, g1, g2, g3⟩
      refine Ly (PySem.W.kat_kind (T:=Value.type "int") kt (by omega) (λv hv=>?_) rfl ?_)
      · obtain ⟨i, t, rfl⟩:=hfi v hv;exact PySem.W.Looks.now
      · obtain ⟨p, ep⟩ : ∃ p, runK (rk kf) (kas_sort xs.length) = p:=⟨_, rfl⟩;have eo : p = oS (rk kf) xs.length:=by unfold oS; rw [Ml (by omega)]; exact ep.symm
        have hp : p.Perm (List.toArray (List.range xs.length)):=eo ▸ lY _ _;have hz : p.size = xs.length:=eo ▸ Aq _ _
        refine Ly (wpAny_mono (PySem.W.kat_run (vs:=aY) (ks:=Ts.map Value.ref) (Q:=λst' s''=>∃ p' : Array Nat, arrOf st' = p'.map (PySem.W.kas_item ((Ts.map Value.ref).toArray.zip aY.toArray)) /\ failedOf st' = none /\ p' = p /\ s'' = s') (G:=λp' s''=>p' = p /\ s'' = s')
          hkl (by omega) (by omega) (λp' st' s'' a1 a2 a3 a4=>⟨p', a2, a3, a4.1, a4.2⟩) ?_) ?_ λ_ _ e=>e)
        · rw [show aY.length = xs.length from hl.symm];refine wp_run (N:=xs.length) (V:=Bd xs.length) (r:=rk kf) (λi j C hi hj hC=>?_) _ (Ea (by omega)) ⟨ep, rfl⟩;have hi' : i < Ts.length:=by omega
          have hj' : j < Ts.length:=by omega
          obtain ⟨oi, ni, ai, bi, g1, g2, g3⟩:=uv J.dz (tt i _ (Lx hi'));obtain ⟨oj, nj, aj, bj, k1, k2, k3⟩:=uv J.dz (tt j _ (Lx hj'));unfold PySem.W.kas_ask;rw [LR, LR, LU, LU, Lx hi', Lx hj'];exact Ho g1 g3 k1 k3 (hb i hi) (hb j hj) hC
        · rintro ⟨⟨⟩, st'⟩ s'' ⟨p', har, hf, rfl, rfl⟩;try dsimp only
          exact sO J fpD hk rv h64 hTx hz (PySem.W.kat_snds hkl har) (inP _ hp) hf λs3 J'=>fin _ s3 eo J'
end
def rW {X : Cx} {pZ : List (Addr × Obj)} {σ : St} {H : Hp} {s : Shared} {f l : Addr} {T : String} {o : Obj} {n0 : Nat} {aY : List Value} {xs : List V} {kf : Nat -> Int × Int} {Q : VK}
    (I : Inv X pZ σ H s) (hT : T = "list" \/ T = "tuple") (ho : s.heap.get? l = some o) (hc : o.cls = .type T) (hd : o.data = .seq aY.toArray n0) (rv : Vals xs aY) (h64 : xs.length < 64)
    (Di : ∀ (nN : List (Addr × Obj)) (H1 : Hp) (s1 : Shared) (i : Nat) (u : Value), aY[i]? = some u -> ng H H1 -> Inv X nN σ H1 s1 -> wpAny (model X.prog X.w) X.A.in1.in1 (call (.ref f) [u]) (EP X nN σ λv H2=>∃ T, v = .ref T /\ H1 T = none /\ H2 = upd H1 T (.tup [.int (kf i).1, .int (kf i).2])) (λ_ _=>False) s1)
    (hb : ∀ i, i < xs.length -> 0 <= (kf i).2 /\ (kf i).2 < 1000000)
    (hq : ∀ (D : Addr) (H' : Hp), H D = none -> H' D = some (.lst ((oS (rk kf) xs.length).toList.map λi=>xs.getD i .cB)) -> ng H H' -> Q (.ref D) H') :
    wpAny (model X.prog X.w) X.A (call (.builtin "sorted") [.ref l] [(Str.ofString "key", .ref f)]) (EP X pZ σ Q) X.xe s:=by
  have hl:=rv.length;refine call_function_entry_kw kind_sorted plain_sorted entry_sorted (ksk_s1 _ _) ?_;unfold Builtin.«sorted»;refine Ly (m:=checkCount "sorted" 1 1 _) (LD ?_);refine Ly (wpAny_collect_seq l hT ho hc hd (λh1 kp=>?_) (by rw [LF, Md]; omega));have I1 : Inv X pZ σ H { s with heap:=h1 }:=I.kept (t':=s.toks) kp;have fr : H h1.objs.size = none:=I1.fresh;have fp : gX X pZ H h1.objs.size:=I1.yf (LH _) fr;refine Ly (wpAny_newList ?_ (by show aY.length <= _; rw [Md]; omega));have I2 : Inv X pZ σ H { s with heap:=h1.push (seqObj "list" aY.toArray 0) }:=I1.kept (t':=s.toks) λb u e=>LB _ e;have hoL : (h1.push (seqObj "list" aY.toArray 0)).get? h1.objs.size = some (seqObj "list" aY.toArray 0):=LO _ rfl;refine Ly (wpAny_holding (wpAny_call_entry_kw slot_list_sort ⟨_, hoL, rfl⟩ entry_list_sort ?body (ksk_l1 _ _)))
  case body=>
    show wpAny (model X.prog X.w) X.A.in1.in1 (Builtin.«list.sort» ⟨[.ref h1.objs.size], [(Str.ofString "key", .ref f)]⟩) _ _ { s with heap:=h1.push (seqObj "list" aY.toArray 0) };refine vp I2 fp hoL rv h64 Di hb λH' s' J e1 sm=>⟨_, rfl, LD ⟨_, rfl, .ref h1.objs.size, H', J, rfl, hq _ H' fr e1 sm⟩⟩
def Gp (e : Addr × Str) (N : List Str) (tE : TE) (Q : VK) (x : V) (H1 : Hp) : Prop:=∃ (l : Addr) (xs : List V) (kf : Nat -> Int × Int), x = .ref l /\ (H1 l = some (.lst xs) \/ H1 l = some (.tup xs)) /\ xs.length < 64 /\ TabAt H1 e /\
  (∀ i x, xs[i]? = some x -> ∀ H2, (∀ b o, b ≠ e.1 -> H1 b = some o -> H2 b = some o) -> tE (start N [x]) H2 λv H3=>∃ T, v = .ref T /\ H2 T = none /\ H3 = upd H2 T (.tup [.int (kf i).1, .int (kf i).2])) /\
  (∀ i, i < xs.length -> 0 <= (kf i).2 /\ (kf i).2 < 1000000) /\
  ∀ (D : Addr) (H' : Hp), H1 D = none -> H' D = some (.lst ((oS (rk kf) xs.length).toList.map λi=>xs.getD i .cB)) -> (∀ b o, b ≠ e.1 -> H1 b = some o -> H' b = some o) -> TabAt H' e -> Q (.ref D) H'
def BF (e : Addr × Str) (N : List Str) (tE ta : TE) : TE:=λσ H Q=>ta σ H (Gp e N tE Q)
def HY (e : Addr × Str) (N : List Str) (tE : TE) (Q : VK) : List V -> Hp -> Prop
  | [x], H1=>Gp e N tE Q x H1
  | _, _=>False
def vN {X : Cx} {k : Nat} {c P : Addr} {params : Arguments} {body e : Expr} {scope : Scope} {lpos kpos pos p : Pos} {N : List Str} {y : Str} {tE ta : TE}
    (hr : fR (k + 3) X.A) (hB : D3 X.base X.mg) (hcode : X.env.code = .ref c) (hC : CodeHd X.base c P) (hcl : closureFor scope X.env = pure []) (hdef : defaultsOf params X.env = ([], [])) (S : aH N [y] scope)
    (hbind : ∀ (s : Shared) (pm : Value) (c : Addr) (ctv u : Value), BindsTo s (kla_fn "<lambda>" (X.env.qual ++ "<lambda>") params body scope [] pm (.ref c) ctv) ⟨[u], []⟩ [(y, u)])
    (lI : ∀ (f c : Addr) (A : Around) (s : Shared) (H : Hp), PE (jd bO X.prog X.w X.K X.mg X.base N (X.env.qual ++ "<lambda>") scope f (.ref c) A X.stack s H E0).mW body tE)
    (hg : Gl X "sorted") (hm : X.mg "sorted" = none) (ha : PE X e ta) (hs : starEach [e] X.env = (false, eval e X.env) :: starEach [] X.env:=by rfl) :
    PE X (.Call (.Name "sorted" p) [e] [⟨some (Str.ofString "key"), .Lambda params body scope lpos, kpos⟩] pos) (BF (P, X.env.qual ++ "<lambda>") N tE ta):=by
  intro pZ s σ H Q I h;refine wpAny_Call_Name_kw (qW I hg hm boot_sorted ?_);have hpa:=fO ha jq hs;refine callWith_kw (eg (hpa pos pZ s σ H (HY (P, X.env.qual ++ "<lambda>") N tE Q) I h) λus s1 hu=>?_) (by rw [hs]; rfl) (by rw [hs]; rfl);obtain ⟨vs, H1, I1, r, q⟩:=hu
  match vs, r, q with
  | [x], r, q=>
  obtain ⟨u, rfl, rx⟩:=vals1 r;obtain ⟨l, xs, kf, rfl, hl, h64, tab, hk, hb, q⟩:=q;cases rx;refine kws_cons (C3 I1 hB hcode hC tab hcl hdef λf c' oc fs tq pm ctv H' s' J hfn at_f at_c hfd hfs tab' kH=>kws_nil ?_);show wpAny (model X.prog X.w) X.A (call (.builtin "sorted") [.ref l] [(Str.ofString "key", .ref f)]) (EP X pZ σ Q) X.xe s'
  have nl : l ≠ P:=λz=>by
    obtain ⟨ps, hP, _⟩:=tab;have hP : H1 P = some (.qc ps):=hP;rw [z, hP] at hl;rcases hl with z | z <;> cases z
  have src : ∃ T o n0 aY, (T = "list" \/ T = "tuple") /\ s'.heap.get? l = some o /\ o.cls = .type T /\ o.data = .seq (List.toArray aY) n0 /\ Vals xs aY:=by
    rcases hl with hl | hl
    · obtain ⟨_, aY, n, rv, ho⟩:=J.dz l _ (kH l _ nl hl);exact ⟨"list", _, n, aY, .inl rfl, ho, rfl, rfl, rv⟩
    · obtain ⟨_, aY, rv, pT⟩:=J.dz l _ (kH l _ nl hl);obtain ⟨o, ho, hc, n, hd⟩:=pT.is;exact ⟨"tuple", o, n, aY, .inr rfl, ho, hc, hd, rv⟩
  obtain ⟨T, o, n0, aY, hT, ho, hc, hd, rv⟩:=src;refine rW J hT ho hc hd rv h64 (λnN H2 s2 i u hu sm J2=>?_) hb λD H3 hD e1 sm=>?_
  · have hi : i < xs.length:=by rw [rv.length]; exact (LG.mp hu).1
    obtain ⟨u', hu', ru⟩:=rv.get (Lx hi);rw [hu] at hu';cases hu'
    exact C4 S hr.in1.in1 rfl J2 (J2.dz f _ (sm _ _ at_f)).1 (J2.dz c' _ (sm _ _ at_c)).1 hfd hfs (hbind s2 pm c' ctv u) rfl (show Vals [xs[i]] [u] from .cons ru .nil) (lI f c' _ s2 H2)
      (hk i _ (Lx hi) H2 λb o nb e=>sm b o (kH b o nb e))
  · refine q D H3 ?_ e1 (λb o nb e=>sm b o (kH b o nb e)) (tab'.keep (λps e=>sm _ _ e) λb ob u e=>sm _ _ e)
    cases e : H1 D with
    | none=>rfl
    | some o=>
      by_cases z : D = P
      · obtain ⟨ps, hP, _⟩:=tab';have hP : H' P = some (.qc ps):=hP;rw [z, hP] at hD;cases hD
      · rw [kH D o z e] at hD;cases hD
variable {φ : iE}
def mv (l : List PV) : List PV:=(oS (rk λi=>Bl (l.getD i .cB)) l.length).toList.map λi=>l.getD i .cB
def qr (y : PV) : M (List PV):=match sP y with
  | some l=>if l.length < 64 /\ ∀ z ∈ l, FU z = true then .ret (mv l) else .fail
  | none=>.fail
def Ac {y : PV} {n : Nat} {R : List PV -> Nat -> Prop} (w : (qr y).wp n R) : ∃ l, sP y = some l /\ l.length < 64 /\ (∀ z ∈ l, FU z = true) /\ R (mv l) n:=by
  unfold qr at w
  cases e : sP y with
  | none=>rw [e] at w; exact w.elim
  | some l=>
    rw [e] at w;dsimp only at w;by_cases c : l.length < 64 /\ ∀ z ∈ l, FU z = true
    · rw [Mk c] at w;exact ⟨l, rfl, c.1, c.2, w⟩
    · rw [Ml c] at w; exact w.elim
def wC {X : Cx} {e : Expr} {tb : Addr × Str} {N : List Str} {me : ak -> M PV} (hin : tb ∈ φ.tabs) (hun : ∀ q ∈ φ.tabs, q.1 = tb.1 -> q = tb) (h : BE X e (BF tb N (FC X.K 2 1) (zZ φ me))) : EF φ X e (λρ=>(me ρ).bind qr):=BE.mono h λσ H Q ⟨G, O, ρ, n, R, s, w, q⟩=>by
  rw [M.wZ] at w;refine ⟨G, O, ρ, n, _, s, w, λy x H1 n1 e1 du r1 w1=>?_⟩;obtain ⟨l, hl, h64, dz, hR⟩:=Ac w1;obtain ⟨p, xs, rfl, hp, rs⟩:=Eg r1 hl;have s1:=s.ext e1 du;have tab:=G.tab H1 n1 du tb hin;have hlen : l.length = xs.length:=rs.1;have pO : O tb.1:=s.pr _ (G.tp tb hin);obtain ⟨ps, hP, _⟩:=id tab;refine ⟨p, xs, λi=>Bl (l.getD i .cB), rfl, hp, by omega, tab, λi x hx H2 k2=>?_, λi hi=>?_, λD H' hD hD' kp tab'=>?_⟩
  · obtain ⟨y, hy, ry⟩:=rs.at' hx;obtain ⟨k, ek, b0, b1⟩:=zh (dz y (List.mem_of_getElem? hy));obtain ⟨l', rfl, g2, g1⟩:=AG ek;obtain ⟨q', ys, rfl, hq', r'⟩:=(ed.full ry : ed G O H1 _ _).lB;obtain ⟨v2, hv2, rv2⟩:=r'.at g2;obtain ⟨v1, hv1, rv1⟩:=r'.at g1;cases rv2;cases rv1
    have ekk : Bl (l.getD i .cB) = k:=by
      rw [LR, hy];show (pN _).getD _ = k;rw [Mu, ek];rfl
    dsimp only;rw [ekk];exact BL (k2 _ _ (λz=>by rw [z, hP] at hq'; cases hq') hq') (DQ hv2) (DQ hv1)
  · have hi' : i < l.length:=by omega
    obtain ⟨k, ek, b0, b1⟩:=zh (dz _ (Mg hi'))
    have ekk : Bl (l.getD i .cB) = k:=by
      rw [LR, Lx hi'];show (pN _).getD _ = k;rw [Mu, ek];rfl
    dsimp only;rw [ekk];exact ⟨b0, b1⟩
  · have kp1 : ∀ b o, ¬ O b -> H1 b = some o -> H' b = some o:=λb o nb eb=>kp b o (λz=>nb (z ▸ pO)) eb
    have ext : Ext G.B H1 H':=λb o nb eb=>by
      by_cases z : b = tb.1
      · obtain ⟨qs, hQ, _⟩:=tab';rw [z, hP] at eb;cases eb;exact ⟨qs, z ▸ hQ⟩
      · exact .of (kp b o z eb)
    have ok' : G.ok H' n1:=G.zY H1 H' n1 du (λq' hq'=>by
      by_cases z : q'.1 = tb.1
      · rw [hun q' hq' z];exact tab'
      · exact (G.tab H1 n1 du q' hq').keep (λqs eq=>kp _ _ z eq) λb ob u eq=>kp b _ (λy=>by rw [y, hP] at eq; cases eq) eq) λb o nb eb=>kp b o (λz=>nb (LM.mpr ⟨tb, hin, z.symm⟩)) eb
    obtain ⟨p', ep⟩ : ∃ p', p' = oS (rk λi=>Bl (l.getD i .cB)) l.length:=⟨_, rfl⟩;have hpm : p'.Perm (List.toArray (List.range l.length)):=ep ▸ lY _ _;rw [<- hlen, <- ep] at hD'
    have kY : ∀ i ∈ p'.toList, i < l.length:=λi hi=>by
      have:=(Array.perm_iff_toList_perm.mp hpm).mem_iff.mp hi;simpa using this
    refine q (mv l) D _ H' n1 (e1.trans ext) ok' (mX e1 du hD) hD' ?_ hR;unfold mv;rw [<- ep]
    have go : bC G.B O H1 (p'.toList.map λi=>l.getD i .cB) (p'.toList.map λi=>xs.getD i .cB):=by
      refine ⟨by simp, λi y x a b=>?_⟩;rw [LU] at a b
      cases c : p'.toList[i]? with
      | none=>rw [c] at a; cases a
      | some j=>
        rw [c] at a b;cases a;cases b;have hj:=kY j (List.mem_of_getElem? c);obtain ⟨x, hx, rx⟩:=rs.at (Lx hj);show Rep G.B O H1 (l.getD j .cB) (xs.getD j .cB);rw [LR, LR, hx, Lx hj];exact rx
    exact go.keep (O':=λq=>O q \/ q = D) (H':=H') λb o nb eb=>⟨kp1 b o nb eb, λz=>by
      rcases z with z | z
      · exact nb z
      · rw [z, hD] at eb; cases eb⟩
end
def BX {m k : ak -> M Fl} {ρ ρ' : ak} {Y : M Fl} (h : m ρ = .ret (.nx ρ')) (h' : k ρ' = Y) : aG m k ρ = Y:=by unfold aG; rw [h]; exact h'
def gn {m k : ak -> M Fl} {ρ ρ' : ak} {d : Nat} {Pr : Fl -> Prop} (h : m ρ = .ret (.nx ρ')) (h' : Gen (k ρ') d Pr) : Gen (aG m k ρ) d Pr:=by unfold aG; rw [h]; exact h'
def Jw {js : List (Option Nat)} {mi : ak -> M (List PV)} {bd : PV -> ak -> M ak} {tt : ak -> M Bool} {te : ak -> M PV} {ρ : ak} {l : List PV} (h : mi ρ = .ret l) (hl : l.length <= 100000) : cC js mi bd tt te ρ = qk bd tt te l (f7 js ρ):=by
  unfold cC;rw [h, rZ, Mk hl]
def KP (l : List PV) : eV [.tup l] = .ret (.int l.length):=rfl
def Lr (i j : Int) : mH (.int i) (.int j) = .ret (.bl (decide (i > j))):=rfl
def wJ {m : ak -> M PV} {ρ : ak} : aa m (λ_=>M.ret []) ρ = (m ρ).bind λy=>.ret [y]:=rfl
def sS {js : List (Option Nat)} {mi : ak -> M (List PV)} {bd : PV -> ak -> M ak} {tt : ak -> M Bool} {te : ak -> M PV} {ρ : ak} {l : List PV} (ρ' : ak) (h : mi ρ = .ret l) (hl : l.length <= 100000) (hc : f7 js ρ = ρ') : cC js mi bd tt te ρ = qk bd tt te l ρ':=by rw [Jw h hl, hc]
def f9 {α : Type} {f : ak -> M PV} {F : List PV -> M α} {ρ : ak} {y : PV} (h : f ρ = .ret y) : ((aa f (λ_=>M.ret [])) ρ).bind F = F [y]:=by rw [wJ, h]; rfl
def mG {m : ak -> M (List PV)} {ρ : ak} {l : List PV} (h : m ρ = .ret l) : a8 m ρ = .ret (.lst l):=by unfold a8; rw [h]; rfl
section
variable {φ : iE}
noncomputable def jH (z c : Str) : List Nat:=Builtin.Str.occurrences z c 0 z.length (z.length + 1)
def ir (z c : Str) : List Str:=if (decide (z.length < c.length) || decide (Builtin.Str.strKind z < Builtin.Str.strKind c)) = true \/ (jH z c).isEmpty = true then [z] else Builtin.Str.partsBetween z (jH z c) c.length
theorem sG : ∀ (ys : List Str) (k : Nat), Vals (ys.map V.str) (PySem.strsFrom k ys)
  | [], k=>.nil
  | y :: ys, k=>.cons ⟨_, rfl⟩ (sG ys (k + 1))
section
variable {X : Cx}
def Cg : V -> List V -> Hp -> VK -> Prop:=λx xs H Q=>∃ (z c : Str), x = .str z /\ xs = [.str c] /\ c.length ≠ 0 /\ z.length <= 100000 /\ (ir z c).length <= 100000 /\ ∀ p, H p = none -> Q (.ref p) (upd H p (.lst ((ir z c).map V.str)))
def nY : Ig X "str.split" Cg:=by
  intro pZ s σ H x xs v us Q I rx rv h;obtain ⟨z, c, rfl, rfl, hc, hz, hp, q⟩:=h;obtain ⟨t, rfl⟩:=rx;obtain ⟨u, rfl, t', rfl⟩:=vals1 rv;have hb : (c.length == 0) = false:=by simpa using hc
  have hzl : z.length <= sizeLine:=LV hz iC;by_cases c1 : (decide (z.length < c.length) || decide (Builtin.Str.strKind z < Builtin.Str.strKind c)) = true
  · have es : ir z c = [z]:=Mk (.inl c1);rw [es] at q;refine PySem.call_meets F.slot_str_split (typeIs_str s z t) F.entry_str_split (F.args_str_split_2 _ _) (PySem.meets_str_split_cannot_occur z c t t' c1) ?_;exact ⟨.ref s.heap.objs.size, _, I.ya (t':=s.toks) (ys:=[.str z]) (aY:=[.str z t]) (.cons ⟨t, rfl⟩ .nil) (by show 1 <= sizeLine; rw [Md]; omega), rfl, q _ I.fresh⟩
  · have c1' : (decide (z.length < c.length) || decide (Builtin.Str.strKind z < Builtin.Str.strKind c)) = false:=by simpa using c1
    by_cases c2 : (jH z c).isEmpty = true
    · have es : ir z c = [z]:=Mk (.inr c2);rw [es] at q;refine PySem.call_meets F.slot_str_split (typeIs_str s z t) F.entry_str_split (F.args_str_split_2 _ _) (PySem.meets_str_split_not_found z c t t' c1' hb c2) ?_;exact ⟨.ref s.heap.objs.size, _, I.ya (t':=s.toks) (ys:=[.str z]) (aY:=[.str z t]) (.cons ⟨t, rfl⟩ .nil) (by show 1 <= sizeLine; rw [Md]; omega), rfl, q _ I.fresh⟩
    · have es : ir z c = Builtin.Str.partsBetween z (jH z c) c.length:=Ml (by rintro (h | h); exact c1 h; exact c2 h);rw [es] at q hp;refine PySem.call_meets F.slot_str_split (typeIs_str s z t) F.entry_str_split (F.args_str_split_2 _ _) (PySem.meets_str_split_sep z c t t' c1' hb (by simpa [jH] using c2) hzl (LV hp iC)) ?_;exact ⟨.ref s.heap.objs.size, _, I.ya (ys:=(Builtin.Str.partsBetween z (jH z c) c.length).map V.str) (sG _ _) (by rw [LA]; exact LV hp iC), rfl, q _ I.fresh⟩
def yS : V -> List V -> Hp -> VK -> Prop:=λx xs H Q=>∃ (z c : Str), x = .str z /\ xs = [.str c] /\ Q (.bl (decide (0 + c.length <= z.length) && Builtin.Str.subAt z c 0)) H
def Ay : Ig X "str.startswith" yS:=by
  intro pZ s σ H x xs v us Q I rx rv h;obtain ⟨z, c, rfl, rfl, q⟩:=h;obtain ⟨t, rfl⟩:=rx;obtain ⟨u, rfl, t', rfl⟩:=vals1 rv;exact PySem.call_gives F.slot_str_startswith (typeIs_str s z t) F.entry_str_startswith (F.args_str_startswith_2 _ _) (PySem.gives_str_startswith z c t t') ⟨.bl _, H, I, rfl, q⟩
def FL : List V -> Hp -> VK -> Prop:=λxs H Q=>∃ (z : Str) (n : Int), xs = [.str z] /\ intText? z = some n /\ z.length <= 640 /\ Q (.int n) H
def tH : iF X (.type "int") FL:=by
  intro pZ s σ H xs us Q I r h;obtain ⟨z, n, rfl, e, hz, q⟩:=h;obtain ⟨u, rfl, t, rfl⟩:=vals1 r;exact PySem.W.KIN.call_text e hz ⟨.int n, H, I.tok _, ⟨_, rfl⟩, q⟩
def FG : List V -> Hp -> VK -> Prop:=λxs H Q=>(∃ i : Int, xs = [.int i] /\ i.natAbs.log2 < 1920 /\ Q (.str (Str.ofString (toString i))) H) \/ ∃ z : Str, xs = [.str z] /\ Q (.str z) H
def kK : iF X (.type "str") FG:=by
  intro pZ s σ H xs us Q I r h;rcases h with ⟨i, rfl, hb, q⟩ | ⟨z, rfl, q⟩
  · obtain ⟨u, rfl, t, rfl⟩:=vals1 r;exact P.str_of_int hb ⟨.str (Str.ofString (toString i)), H, I.tok _, ⟨_, rfl⟩, q⟩
  · obtain ⟨u, rfl, t, rfl⟩:=vals1 r;exact P.str_of_str ⟨.str z, H, I, ⟨_, rfl⟩, q⟩
end
def kP : List PV -> M PV
  | [.int i]=>if i.natAbs < 10 ^ 61 then .ret (.str (Str.ofString (toString i))) else .fail
  | [.str z]=>.ret (.str z)
  | _=>.fail
def Ju {n : Nat} (h : n < 10 ^ 61) : n.log2 < 1920:=by
  by_cases z : n = 0
  · rw [z]; decide
  · exact (Nat.log2_lt z).mpr (LX h (by decide +kernel))
def ou : p4 FG kP:=λφ G O H n R Q l xs pr dm ok r w q=>by
  match l, r, w with
  | [.int i], r, w=>
    obtain ⟨x, ex, r1⟩:=r.one; subst ex; clear r; have r:=r1; clear r1
    simp only [kP] at w;by_cases c : i.natAbs < 10 ^ 61
    · rw [Mk c] at w;rw [r.fD];exact .inl ⟨i, rfl, Ju c, q.sc ok (.str _) w⟩
    · rw [Ml c] at w; exact w.elim
  | [.str z], r, w=>
    obtain ⟨x, ex, r1⟩:=r.one; subst ex; clear r; have r:=r1; clear r1
    rw [r.gz];exact .inr ⟨z, rfl, q.sc ok (.str _) w⟩
def AN : List PV -> M PV
  | [.str z]=>if z.length <= 640 then (M.dW (intText? z)).bind λn=>.ret (.int n) else .fail
  | _=>.fail
def zJ : p4 FL AN:=λφ G O H n R Q l xs pr dm ok r w q=>by
  match l, r, w with
  | [.str z], r, w=>
    obtain ⟨x, ex, r1⟩:=r.one; subst ex; clear r; have r:=r1; clear r1
    simp only [AN] at w;by_cases c : z.length <= 640
    · rw [Mk c] at w
      cases e : intText? z with
      | none=>rw [e] at w; exact w.elim
      | some i=>
        rw [e] at w;rw [r.gz];exact ⟨z, i, rfl, e, c, q.sc ok (.int _) w⟩
    · rw [Ml c] at w; exact w.elim
def lW : PV -> List PV -> M PV
  | .str z, [.str c]=>.ret (.bl (decide (0 + c.length <= z.length) && Builtin.Str.subAt z c 0))
  | _, _=>.fail
def Ax {K : Frag} : Ko K "str" yS lW:=λφ G O H0 H n R Q y x l xs pr dm ok r1 r2 w q=>by
  match y, l, r1, r2, w with
  | .str z, [.str c], r1, r2, w=>
    rw [r1.gz];obtain ⟨x2, ex, r3⟩:=r2.one;subst ex;rw [r3.gz];exact ⟨z, c, rfl, rfl, q.sc ok (.bl _) w⟩
def BZ : PV -> List PV -> M (List PV)
  | .str z, [.str c]=>if c.length ≠ 0 /\ z.length <= 100000 /\ (ir z c).length <= 100000 then .ret ((ir z c).map PV.str) else .fail
  | _, _=>.fail
section
variable {X : Cx} {e : Expr}
def B0 (mo : ak -> M PV) (ml : ak -> M (List PV)) : ak -> M (List PV):=λρ=>(mo ρ).bind λy=>if tyP y = "str" then (ml ρ).bind λl=>BZ y l else .fail
def oo {mo : ak -> M PV} {ml : ak -> M (List PV)} (h : BE X e (Iz X.K "str" Cg (zZ φ mo) (Ip φ ml))) : EF φ X e (B0 mo ml):=BE.mono h λσ H Q ⟨G, O, ρ, n, R, s, w, q⟩=>by
  unfold B0 at w;rw [M.wZ] at w;refine ⟨G, O, ρ, n, _, s, w, λy x H1 n1 e1 du r1 w1=>?_⟩;by_cases hc : tyP y = "str"
  · rw [Mk hc] at w1;obtain ⟨z, rfl⟩ : ∃ z, y = PV.str z:=by cases y <;> first | exact ⟨_, rfl⟩ | (exact absurd hc (by simp [tyP]))
    rw [r1.gz];refine ⟨rfl, ?_⟩;rw [M.wZ] at w1;refine ⟨G, O, ρ, n1, _, s.ext e1 du, w1, λl xs H2 n2 e2 oY r2 w2=>?_⟩
    match l, r2, w2 with
    | [.str c], r2, w2=>
      obtain ⟨x2, ex, r3⟩:=r2.one;subst ex;rw [r3.gz];have w3 : (if c.length ≠ 0 /\ z.length <= 100000 /\ (ir z c).length <= 100000 then M.ret ((ir z c).map PV.str) else .fail).wp n2 R:=w2;by_cases d : c.length ≠ 0 /\ z.length <= 100000 /\ (ir z c).length <= 100000
      · rw [Mk d] at w3;have q' : zT G O H2 R Q:=λl p xs H' n' e o hp a b h=>q l p xs H' n' (e1.trans (e2.trans e)) o (mX (e1.trans e2) oY hp) a b h;exact ⟨z, c, rfl, rfl, d.1, d.2.1, d.2.2, λp hp=>q'.mk oY hp s.B (Ak _) w3⟩
      · rw [Ml d] at w3; exact w3.elim
  · rw [Ml hc] at w1; exact w1.elim
end
end
noncomputable def Hs : Key -> PyData
  | .inl i=>.int i
  | .inr x=>.str x
def AE : List (Key × PV) -> Option (List (PyData × PyData))
  | []=>some []
  | (k, .int i) :: l=>(AE l).map ((Hs k, .int i) :: ·)
  | _=>none
mutual
def sJ : PV -> Option PyData
  | .cB=>some .none
  | .bl b=>some (.bool b)
  | .int i=>some (.int i)
  | .str x=>some (.str x)
  | .tup l=>(rS l).map .tuple
  | .lst l=>(rS l).map .list
  | .pR l=>(AE l).map .dict
  | _=>none
def rS : List PV -> Option (List PyData)
  | []=>some []
  | y :: l=>(sJ y).bind λd=>(rS l).map (d :: ·)
end
mutual
def nX : PV -> Bool
  | .lst _=>false
  | .tup l=>qP l
  | _=>true
def qP : List PV -> Bool
  | []=>true
  | y :: l=>nX y && qP l
end
def AF {P : Program} {w : World} {h : Heap} (k : Key) (u : Value) (e : (fP P w).is k u = true) : Reads h u (Hs k) []:=by
  cases k with
  | inl i=>
    cases u with
    | int j t=>
      have : i = j:=(fP P w).inj _ _ _ e (wc P w j t) |> Sum.inl.inj;subst this
      exact .int i t
    | _=>cases e
  | inr x=>
    cases u with
    | str y t=>
      have : x = y:=(fP P w).inj _ _ _ e (wb P w y t) |> Sum.inr.inj;subst this
      exact .str x t
    | _=>cases e
theorem mR {h : Heap} : ∀ (l : List PV) (xs : List V) (aY : List Value) (ds : List PyData), l.length = xs.length -> (∀ (i : Nat) (y : PV) (x : V), l[i]? = some y -> xs[i]? = some x -> ∀ v d, RelV x v -> sJ y = some d -> ∃ as, Reads h v d as /\ (nX y = true -> sysModules ∉ as)) -> Vals xs aY -> rS l = some ds -> ∃ as, ReadsAll h aY ds as /\ (qP l = true -> sysModules ∉ as)
  | [], [], _, ds, _, _, .nil, e=>by
    simp only [rS] at e;cases e
    exact ⟨_, .nil, λ_ z=>by cases z⟩
  | y :: l, x :: xs, _, ds, hl, ih, .cons r rs, e=>by
    simp only [rS] at e
    cases e1 : sJ y with
    | none=>rw [e1] at e; cases e
    | some d=>
      rw [e1] at e
      cases e2 : rS l with
      | none=>rw [e2] at e; cases e
      | some dl=>
        rw [e2] at e;cases e;obtain ⟨as, r1, n1⟩:=ih 0 y x rfl rfl _ d r e1;obtain ⟨bs, r2, n2⟩:=mR l xs _ dl (by simpa using hl) (λi y' x' hy hx=>ih (i + 1) y' x' hy hx) rs e2;refine ⟨_, .cons r1 r2, λz=>?_⟩;simp only [qP, Mb] at z;intro q;rcases Mj.mp q with q | q
        · exact n1 z.1 q
        · exact n2 z.2 q
  | [], _ :: _, _, _, hl, _, _, _=>by cases hl
  | _ :: _, [], _, _, hl, _, _, _=>by cases hl
theorem sT {B : Addr} {O : Addr -> Prop} {H : Hp} {h : Heap} : ∀ (l : List (Key × PV)) (ks : List (Key × V)) (vs : List (Key × Value)) (D : List (PyData × PyData)), l.map (·.1) = ks.map (·.1) -> (∀ (i : Nat) (y : Key × PV) (x : Key × V), l[i]? = some y -> ks[i]? = some x -> Rep B O H y.2 x.2) -> KV ks vs -> AE l = some D -> PyProof.V.PairsRead h Hs vs D []
  | [], [], _, D, _, _, .nil, e=>by
    cases e
    exact .nil
  | [], _ :: _, _, _, hk, _, _, _=>by cases hk
  | _ :: _, [], _, _, hk, _, _, _=>by cases hk
  | (k, y) :: l, (k', x) :: ks, _, D, hk, hr, .cons r rs, e=>by
    rename_i q qs;rw [LJ, LJ, List.cons.injEq] at hk
    cases y with
    | int i=>
      simp only [AE] at e
      cases e2 : AE l with
      | none=>rw [e2] at e; cases e
      | some D'=>
        rw [e2] at e;cases e;have r0:=hr 0 (k, .int i) (k', x) rfl rfl;have ih:=sT (h:=h) l ks _ D' hk.2 (λj y' x' hy hx=>hr (j + 1) y' x' hy hx) rs e2;obtain ⟨q1, q2⟩:=q;have e1 : k' = q1:=r.1;have e3 : RelV x q2:=r.2;have hkk : k = k':=hk.1;cases r0;obtain ⟨t, rfl⟩:=e3;rw [hkk, e1]
        exact .cons (as:=[]) (.int i t) ih
    | _=>simp only [AE] at e; cases e
def Al {P : Program} {w : World} {B : Addr} {O : Addr -> Prop} {H : Hp} {h : Heap} (ok : lO P w H h) {y : PV} {x : V} (r : Rep B O H y x) : ∀ v d, RelV x v -> sJ y = some d -> ∃ as, Reads h v d as /\ (nX y = true -> sysModules ∉ as):=by
  induction r with
  | cB=>
    intro v d rv e;simp only [sJ] at e;cases e;cases rv
    exact ⟨_, .none, λ_ z=>by cases z⟩
  | bl b=>
    intro v d rv e;simp only [sJ] at e;cases e;cases rv
    exact ⟨_, .bool b, λ_ z=>by cases z⟩
  | int i=>
    intro v d rv e;simp only [sJ] at e;cases e;obtain ⟨t, rfl⟩:=rv
    exact ⟨_, .int i t, λ_ z=>by cases z⟩
  | str z=>
    intro v d rv e;simp only [sJ] at e;cases e;obtain ⟨t, rfl⟩:=rv
    exact ⟨_, .str z t, λ_ z=>by cases z⟩
  | tup hO hp hl hr ih=>
    intro v d rv e;simp only [sJ] at e;obtain ⟨ds, e1, rfl⟩:=LY.mp e;cases rv;obtain ⟨_, aY, rs, pT⟩:=ok _ _ hp;obtain ⟨o, ho, hc, n, hd⟩:=pT.is;obtain ⟨as, ra, na⟩:=mR _ _ aY ds hl ih rs e1
    exact ⟨_, .tuple ho hc hd (by simpa using ra), λz=>na (by simpa only [nX] using z)⟩
  | lst hO hp hl hr ih=>
    intro v d rv e;simp only [sJ] at e;obtain ⟨ds, e1, rfl⟩:=LY.mp e;cases rv;obtain ⟨_, aY, n, rs, ho⟩:=ok _ _ hp;obtain ⟨as, ra, na⟩:=mR _ _ aY ds hl ih rs e1
    exact ⟨_, .list ho rfl rfl (by simpa using ra), λz=>by simp only [nX] at z; cases z⟩
  | pR hO hp hk hr ih=>
    intro v d rv e;simp only [sJ] at e;obtain ⟨D, e1, rfl⟩:=LY.mp e;cases rv;obtain ⟨_, ns, vs, kv, o, es, ep, ho, ex, hd, _, pr, _⟩:=Gj ok hp;have pp:=sT (h:=h) _ _ _ _ hk hr kv e1;obtain ⟨r1, r2⟩:=PyProof.V.readsAll_of_pairs (knd:=fP P w) (λk u e=>AF k u e) pr pp;refine ⟨_, .dict ho ex.1 hd r1 r2, λ_ z=>?_⟩;simp only [MD, LK, LL, or_false] at z;rw [<- z] at ns
    simp at ns
  | vw hO hp=>
    intro v d rv e;simp only [sJ] at e
    cases e
  | bH=>
    intro v d rv e;simp only [sJ] at e;cases e
def mP (d : PyData) : Prop:=d.showable = true /\ d.shown.length <= 1000000 /\ d.depth <= 40
instance (d : PyData) : Decidable (mP d):=by unfold mP; infer_instance
def Ci : List V -> Hp -> VK -> Prop:=λxs H Q=>∃ (B : Addr) (O : Addr -> Prop) (y : PV) (x : V) (d : PyData), xs = [x] /\ Rep B O H y x /\ sJ y = some d /\ mP d /\ (d.hasDict = false \/ nX y = true) /\ Q (.str d.shown) H
def rK {X : Cx} (hg : X.A.guards = some []) (hu : X.A.units + 64 < cLine) : iF X (.builtin "repr") Ci:=by
  intro pZ s σ H xs us Q I r h;obtain ⟨B, O, y, x, d, rfl, rp, hd, ⟨h1, h3, h4⟩, hm, q⟩:=h;obtain ⟨u, rfl, rx⟩:=vals1 r;obtain ⟨as, rd, nm⟩:=Al I.dz rp u d rx hd;have hz : d.shown.length <= sizeLine:=by rw [Md]; omega
  have hsm : d.hasDict = true -> sysModules ∉ as:=λz=>by
    rcases hm with m | m
    · rw [m] at z; cases z
    · exact nm m
  have ref : ∀ a, u = .ref a -> wpAny (model X.prog X.w) X.A (call (.builtin "repr") [u]) (EP X pZ σ Q) X.xe s:=λa e=>by
    subst e;exact repr_of_reads' rd h1 hsm hg (by omega) (λ_ _ e=>e) (λh' u tk k=>⟨.str _, H, I.kept k, ⟨_, rfl⟩, q⟩) hz
  cases rd with
  | none=>exact PySem.P.repr_of_none ⟨.str _, H, I.tok _, ⟨_, rfl⟩, by simpa only [PyData.shown] using q⟩
  | bool b=>exact PySem.P.repr_of_bool ⟨.str _, H, I.tok _, ⟨_, rfl⟩, by simpa only [PyData.shown] using q⟩
  | int i t=>exact PySem.P.repr_of_int (by simpa only [PyData.showable, MA] using h1) ⟨.str _, H, I.tok _, ⟨_, rfl⟩, by simpa only [PyData.shown] using q⟩
  | str z t=>exact PySem.P.repr_of_str ⟨.str _, H, I.tok _, ⟨_, rfl⟩, by simpa only [PyData.shown] using q⟩ (by simpa only [PyData.shown] using hz)
  | list a b c e=>exact ref _ rfl
  | tuple a b c e=>exact ref _ rfl
  | dict a b c e f=>exact ref _ rfl
def pG : List PV -> M PV
  | [y]=>(M.dW (sJ y)).bind λd=>if mP d /\ (d.hasDict = false \/ nX y = true) then .ret (.str d.shown) else .fail
  | _=>.fail
def wG : p4 Ci pG:=λφ G O H n R Q l xs pr dm ok r w q=>by
  match l, r, w with
  | [y], r, w=>
    obtain ⟨x, rfl, r1⟩:=r.one;unfold pG at w;dsimp only at w
    cases e : sJ y with
    | none=>rw [e] at w; exact w.elim
    | some d=>
      rw [e] at w;have w' : (if mP d /\ (d.hasDict = false \/ nX y = true) then M.ret (PV.str d.shown) else .fail).wp n R:=w;by_cases hs : mP d /\ (d.hasDict = false \/ nX y = true)
      · rw [Mk hs] at w'
        cases r1 with
        | full h=>exact ⟨G.B, O, y, x, d, rfl, h, e, hs.1, hs.2, q.sc ok (.str _) w'⟩
        | top np h rr=>exact ⟨G.B, λp=>False, _, _, d, rfl, .lst (λz=>z) h rr.1 λi y x hy hx=>(rr.2 i y x hy hx).less λp z=>z.elim, e, hs.1, hs.2, q.sc ok (.str _) w'⟩
        | xm np h rr=>exact ⟨G.B, λp=>False, _, _, d, rfl, .pR (λz=>z) (.inl h) rr.1 λi y x hy hx=>(rr.2 i y x hy hx).less λp z=>z.elim, e, hs.1, hs.2, q.sc ok (.str _) w'⟩
      · rw [Ml hs] at w'; exact w'.elim
def Bc (c dp : Nat) (b : Bool) (y : PV) : Prop:=∃ d : PyData, sJ y = some d /\ d.showable = true /\ (b = true -> nX y = true) /\ (b = false -> d.hasDict = false) /\ d.shown.length <= c /\ d.depth <= dp
def Bc.mono {c c' dp dp' : Nat} {b : Bool} {y : PV} (h : Bc c dp b y) (hc : c <= c') (hd : dp <= dp') : Bc c' dp' b y:=by
  obtain ⟨d, h1, h2, h3, h3', h4, h5⟩:=h;exact ⟨d, h1, h2, h3, h3', by omega, by omega⟩
def Ee {i : Int} (h : i.natAbs < 10 ^ 61) (b : Bool) : Bc 62 0 b (.int i):=by
  obtain ⟨d, h1, h2, h3, h4, h5⟩:=Ec h;simp only [toD] at h1;cases h1;exact ⟨.int i, by simp only [sJ], h2, λ_=>by simp only [nX], λ_=>h3, h4, h5⟩
def Ed {x : Str} {k : Nat} (h : x.length <= k) (hc : ∀ c ∈ x.cps.toList, c < 16 ^ 8) (b : Bool) : Bc (10 * k + 2) 0 b (.str x):=by
  obtain ⟨d, h1, h2, h3, h4, h5⟩:=Eb h hc;simp only [toD] at h1;cases h1;exact ⟨.str x, by simp only [sJ], h2, λ_=>by simp only [nX], λ_=>h3, h4, h5⟩
theorem ID {c dp : Nat} {b : Bool} : ∀ (l : List PV), (∀ z ∈ l, Bc c dp b z) -> ∃ ds, rS l = some ds /\ ds.length = l.length /\ PyData.showableAll ds = true /\ (b = true -> qP l = true) /\ (b = false -> PyData.hasDictAll ds = false) /\ (∀ t ∈ PyData.shownAll ds, t.length <= c) /\ (PyData.shownAll ds).length = l.length /\ PyData.depthAll ds <= dp
  | [], _=>⟨[], by simp only [rS], rfl, by simp only [PyData.showableAll], λ_=>by simp only [qP], λ_=>by simp only [PyData.hasDictAll], (by simp only [PyData.shownAll]; exact λt h=>absurd h LL), (by simp only [PyData.shownAll, List.length_nil]), (by simp only [PyData.depthAll]; omega)⟩
  | y :: l, h=>by
    obtain ⟨d, h1, h2, h3, h3', h4, h5⟩:=h y Lz;obtain ⟨ds, g1, g2, g3, g4, g4', g5, g6, g7⟩:=ID l λz hz=>h z (LC _ hz);refine ⟨d :: ds, by simp only [rS, h1, g1, Option.bind_some, Option.map_some], by simp [g2], by simp only [PyData.showableAll, h2, g3, Bool.and_self], λz=>by simp only [qP, h3 z, g4 z, Bool.and_self], λz=>by simp only [PyData.hasDictAll, h3' z, g4' z, Bool.or_self], ?_, by simp only [PyData.shownAll, LN, g6], by simp only [PyData.depthAll]; omega⟩;simp only [PyData.shownAll];intro t ht;rcases LK.mp ht with rfl | ht
    · exact h4
    · exact g5 t ht
def qe {c dp n : Nat} {b : Bool} {l : List PV} (h : ∀ z ∈ l, Bc c dp b z) (hl : l.length <= n) : Bc (n * (c + 2) + 3) (dp + 1) b (.tup l):=by
  obtain ⟨ds, g1, g2, g3, g4, g4', g5, g6, g7⟩:=ID l h;refine ⟨.tuple ds, by simp only [sJ, g1, Option.map_some], by simp only [PyData.showable, g3], λz=>by simp only [nX]; exact g4 z, λz=>by simp only [PyData.hasDict, g4' z], ?_, by simp only [PyData.depth]; omega⟩;simp only [PyData.shown];have hj:=join_le _ g5;rw [g6] at hj;have hm : l.length * (c + 2) <= n * (c + 2):=Nat.mul_le_mul_right _ hl;unfold tupleText;rw [strLen_append, strLen_append];have e1 : (("(" : String) : Str).length = 1:=rfl
  have e2 : ((if (PyData.shownAll ds).length == 1 then ",)" else ")" : String) : Str).length <= 2:=by
    by_cases z : ((PyData.shownAll ds).length == 1) = true
    · rw [Mk z]; decide
    · rw [Ml z]; decide
  omega
def Ce {c dp : Nat} {b : Bool} {y : PV} (h : Bc c dp b y) (hc : c <= 1000000) (hd : dp <= 40) : ∃ t : Str, pG [y] = .ret (.str t):=by
  obtain ⟨d, h1, h2, h3, h3', h4, h5⟩:=h;refine ⟨d.shown, ?_⟩;unfold pG;dsimp only;rw [h1];show (if mP d /\ (d.hasDict = false \/ nX y = true) then M.ret (PV.str d.shown) else .fail) = _
  rw [Mk ⟨⟨h2, by omega, by omega⟩, by
    cases b with
    | true=>exact .inr (h3 rfl)
    | false=>exact .inl (h3' rfl)⟩]
def AD {c0 tb0 : Addr} {tabs : List (Addr × Str)} {P : Program} {w : World} {K : Frag} {mg : Str -> Option Value} {base : Heap} {x qual : Str} {st s0 s1 : Stmt} {f : Addr} {fd : FuncData} {N : List Str} {k b : Nat} {bd : PV -> ak -> M ak} {mb m' : ak -> M Fl} {rest : List Stmt} {sc : Scope} {lo hi : Int} (F : yF K x qual st f fd c0 tb0) (S : aH N ["_law_script"] (ag st)) (eb : ar st = s0 :: s1 :: rest) (es : ag st = sc)
    (h0 : ∀ (A : Around) (outer : List Env) (s : Shared) (H : Hp) (E : XK), fR k (A.deeper (envOfC qual sc s.heap.objs.size f (.ref c0))) -> BS (jd bO P w K mg base N qual sc f (.ref c0) A outer s H E).mW s0 (nG (yI (B2 K) [] E0 (fU (p6 0) mM)) (jc b)))
    (h1' : ∀ (A : Around) (outer : List Env) (s : Shared) (H : Hp) (E : XK), fR k (A.deeper (envOfC qual sc s.heap.objs.size f (.ref c0))) -> BS (jd bO P w K mg base N qual sc f (.ref c0) A outer s H E).mW s1 (BP (JE K lo hi) (Kd (rB K tabs) bd) (yH (rB K tabs) mb)))
    (hb : ∀ (A : Around) (outer : List Env) (s : Shared) (H : Hp) (E : XK), fR k (A.deeper (envOfC qual sc s.heap.objs.size f (.ref c0))) -> DZ (rB K tabs) (jd bO P w K mg base N qual sc f (.ref c0) A outer s H E).mW rest m')
    (hlo : 0 <= lo /\ lo <= 1000000) (hhi : 0 <= hi /\ hi <= 1000000)
    (hm : ∀ c : Nat, lo <= c -> (c : Int) <= max lo hi -> (aG (jG bd mb (eB 0 c)) m' ((List.replicate N.length un).set b (.val .bH))).wp 1000000 λf _=>f = .rt (.bl true)) (h1 : 0 < N.length) (hb1 : b < N.length) (hb0 : b ≠ 0) :
    aI P w K mg base bO (k + 1) f fd ["_law_script"] (oJ K (tabs.map (·.1))):=by
  subst es;refine F.ok S (λvs H Q E h=>by obtain ⟨a, ns, rfl, _⟩:=h; rfl) (λA outer s H vs Q E hr h=>?_);rw [eb];refine ⟨_, cA (h0 A outer s H E hr).out (cA (h1' A outer s H E hr).out (hb A outer s H E hr).out), ?_⟩;obtain ⟨a, ns, rfl, hS, h63, ht, q⟩:=h;refine ⟨.ref a, ?_, a, ns, rfl, hS, h63, λb' c H' sm bH=>?_⟩
  · exact jK (N:=N) rfl
  · have hl : (start N [V.ref a]).length = N.length:=by
      unfold start;simp only [L0, LA, List.length_replicate, LN, List.length_nil];omega
    have okT : (sM K tabs b' c).ok H' 1000000:=⟨⟨0, by omega, bH⟩, λe he=>⟨#[], sm _ _ (ht _ (L5 he)), trivial, λpos cv z=>nomatch z⟩⟩
    have no : ∀ i p, ¬ kc ((List.replicate N.length un).set b (.val .bH)) ((start N [V.ref a]).set b (some (V.ref b'))) i p:=λi p hh=>by
      obtain ⟨t, g1, g2, _⟩:=hh;by_cases e : b = i
      · subst e;rw [Mm (by simpa using hb1)] at g1;cases g1; cases g2
      · rw [L7 e, MB] at g1;split at g1
        · cases g1; cases g2
        · cases g1
    have hs : SI (sM K tabs b' c) (sM K tabs b' c).fL H' (sM K tabs b' c).fL H' ((start N [V.ref a]).set b (some (V.ref b'))) ((List.replicate N.length un).set b (.val .bH)) 1000000:=by
      refine ⟨⟨⟨by simp [hl], λi e he=>?_⟩, okT, λp z=>z, λp z=>(sM K tabs b' c).DX H' 1000000 p okT z⟩, λp z=>z, λp z=>z, Ext.refl _ _, λp z=>.inl z, λp z=>(sM K tabs b' c).DX H' 1000000 p okT z, λi p hh=>(no i p hh).elim, λi j p hh=>(no i p hh).elim⟩;by_cases e1 : b = i
      · subst e1;rw [Mm (by simpa using hb1)] at he;cases he;rw [Mm (by omega)];exact ⟨_, rfl, .bH⟩
      · rw [L7 e1, MB] at he;split at he
        · cases he; trivial
        · cases he
    have hj : lo <= sk lo hi ns.length /\ sk lo hi ns.length <= max lo hi:=by
      unfold sk;dsimp only;split <;> split <;> omega
    have hw:=hm (sk lo hi ns.length).toNat (by omega) (by omega);unfold aG at hw;rw [M.wZ] at hw;refine Hy (K:=K) (J:=Ii 0 (sk lo hi ns.length).toNat) (l:=eB 0 (sk lo hi ns.length).toNat) (λQ' hq=>E6 (p:=a) (ns:=ns) ?_ (sm.seq hS) (by omega) hq) (.vF 0 _) hs (M.wp_mono hw λf n' hf=>?_)
    · rw [L7 hb0];exact jK (N:=N) rfl
    · cases f with
      | nx ρ'=>exact λO' σ' H2 s'=>⟨_, _, _, O', ρ', n', s', M.wp_mono hf λf n3 hf=>by
          subst hf;intro x' H2 _ _ r2;cases r2
          exact q H2⟩
      | rt y=>
        replace hf : Fl.rt y = Fl.rt (.bl true):=hf;cases hf;intro x' H2 _ _ r2;cases r2
        exact q H2
      | bk ρ'=>replace hf : Fl.bk ρ' = Fl.rt (.bl true):=hf; cases hf
      | ct ρ'=>replace hf : Fl.ct ρ' = Fl.rt (.bl true):=hf; cases hf
def jn (s : List Nat) : List (List Nat) -> List Nat
  | []=>[]
  | [x]=>x
  | x :: y :: r=>x ++ s ++ jn s (y :: r)
def jL (l : List Nat) : Str:=⟨l.toArray⟩
def qi (z : Str) : jL z.cps.toList = z:=by cases z; simp [jL]
def cJ (l : List Nat) : (jL l).cps.toList = l:=by simp [jL]
def gN (l : List Nat) : (jL l).length = l.length:=by simp [jL, Str.length]
def j3 {a b : Str} (h : a.cps.toList = b.cps.toList) : a = b:=by rw [<- qi a, h, qi]
def vb (a b : Str) : (a ++ b).cps.toList = a.cps.toList ++ b.cps.toList:=by
  show (a.cps ++ b.cps).toList = _; simp
theorem zy (s : List Nat) : ∀ (ps : List Str) (a : Array Nat) (sep : Str), sep.cps.toList = s -> (List.foldl (λacc p=>acc ++ sep.cps ++ p.cps) a ps).toList = jn s (a.toList :: ps.map (·.cps.toList))
  | [], a, sep, e=>rfl
  | p :: ps, a, sep, e=>by
    rw [Mr, zy s ps _ sep e]
    cases ps with
    | nil=>simp [jn, e]
    | cons q qs=>simp [jn, e]
def wj (sep : Str) (ps : List Str) : (Txt.join sep ps).cps.toList = jn sep.cps.toList (ps.map (·.cps.toList)):=by
  cases ps with
  | nil=>simp [Txt.join, Builtin.Str.glued, jn, Str.empty]
  | cons p ps=>exact zy _ ps p.cps sep rfl
theorem uO (s y : List Nat) : ∀ (xs : List (List Nat)), xs ≠ [] -> jn s (xs ++ [y]) = jn s xs ++ s ++ y
  | [x], _=>rfl
  | x :: x2 :: xs, _=>by
    show x ++ s ++ jn s (x2 :: (xs ++ [y])) = x ++ s ++ jn s (x2 :: xs) ++ s ++ y;rw [show x2 :: (xs ++ [y]) = (x2 :: xs) ++ [y] from rfl, uO s y (x2 :: xs) (by simp)];simp
theorem Dc (s : List Nat) (y : List (List Nat)) (hy : y ≠ []) : ∀ (xs : List (List Nat)), jn s (xs ++ [jn s y]) = jn s (xs ++ y)
  | []=>by simp [jn]
  | [x]=>by cases y with
    | nil=>exact absurd rfl hy
    | cons a b=>rfl
  | x :: x2 :: xs=>by
    show x ++ s ++ jn s ((x2 :: xs) ++ [jn s y]) = x ++ s ++ jn s ((x2 :: xs) ++ y);rw [Dc s y hy (x2 :: xs)]
theorem DF (c : Nat) : ∀ z : List Nat, ∃ ps : List (List Nat), ps ≠ [] /\ (∀ p ∈ ps, c ∉ p) /\ jn [c] ps = z
  | []=>⟨[[]], by simp, by simp, rfl⟩
  | a :: z=>by
    obtain ⟨ps, h1, h2, h3⟩:=DF c z;by_cases e : a = c
    · subst e;refine ⟨[] :: ps, by simp, λp hp=>?_, ?_⟩
      · rcases LK.mp hp with rfl | hp
        · simp
        · exact h2 p hp
      · cases ps with
        | nil=>exact absurd rfl h1
        | cons q qs=>show [] ++ [a] ++ jn [a] (q :: qs) = _; rw [h3]; rfl
    · cases ps with
      | nil=>exact absurd rfl h1
      | cons q qs=>
        refine ⟨(a :: q) :: qs, by simp, λp hp=>?_, ?_⟩
        · rcases LK.mp hp with rfl | hp
          · intro h; rcases LK.mp h with rfl | h
            · exact e rfl
            · exact h2 q (by simp) h
          · exact h2 p (by simp [hp])
        · rw [<- h3]; cases qs <;> simp [jn]
section
open StrLaws
def DP {x sep : Str} {k : Nat} : At x sep x.length k ↔ k + sep.length <= x.length /\ (x.cps.toList.drop k).take sep.length = sep.cps.toList:=by
  unfold At Builtin.Str.subAt;refine and_congr_right λh=>?_;rw [beq_iff_eq, <- Array.toList_inj, Array.toList_extract];simp [List.extract, Nat.add_sub_cancel_left]
def Gm {x sep : Str} {k c0 : Nat} {tl : List Nat} (hs : sep.cps.toList = c0 :: tl) (h : At x sep x.length k) : x.cps.toList[k]? = some c0:=by
  obtain ⟨h1, h2⟩:=DP.mp h;have e : ((x.cps.toList.drop k).take sep.length)[0]? = some c0:=by rw [h2, hs]; rfl
  have l : 0 < sep.length:=by show 0 < sep.cps.size; rw [<- Ma, hs]; simp
  rw [List.getElem?_take_of_lt l, List.getElem?_drop] at e;simpa using e
def t6 (x : Str) (i j : Nat) : (Builtin.Str.strSub x i j).cps.toList = (x.cps.toList.drop i).take (j - i):=by
  simp [Builtin.Str.strSub, List.extract]
def cR (x : Str) : x.length = x.cps.toList.length:=by simp [Str.length]
theorem vP {sep : Str} {c0 : Nat} {tl : List Nat} (hs : sep.cps.toList = c0 :: tl) : ∀ (ws : List (List Nat)) (w : List Nat) (x : Str) (pre : List Nat) (jH : List Nat) (f : Nat), x.cps.toList = pre ++ jn (c0 :: tl) (w :: ws) -> (∀ u ∈ w :: ws, c0 ∉ u) -> ChainG x sep x.length pre.length jH f -> (∀ k, f <= k -> ¬At x sep x.length k) -> partsFrom x sep.length pre.length jH = (w :: ws).map jL
  | [], w, x, pre, jH, f, ex, hw, hc, hf=>by
    have ex' : x.cps.toList = pre ++ w:=ex
    cases jH with
    | nil=>
      rw [partsFrom.eq_1];have : Builtin.Str.strSub x pre.length x.length = jL w:=j3 (by rw [t6, cJ, ex', cR, ex']; simp)
      rw [this]; rfl
    | cons c r=>
      rw [ChainG.eq_2] at hc;have a:=Gm hs hc.2.1;rw [ex', List.getElem?_append_right hc.1] at a
      exact absurd (List.mem_of_getElem? a) (hw w (by simp))
  | w2 :: ws, w, x, pre, jH, f, ex, hw, hc, hf=>by
    have ex' : x.cps.toList = pre ++ (w ++ ((c0 :: tl) ++ jn (c0 :: tl) (w2 :: ws))):=by rw [ex]; simp [jn]
    have ls : sep.length = (c0 :: tl).length:=by rw [cR, hs]
    have hat : At x sep x.length (pre.length + w.length):=by
      refine DP.mpr ⟨?_, ?_⟩
      · rw [cR x, ex', ls]; simp only [L0]; omega
      · rw [ex', hs, ls]; simp
    cases jH with
    | nil=>
      rw [ChainG.eq_1] at hc
      exact absurd hat (hf _ (by omega))
    | cons c r=>
      rw [ChainG.eq_2] at hc;obtain ⟨c1, c2, c3, c4⟩:=hc
      have hcv : c = pre.length + w.length:=by
        rcases Nat.lt_trichotomy c (pre.length + w.length) with h | h | h
        · have a:=Gm hs c2;rw [ex', List.getElem?_append_right c1, Me (by omega)] at a;exact absurd (List.mem_of_getElem? a) (hw w (by simp))
        · exact h
        · exact absurd hat (c3 _ (by omega) h)
      subst hcv;rw [partsFrom.eq_2];have e1 : Builtin.Str.strSub x pre.length (pre.length + w.length) = jL w:=j3 (by rw [t6, cJ, ex']; simp);have el : pre.length + w.length + sep.length = (pre ++ (w ++ (c0 :: tl))).length:=by rw [ls]; simp only [L0]; omega
      rw [e1, el];rw [el] at c4;rw [vP hs ws w2 x (pre ++ (w ++ (c0 :: tl))) r f (by rw [ex']; simp) (λu hu=>hw u (by simp at hu ⊢; exact .inr hu)) c4 hf];rfl
def C6 (z : Str) : 1 <= Builtin.Str.strKind z:=by unfold Builtin.Str.strKind; split; exact LH 1; split <;> decide
def xq {z c : Str} (l0 : 1 <= c.length) (hk : Builtin.Str.strKind c = 1) : ir z c = partsFrom z c.length 0 (jH z c):=by
  obtain ⟨f, h1, h2⟩:=occ_tight z c l0
  have em : jH z c = [] -> partsFrom z c.length 0 (jH z c) = [z]:=λe=>by
    rw [e, partsFrom.eq_1];refine congrArg (λy=>[y]) (j3 ?_);rw [t6, cR];exact List.take_length
  unfold ir;by_cases c1 : z.length < c.length
  · have e : jH z c = []:=by
      cases h : jH z c with
      | nil=>rfl
      | cons a r=>
        have h1' : ChainG z c z.length 0 (jH z c) f:=h1;rw [h, ChainG.eq_2] at h1';have:=h1'.2.1.1; omega
    rw [Mk (.inl (by simp [c1])), em e]
  · by_cases c2 : (jH z c).isEmpty = true
    · rw [Mk (.inr c2), em (List.isEmpty_iff.mp c2)]
    · have:=C6 z;rw [Ml (by rintro (h | h); (simp [c1, hk] at h; omega); exact c2 h), partsBetween_eq]
def BY {z c : Str} {c0 : Nat} {tl : List Nat} {ws : List (List Nat)} (hk : Builtin.Str.strKind c = 1) (hs : c.cps.toList = c0 :: tl) (hw : ∀ u ∈ ws, c0 ∉ u) (h0 : ws ≠ []) (ez : z.cps.toList = jn (c0 :: tl) ws) : ir z c = ws.map jL:=by
  have l0 : 1 <= c.length:=by rw [cR, hs]; simp
  obtain ⟨f, h1, h2⟩:=occ_tight z c l0;rw [xq l0 hk]
  cases ws with
  | nil=>exact absurd rfl h0
  | cons w ws=>exact vP hs ws w z [] (jH z c) f ez hw h1 h2
end
def AM {m : Nat} (hl : (Str.ofString (toString (m : Int))).length <= 4300) : intText? (Str.ofString (toString (m : Int))) = some (m : Int):=by
  have hd : NumText.AllDigits (Str.ofString (toString (m : Int))).cps.toList:=λc hc=>by
    rw [PySem.W.KIN.signs_num] at hc;obtain ⟨ch, hch, e⟩:=LM.mp hc;have r:=PyProof.Rows.digit_range (Nat.isDigit_of_mem_toDigits (by decide) (by decide) hch);rw [<- e]; exact r
  have jx : (Str.ofString (toString (m : Int))).cps.toList ≠ []:=by
    rw [PySem.W.KIN.signs_num]; intro e;have h:=PySem.toDigits_len_ge 10 m;rw [List.map_eq_nil_iff.mp e] at h;exact absurd h (by decide)
  have e:=intText_digits hd jx hl;rw [PySem.W.KIN.signs_num, PySem.W.KIN.val_back] at e;exact e
def dg (m : Nat) : List Nat:=(Nat.toDigits 10 m).map Char.toNat
def uX (m : Nat) : (Str.ofString (toString (m : Int))).cps.toList = dg m:=PySem.W.KIN.signs_num m
def yk {m c : Nat} (h : c ∈ dg m) : 48 <= c /\ c <= 57:=by
  obtain ⟨ch, hch, e⟩:=LM.mp h;rw [<- e];exact PyProof.Rows.digit_range (Nat.isDigit_of_mem_toDigits (by decide) (by decide) hch)
def rJ {m k : Nat} (k0 : 0 < k) (h : m < 10 ^ k) : (dg m).length <= k:=by
  rw [dg, LA];exact (Nat.length_toDigits_le_iff (by decide) k0).mpr h
def DD (m : Nat) : 1 <= (dg m).length:=by
  rw [dg, LA]; exact PySem.toDigits_len_ge 10 m
def Fe {m : Nat} (h : 10 <= m) : dg m = dg (m / 10) ++ [(Nat.digitChar (m % 10)).toNat]:=by
  rw [dg, dg, Nat.toDigits_of_base_le (by decide) h, Mq]; rfl
def DC : ∀ m : Nat, m < 10 -> dg m = [48 + m]:=by decide
def zH : ∀ (m : Nat), m ≠ 0 -> ∃ c r, dg m = c :: r /\ c ≠ 48:=λm=>by
  induction m using Nat.strongRecOn with
  | ind m ih=>
    intro h0;by_cases h : m < 10
    · exact ⟨48 + m, [], DC m h, by omega⟩
    · obtain ⟨c, r, e, hc⟩:=ih (m / 10) (by omega) (by omega);exact ⟨c, r ++ [(Nat.digitChar (m % 10)).toNat], by rw [Fe (by omega), e]; rfl, hc⟩
def ET (m : Nat) (h : m ≠ 0) : (Str.ofString (toString (-(m : Int)))).cps.toList = 45 :: dg m:=by
  obtain ⟨k, rfl⟩ : ∃ k, m = k + 1:=⟨m - 1, by omega⟩;have e : toString (-((k + 1 : Nat) : Int)) = "-" ++ toString ((k + 1 : Nat) : Int):=rfl;rw [e, PyProof.Rows.signs_ofString, String.toList_append, Mq, <- PyProof.Rows.signs_ofString (toString ((k + 1 : Nat) : Int)), uX];rfl
def J8 (h0 h : Heap) (H : Hp) (C a : Addr) : Prop:=h0.get? a = none /\ H a = none /\ ∃ (oe oT : Obj) (vs ts : Array Value) (T : Addr) (a0 : Value),
  h.get? a = some oe /\ oe.cls = .ref C /\ vs[0]? = some a0 /\ oe.data = .fields vs /\ vs[1]? = some (.ref T) /\ h0.get? T = none /\ H T = none /\ T ≠ a /\ h.get? T = some oT /\ oT.data = .fields ts /\ ts[3]? = some .none
def D2 (P : Program) (w : World) (C : Addr) : zV:=λouter H s E e s'=>∃ (a : Addr) (H' : Hp), e = .ref a /\ s'.os = s.os /\ AllBare s'.gens /\ Un (o7 outer) [] H H' s.heap s'.heap /\ lO P w H' s'.heap /\ J8 s.heap s'.heap H' C a /\ E (.ref C) none H'
def Dh {P : Program} {w : World} {H : Hp} {h : Heap} {a : Addr} (ok : lO P w H h) (n : h.get? a = none) : H a = none:=by
  cases e : H a with
  | none=>rfl
  | some o=>
    exfalso
    have q : ∀ (o : HO), fE P w H h a o -> False:=λo=>by
      induction o with
      | lst xs=>rintro ⟨_, aY, k, _, e⟩; rw [n] at e; cases e
      | tup xs=>rintro ⟨_, aY, _, k, e⟩; rw [n] at e; cases e
      | dK kvs=>rintro ⟨_, _, vs, _, o, es, ep, e, _⟩; rw [n] at e; cases e
      | dT kvs=>rintro ⟨_, _, xs, _, o, es, ep, e, _⟩; rw [n] at e; cases e
      | set S k=>rintro ⟨o, es, ep, t, e, _⟩; rw [n] at e; cases e
      | ins C dx fs=>rintro ⟨_, _, _, e, _⟩; rw [n] at e; cases e
      | own x=>rintro ⟨o, e⟩; rw [n] at e; cases e
      | xd fs=>rintro ⟨mA, ⟨o, es, ep, e, _⟩, _⟩; rw [n] at e; cases e
      | vF lo hi=>rintro ⟨t, u, v, e⟩; rw [n] at e; cases e
      | og o u ih=>rintro ⟨e, _⟩; rw [n] at e; cases e
      | qc ps=>intro e; have e : h.get? a = _:=e; rw [n] at e; cases e
      | met f x=>intro e; have e : h.get? a = _:=e; rw [n] at e; cases e
      | ext φ=>rintro ⟨_, ⟨o, e⟩, _⟩; rw [n] at e; cases e
    exact q o (ok a o e)
section
variable {P : Program} {w : World} {H H' : Hp} {h h' : Heap} {fs fs' ex ex' xs : List Addr} {l : List Env}
def Un.cut (u : Un fs' ex' H H' h h') (h1 : ∀ b o, h.get? b = some o -> b ∈ fs' -> b ∈ fs) (h2 : ∀ b o, h.get? b = some o -> b ∈ ex' -> b ∈ ex) : Un fs ex H H' h h' where
  keep:=λb o e n hb hx=>u.keep b o e n (λz=>hb (h1 b o e z)) λz=>hx (h2 b o e z)
  slot:=λb o e n hb hx=>u.any e n λz=>hx (h2 b o e z)
  free:=λb o e n hx=>u.free b o e n λz=>hx (h2 b o e z)
  there:=λb o e hx=>u.there b o e λz=>hx (h2 b o e z)
  mq:=u.mq
  lK:=u.lK
  lC:=u.lC
def vh {bs : Heap} (fl : h.FunFrames bs l) (k : (PySem.W.hideAll h (o7 l ++ xs)).StaysIn h') (u : h.UpToSlots h') : Un (o7 l) xs H H h h':=by
  have kp : ∀ b o, h.get? b = some o -> b ∉ o7 l -> b ∉ xs -> h'.get? b = some o:=λb o e hb hx=>k b o (PySem.W.hideAll_get _ e λz=>(Mj.mp z).elim hb hx)
  have sl : ∀ b o, h.get? b = some o -> b ∈ o7 l -> ∃ sl, h'.get? b = some { o with slots:=sl }:=λb o e hb=>by
    obtain ⟨_, o', e', d⟩:=fl.mem hb;rw [e] at e'; cases e'
    exact u b o e d
  refine ⟨λb o e _ hb hx=>kp b o e hb hx, λb o e _ hb _=>sl b o e hb, λ_ _ _ n _=>n, λb o e hx=>?_, λ_ _ e=>e, λ_ _ _ e=>e, λ_ _ e=>⟨#[], by rw [e]; simp⟩⟩;by_cases hb : b ∈ o7 l
  · obtain ⟨s, q⟩:=sl b o e hb; exact ⟨_, q⟩
  · exact ⟨o, kp b o e hb hx⟩
def tu (ok : lO P w H h) (k : (PySem.W.hideAll h (o7 l ++ xs)).StaysIn h') (n1 : ∀ b ∈ o7 l, H b = none) (n2 : ∀ b ∈ xs, H b = none) : lO P w H h':=λa o e=>by
  refine (ok a o e).rV (λb u hb q=>k b u (PySem.W.hideAll_get _ q λz=>?_)) (λ_ q=>q) λ_ _ q=>q;have nb : H b = none:=(Mj.mp z).elim (n1 b) (n2 b);rcases hb with rfl | hb
  · rw [nb] at e; cases e
  · rw [nb] at hb; cases hb
def pP {bs : Heap} (fl : h.FunFrames bs l) : h.FunFrames (PySem.W.hideAll h (o7 l ++ xs)) l:=
  PySem.W.funFrames_hide fl λenv he a ha=>List.mem_append_left _ (List.mem_filterMap.mpr ⟨env, he, ha⟩)
end
section
variable {P : Program} {w : World} {K : Frag} {mg : Str -> Option Value} {base : Heap} {N : List Str} {qual : Str} {sc : Scope} {f C : Addr} {cd : Value} {A : Around} {outer : List Env} {s0 : Shared} {H0 : Hp} {E : XK}
def yb {pZ : List (Addr × Obj)} {σ : St} {H : Hp} {s : Shared} {h' : Heap} {e : Addr} {vs : List Value} (I : Inv (jd (D2 P w C) P w K mg base N qual sc f cd A outer s0 H0 E) pZ σ H s) (hx : Heap.MadeExcOf s.heap h' e (.ref C) vs) (hE : E (.ref C) none H) :
    (jd (D2 P w C) P w K mg base N qual sc f cd A outer s0 H0 E).xe (.ref e) { s with heap:=h' }:=by
  have st:=I.stack;refine wpAny_leaves_madeW (base:=PySem.W.hideAll s.heap (o7 (envOfC qual sc s0.heap.objs.size f cd :: outer) ++ [])) I.ok.frames rfl (λb o q=>PySem.W.of_hideAll _ q) (pP st) hx λh2 t x1 x2 x3 x4=>?_;have u1 : s.heap.UpToSlots h2:=(Heap.UpToSlots.of_keeps hx.keeps).trans x4;obtain ⟨k1, k2, k3, oe, ws, T, oT, ts, he, ⟨hc, h0⟩, hd, h1, hnT, hTe, hT, hdT, h3⟩:=x1
  have noT : s.heap.get? T = none:=by
    cases q : s.heap.get? T with
    | none=>rfl
    | some o=>
      exfalso;by_cases hb : T ∈ o7 (envOfC qual sc s0.heap.objs.size f cd :: outer)
      · obtain ⟨_, o', e', d⟩:=st.mem hb;obtain ⟨sl, z⟩:=u1 T o' e' d;rw [hT] at z; cases z
        exact d _ hdT
      · rw [PySem.W.hideAll_get _ q λz=>(Mj.mp z).elim hb (by simp)] at hnT; cases hnT
  have new0 : ∀ b, s.heap.get? b = none -> s0.heap.get? b = none:=λb n=>by
    cases q : s0.heap.get? b with
    | none=>rfl
    | some o=>obtain ⟨o', e'⟩:=I.base.there b o q (λz=>nomatch z); rw [n] at e'; cases e'
  have U:=vh (H:=H) (xs:=[]) st k1 u1;refine ⟨e, H, rfl, I.os, I.bare, ?_, tu I.dz k1 I.qd (λ_ z=>nomatch z), ⟨new0 e hx.new, Dh I.dz hx.new, oe, oT, ws, ts, T, _, he, hc, h0, hd, h1, new0 T noT, Dh I.dz noT, hTe, hT, hdT, h3⟩, hE⟩;refine ((I.base.mono (fs':=o7 (envOfC qual sc s0.heap.objs.size f cd :: outer)) (ex':=[]) (λb hb=>?_) λb hb=>hb).trans U).cut (λb o q hb=>?_) λ_ _ _ z=>z
  · obtain ⟨en, h1, h2⟩:=List.mem_filterMap.mp hb;exact List.mem_filterMap.mpr ⟨en, LC _ h1, h2⟩
  · obtain ⟨en, h1, h2⟩:=List.mem_filterMap.mp hb;rcases LK.mp h1 with rfl | h1
    · have z : s0.heap.objs.size = b:=Mo h2;exact absurd (z ▸ LQ q) (Nat.lt_irrefl _)
    · exact List.mem_filterMap.mpr ⟨en, h1, h2⟩
def G6 {K : Frag} {mg : Str -> Option Value} {base : Heap} {x : Str} {C : Addr} {bm : List Value} {newId : String} (M : Mod K mg base) (e : nsIn K mainGlobals x = some (some (.ref C))) (q : PySem.W.excIn K C bm newId = true) (p : Program) : OwnCls x C bm newId mg base:=by
  obtain ⟨mb, hb, hv⟩:=M.blt;obtain ⟨o, es, ep, ho, hd, hk, hf⟩:=id M.glob;refine PySem.W.own_of_in (p:=p) (loose:=es.toList.filterMap λd=>match d.key with | .str y _=>some y | _=>none) M.JA ⟨M.glob, hb, M.nolimit, hv, λz _ hz _ _ _=>?_⟩ e q;rw [<- hf z]
  cases r : nsFind es z with
  | none=>rfl
  | some v=>
    refine absurd ?_ hz;unfold nsFind findBy at r;obtain ⟨d, hd1, _⟩:=LY.mp r;obtain ⟨n, t, hn⟩:=hk d (Array.mem_of_find?_eq_some hd1);have hs:=Array.find?_some hd1;refine List.mem_filterMap.mpr ⟨d, Array.mem_toList_iff.mpr (Array.mem_of_find?_eq_some hd1), ?_⟩;simp only [hn];rw [hn] at hs;exact congrArg some (beq_iff_eq.mp hs)
def BH (E : XK) (C : Addr) : TS:=λ_ _ H=>E (.ref C) none H
def Cp {x msg : Str} {np mB pos p2 : Pos} {j : Nat} {bm : List Value} {newId Bn E5 : String} {bmN : List Value} {B nid initId : String} (e : nsIn K mainGlobals x = some (some (.ref C))) (q : PySem.W.excIn K C bm newId = true) (Fn : ExcBaseFacts Bn newId E5 bmN) (hBn : bm.contains (.type Bn) = true) (FB : ExcBaseFacts B nid initId bm)
    (hg : Gl (jd (D2 P w C) P w K mg base N qual sc f cd A outer s0 H0 E) x) (ye : (x == ("__debug__" : Str)) = false:=by decide) :
    PS (jd (D2 P w C) P w K mg base N qual sc f cd A outer s0 H0 E) (.Raise (some (.Call (.Name x np) [.Constant (.str msg) j p2] [] mB)) none pos) (BH E C):=by
  intro pZ s σ H D I hE;have O1:=G6 I.mod e q P;obtain ⟨tl, N', nm, q, bs, hdct, sn, sub, ab, col, dd, k0, k1, k2, k3, k5, mN, hC, hN, hni, T⟩:=O1.obj
  refine wpAny_Raise_call_subU (C:=C) (nm:=nm) (q:=q) (N:=N') (bs:=bs) (bm:=tl) (hdct:=hdct) (sn:=sn) (sub:=sub) (ab:=ab) (col:=col) (dd:=dd) (k0:=k0) (k1:=k1) (k2:=k2) (k3:=k3) (k5:=k5)
    Fn hBn FB (mN:=mN) (T.hasType FB.hasBase) (I.ok.hd rfl) rfl hni (nZ I hg O1.bound ⟨rfl, ?_⟩ ye)
  have hp : PA (jd (D2 P w C) P w K mg base N qual sc f cd A outer s0 H0 E) [.Constant (.str msg) j p2] (fU (tC (.str msg)) mM):=fO Cy jq;refine Calls.evalArgs_plain (eg (hp mB pZ s σ H (λvs H1=>vs = [.str msg] /\ H1 = H) I ⟨rfl, rfl⟩) λus s1 h1=>?_);obtain ⟨vs, H1, I1, r1, rfl, rfl⟩:=h1;refine ⟨rfl, ?_, I1.bk _ _ hC, hN.keeps I1.bk, T.keeps I1.bk, λh2 _ hx=>yb I1 hx hE⟩;show us.length <= sizeLine;rw [<- r1.length];show 1 <= sizeLine;decide
end
def Off (X : Cx) (pZ : List (Addr × Obj)) (b : Addr) : Prop:=X.s₀.heap.get? b = none /\ b ≠ X.env.locals /\ (∀ x c, X.env.cells.lookup x = some c -> c ≠ b) /\ ∀ p ∈ X.pn ++ pZ, p.1 ≠ b
section
variable {X : Cx} {pZ : List (Addr × Obj)} {σ : St} {H H' : Hp} {s : Shared} {h' : Heap} {xs : List Addr} {a b : Addr}
def Inv.off (I : Inv X pZ σ H s) (hex : X.ex = []) (n : s.heap.get? b = none) : Off X pZ b:=by
  refine ⟨?_, λz=>?_, λx c e z=>?_, λp hp z=>?_⟩
  · cases q : X.s₀.heap.get? b with
    | none=>rfl
    | some o=>obtain ⟨o', e'⟩:=I.base.there b o q (by rw [hex]; simp); rw [n] at e'; cases e'
  · obtain ⟨m, ⟨o, es, ep, ho, _⟩, _⟩:=I.loc;rw [<- z, n] at ho; cases ho
  · obtain ⟨v, o, ho, _⟩:=I.cell x c e;rw [z, n] at ho; cases ho
  · obtain ⟨e, _⟩:=I.pin p hp;rw [z, n] at e; cases e
def Inv.Kg (I : Inv X pZ σ H s) (hex : X.ex = []) (hb : ∀ b ∈ xs, Off X pZ b) (u : Un (o7 X.stack) xs H H' s.heap h') (ok : lO X.prog X.w H' h') : Inv X pZ σ H' { s with heap:=h' }:=by
  have OK : Cx.Ok { X with ex:=xs }:=⟨I.ok.mod, I.ok.kind, I.ok.glob, I.ok.blt, I.ok.above, I.ok.inj, I.ok.has, I.ok.Gk, I.ok.hd, I.ok.frames, I.ok.GF, λb z=>⟨(hb b z).2.1, (hb b z).2.2.1⟩, I.ok.bs, I.ok.Bo,
    λb o e z=>(by have q:=(I.ok.bs b o e).1; rw [(hb b z).1] at q; cases q), λb z zz=>(by obtain ⟨_, o, e, _⟩:=I.ok.lJ.mem zz; rw [(hb b z).1] at e; cases e), I.ok.lJ, I.ok.DW⟩
  have I' : Inv { X with ex:=xs } pZ σ H s:=⟨OK, I.os, I.bare, I.base.mono (λ_ z=>z) (λb z=>by rw [hex] at z; cases z), I.loc, I.cell, I.free, I.iD, I.pin, I.dz, I.len⟩;have J:=I'.DJ (s':={ s with heap:=h' }) rfl u ok I.bare (ch:=xs) λb z=>⟨.inl z, (hb b z).2⟩;exact ⟨I.ok, J.os, J.bare, J.base.cut (λ_ _ _ z=>z) (λb o e z=>by rw [(hb b z).1] at e; cases e), J.loc, J.cell, J.free, J.iD, J.pin, J.dz, J.len⟩
def Inv.Im {φ : Heap -> Prop} (I : Inv X pZ σ H s) (g : Off X pZ a) (n : H a = none) (hφ : φ s.heap) (ha : ∃ o, s.heap.get? a = some o) (st : ∀ h1 h2 : Heap, φ h1 -> (∀ o, h1.get? a = some o -> h2.get? a = some o) -> φ h2) : Inv X pZ σ (upd H a (.ext φ)) s:=by
  have old : ∀ b u, H b = some u -> upd H a (.ext φ) b = some u:=λb u e=>by rw [az (bx e n)]; exact e
  refine ⟨I.ok, I.os, I.bare, ⟨I.base.keep, I.base.slot, λb o e nb hx=>?_, I.base.there, λb xs e=>old _ _ (I.base.mq b xs e), λb o u e=>old _ _ (I.base.lK b o u e), λb ps e=>?_⟩, I.loc, I.cell, ?_, λx c e=>?_, λp hp=>?_, λb u e=>?_, I.len⟩
  · rw [az λz=>by rw [z, g.1] at e; cases e]; exact I.base.free b o e nb hx
  · obtain ⟨m, q⟩:=I.base.lC b ps e; exact ⟨m, old _ _ q⟩
  · rw [az (Ne.symm g.2.1)]; exact I.free
  · rw [az (g.2.2.1 x c e)]; exact I.iD x c e
  · obtain ⟨e, n1, r⟩:=I.pin p hp;exact ⟨e, by rw [az (g.2.2.2 p hp)]; exact n1, r⟩
  · by_cases hb : b = a
    · subst hb; rw [aA] at e; cases e
      exact ⟨hφ, ha, st⟩
    · rw [az hb] at e;exact (I.dz b u e).rV (λ_ _ _ q=>q) (λc q=>old _ _ q) λc xs q=>old _ _ q
def Inv.KZ {n : Str} {i : Nat} {v : Option Value} {t : Nat} (I : Inv X pZ σ H s) (hN : X.N.Nodup) (hi : X.N[i]? = some n) {m : Str -> Option Value} (hm : s.heap.Ns X.env.locals m)
    (hn : h'.Ns X.env.locals (λx=>if x = n then v else m x)) (hs : Heap.SameBut X.env.locals s.heap h') : Inv X pZ (σ.set i none) H { s with heap:=h', toks:=t }:=by
  obtain ⟨m', hm', hl⟩:=I.loc
  have em : m' = m:=by
    obtain ⟨o, es, ep, ho, hd, _, hf⟩:=hm;obtain ⟨o', es', ep', ho', hd', _, hf'⟩:=hm';rw [ho] at ho'; cases ho'; rw [hd] at hd'; cases hd'
    funext x; rw [<- hf x, <- hf' x]
  subst em;have ne : ∀ b o, X.s₀.heap.get? b = some o -> b ≠ X.env.locals:=λb o e=>L4 (LX (LQ e) I.ok.above);have kp : ∀ b, b ≠ X.env.locals -> h'.get? b = s.heap.get? b:=λb n=>hs.2 b n;refine ⟨I.ok, I.os, I.bare, ⟨λb o e n hb hx=>?_, λb o e n hb hx=>?_, I.base.free, λb o e hx=>?_, I.base.mq, I.base.lK, I.base.lC⟩, ⟨_, hn, λj y w e1 e2 e3=>?_⟩, λy c e=>?_, I.free, I.iD, λp hp=>?_, λb u e=>?_, ?_⟩
  · exact (kp b (ne b o e)).trans (I.base.keep b o e n hb hx)
  · obtain ⟨sl, e1⟩:=I.base.slot b o e n hb hx;exact ⟨sl, (kp b (ne b o e)).trans e1⟩
  · obtain ⟨o', e1⟩:=I.base.there b o e hx;exact ⟨o', (kp b (ne b o e)).trans e1⟩
  · by_cases hj : j = i
    · subst hj;rw [List.getElem?_set] at e2;split at e2
      · split at e2 <;> cases e2
      · rename_i z; exact absurd rfl z
    · rw [L7 (Ne.symm hj)] at e2;obtain ⟨u, r, q⟩:=hl j y w e1 e2 e3;refine ⟨u, r, ?_⟩;rcases q with ⟨k, e⟩ | ⟨k, c, e, z⟩
      · refine .inl ⟨k, ?_⟩;have : y ≠ n:=λe=>hj (qN hN e1 (e ▸ hi));simp [this, e]
      · exact .inr ⟨k, c, e, z.sameBut hs (I.Fm y c e)⟩
  · obtain ⟨w', z⟩:=I.cell y c e;exact ⟨w', z.sameBut hs (I.Fm y c e)⟩
  · obtain ⟨e, n1, n2, r⟩:=I.pin p hp;exact ⟨(kp _ n2).trans e, n1, n2, r⟩
  · refine (I.dz b u e).rV (λc v hc q=>?_) (λ_ q=>q) λ_ _ q=>q;refine (kp c λz=>?_).trans q;have nL:=I.free;rcases hc with w | w
    · rw [w] at z; rw [z, nL] at e; cases e
    · rw [z, nL] at w; cases w
  · rw [List.length_set]; exact I.len
end
def vd (C a : Addr) : Heap -> Prop:=λh=>∃ o, h.get? a = some o /\ o.cls = .ref C
def vd.ok {C a : Addr} : ∀ h1 h2 : Heap, vd C a h1 -> (∀ o, h1.get? a = some o -> h2.get? a = some o) -> vd C a h2:=λ_ _ ⟨o, e, c⟩ k=>⟨o, k o e, c⟩
abbrev Cx.i4 (X : Cx) (a : Addr) : Cx:={ X with A:=X.A.mark (some (.ref a)), calm:=false, xe:=λ_ _=>False }
def Ir (sp : Sp) (C : Addr) (t : TA) (i j : Nat) : TS:=λD σ H=>t σ H λvs H1=>sp vs H1 (λ_ H2=>D.nx σ H2) λ_ _ H2=>∀ a, H2 a = none -> D.nx ((σ.set j (some (.ref a))).set i none) (upd H2 a (.ext (vd C a)))
section
variable {X : Cx} {k : Nat} {f C HE : Addr} {fd : FuncData} {ps : List Str} {sp : Sp} {x y n z : Str} {p cp ep yp hp zp np ap tp : Pos} {e : Expr} {es : List Expr} {t : TA} {i j : Nat}
def Inv.i4 {pZ : List (Addr × Obj)} {σ : St} {H : Hp} {s : Shared} {a : Addr} (I : Inv X pZ σ H s) : Inv (X.i4 a) pZ σ H s:=
  ⟨⟨I.ok.mod, I.ok.kind, I.ok.glob, I.ok.blt, I.ok.above, I.ok.inj, I.ok.has, I.ok.Gk, (λz=>nomatch z), I.ok.frames, I.ok.GF, I.ok.Ki, I.ok.bs, I.ok.Bo, I.ok.xV, I.ok.AZ, I.ok.lJ, I.ok.DW⟩, I.os, I.bare, I.base, I.loc, I.cell, I.free, I.iD, I.pin, I.dz, I.len⟩
def Inv.CD {pZ : List (Addr × Obj)} {σ : St} {H : Hp} {s : Shared} {a : Addr} (ok : X.Ok) (I : Inv (X.i4 a) pZ σ H s) : Inv X pZ σ H s:=⟨ok, I.os, I.bare, I.base, I.loc, I.cell, I.free, I.iD, I.pin, I.dz, I.len⟩
def Inv.KH {pZ : List (Addr × Obj)} {σ : St} {H : Hp} {s : Shared} {a : Addr} {o : Obj} (I : Inv X pZ σ H s) (e : s.heap.get? a = some o) (n : H a = none) (f : Off X pZ a) (d : ∀ v, o.data ≠ .cell v) : Inv X ((a, o) :: pZ) σ H s:=
  ⟨I.ok, I.os, I.bare, I.base, I.loc, I.cell, I.free, I.iD, λp hp=>by
    rcases Mj.mp hp with z | z
    · exact I.pin p (List.mem_append_left _ z)
    · rcases LK.mp z with rfl | z
      · exact ⟨e, n, f.2.1, λzz=>by obtain ⟨_, u, q, _⟩:=I.ok.lJ.mem zz; (rw [f.1] at q; cases q), d⟩
      · exact I.pin p (LS _ z), I.dz, I.len⟩
def Inv.Gv {pZ : List (Addr × Obj)} {σ : St} {H : Hp} {s : Shared} {q : Addr × Obj} (I : Inv X (q :: pZ) σ H s) : Inv X pZ σ H s:=
  ⟨I.ok, I.os, I.bare, I.base, I.loc, I.cell, I.free, I.iD, λp hp=>I.pin p ((Mj.mp hp).elim (List.mem_append_left _) λz=>LS _ (LC _ z)), I.dz, I.len⟩
def Inv.Ge {pZ : List (Addr × Obj)} {σ : St} {H : Hp} {s : Shared} {h' : Heap} {xs : List Addr} (I : Inv X pZ σ H s) (hex : X.ex = []) (hb : ∀ b ∈ xs, Off X pZ b /\ H b = none) (k : (PySem.W.hideAll s.heap (o7 X.stack ++ xs)).StaysIn h') (u : s.heap.UpToSlots h') : Inv X pZ σ H { s with heap:=h' }:=
  I.Kg hex (λb z=>(hb b z).1) (vh I.stack k u) (tu I.dz k I.qd λb z=>(hb b z).2)
def GW (hex : X.ex = []) (hst : X.stack = X.env :: X.outer) (hfr : X.env.frame = some X.env.locals)
    (F : aI X.prog X.w X.K X.mg X.base (D2 X.prog X.w C) k f fd ps sp) (hr : fR k X.A) (hg : Gl X x) (hm : X.mg x = some (.ref f)) (hk : keepIn X.K (.ref f) = true) (hb : Binds X.K fd ps []) (ha : PA X.mW (e :: es) t)
    (hy : Gl X y) (hmy : X.mg y = some (.ref HE)) (hx : PySem.W.exmOne X.K (.ref C) (.ref HE) = some true)
    (hN : X.N.Nodup) (hi : X.N[i]? = some n) (hn : X.env.scope.names.lookup n = some .local) (hj : X.N[j]? = some z) (hz : X.env.scope.names.lookup z = some .local) (hij : i ≠ j)
    (ye : (x == ("__debug__" : Str)) = false:=by decide) (hdy : (y == ("__debug__" : Str)) = false:=by decide) (hdn : (n == ("__debug__" : Str)) = false:=by decide) (hcn : (n == ("__classdict__" : Str)) = false:=by decide)
    (he : starEach (e :: es) X.env = (false, eval e X.env) :: starEach es X.env:=by rfl) (tm : (backTo cp (starEach es X.env)).any (·.1) = false:=by rfl)
    (hs : swapsWith (.Call (.Name x p) (e :: es) [] cp) none ep.line X.env = pure false:=by rfl) (hs2 : swapsWith (.Name n np) (some (.Name z zp)) ap.line X.env = pure false:=by rfl) :
    PS X (.Try [.Expr (.Call (.Name x p) (e :: es) [] cp) ep] [.ExceptHandler (some (.Name y yp)) (some n) [.Assign [.Name z zp] (.Name n np) ap] hp] [] [] tp) (Ir sp C t i j):=by
  intro pZ s σ H D I h;refine wpAny_Try_except (wpAny_execs_cons (wpAny_Expr_any ?_ I.quiet hs));refine wpAny_Call_Name_kw (nZ I hg hm ?_ ye);refine PySem.W.callWith_K (h₀:=X.base) I.ok.mod.JA hk (wpAny_mono (ha cp pZ s σ H _ (I.nF _) h) (λus s1 h1=>?_) λ_ _ z=>False.elim z) he tm;obtain ⟨vs, H1, J1, r, q⟩:=h1;have I1 : Inv X pZ σ H1 s1:=J1.jk;refine ⟨I1.sW, ?_⟩;have hl : us.length = ps.length:=by rw [<- r.length]; exact F.len _ _ _ _ q
  have hb':=hb s1 us I1.sW (by simpa using hl);rw [MD] at hb';refine wpAny_call (codeAny_mono (F.run X.A X.stack s1 H1 ⟨us, []⟩ us vs _ _ hr I1.sr hb' r q) λr s2 hq=>?_)
  cases r with
  | ok fl=>
    cases fl with
    | ret u=>
      obtain ⟨v, H2, I2, _, q2⟩:=I1.after hq
      exact wpAny_execs_nil (wpAny_execs_nil ⟨σ, H2, I2, q2⟩)
    | next=>exact False.elim hq
    | brk=>exact False.elim hq
    | cont=>exact False.elim hq
  | error ev=>
    obtain ⟨a, H2, rfl, os, bare, un, dz, fl, hE⟩:=hq;have I2 : Inv X pZ σ H2 s2:=I1.DJ os un dz bare (ch:=[]) λb z=>absurd z (by simp);obtain ⟨n1, nH, oe, oT, ws, ts, T, a0, g1, g2, g3, g4, g5, n2, nT, g6, g7, g8, g9⟩:=fl
    have hB : ∀ b ∈ [a, T], Off X pZ b /\ H2 b = none:=λb hb=>by
      simp only [LK, LL, or_false] at hb;rcases hb with rfl | rfl
      · exact ⟨I1.off hex n1, nH⟩
      · exact ⟨I1.off hex n2, nT⟩
    have hfs : X.A.frames = some (X.env :: X.outer):=by rw [<- hst]; exact I.ok.frames
    have Kg : ∀ b ∈ [a, T], (PySem.W.hideAll s2.heap (o7 X.stack ++ [a, T])).get? b = none:=λb hb=>PySem.W.hideAll_none _ (LS _ hb)
    have fly : Heap.FlyingW (PySem.W.hideAll s2.heap (o7 X.stack ++ [a, T])) (X.env :: X.outer) a (.ref C) a0 s2.heap:=
      ⟨λb o e=>PySem.W.of_hideAll _ e, Kg a (by simp), (by rw [<- hst]; exact pP I2.stack), oe, ws, T, oT, ts, g1, ⟨g2, g3⟩, g4, g5, Kg T (by simp), g6, g7, g8, g9⟩
    refine wpAny_looks_onW hfs hfr fly λh4 held u4=>?_;refine wpAny_landsW held λh5 fly5 u5=>?_;have I5 : Inv X pZ σ H2 { s2 with heap:=h5 }:=I2.Ge hex hB fly5.1 (u4.trans u5);refine wpAny_handleBy_cons (PySem.codeAny_handlers_test ?_) (by intro q; cases q);have S5 : Inv (X.i4 a) pZ σ H2 { s2 with heap:=h5 }:=I5.i4;refine nZ (X:=X.i4 a) S5 hy hmy ?_ hdy;obtain ⟨o5, e5, c5⟩:=fly5.there
    have LT : PySem.W.Looks (model X.prog X.w) h5 (typeOf (.ref a)) (.ref C):=by
      rw [<- c5];exact (PySem.W.Looks.ld e5).andThen .now
    refine (PySem.W.exm_one (K:=X.K) I5.sW LT hx).here ?_;show codeAny _ _ _ _ _;refine PySem.codeAny_handlers_suite_as ?_;refine lands_againW fly5 λh6 fly6 u6=>?_;have I6 : Inv X pZ σ H2 { s2 with heap:=h6 }:=I2.Ge hex hB fly6.1 ((u4.trans u5).trans u6);obtain ⟨o6, w6, e6, c6, d6, _⟩:=fly6.first;have P6 : Inv X ((a, o6) :: pZ) σ H2 { s2 with heap:=h6 }:=I6.KH e6 nH (hB a (by simp)).1 λv z=>by rw [d6] at z; cases z
    have S6 : Inv (X.i4 a) ((a, o6) :: pZ) σ H2 { s2 with heap:=h6 }:=P6.i4;refine i7 (X:=X.i4 a) (v:=.ref a) S6 hN hi (Or.inl hn) rfl (λs7 S7=>?_) (Or.inr hn);have su : xg (X.i4 a) [.Assign [.Name z zp] (.Name n np) ap] (nG (p6 i) (jc j)):=iX (mS hN hj (Or.inl hz) (xD hi (Or.inl hn) hdn hcn) hs2 (Or.inr hz));have il : i < σ.length:=by rw [I.len]; exact (LG.mp hi).1
    refine wpAny_mono (su _ s7 _ H2 { nx:=λσ' H'=>σ' = (σ.set i (some (.ref a))).set j (some (.ref a)) /\ H' = H2, rt:=λ_ _=>False } S7 ⟨.ref a, Mm il, rfl, rfl⟩) (λf s8 q=>?_) λ_ _ z=>False.elim z
    cases f with
    | ret u=>obtain ⟨_, _, _, _, _, z⟩:=q; exact False.elim z
    | brk=>obtain ⟨_, _, _, z⟩:=q; exact False.elim z
    | cont=>obtain ⟨_, _, _, z⟩:=q; exact False.elim z
    | next=>
      obtain ⟨σ', H', I8, rfl, rfl⟩:=q;have I8':=I8.CD I.ok;obtain ⟨m, hm8, _⟩:=id I8'.loc;show wpAny _ _ (do bindName _ _ _; unbindBehindTheSuite _ _ _) _ _ _;refine wpAny_nameGoes_keeps hn hm8 (by rw [I.ok.kind]; rfl) λh9 v hn9 hs9=>?_;have I9:=I8'.KZ (t:=s8.toks + 1) hN hi hm8 hn9 hs9;have g9:=(I9.pin (a, o6) (by simp)).1;refine ⟨_, _, (I9.Gv).Im (φ:=vd C a) (hB a (by simp)).1 nH ⟨o6, g9, c6⟩ ⟨o6, g9⟩ vd.ok, ?_⟩;rw [List.set_comm _ _ hij, List.set_set];exact hE a nH
end
section
section
variable {X : Cx}
def DH : iF X (.builtin "isinstance") (λxs H Q=>∃ a C, xs = [.ref a, .ref C] /\ H a = some (.ext (vd C a)) /\ Q (.bl true) H):=by
  intro pZ s σ H xs us Q I r h;obtain ⟨a, C, rfl, e, q⟩:=h;obtain ⟨u, w', rfl, rx, ry⟩:=vals2 r;cases (show u = Value.ref a from rx);cases (show w' = Value.ref C from ry);obtain ⟨⟨o, e1, c1⟩, _⟩:=(show fE X.prog X.w H s.heap a (.ext (vd C a)) from I.dz a _ e)
  have LT : PySem.W.Looks (model X.prog X.w) s.heap (typeOf (.ref a)) (.ref C):=by
    rw [<- c1];exact (PySem.W.Looks.ld e1).andThen .now
  refine call_isinstance_of ?_ λz=>nomatch z
  unfold Builtin.«isinstance.nested»;refine Ly (LT.here ?_);show wpAny _ _ (if (Value.ref C == Value.ref C) = true then _ else _) _ _ s;rw [Mk (by simp)]
  repeat (first | refine LD ?_ | refine wpAny_rule ?_ | refine Ly ?_)
  exact ⟨.bl true, H, I, rfl, q⟩
end
variable {φ : iE}
noncomputable def IC (φ : iE) (C : Addr) (g : List PV -> M (Option PV)) : Sp:=λvs H Q E=>∃ (G : Bg φ) (O : Addr -> Prop) (l : List PV) (n : Nat) (R : Option PV -> Nat -> Prop), (∀ p, G.fL p -> O p) /\ (∀ p, O p -> ∃ o, H p = some o) /\ G.ok H n /\ bC G.B O H l vs /\ (g l).wp n R /\
  (∀ (y : PV) (x : V) (H' : Hp) (n' : Nat), Ext G.B H H' -> G.ok H' n' -> Rep G.B O H' y x -> R (some y) n' -> Q x H') /\ ∀ (H' : Hp) (n' : Nat), Ext G.B H H' -> G.ok H' n' -> R none n' -> E (.ref C) none H'
def Jm (g : List PV -> M (Option PV)) (l : List PV) : M PV:=(g l).bind λo=>match o with | some y=>.ret y | none=>.fail
section
variable {P : Program} {w : World} {K : Frag} {mg : Str -> Option Value} {base : Heap} {C : Addr}
def HB {k : Nat} {f : Addr} {fd : FuncData} {ps : List Str} {g : List PV -> M (Option PV)} (F : aI P w K mg base (D2 P w C) k f fd ps (IC φ C g)) : aI P w K mg base bO k f fd ps (cG φ (Jm g)):=by
  have to : ∀ vs H Q E, cG φ (Jm g) vs H Q E -> IC φ C g vs H Q E0:=λvs H Q E ⟨G, O, l, n, R, pr, dm, ok, r, w, q⟩=>by
    unfold Jm at w;rw [M.wZ] at w;exact ⟨G, O, l, n, _, pr, dm, ok, r, w, λy x H' n' e o r h=>q y x H' n' e o r h, λH' n' _ _ h=>h.elim⟩
  refine ⟨λvs H Q E h=>F.len _ _ _ _ (to _ _ _ _ h), λA outer s H args us vs Q E hr e0 hb r h=>codeAny_mono (F.run A outer s H args us vs Q E0 hr e0 hb r (to _ _ _ _ h)) λr s' hq=>?_⟩
  cases r with
  | ok fl=>cases fl <;> exact hq
  | error e=>obtain ⟨a, H', _, _, _, _, _, _, z⟩:=hq; exact z.elim
def PS.mW {X : Cx} {st : Stmt} {t : TS} (h : PS X.mW st t) : PS X st t:=λpZ s σ H D I hw=>
  wpAny_mono (h pZ s σ H D (I.nF _) hw) (λ_ _ q=>q.jk) λ_ _ z=>False.elim z
def t4 {X : Cx} {st : Stmt} {sts : List Stmt} {m1 m2 : ak -> M Fl} {u : TS} (h : SV φ X.mW st m1) (h' : vf X sts (tZ (yH φ m2) u)) : vf X (st :: sts) (tZ (yH φ (aG m1 m2)) u):=vf.mono ⟨cA (PS.mW h.out) h'.out⟩ λD σ H ⟨G, O0, H0, O, ρ, n, s, w⟩=>by
  unfold aG at w;rw [M.wZ] at w;refine ⟨G, O0, H0, O, ρ, n, s, M.wp_mono w λf n' h=>?_⟩
  cases f with
  | nx ρ'=>exact λO' σ' H' s'=>⟨G, O0, H0, O', ρ', n', s', h⟩
  | rt y=>exact h
  | bk ρ'=>exact h
  | ct ρ'=>exact h
def GC {X : Cx} {sts : List Stmt} {u : TS} (h : vf X sts u) : vf X sts (tZ (yH φ λρ=>.ret (.nx ρ)) u):=vf.mono h λD σ H ⟨G, O0, H0, O, ρ, n, s, w⟩=>w O σ H s
def D8 {X : Cx} {ce : Expr} {rs st : Stmt} {p5 : Pos} {mc : ak -> M Bool} {m2 : ak -> M Fl} {u : TS} (hc : TV φ X.mW ce mc) (hr : PS X rs u) (h2 : SV φ X.mW st m2) : vf X [.If ce [rs] [] p5, st] (tZ (BN (Bj φ mc) u BM) (yH φ m2)):=
  ⟨cA (yX (PT.mW hc.out) (iX hr) qf) (iX (PS.mW h2.out))⟩
def HD : Fl -> M (Option PV)
  | .rt y=>.ret (some y)
  | _=>.fail
def fnX (a k : Nat) (m : ak -> M Fl) (mc : ak -> M Bool) (m2 : ak -> M Fl) (l : List PV) : M (Option PV):=if l.length = a then (m (br k l)).bind λfl=>match fl with | .nx ρ=>(mc ρ).bind λc=>if c = true then .ret none else (m2 ρ).bind HD | _=>.fail else .fail
def vt {G : Bg φ} {O : Addr -> Prop} {H : Hp} {l : List PV} {vs : List V} {n : Nat} {N : List Str} (pr : ∀ p, G.fL p -> O p) (dm : ∀ p, O p -> ∃ o, H p = some o) (ok : G.ok H n) (r : bC G.B O H l vs) : SI G O H O H (start N vs) (br N.length l) n:=by
  have no : ∀ i p, ¬ kc (br N.length l) (start N vs) i p:=λi p ⟨t, h1, h2, _⟩=>by
    unfold br at h1;by_cases hi : i < l.length
    · rw [Me (by simpa using hi), LU, Lx hi] at h1;cases h1; cases h2
    · rw [List.getElem?_append_right (by simpa using hi), MB] at h1;split at h1
      · cases h1; cases h2
      · cases h1
  refine ⟨⟨⟨by unfold start br; simp [r.1], λi e he=>?_⟩, ok, pr, dm⟩, pr, λp h=>h, Ext.refl _ _, λp h=>.inl h, dm, λi p h=>(no i p h).elim, λi j p h=>(no i p h).elim⟩;unfold br at he;by_cases hi : i < l.length
  · rw [Me (by simpa using hi), LU, Lx hi] at he;cases he;obtain ⟨x, hx, rr⟩:=r.at (Lx hi);exact ⟨x, by rw [jK hx]; rfl, rr⟩
  · rw [List.getElem?_append_right (by simpa using hi), MB] at he;split at he
    · cases he; trivial
    · cases he
def Ds {x qual : Str} {st : Stmt} {f : Addr} {fd : FuncData} {N ps : List Str} {k : Nat} {m m2 : ak -> M Fl} {mc : ak -> M Bool} {sc : Scope} {body : List Stmt} {g : List PV -> M (Option PV)} (hg : g = fnX ps.length N.length m mc m2) (F : jC K x qual st f fd) (S : aH N ps (ag st)) (eb : ar st = body) (es : ag st = sc)
    (hb : ∀ (fi : Value) (A : Around) (outer : List Env) (s : Shared) (H : Hp) (E : XK), fR k (A.deeper (envOfC qual sc s.heap.objs.size f fi)) -> vf (jd (D2 P w C) P w K mg base N qual sc f fi A outer s H E) body (tZ (yH φ m) (tZ (BN (Bj φ mc) (BH E C) BM) (yH φ m2)))) :
    aI P w K mg base (D2 P w C) (k + 1) f fd ps (IC φ C g):=by
  subst hg eb es;obtain ⟨oc, od, kV, doc, pm, an, fi, ct, osl, rfl, lk, hcd⟩:=F.ex;refine zA lk hcd S (λvs H Q E h=>?_) λA outer s H vs Q E hr h=>⟨_, (hb fi A outer s H E hr).out, ?_⟩
  · obtain ⟨G, O, l, n, R, _, _, _, r, w, _⟩:=h;unfold fnX at w;by_cases hc : l.length = ps.length
    · rw [<- r.1, hc]
    · rw [Ml hc] at w; exact w.elim
  · obtain ⟨G, O, l, n, R, pr, dm, ok, r, w, q1, q2⟩:=h;unfold fnX at w;by_cases hc : l.length = ps.length
    · rw [Mk hc, M.wZ] at w;refine ⟨G, O, H, O, br N.length l, n, vt pr dm ok r, M.wp_mono w λf n1 h=>?_⟩
      cases f with
      | nx ρ=>
        intro O1 σ1 H1 s1;have h : ((mc ρ).bind λc=>if c = true then M.ret none else (m2 ρ).bind HD).wp n1 R:=h;rw [M.wZ] at h;refine ⟨G, O1, ρ, n1, _, s1.es, h, λb H2 n2 e2 oY h2=>?_⟩
        cases b with
        | true=>exact KR (q2 H2 n2 (s1.ext.trans e2) oY h2)
        | false=>
          refine KS ?_;have h2 : ((m2 ρ).bind HD).wp n2 R:=h2;rw [M.wZ] at h2;refine ⟨G, O, H, O1, ρ, n2, s1.to e2 oY, M.wp_mono h2 λf n3 h3=>?_⟩
          cases f with
          | rt y=>exact λx' H' e' ok' r'=>q1 y x' H' n3 e' ok' r' h3
          | nx ρ=>exact h3.elim
          | bk ρ=>exact h3.elim
          | ct ρ=>exact h3.elim
      | rt y=>exact h.elim
      | bk ρ=>exact h.elim
      | ct ρ=>exact h.elim
    · rw [Ml hc] at w; exact w.elim
end
end
section
structure Gr (K : Frag) (mg : Str -> Option Value) (x y : Str) (C D : Addr) (bm : List Value) (newId : String) : Prop where
  n1 : nsIn K mainGlobals x = some (some (.ref C))
  m1 : mg x = some (.ref C)
  m2 : mg y = some (.ref D)
  cl : PySem.W.excIn K C bm newId = true
  hit : PySem.W.exmOne K (.ref C) (.ref D) = some true
variable {φ : iE}
def CL (a : Nat) (g : List PV -> M (Option PV)) (l : List PV) : M PV:=if l.length = a then (g l).bind λo=>match o with | none=>.ret (.bl true) | some _=>.fail else .fail
section
variable {P : Program} {w : World} {K : Frag} {mg : Str -> Option Value} {base : Heap} {C : Addr}
def HA {x qual : Str} {st : Stmt} {f : Addr} {fd : FuncData} {N ps : List Str} {k i j : Nat} {ma : ak -> M (List PV)} {sc : Scope} {body : List Stmt} {g : List PV -> M (Option PV)} (F : jC K x qual st f fd) (S : aH N ps (ag st)) (eb : ar st = body) (es : ag st = sc) (hij : i ≠ j) (hjN : j < N.length)
    (hma : ∀ l, l.length = ps.length -> ma ((br N.length l).set j (.val .cB)) = .ret l)
    (hb : ∀ (fi : Value) (A : Around) (outer : List Env) (s : Shared) (H : Hp) (E : XK), fR k (A.deeper (envOfC qual sc s.heap.objs.size f fi)) -> vf (jd bO P w K mg base N qual sc f fi A outer s H E) body (tZ (yH φ (bF j λ_=>.ret .cB)) (tZ (Ir (IC φ C g) C (Io φ ma) i j)
      (D6 (BR (λxs H Q=>∃ a C, xs = [.ref a, .ref C] /\ H a = some (.ext (vd C a)) /\ Q (.bl true) H) (fU (p6 j) (fU (tC (.ref C)) mM))))))) :
    aI P w K mg base bO (k + 1) f fd ps (cG φ (CL ps.length g)):=by
  subst eb es;obtain ⟨oc, od, kV, doc, pm, an, fi, ct, osl, rfl, lk, hcd⟩:=F.ex;refine zA lk hcd S (λvs H Q E h=>?_) λA outer s H vs Q E hr h=>⟨_, (hb fi A outer s H E hr).out, ?_⟩
  · obtain ⟨G, O, l, n, R, _, _, _, r, w, _⟩:=h;unfold CL at w;by_cases hc : l.length = ps.length
    · rw [<- r.1, hc]
    · rw [Ml hc] at w; exact w.elim
  · obtain ⟨G, O, l, n, R, pr, dm, ok, r, w, q⟩:=h;unfold CL at w;by_cases hc : l.length = ps.length
    · rw [Mk hc, M.wZ] at w;refine ⟨G, O, H, O, br N.length l, n, vt pr dm ok r, λO1 σ1 H1 s1=>?_⟩;refine ⟨G, O1, (br N.length l).set j (.val .cB), n, λy n'=>y = l /\ n' = n, s1.es, by rw [hma l hc]; exact ⟨rfl, rfl⟩, λl1 xs H2 n2 e2 oY r2 h2=>?_⟩;obtain ⟨rfl, rfl⟩:=h2;refine ⟨G, O1, l1, n2, _, s1.es.pr, (s1.to e2 oY).es.dm, oY, r2, w, λy x H' n' _ _ _ h=>False.elim h, λH3 n3 e3 ok3 h3 a ha=>?_⟩
      have lj : j < σ1.length:=by
        rw [s1.es.er.1, List.length_set];unfold br;rw [L0, LA, List.length_replicate];omega
      refine ⟨.ref a, by rw [L7 hij, Mm lj], a, C, rfl, aA, ?_⟩;exact q (.bl true) _ _ n3 ((s1.ext.trans (e2.trans e3)).trans (Ext.new ha _)) (Bg.new ok3 ha _) (.bl true) h3
    · rw [Ml hc] at w; exact w.elim
end
end
end L2
namespace K65
open L2
open L2.Ent (val un)
def top (i : Nat) : Stmt:=PySem.Challenge.pw_homeslopes_k65_books_written_and_read.main.body.getD i (.Pass ⟨0, 0, 0, 0⟩)
abbrev eM : Stmt:=top 5
def vA : aH ["thing"] ["thing"] (ag eM):=⟨rfl, rfl, rfl, by decide +kernel, rfl, by decide +kernel, by decide +kernel⟩
abbrev dG : Stmt:=top 6
def ue : aH ["thing", "low", "high"] ["thing", "low", "high"] (ag dG):=⟨rfl, rfl, rfl, by decide +kernel, rfl, by decide +kernel, by decide +kernel⟩
abbrev eZ : Stmt:=top 7
def xv : aH ["thing"] ["thing"] (ag eZ):=⟨rfl, rfl, rfl, by decide +kernel, rfl, by decide +kernel, by decide +kernel⟩
abbrev dC : Stmt:=top 8
def nI : aH ["hill", "name", "way"] ["hill", "name"] (ag dC):=⟨rfl, rfl, rfl, by decide +kernel, rfl, by decide +kernel, by decide +kernel⟩
abbrev cx : Stmt:=top 14
def qv : aH ["hill", "thing"] ["hill", "thing"] (ag cx):=⟨rfl, rfl, rfl, by decide +kernel, rfl, by decide +kernel, by decide +kernel⟩
abbrev bN : Stmt:=top 15
def oK : aH ["hill", "thing"] ["hill", "thing"] (ag bN):=⟨rfl, rfl, rfl, by decide +kernel, rfl, by decide +kernel, by decide +kernel⟩
abbrev eO : Stmt:=top 16
def vC : aH ["a", "b"] ["a", "b"] (ag eO):=⟨rfl, rfl, rfl, by decide +kernel, rfl, by decide +kernel, by decide +kernel⟩
abbrev bt : Stmt:=top 17
def mr : aH ["thing"] ["thing"] (ag bt):=⟨rfl, rfl, rfl, by decide +kernel, rfl, by decide +kernel, by decide +kernel⟩
abbrev fH : Stmt:=top 18
def qw : aH ["hill", "thing", "word"] ["hill", "thing"] (ag fH):=⟨rfl, rfl, rfl, by decide +kernel, rfl, by decide +kernel, by decide +kernel⟩
abbrev dR : Stmt:=top 19
def vB : aH ["hill", "thing"] ["hill", "thing"] (ag dR):=⟨rfl, rfl, rfl, by decide +kernel, rfl, by decide +kernel, by decide +kernel⟩
abbrev fI : Stmt:=top 20
def qx : aH ["hill", "thing", "word"] ["hill", "thing"] (ag fI):=⟨rfl, rfl, rfl, by decide +kernel, rfl, by decide +kernel, by decide +kernel⟩
abbrev fe : Stmt:=top 21
def xx : aH ["pages"] ["pages"] (ag fe):=⟨rfl, rfl, rfl, by decide +kernel, rfl, by decide +kernel, by decide +kernel⟩
abbrev eh : Stmt:=top 22
def xw : aH ["hill", "thing"] ["hill", "thing"] (ag eh):=⟨rfl, rfl, rfl, by decide +kernel, rfl, by decide +kernel, by decide +kernel⟩
abbrev bX : Stmt:=top 25
def qy : aH ["word"] ["word"] (ag bX):=⟨rfl, rfl, rfl, by decide +kernel, rfl, by decide +kernel, by decide +kernel⟩
abbrev eG : Stmt:=top 26
def vx : aH ["word"] ["word"] (ag eG):=⟨rfl, rfl, rfl, by decide +kernel, rfl, by decide +kernel, by decide +kernel⟩
abbrev fV : Stmt:=top 27
def Ag : aH ["text"] ["text"] (ag fV):=⟨rfl, rfl, rfl, by decide +kernel, rfl, by decide +kernel, by decide +kernel⟩
abbrev eX : Stmt:=top 28
def xt : aH ["text"] ["text"] (ag eX):=⟨rfl, rfl, rfl, by decide +kernel, rfl, by decide +kernel, by decide +kernel⟩
abbrev fF : Stmt:=top 29
def qu : aH ["text", "words"] ["text"] (ag fF):=⟨rfl, rfl, rfl, by decide +kernel, rfl, by decide +kernel, by decide +kernel⟩
abbrev dD : Stmt:=top 30
def ub : aH ["hill", "text"] ["hill", "text"] (ag dD):=⟨rfl, rfl, rfl, by decide +kernel, rfl, by decide +kernel, by decide +kernel⟩
abbrev cX : Stmt:=top 31
def kR : aH ["hill", "text", "lines", "book"] ["hill", "text"] (ag cX):=⟨rfl, rfl, rfl, by decide +kernel, rfl, by decide +kernel, by decide +kernel⟩
abbrev dQ : Stmt:=top 33
def vy : aH ["things"] ["things"] (ag dQ):=⟨rfl, rfl, rfl, by decide +kernel, rfl, by decide +kernel, by decide +kernel⟩
abbrev cW : Stmt:=top 34
def ua : aH ["rows"] ["rows"] (ag cW):=⟨rfl, rfl, rfl, by decide +kernel, rfl, by decide +kernel, by decide +kernel⟩
abbrev dE : Stmt:=top 35
def uc : aH ["page"] ["page"] (ag dE):=⟨rfl, rfl, rfl, by decide +kernel, rfl, by decide +kernel, by decide +kernel⟩
abbrev da : Stmt:=top 36
def uf : aH ["book"] ["book"] (ag da):=⟨rfl, rfl, rfl, by decide +kernel, rfl, by decide +kernel, by decide +kernel⟩
abbrev iG : Stmt:=top 38
def jS : aH ["_law_script", "_law_top", "_law_seed", "_law_cell"] ["_law_script"] (ag iG):=⟨rfl, rfl, rfl, by decide +kernel, rfl, by decide +kernel, by decide +kernel⟩
abbrev fW : Stmt:=top 39
def i8 : aH ["_law_bag_here", "_law_many", "_law_cell", "_law_digit", "_law_one", "_law_two"] ["_law_bag_here", "_law_many"] (ag fW):=⟨rfl, rfl, rfl, by decide +kernel, rfl, by decide +kernel, by decide +kernel⟩
abbrev fG : Stmt:=top 40
def xu : aH ["_law_bag_here", "_law_some"] ["_law_bag_here", "_law_some"] (ag fG):=⟨rfl, rfl, rfl, by decide +kernel, rfl, by decide +kernel, by decide +kernel⟩
abbrev cZ : Stmt:=top 41
def nJ : aH ["_law_bag_here", "_law_size"] ["_law_bag_here"] (ag cZ):=⟨rfl, rfl, rfl, by decide +kernel, rfl, by decide +kernel, by decide +kernel⟩
abbrev cP : Stmt:=top 42
def eF : aH ["_law_bag_here", "_law_many", "_law_letters", "_law_found", "_law_stem", "_law_k", "_law_name", "_law_turn"] ["_law_bag_here", "_law_many"] (ag cP):=⟨rfl, rfl, rfl, by decide +kernel, rfl, by decide +kernel, by decide +kernel⟩
abbrev eK : Stmt:=top 43
def vz : aH ["_law_bag_here", "_law_scale"] ["_law_bag_here", "_law_scale"] (ag eK):=⟨rfl, rfl, rfl, by decide +kernel, rfl, by decide +kernel, by decide +kernel⟩
abbrev eL : Stmt:=top 44
def fm : aH ["_law_bag_here", "_law_many", "_law_scale", "_law_spots", "_law_ways", "_law_name", "_law_kind", "_law_start", "_law_end", "_law_paces", "_law_dark"] ["_law_bag_here"] (ag eL):=⟨rfl, rfl, rfl, by decide +kernel, rfl, by decide +kernel, by decide +kernel⟩
abbrev cO : Stmt:=top 45
def r9 : aH ["_law_bag_here", "_law_hill_here"] ["_law_bag_here", "_law_hill_here"] (ag cO):=⟨rfl, rfl, rfl, by decide +kernel, rfl, by decide +kernel, by decide +kernel⟩
abbrev eI : Stmt:=top 46
def j6 : aH ["_law_bag_here", "_law_hill_here", "_law_way", "_law_number", "_law_a"] ["_law_bag_here", "_law_hill_here"] (ag eI):=⟨rfl, rfl, rfl, by decide +kernel, rfl, by decide +kernel, by decide +kernel⟩
abbrev cY : Stmt:=top 47
def ud : aH ["_law_bag_here", "_law_hill_here"] ["_law_bag_here", "_law_hill_here"] (ag cY):=⟨rfl, rfl, rfl, by decide +kernel, rfl, by decide +kernel, by decide +kernel⟩
abbrev cz : Stmt:=top 48
def r8 : aH ["_law_hill_here"] ["_law_hill_here"] (ag cz):=⟨rfl, rfl, rfl, by decide +kernel, rfl, by decide +kernel, by decide +kernel⟩
abbrev eJ : Stmt:=top 49
def lD : aH ["_law_bag_here", "_law_hill_here", "_law_number", "_law_way", "_law_moment_here", "_law_slopes_here", "_law_value"] ["_law_bag_here", "_law_hill_here", "_law_number"] (ag eJ):=⟨rfl, rfl, rfl, by decide +kernel, rfl, by decide +kernel, by decide +kernel⟩
abbrev dF : Stmt:=top 50
def gp : aH ["_law_bag_here", "_law_hill_here", "_law_many", "_law_numbers", "_law_pages_here", "_law_k", "_law_number", "_law_turn"] ["_law_bag_here", "_law_hill_here", "_law_many"] (ag dF):=⟨rfl, rfl, rfl, by decide +kernel, rfl, by decide +kernel, by decide +kernel⟩
abbrev bw : Stmt:=top 51
def j5 : aH ["_law_rules_here", "_law_texts"] ["_law_rules_here"] (ag bw):=⟨rfl, rfl, rfl, by decide +kernel, rfl, by decide +kernel, by decide +kernel⟩
abbrev bM : Stmt:=top 52
def kC : aH ["_law_page_here", "_law_text"] ["_law_page_here"] (ag bM):=⟨rfl, rfl, rfl, by decide +kernel, rfl, by decide +kernel, by decide +kernel⟩
abbrev cw : Stmt:=top 53
def jR : aH ["_law_hill_here", "_law_text", "_law_caught", "error"] ["_law_hill_here", "_law_text"] (ag cw):=⟨rfl, rfl, rfl, by decide +kernel, rfl, by decide +kernel, by decide +kernel⟩
abbrev jv : Stmt:=top 54
def kT : aH ["_law_script", "_law_bag_here", "_law_turn", "_law_hill_here", "_law_pages_here", "_law_book", "_law_text", "_law_due", "_law_cut", "_law_other"] ["_law_script"] (ag jv):=⟨rfl, rfl, rfl, by decide +kernel, rfl, by decide +kernel, by decide +kernel⟩
structure Txt (K : Frag) (mg : Str -> Option Value) (a_is_whole a_is_within a_is_name a_way_named a_is_way_name a_is_slope_name a_is_hours a_begins_with_text a_is_rule a_is_rules a_is_page a_book_of a_is_book a_are_figures a_thing_of a_row_of a_rows_of a_page_of a_read_page a_read_book a_row_text a_rows_text a_page_text a_book_text awbag awdraw awany awlabel awlabels awpace awhill awmoment awrule awrules awslopes awpage awpages awrules_text awpage_text awrefused a_law cb_book_of tb_book_of cb_law tb_law : Addr) (d_is_whole d_is_within d_is_name d_way_named d_is_way_name d_is_slope_name d_is_hours d_begins_with_text d_is_rule d_is_rules d_is_page d_book_of d_is_book d_are_figures d_thing_of d_row_of d_rows_of d_page_of d_read_page d_read_book d_row_text d_rows_text d_page_text d_book_text dwbag dwdraw dwany dwlabel dwlabels dwpace dwhill dwmoment dwrule dwrules dwslopes dwpage dwpages dwrules_text dwpage_text dwrefused d_law : FuncData) : Prop where
  cF : jC K "is_whole" "is_whole" eM a_is_whole d_is_whole
  gU : mg "is_whole" = some (.ref a_is_whole)
  m9 : Binds K d_is_whole ["thing"] []
  bf : jC K "is_within" "is_within" dG a_is_within d_is_within
  dH : mg "is_within" = some (.ref a_is_within)
  jf : Binds K d_is_within ["thing", "low", "high"] []
  cq : jC K "is_name" "is_name" eZ a_is_name d_is_name
  h7 : mg "is_name" = some (.ref a_is_name)
  pf : Binds K d_is_name ["thing"] []
  cm : jC K "way_named" "way_named" dC a_way_named d_way_named
  fo : mg "way_named" = some (.ref a_way_named)
  pU : Binds K d_way_named ["hill", "name"] []
  bA : jC K "is_way_name" "is_way_name" cx a_is_way_name d_is_way_name
  dI : mg "is_way_name" = some (.ref a_is_way_name)
  ku : Binds K d_is_way_name ["hill", "thing"] []
  cI : jC K "is_slope_name" "is_slope_name" bN a_is_slope_name d_is_slope_name
  ei : mg "is_slope_name" = some (.ref a_is_slope_name)
  p9 : Binds K d_is_slope_name ["hill", "thing"] []
  gm : jC K "is_hours" "is_hours" eO a_is_hours d_is_hours
  iQ : mg "is_hours" = some (.ref a_is_hours)
  yx : Binds K d_is_hours ["a", "b"] []
  a9 : jC K "begins_with_text" "begins_with_text" bt a_begins_with_text d_begins_with_text
  cj : mg "begins_with_text" = some (.ref a_begins_with_text)
  jV : Binds K d_begins_with_text ["thing"] []
  gy : jC K "is_rule" "is_rule" fH a_is_rule d_is_rule
  jN : mg "is_rule" = some (.ref a_is_rule)
  A8 : Binds K d_is_rule ["hill", "thing"] []
  gk : jC K "is_rules" "is_rules" dR a_is_rules d_is_rules
  iO : mg "is_rules" = some (.ref a_is_rules)
  yw : Binds K d_is_rules ["hill", "thing"] []
  dO : jC K "is_page" "is_page" fI a_is_page d_is_page
  iP : mg "is_page" = some (.ref a_is_page)
  tQ : Binds K d_is_page ["hill", "thing"] []
  iV : jC K "book_of" "book_of" fe a_book_of d_book_of
  jP : mg "book_of" = some (.ref a_book_of)
  Ba : Binds K d_book_of ["pages"] []
  fJ : jC K "is_book" "is_book" eh a_is_book d_is_book
  jO : mg "is_book" = some (.ref a_is_book)
  A9 : Binds K d_is_book ["hill", "thing"] []
  cc : jC K "are_figures" "are_figures" bX a_are_figures d_are_figures
  eQ : mg "are_figures" = some (.ref a_are_figures)
  mI : Binds K d_are_figures ["word"] []
  fB : jC K "thing_of" "thing_of" eG a_thing_of d_thing_of
  iJ : mg "thing_of" = some (.ref a_thing_of)
  yr : Binds K d_thing_of ["word"] []
  dU : jC K "row_of" "row_of" fV a_row_of d_row_of
  ja : mg "row_of" = some (.ref a_row_of)
  rN : Binds K d_row_of ["text"] []
  gx : jC K "rows_of" "rows_of" eX a_rows_of d_rows_of
  jM : mg "rows_of" = some (.ref a_rows_of)
  A6 : Binds K d_rows_of ["text"] []
  eu : jC K "page_of" "page_of" fF a_page_of d_page_of
  iK : mg "page_of" = some (.ref a_page_of)
  tP : Binds K d_page_of ["text"] []
  bU : jC K "read_page" "read_page" dD a_read_page d_read_page
  hM : mg "read_page" = some (.ref a_read_page)
  wU : Binds K d_read_page ["hill", "text"] []
  df : jC K "read_book" "read_book" cX a_read_book d_read_book
  pM : mg "read_book" = some (.ref a_read_book)
  pV : Binds K d_read_book ["hill", "text"] []
  ck : jC K "row_text" "row_text" dQ a_row_text d_row_text
  fX : mg "row_text" = some (.ref a_row_text)
  m8 : Binds K d_row_text ["things"] []
  ft : jC K "rows_text" "rows_text" cW a_rows_text d_rows_text
  hG : mg "rows_text" = some (.ref a_rows_text)
  wR : Binds K d_rows_text ["rows"] []
  fu : jC K "page_text" "page_text" dE a_page_text d_page_text
  hV : mg "page_text" = some (.ref a_page_text)
  wV : Binds K d_page_text ["page"] []
  eE : jC K "book_text" "book_text" da a_book_text d_book_text
  h8 : mg "book_text" = some (.ref a_book_text)
  wY : Binds K d_book_text ["book"] []
  tS : jC K "_law_bag" "_law_bag" iG awbag dwbag
  Az : mg "_law_bag" = some (.ref awbag)
  A7 : Binds K dwbag ["_law_script"] []
  ao : jC K "_law_draw" "_law_draw" fW awdraw dwdraw
  aQ : mg "_law_draw" = some (.ref awdraw)
  aU : Binds K dwdraw ["_law_bag_here", "_law_many"] []
  aO : jC K "_law_any" "_law_any" fG awany dwany
  bV : mg "_law_any" = some (.ref awany)
  fh : Binds K dwany ["_law_bag_here", "_law_some"] []
  dM : jC K "_law_label" "_law_label" cZ awlabel dwlabel
  fY : mg "_law_label" = some (.ref awlabel)
  pW : Binds K dwlabel ["_law_bag_here"] []
  cV : jC K "_law_labels" "_law_labels" cP awlabels dwlabels
  fz : mg "_law_labels" = some (.ref awlabels)
  oD : Binds K dwlabels ["_law_bag_here", "_law_many"] []
  eS : jC K "_law_pace" "_law_pace" eK awpace dwpace
  gT : mg "_law_pace" = some (.ref awpace)
  rO : Binds K dwpace ["_law_bag_here", "_law_scale"] []
  gh : jC K "_law_hill" "_law_hill" eL awhill dwhill
  iN : mg "_law_hill" = some (.ref awhill)
  yv : Binds K dwhill ["_law_bag_here"] []
  cE : jC K "_law_moment" "_law_moment" cO awmoment dwmoment
  fw : mg "_law_moment" = some (.ref awmoment)
  oC : Binds K dwmoment ["_law_bag_here", "_law_hill_here"] []
  gf : jC K "_law_rule" "_law_rule" eI awrule dwrule
  iL : mg "_law_rule" = some (.ref awrule)
  yt : Binds K dwrule ["_law_bag_here", "_law_hill_here"] []
  fv : jC K "_law_rules" "_law_rules" cY awrules dwrules
  hW : mg "_law_rules" = some (.ref awrules)
  wW : Binds K dwrules ["_law_bag_here", "_law_hill_here"] []
  eC : jC K "_law_slopes" "_law_slopes" cz awslopes dwslopes
  gs : mg "_law_slopes" = some (.ref awslopes)
  u7 : Binds K dwslopes ["_law_hill_here"] []
  gg : jC K "_law_page" "_law_page" eJ awpage dwpage
  iM : mg "_law_page" = some (.ref awpage)
  yu : Binds K dwpage ["_law_bag_here", "_law_hill_here", "_law_number"] []
  eD : jC K "_law_pages" "_law_pages" dF awpages dwpages
  hZ : mg "_law_pages" = some (.ref awpages)
  wX : Binds K dwpages ["_law_bag_here", "_law_hill_here", "_law_many"] []
  cn : jC K "_law_rules_text" "_law_rules_text" bw awrules_text dwrules_text
  dN : mg "_law_rules_text" = some (.ref awrules_text)
  pd : Binds K dwrules_text ["_law_rules_here"] []
  bu : jC K "_law_page_text" "_law_page_text" bM awpage_text dwpage_text
  dn : mg "_law_page_text" = some (.ref awpage_text)
  lr : Binds K dwpage_text ["_law_page_here"] []
  cU : jC K "_law_refused" "_law_refused" cw awrefused dwrefused
  sj : mg "_law_refused" = some (.ref awrefused)
  sC : Binds K dwrefused ["_law_hill_here", "_law_text"] []
  Lk : jC K "law" "law" jv a_law d_law
  Lf : mg "law" = some (.ref a_law)
  pX : Binds K d_law ["_law_script"] []
  gI : mg "len" = none
  Jt : mg "abs" = none
  zj : mg "all" = none
  cD : mg "isinstance" = none
  kW : mg "range" = none
  mF : mg "str" = none
  Hh : mg "bool" = none
  CZ : mg "int" = none
  i3 : mg "tuple" = none
  FY : mg "max" = none
  Js : mg "min" = none
  we : mg "sorted" = none
  CY : mg "repr" = none
  rG : ∃ t, mg "MOST_LETTERS" = some (.int 8 t)
  wD : ∃ t, mg "MOST_HOUR" = some (.int 1000001 t)
  sx : ∃ t, mg "MOST_LOOKED" = some (.int 1000000 t)
  uW : ∃ t, mg "MOST_RULES" = some (.int 6 t)
  sv : ∃ t, mg "MOST_NUMBER" = some (.int 999999 t)
  rH : ∃ t, mg "MOST_FIGURES" = some (.int 60 t)
  tR : yF K "book_of" "book_of" fe a_book_of d_book_of cb_book_of tb_book_of
  Gq : yF K "law" "law" jv a_law d_law cb_law tb_law
  qR : tb_book_of ≠ tb_law
  qQ : tb_law ≠ tb_book_of
  xb : ∃ cN cH, Gr K mg "NoText" "HillError" cN cH [.type "ValueError", .type "Exception", .type "BaseException", .type "object"] "ValueError.__new__"
abbrev aZ (tb_book_of tb_law : Addr) (K : Frag) : iE:=rB K [(tb_book_of, (("book_of" : Str) ++ ".<locals>." ++ "<lambda>")), (tb_law, (("law" : Str) ++ ".<locals>." ++ "<lambda>"))]
def xB {i : Int} (h0 : 0 <= i) (h1 : i < 2 ^ 80) : (0 : Int) <= 3 /\ (Builtin.Int.intBits i : Int) * 3 <= 2 ^ 27:=by
  have h2 : i.natAbs < 2 ^ 80:=by
    have e : (2 : Int) ^ 80 = ((2 ^ 80 : Nat) : Int):=by decide
    rw [e] at h1;omega
  have:=intBits_le h2;refine ⟨by decide, ?_⟩;have e : (2 : Int) ^ 27 = 134217728:=by decide
  rw [e];omega
def o1 {i j : Int} (h0 : 0 <= j) (h1 : j < 2 ^ 63) : qa i j:=by
  have e : (2 : Int) ^ 63 = 9223372036854775808:=by decide
  have e2 : (2 : Int) ^ 64 = 18446744073709551616:=by decide
  rw [e] at h1;exact .inr ⟨by rw [e2]; omega, by rw [e2]; omega⟩
def qS {i j : Int} (h0 : 0 <= i) (h1 : i < 2 ^ 63) : qa i j:=by
  have e : (2 : Int) ^ 63 = 9223372036854775808:=by decide
  have e2 : (2 : Int) ^ 64 = 18446744073709551616:=by decide
  rw [e] at h1;exact .inl ⟨by rw [e2]; omega, by rw [e2]; omega⟩
def Hj {i : Int} (h : i < 1208925819614629174706176) : i < 2 ^ 80:=by
  have e : (2 : Int) ^ 80 = 1208925819614629174706176:=by decide
  rw [e]; exact h
def EK {P : Program} {w : World} {K : Frag} {mg : Str -> Option Value} {base : Heap} {a_is_whole a_is_within a_is_name a_way_named a_is_way_name a_is_slope_name a_is_hours a_begins_with_text a_is_rule a_is_rules a_is_page a_book_of a_is_book a_are_figures a_thing_of a_row_of a_rows_of a_page_of a_read_page a_read_book a_row_text a_rows_text a_page_text a_book_text awbag awdraw awany awlabel awlabels awpace awhill awmoment awrule awrules awslopes awpage awpages awrules_text awpage_text awrefused a_law cb_book_of tb_book_of cb_law tb_law : Addr} {d_is_whole d_is_within d_is_name d_way_named d_is_way_name d_is_slope_name d_is_hours d_begins_with_text d_is_rule d_is_rules d_is_page d_book_of d_is_book d_are_figures d_thing_of d_row_of d_rows_of d_page_of d_read_page d_read_book d_row_text d_rows_text d_page_text d_book_text dwbag dwdraw dwany dwlabel dwlabels dwpace dwhill dwmoment dwrule dwrules dwslopes dwpage dwpages dwrules_text dwpage_text dwrefused d_law : FuncData} (T : Txt K mg a_is_whole a_is_within a_is_name a_way_named a_is_way_name a_is_slope_name a_is_hours a_begins_with_text a_is_rule a_is_rules a_is_page a_book_of a_is_book a_are_figures a_thing_of a_row_of a_rows_of a_page_of a_read_page a_read_book a_row_text a_rows_text a_page_text a_book_text awbag awdraw awany awlabel awlabels awpace awhill awmoment awrule awrules awslopes awpage awpages awrules_text awpage_text awrefused a_law cb_book_of tb_book_of cb_law tb_law d_is_whole d_is_within d_is_name d_way_named d_is_way_name d_is_slope_name d_is_hours d_begins_with_text d_is_rule d_is_rules d_is_page d_book_of d_is_book d_are_figures d_thing_of d_row_of d_rows_of d_page_of d_read_page d_read_book d_row_text d_rows_text d_page_text d_book_text dwbag dwdraw dwany dwlabel dwlabels dwpace dwhill dwmoment dwrule dwrules dwslopes dwpage dwpages dwrules_text dwpage_text dwrefused d_law) : aI P w K mg base bO 1 awdraw dwdraw ["_law_bag_here", "_law_many"] B1:=by
  refine T.ao.ok i8 (λvs H Q E h=>?_) (λfi A outer s H vs Q E hr h=>?_)
  · obtain ⟨a, c, n, m, rfl, _⟩:=h;rfl
  obtain ⟨a, c, n, m, rfl, bH, hn, hm0, hm1, q⟩:=h;have gE:=Nat.lt_of_succ_lt (Ga hr);obtain ⟨p, k, sd, cells, e1, e2, p0, k0, s0, s1, c0, cl⟩:=bH.ex;have hca : c ≠ a:=bH.ne
  have bagOk : ∀ p' k' sd' : Int, 0 <= p' -> 0 <= k' -> 0 <= sd' -> sd' < 2305843009213693951 -> Fv (upd H a (.lst [.int p', .int k', .int ((n : Int) + 1), .int sd', .ref c])) a c (n + 1):=λp' k' sd' h1 h2 h3 h4=>
    ⟨p', k', sd', cells, by rw [aA]; rfl, by rw [az hca]; exact e2, h1, h2, h3, h4, c0, cl⟩
  have tail : ∃ t, xg (jd bO P w K mg base ["_law_bag_here", "_law_many", "_law_cell", "_law_digit", "_law_one", "_law_two"] "_law_draw" (ag fW) awdraw fi A outer s H E).mW ((ar fW).drop 2) t /\ ∀ (v2 : Option V) (p' k' sd' : Int), 0 <= p' -> 0 <= k' -> 0 <= sd' -> sd' < 2305843009213693951 ->
      t { nx:=λ_ H'=>Q .cB H', rt:=Q } [some (.ref a), some (.int m), v2, none, none, none] (upd H a (.lst [.int p', .int k', .int ((n : Int) + 1), .int sd', .ref c])):=by
    refine ⟨_, (cA (yX (nM vT (gZ eW (pv 0) aJ (λ_ _=>rfl)) aJ (aW _)) (cA (mS (i:=3) i8.nd rfl (Or.inl rfl) (cg jr (gZ eW (pv 0) aJ (λ_ _=>rfl)) (pv 1)))
    (cA (oO (cg nV (gZ eW (pv 0) aJ (λ_ _=>rfl)) (pv 1)) (qG (pv 0) aJ set_list))
    (iX (qC (pv 3))))) qf)
    (cA (mS (i:=4) i8.nd rfl (Or.inl rfl) (cg jr (cg jD (cg jT (gZ eW (pv 0) aJ (λ_ _=>rfl)) (cg oV aJ (gZ eW (pv 0) aJ (λ_ _=>rfl)))) aJ) aJ))
    (cA (mS (i:=5) i8.nd rfl (Or.inl rfl) (cg jr (cg oV (cg jT (pv 4) (cg oV aJ (gZ eW (pv 0) aJ (λ_ _=>rfl)))) (cg jT (cg jr (pv 4) aJ) aJ)) aJ))
    (iX (qC (cg jr (cg jT (cg nV (pv 5) aJ) (cg nV (pv 5) aJ)) (pv 1))))))), λv2 p' k' sd' h1 h2 h3 h4=>?_⟩
    refine ⟨_, rfl, a, _, _, _, rfl, rfl, fk.of aA, rfl, _, _, rfl, rfl, _, rfl, ?_⟩;refine E1 (λc1=>?_) (λc1=>?_)
    · refine ⟨_, rfl, a, _, _, _, rfl, rfl, fk.of aA, rfl, _, rfl, _, _, rfl, rfl, hm0, ?_⟩;refine ⟨_, rfl, a, _, _, _, rfl, rfl, fk.of aA, rfl, _, rfl, _, _, rfl, rfl, ⟨hm0, by omega⟩, ?_⟩;refine ⟨_, rfl, a, _, _, _, rfl, rfl, aA, rfl, ?_⟩;refine ⟨_, rfl, ?_⟩;rw [tV];exact q _ _ (Mx _ (by omega)) (Mw _ hm0) (bagOk _ _ _ (Int.ediv_nonneg h1 (by omega)) h2 h3 h4)
    · have hn' : (n : Int) < 1000000:=by omega
      have n0 : (0 : Int) <= n:=Int.natCast_nonneg _;refine ⟨_, rfl, a, _, _, _, rfl, rfl, fk.of aA, rfl, _, rfl, a, _, _, _, rfl, rfl, fk.of aA, rfl, _, _, rfl, rfl, qS (by decide) (by decide), _, _, rfl, rfl, _, _, rfl, rfl, xB (by omega) (Hj (by omega)), _, _, rfl, rfl, (by show (0 : Int) < _; decide), ?_⟩;refine ⟨_, rfl, _, rfl, a, _, _, _, rfl, rfl, fk.of aA, rfl, _, _, rfl, rfl, qS (by decide) (by decide), _, _, rfl, rfl, _, rfl, _, _, rfl, rfl, (by show (0 : Int) < _; decide), _, _, rfl, rfl, _, _, rfl, rfl, o1 ?_ ?_, _, _, rfl, rfl, (by show (0 : Int) < _; decide), ?_⟩
      · have:=Mx (((sd' + 67867967 * ((n : Int) + 1)) ^ (3 : Int).toNat) % 2305843009213693907) (show (122949823 : Int) ≠ 0 by decide);omega
      · have:=Mw (((sd' + 67867967 * ((n : Int) + 1)) ^ (3 : Int).toNat) % 2305843009213693907) (show (0 : Int) < 122949823 by decide);have e : (2 : Int) ^ 63 = 9223372036854775808:=by decide
        rw [e];omega
      · refine ⟨_, rfl, _, _, rfl, rfl, ⟨by decide, by decide⟩, _, rfl, _, _, rfl, rfl, ⟨by decide, by decide⟩, _, _, rfl, rfl, _, rfl, _, _, rfl, rfl, hm0, ?_⟩;exact q _ _ (Mx _ (by omega)) (Mw _ hm0) (bagOk _ _ _ h1 h2 h3 h4)
  obtain ⟨tt, dt, ht⟩:=tail
  refine ⟨_, (cA (oO (cg jT (gZ eW (pv 0) aJ (λ_ _=>rfl)) aJ) (qG (pv 0) aJ set_list))
    (cA (yX (PW.pt (Cn (nM Jk (gZ eW (pv 0) aJ (λ_ _=>rfl)) aJ (aW _)) (yV (nM vS (gZ eW (pv 0) aJ (λ_ _=>rfl)) (nR wO rfl T.gI PySem.boot_len (fO (gZ eW (pv 0) aJ (λ_ _=>rfl)) jq)) (aW _))))) (cA (mS (i:=2) i8.nd rfl (Or.inl rfl) (gZ eW (gZ eW (pv 0) aJ (λ_ _=>rfl)) (gZ eW (pv 0) aJ (λ_ _=>rfl)) (λ_ _=>rfl)))
    (cA (oO (cg jT (gZ eW (pv 0) aJ (λ_ _=>rfl)) aJ) (qG (pv 0) aJ set_list))
    (cA (oO (cg jr (cg jD (cg jT (cg jT (cg oV (gZ eW (pv 0) aJ (λ_ _=>rfl)) aJ) (cg jr (pv 2) aJ)) aJ) aJ) aJ) (qG (pv 0) aJ set_list))
    (iX (oO (vO (nM Jj (pv 2) (cg jD aJ aJ) (aW _)) (pv 2) aJ) (qG (pv 0) aJ set_list)))))) qf)
    dt)), ?_⟩
  refine ⟨_, rfl, a, _, _, _, rfl, rfl, fk.of e1, rfl, _, _, rfl, rfl, _, rfl, a, _, _, _, rfl, rfl, e1, rfl, ?_⟩;refine ⟨_, rfl, a, _, _, _, rfl, rfl, fk.of aA, rfl, rfl, _, rfl, ?_⟩;refine E1 (λc1=>?_) (λc1=>?_)
  · refine ⟨_, rfl, a, _, _, _, rfl, rfl, fk.of aA, rfl, _, rfl, a, _, _, _, rfl, rfl, fk.of aA, rfl, _, cells.length, rfl, .inl ⟨_, fk.of (by rw [az hca]; exact e2), by simp⟩, _, _, rfl, rfl, _, rfl, ?_⟩;refine E1 (λc2=>?_) (λc2=>?_)
    · have hk : k < (cells.length : Int):=My c2;have hkn : k.toNat < cells.length:=by omega
      have ek : k = ((k.toNat : Nat) : Int):=by omega
      have hx : jY (cells.map V.int) k = some (.int cells[k.toNat]):=by
        have q' : jY (cells.map V.int) ((k.toNat : Nat) : Int) = some (.int cells[k.toNat]):=lg (by rw [LU, Lx hkn]; rfl);rw [<- ek] at q'; exact q'
      have hx0 : 0 <= cells[k.toNat]:=c0 _ (Mg hkn);generalize cells[k.toNat] = x at hx hx0;refine ⟨_, rfl, a, _, _, _, rfl, rfl, fk.of aA, rfl, _, rfl, a, _, _, _, rfl, rfl, fk.of aA, rfl, c, _, _, _, rfl, rfl, fk.of (by rw [az hca]; exact e2), hx, ?_⟩;refine ⟨_, rfl, a, _, _, _, rfl, rfl, fk.of aA, rfl, _, _, rfl, rfl, _, rfl, a, _, _, _, rfl, rfl, aA, rfl, ?_⟩;have r0:=Mx x (show (2305843009213693921 : Int) ≠ 0 by decide);have r1:=Mw x (show (0 : Int) < 2305843009213693921 by decide);refine ⟨_, rfl, a, _, _, _, rfl, rfl, fk.of aA, rfl, _, _, rfl, rfl, o1 (by decide) (by decide), _, rfl, _, _, rfl, rfl, (by show (0 : Int) < _; decide), _, _, rfl, rfl, _, _, rfl, rfl, _, _, rfl, rfl, xB (by omega) (Hj (by omega)), _, _, rfl, rfl, (by show (0 : Int) < _; decide), ?_⟩;refine ⟨_, rfl, a, _, _, _, rfl, rfl, aA, rfl, ?_⟩;have m0:=Mx ((sd * 7 + x % 2305843009213693921 + 65537) ^ (3 : Int).toNat) (show (2305843009213693951 : Int) ≠ 0 by decide);have m1:=Mw ((sd * 7 + x % 2305843009213693921 + 65537) ^ (3 : Int).toNat) (show (0 : Int) < 2305843009213693951 by decide);refine ⟨_, rfl, _, _, rfl, rfl, ⟨by decide, by decide⟩, _, _, rfl, rfl, _, rfl, ?_⟩;refine E1 (λc3=>?_) (λc3=>?_)
      · refine ⟨_, rfl, _, rfl, a, _, _, _, rfl, rfl, aA, rfl, ?_⟩;simp only [tV];exact ht _ _ _ _ hx0 (by omega) m0 m1
      · refine ⟨_, rfl, a, _, _, _, rfl, rfl, aA, rfl, ?_⟩;simp only [tV];exact ht _ _ _ _ (Int.le_refl 0) (by omega) m0 m1
    · exact ht _ _ _ _ p0 k0 s0 s1
  · exact ht _ _ _ _ p0 k0 s0 s1
def JQ (ns : List Int) : sy (ns.map V.int) none (some 60) = (ns.take 60).map V.int:=by
  unfold sy;rw [HT.qz];have e : HT.fC (ns.map V.int).length (ns.map V.int).length (some 60) = min 60 (ns.map V.int).length:=HT.ug _ _ 60;rw [e, List.drop_zero, Nat.sub_zero, LA, <- List.map_take];congr 1;rw [List.take_eq_take_iff];omega
def Hb {P : Program} {w : World} {K : Frag} {mg : Str -> Option Value} {base : Heap} {a_is_whole a_is_within a_is_name a_way_named a_is_way_name a_is_slope_name a_is_hours a_begins_with_text a_is_rule a_is_rules a_is_page a_book_of a_is_book a_are_figures a_thing_of a_row_of a_rows_of a_page_of a_read_page a_read_book a_row_text a_rows_text a_page_text a_book_text awbag awdraw awany awlabel awlabels awpace awhill awmoment awrule awrules awslopes awpage awpages awrules_text awpage_text awrefused a_law cb_book_of tb_book_of cb_law tb_law : Addr} {d_is_whole d_is_within d_is_name d_way_named d_is_way_name d_is_slope_name d_is_hours d_begins_with_text d_is_rule d_is_rules d_is_page d_book_of d_is_book d_are_figures d_thing_of d_row_of d_rows_of d_page_of d_read_page d_read_book d_row_text d_rows_text d_page_text d_book_text dwbag dwdraw dwany dwlabel dwlabels dwpace dwhill dwmoment dwrule dwrules dwslopes dwpage dwpages dwrules_text dwpage_text dwrefused d_law : FuncData} (T : Txt K mg a_is_whole a_is_within a_is_name a_way_named a_is_way_name a_is_slope_name a_is_hours a_begins_with_text a_is_rule a_is_rules a_is_page a_book_of a_is_book a_are_figures a_thing_of a_row_of a_rows_of a_page_of a_read_page a_read_book a_row_text a_rows_text a_page_text a_book_text awbag awdraw awany awlabel awlabels awpace awhill awmoment awrule awrules awslopes awpage awpages awrules_text awpage_text awrefused a_law cb_book_of tb_book_of cb_law tb_law d_is_whole d_is_within d_is_name d_way_named d_is_way_name d_is_slope_name d_is_hours d_begins_with_text d_is_rule d_is_rules d_is_page d_book_of d_is_book d_are_figures d_thing_of d_row_of d_rows_of d_page_of d_read_page d_read_book d_row_text d_rows_text d_page_text d_book_text dwbag dwdraw dwany dwlabel dwlabels dwpace dwhill dwmoment dwrule dwrules dwslopes dwpage dwpages dwrules_text dwpage_text dwrefused d_law) : aI P w K mg base bO 1 awbag dwbag ["_law_script"] (B2 K):=by
  refine T.tS.ok jS (λvs H Q E h=>?_) (λfi A outer s H vs Q E hr h=>?_)
  · obtain ⟨a, ns, rfl, _⟩:=h;rfl
  obtain ⟨a, ns, rfl, hS, h63, q⟩:=h;have gE:=Nat.lt_of_succ_lt (Ga hr)
  refine ⟨_, (cA (oO (uu (fO (cg qh (cg qh (cg qh (cg qh (cg jD aJ aJ) (cg jD aJ aJ)) (cg jD aJ aJ)) (cg jD aJ aJ)) (cg jD aJ aJ)) (fO aJ jq))) (G0 rfl (vM (nQ (i:=1) jS.nd rfl (Or.inr rfl)) (vM (nQ (i:=2) jS.nd rfl (Or.inl rfl)) Ew))))
    (cA (Cq PassesOwn.never rfl (y6 (qH t8 (pv 0) uq (uo aJ))) (nQ (i:=3) jS.nd rfl (Or.inl rfl)) (iX (mS (i:=2) jS.nd rfl (Or.inl rfl) (cg jr (cg jD (cg jT (cg jT (cg oV (pv 2) aJ) (cg jr (pv 3) aJ)) aJ) aJ) aJ))))
    (iX (qC (Cz (xE aJ (xE aJ (xE aJ (xE (pv 2) (xE (FQ (bc.uL (N:=["_law_cell", "_law_top"]) (js:=[none, some 1]) (ag iG) ["_law_script", "_law_top", "_law_seed", "_law_cell"] rfl rfl (by decide +kernel)) rfl (y6 (qH t8 (pv 0) uq (uo aJ))) (λ_ _ _ _=>(nQ (i:=0) (by decide : (["_law_cell", "_law_top"] : List Str).Nodup) rfl (Or.inl rfl))) (λ_ _ _ _=>yW) (λ_ _ _ _=>(cg jr (nR DI rfl T.Jt PyProof.Rows.boot_abs (fO (pv 0) jq)) (pv 1)))) jq)))))))))), ?_⟩
  have b60 : ((0 : Int) <= 60) /\ (Builtin.Int.intBits 10 : Int) * 60 <= 2 ^ 27:=by decide
  refine ⟨_, _, rfl, rfl, b60, _, _, rfl, rfl, b60, _, _, rfl, rfl, ?_, _, _, rfl, rfl, b60, _, _, rfl, rfl, ?_, _, _, rfl, rfl, b60, _, _, rfl, rfl, ?_, _, _, rfl, rfl, b60, _, _, rfl, rfl, ?_, (by show 2 <= sizeLine; decide), λt ht=>?_⟩
  · exact IntMulOk.of_bits (by decide +kernel) (by decide +kernel)
  · exact IntMulOk.of_bits (by decide +kernel) (by decide +kernel)
  · exact IntMulOk.of_bits (by decide +kernel) (by decide +kernel)
  · exact IntMulOk.of_bits (by decide +kernel) (by decide +kernel)
  have hbig : ∃ big : Int, 0 < big /\ big = 10 ^ (60 : Int).toNat * 10 ^ (60 : Int).toNat * 10 ^ (60 : Int).toNat * 10 ^ (60 : Int).toNat * 10 ^ (60 : Int).toNat:=⟨_, by decide +kernel, rfl⟩;obtain ⟨big, topPos, eb⟩:=hbig;refine ⟨t, [.int big, .int 271828183], rfl, ji.of (by rw [eb]; exact aA), rfl, _, _, rfl, _, _, rfl, rfl, ?_⟩;clear eb;have g1:=lE ht (.tup [(λi j=>V.int (i * j)) (10 ^ Int.toNat 60 * 10 ^ Int.toNat 60 * 10 ^ Int.toNat 60 * 10 ^ Int.toNat 60) (10 ^ Int.toNat 60), V.int 271828183]);generalize upd H t (.tup _) = H1 at g1;have c60:=JQ ns;have hl60 : ((ns.take 60).map V.int).length <= 60:=by rw [LA, List.length_take]; omega
  refine ⟨_, rfl, 60, rfl, a, _, rfl, g1.seq hS, λu hu=>?_⟩;rw [c60];have g2 : ng H1 (upd H1 u (.lst ((ns.take 60).map V.int))):=lE hu _;have hu2 : upd H1 u (.lst ((ns.take 60).map V.int)) u = some (.lst ((ns.take 60).map V.int)):=aA;generalize upd H1 u (.lst ((ns.take 60).map V.int)) = H2 at g2 hu2;refine ⟨u, rfl, ⟨_, fk.of hu2⟩, ?_⟩
  have isInt : ∀ (i : Nat) (x : V), ((ns.take 60).map V.int)[i]? = some x -> ∃ y : Int, x = .int y:=λi x e=>by
    have:=List.mem_of_getElem? e;obtain ⟨y, _, z⟩:=LM.mp this;exact ⟨y, z.symm⟩
  refine Dq (xs:=(ns.take 60).map V.int) (λi σ H'=>∃ (sd : Int) (v3 : Option V), σ = [some (.ref a), some (.int big), some (.int sd), v3] /\ H' = H2 /\ 0 <= sd /\ sd < 2305843009213693951) ⟨271828183, none, rfl, rfl, by decide, by decide⟩ ?_ ?_ ?_
  · rintro i σ H' _ ⟨sd, v3, _, rfl, _⟩;exact fk.of hu2
  · rintro i x σ H' hx ⟨sd, v3, rfl, rfl, s0, s1⟩;obtain ⟨y, rfl⟩:=isInt i x hx;have r0:=Mx y (show (2305843009213693951 : Int) ≠ 0 by decide);have r1:=Mw y (show (0 : Int) < 2305843009213693951 by decide);refine ⟨_, rfl, _, _, rfl, rfl, o1 (by decide) (by decide), _, rfl, _, _, rfl, rfl, (by show (0 : Int) < _; decide), _, _, rfl, rfl, _, _, rfl, rfl, _, _, rfl, rfl, xB (by omega) (Hj (by omega)), _, _, rfl, rfl, (by show (0 : Int) < _; decide), ?_⟩;exact ⟨_, _, rfl, rfl, Mx _ (by decide), Mw _ (by decide)⟩
  · rintro σ H' ⟨sd, v3, rfl, rfl, s0, s1⟩;refine ⟨_, rfl, _, rfl, 60, rfl, a, _, rfl, g2.seq (g1.seq hS), λu2 hu3=>?_⟩;rw [c60];have g3:=lE hu3 (.lst ((ns.take 60).map V.int));have hu4 : upd H' u2 (.lst ((ns.take 60).map V.int)) u2 = some (.lst ((ns.take 60).map V.int)):=aA;generalize upd H' u2 (.lst ((ns.take 60).map V.int)) = H3 at g3 hu4;refine ⟨u2, rfl, ⟨_, fk.of hu4⟩, λD hD=>?_⟩;refine EW (xs:=(ns.take 60).map V.int) (λi ys σ H'=>∃ (cells : List Int) (v0 : Option V), ys = cells.map V.int /\ (∀ x ∈ cells, 0 <= x) /\ cells.length <= i /\ ng H3 H' /\ σ = [v0, some (.int big)]) ?_ ?_ ?_ ?_ ?_
    · exact ⟨[], none, rfl, λx hx=>(nomatch hx), LH _, lE hD _, rfl⟩
    · rintro i ys σ H' ⟨cells, v0, _, _, _, sm, _⟩;exact fk.of (sm _ _ hu4)
    · rintro i x ys σ H5 hx hl hD1 ⟨cells, v0, e, nn, cl, sm, rfl⟩ kt kf ht hf;obtain ⟨y, rfl⟩:=isInt i x hx;refine ⟨_, rfl, y, rfl, _, rfl, _, _, rfl, rfl, topPos, ht _ _ _ hD1 ?_⟩;refine ⟨cells ++ [(if y < 0 then -y else y) % big], _, by rw [e, Mq]; rfl, λx hx=>?_, by simp; omega, λb o h=>?_, rfl⟩
      · rcases Mj.mp hx with z | z
        · exact nn x z
        · rw [L3.mp z];exact Mx _ (by omega)
      · rw [az (λz=>by rw [z, hD] at h; cases h)];exact sm _ _ h
    · omega
    · rintro ys σ H5 hD1 hl ⟨cells, v0, e, nn, cl, sm, rfl⟩;refine ⟨(by show 5 <= sizeLine; decide), λb hb=>?_⟩;refine q b D _ (g1.trans (g2.trans (g3.trans (sm.trans (lE hb _))))) ⟨0, 0, sd, cells, aA, ?_, Int.le_refl 0, Int.le_refl 0, s0, s1, nn, by omega⟩;rw [az (bx hD1 hb), hD1, e]
def ao : List PV -> M PV:=zF
def gU : ak -> M Fl:=(aP (d9 (λρ=>((λρ=>ah ρ 0) ρ).bind (fj "int")) (jE (λρ=>((λρ=>ah ρ 0) ρ).bind (fj "bool")))))
def cF : List PV -> M PV:=gF 1 1 gU
def dH : ak -> M Fl:=(aP (d9 (λρ=>((aa (λρ=>ah ρ 0) (λ_=>M.ret [])) ρ).bind cF) (chain cS cS (λρ=>ah ρ 1) (λρ=>ah ρ 0) (λρ=>ah ρ 2))))
def bf : List PV -> M PV:=gF 3 3 dH
def h7 : ak -> M Fl:=(aG (gB (kE (cQ (bD (λρ=>((λρ=>ah ρ 0) ρ).bind (fj "str")))) (cQ (bD (chain cS cS (λ_=>M.ret (.int 1)) (λρ=>((aa (λρ=>ah ρ 0) (λ_=>M.ret [])) ρ).bind eV) (λ_=>M.ret (.int 8))))))
    (aP (λ_=>M.ret (.bl false)))
    (λρ=>M.ret (.nx ρ)))
    (aP (λρ=>((aa (a8 (cC [none] (λρ=>((λρ=>ah ρ 0) ρ).bind ba) (aX 0) bS (chain cS cS (λ_=>M.ret (.str "a")) (λρ=>ah ρ 0) (λ_=>M.ret (.str "z"))))) (λ_=>M.ret [])) ρ).bind fN)))
def cq : List PV -> M PV:=gF 1 1 h7
def fo : ak -> M Fl:=(aG (jw (λρ=>((au bJ (λρ=>ah ρ 0) (λ_=>M.ret (.int 0))) ρ).bind ba) (aX 2)
    (gB (bD (au (f6 false) (au bJ (λρ=>ah ρ 2) (λ_=>M.ret (.int 0))) (λρ=>ah ρ 1)))
    (aP (λρ=>ah ρ 2))
    (λρ=>M.ret (.nx ρ))))
    (aP (λ_=>M.ret .cB)))
def cm : List PV -> M PV:=gF 2 3 fo
def dI : ak -> M Fl:=(aP (d9 (λρ=>((aa (λρ=>ah ρ 1) (λ_=>M.ret [])) ρ).bind cq) (au (KU true) (λρ=>((aa (λρ=>ah ρ 0) (aa (λρ=>ah ρ 1) (λ_=>M.ret []))) ρ).bind cm) (λ_=>M.ret .cB))))
def bA : List PV -> M PV:=gF 2 2 dI
def ei : ak -> M Fl:=(aP (d9 (λρ=>((aa (λρ=>ah ρ 0) (aa (λρ=>ah ρ 1) (λ_=>M.ret []))) ρ).bind bA) (au (f6 false) (au bJ (λρ=>((aa (λρ=>ah ρ 0) (aa (λρ=>ah ρ 1) (λ_=>M.ret []))) ρ).bind cm) (λ_=>M.ret (.int 1))) (λ_=>M.ret (.str "slope")))))
def cI : List PV -> M PV:=gF 2 2 ei
def iQ : ak -> M Fl:=(aP (d9 (λρ=>((aa (λρ=>ah ρ 0) (aa (λ_=>M.ret (.int 0)) (aa (λ_=>M.ret (.int 1000001)) (λ_=>M.ret [])))) ρ).bind bf) (d9 (λρ=>((aa (λρ=>ah ρ 1) (aa (λ_=>M.ret (.int 0)) (aa (λ_=>M.ret (.int 1000001)) (λ_=>M.ret [])))) ρ).bind bf) (au mx (λρ=>ah ρ 0) (λρ=>ah ρ 1)))))
def gm : List PV -> M PV:=gF 2 2 iQ
def cj : ak -> M Fl:=(aP (d9 (λρ=>((λρ=>ah ρ 0) ρ).bind (fj "tuple")) (d9 (au mH (λρ=>((aa (λρ=>ah ρ 0) (λ_=>M.ret [])) ρ).bind eV) (λ_=>M.ret (.int 0))) (λρ=>((au bJ (λρ=>ah ρ 0) (λ_=>M.ret (.int 0))) ρ).bind (fj "str")))))
def a9 : List PV -> M PV:=gF 1 1 cj
def jN : ak -> M Fl:=(aG (gB (cQ (bD (λρ=>((aa (λρ=>ah ρ 1) (λ_=>M.ret [])) ρ).bind a9)))
    (aP (λ_=>M.ret (.bl false)))
    (λρ=>M.ret (.nx ρ)))
    (aG (bF 2 (au bJ (λρ=>ah ρ 1) (λ_=>M.ret (.int 0))))
    (aG (gB (bD (au (f6 false) (λρ=>ah ρ 2) (λ_=>M.ret (.str "hours"))))
    (aP (d9 (au (f6 false) (λρ=>((aa (λρ=>ah ρ 1) (λ_=>M.ret [])) ρ).bind eV) (λ_=>M.ret (.int 3))) (λρ=>((aa (au bJ (λρ=>ah ρ 1) (λ_=>M.ret (.int 1))) (aa (au bJ (λρ=>ah ρ 1) (λ_=>M.ret (.int 2))) (λ_=>M.ret []))) ρ).bind gm)))
    (λρ=>M.ret (.nx ρ)))
    (aG (gB (kE (bD (au (f6 false) (λρ=>ah ρ 2) (λ_=>M.ret (.str "least")))) (bD (au (f6 false) (λρ=>ah ρ 2) (λ_=>M.ret (.str "most")))))
    (aP (d9 (au (f6 false) (λρ=>((aa (λρ=>ah ρ 1) (λ_=>M.ret [])) ρ).bind eV) (λ_=>M.ret (.int 3))) (d9 (λρ=>((aa (au bJ (λρ=>ah ρ 1) (λ_=>M.ret (.int 1))) (λ_=>M.ret [])) ρ).bind cq) (λρ=>((aa (au bJ (λρ=>ah ρ 1) (λ_=>M.ret (.int 2))) (λ_=>M.ret [])) ρ).bind cF))))
    (λρ=>M.ret (.nx ρ)))
    (aG (gB (bD (au (f6 false) (λρ=>ah ρ 2) (λ_=>M.ret (.str "looked"))))
    (aP (d9 (au (f6 false) (λρ=>((aa (λρ=>ah ρ 1) (λ_=>M.ret [])) ρ).bind eV) (λ_=>M.ret (.int 2))) (λρ=>((aa (au bJ (λρ=>ah ρ 1) (λ_=>M.ret (.int 1))) (aa (λ_=>M.ret (.int 1)) (aa (λ_=>M.ret (.int 1000000)) (λ_=>M.ret [])))) ρ).bind bf)))
    (λρ=>M.ret (.nx ρ)))
    (aG (gB (bD (au (f6 false) (λρ=>ah ρ 2) (λ_=>M.ret (.str "with"))))
    (aP (d9 (au (f6 false) (λρ=>((aa (λρ=>ah ρ 1) (λ_=>M.ret [])) ρ).bind eV) (λ_=>M.ret (.int 2))) (λρ=>((aa (λρ=>ah ρ 0) (aa (au bJ (λρ=>ah ρ 1) (λ_=>M.ret (.int 1))) (λ_=>M.ret []))) ρ).bind bA)))
    (λρ=>M.ret (.nx ρ)))
    (aP (d9 (au (f6 false) (λρ=>ah ρ 2) (λ_=>M.ret (.str "never"))) (au (f6 false) (λρ=>((aa (λρ=>ah ρ 1) (λ_=>M.ret [])) ρ).bind eV) (λ_=>M.ret (.int 1)))))))))))
def gy : List PV -> M PV:=gF 2 3 jN
def iO : ak -> M Fl:=(aG (gB (kE (cQ (bD (λρ=>((λρ=>ah ρ 1) ρ).bind (fj "tuple")))) (bD (au mH (λρ=>((aa (λρ=>ah ρ 1) (λ_=>M.ret [])) ρ).bind eV) (λ_=>M.ret (.int 6)))))
    (aP (λ_=>M.ret (.bl false)))
    (λρ=>M.ret (.nx ρ)))
    (aP (λρ=>((aa (a8 (cC [none, some 0] (λρ=>((λρ=>ah ρ 1) ρ).bind ba) (aX 0) bS (λρ=>((aa (λρ=>ah ρ 1) (aa (λρ=>ah ρ 0) (λ_=>M.ret []))) ρ).bind gy))) (λ_=>M.ret [])) ρ).bind fN)))
def gk : List PV -> M PV:=gF 2 2 iO
def iP : ak -> M Fl:=(aG (gB (kE (cQ (bD (λρ=>((aa (λρ=>ah ρ 1) (λ_=>M.ret [])) ρ).bind a9))) (bD (au mx (λρ=>((aa (λρ=>ah ρ 1) (λ_=>M.ret [])) ρ).bind eV) (λ_=>M.ret (.int 4)))))
    (aP (λ_=>M.ret (.bl false)))
    (λρ=>M.ret (.nx ρ)))
    (aG (gB (kE (cQ (bD (λρ=>((aa (au bJ (λρ=>ah ρ 1) (λ_=>M.ret (.int 1))) (aa (λ_=>M.ret (.int 0)) (aa (λ_=>M.ret (.int 999999)) (λ_=>M.ret [])))) ρ).bind bf))) (cQ (bD (λρ=>((aa (au bJ (λρ=>ah ρ 1) (λ_=>M.ret (.int 2))) (aa (λ_=>M.ret (.int 0)) (aa (au bJ (λρ=>ah ρ 0) (λ_=>M.ret (.int 2))) (λ_=>M.ret [])))) ρ).bind bf))))
    (aP (λ_=>M.ret (.bl false)))
    (λρ=>M.ret (.nx ρ)))
    (aG (bF 2 (au bJ (λρ=>ah ρ 1) (λ_=>M.ret (.int 0))))
    (aG (gB (bD (au (f6 false) (λρ=>ah ρ 2) (λ_=>M.ret (.str "read"))))
    (aP (d9 (au (f6 false) (λρ=>((aa (λρ=>ah ρ 1) (λ_=>M.ret [])) ρ).bind eV) (λ_=>M.ret (.int 5))) (d9 (λρ=>((aa (au bJ (λρ=>ah ρ 1) (λ_=>M.ret (.int 3))) (λ_=>M.ret [])) ρ).bind cq) (λρ=>((aa (au bJ (λρ=>ah ρ 1) (λ_=>M.ret (.int 4))) (λ_=>M.ret [])) ρ).bind cF))))
    (λρ=>M.ret (.nx ρ)))
    (aG (gB (bD (au (f6 false) (λρ=>ah ρ 2) (λ_=>M.ret (.str "look"))))
    (aP (d9 (au (f6 false) (λρ=>((aa (λρ=>ah ρ 1) (λ_=>M.ret [])) ρ).bind eV) (λ_=>M.ret (.int 4))) (λρ=>((aa (λρ=>ah ρ 0) (aa (au bJ (λρ=>ah ρ 1) (λ_=>M.ret (.int 3))) (λ_=>M.ret []))) ρ).bind cI)))
    (λρ=>M.ret (.nx ρ)))
    (aG (gB (bD (au (f6 false) (λρ=>ah ρ 2) (λ_=>M.ret (.str "rule"))))
    (aP (d9 (au (f6 false) (λρ=>((aa (λρ=>ah ρ 1) (λ_=>M.ret [])) ρ).bind eV) (λ_=>M.ret (.int 5))) (d9 (λρ=>((aa (λρ=>ah ρ 0) (aa (au bJ (λρ=>ah ρ 1) (λ_=>M.ret (.int 3))) (λ_=>M.ret []))) ρ).bind bA) (λρ=>((aa (λρ=>ah ρ 0) (aa (au bJ (λρ=>ah ρ 1) (λ_=>M.ret (.int 4))) (λ_=>M.ret []))) ρ).bind gk))))
    (λρ=>M.ret (.nx ρ)))
    (aP (λ_=>M.ret (.bl false)))))))))
def dO : List PV -> M PV:=gF 2 3 iP
def jP : ak -> M Fl:=(aP (λρ=>((aa (a8 (λρ=>((λρ=>ah ρ 0) ρ).bind qr)) (λ_=>M.ret [])) ρ).bind oG))
def iV : List PV -> M PV:=gF 1 1 jP
def jO : ak -> M Fl:=(aG (gB (kE (cQ (bD (λρ=>((λρ=>ah ρ 1) ρ).bind (fj "tuple")))) (cQ (bD (λρ=>((aa (a8 (cC [none, some 0] (λρ=>((λρ=>ah ρ 1) ρ).bind ba) (aX 0) bS (λρ=>((aa (λρ=>ah ρ 1) (aa (λρ=>ah ρ 0) (λ_=>M.ret []))) ρ).bind dO))) (λ_=>M.ret [])) ρ).bind fN))))
    (aP (λ_=>M.ret (.bl false)))
    (λρ=>M.ret (.nx ρ)))
    (aP (d9 (au (f6 false) (λρ=>ah ρ 1) (λρ=>((aa (λρ=>ah ρ 1) (λ_=>M.ret [])) ρ).bind iV)) (au (f6 false) (λρ=>((CV [none] (λρ=>((λρ=>ah ρ 1) ρ).bind ba) (aX 0) bS (au bJ (λρ=>ah ρ 0) (λ_=>M.ret (.int 1)))) ρ).bind mZ) (λρ=>((aa (λρ=>ah ρ 1) (λ_=>M.ret [])) ρ).bind eV)))))
def fJ : List PV -> M PV:=gF 2 2 jO
def eQ : ak -> M Fl:=(aG (gB (kE (cQ (bD (chain cS cS (λ_=>M.ret (.int 1)) (λρ=>((aa (λρ=>ah ρ 0) (λ_=>M.ret [])) ρ).bind eV) (λ_=>M.ret (.int 60))))) (cQ (bD (λρ=>((aa (a8 (cC [none] (λρ=>((λρ=>ah ρ 0) ρ).bind ba) (aX 0) bS (chain cS cS (λ_=>M.ret (.str "0")) (λρ=>ah ρ 0) (λ_=>M.ret (.str "9"))))) (λ_=>M.ret [])) ρ).bind fN))))
    (aP (λ_=>M.ret (.bl false)))
    (λρ=>M.ret (.nx ρ)))
    (aP (oU (au (f6 false) (λρ=>ah ρ 0) (λ_=>M.ret (.str "0"))) (au (f6 true) (au bJ (λρ=>ah ρ 0) (λ_=>M.ret (.int 0))) (λ_=>M.ret (.str "0"))))))
def cc : List PV -> M PV:=gF 1 1 eQ
def iJ : ak -> M Fl:=(aG (gB (bD (λρ=>((aa (λρ=>ah ρ 0) (λ_=>M.ret [])) ρ).bind cc))
    (aP (λρ=>((aa (λρ=>ah ρ 0) (λ_=>M.ret [])) ρ).bind AN))
    (λρ=>M.ret (.nx ρ)))
    (aG (gB (gD (bD (oB "str" lW (λρ=>ah ρ 0) (aa (λ_=>M.ret (.str "-")) (λ_=>M.ret [])))) (gD (bD (au (f6 true) (λρ=>ah ρ 0) (λ_=>M.ret (.str "-0")))) (bD (λρ=>((aa (mO pF (λρ=>ah ρ 0) (λρ=>((λ_=>M.ret (.int 1)) ρ).bind λy=>(jb y).bind λi=>M.ret (some i)) (λ_=>M.ret none)) (λ_=>M.ret [])) ρ).bind cc))))
    (aP (λρ=>((λρ=>((aa (mO pF (λρ=>ah ρ 0) (λρ=>((λ_=>M.ret (.int 1)) ρ).bind λy=>(jb y).bind λi=>M.ret (some i)) (λ_=>M.ret none)) (λ_=>M.ret [])) ρ).bind AN) ρ).bind uJ))
    (λρ=>M.ret (.nx ρ)))
    (aP (λρ=>ah ρ 0))))
def fB : List PV -> M PV:=gF 1 1 iJ
def ja : ak -> M Fl:=(aP (λρ=>((aa (a8 (cC [none] (λρ=>((a8 (B0 (λρ=>ah ρ 0) (aa (λ_=>M.ret (.str " ")) (λ_=>M.ret [])))) ρ).bind ba) (aX 0) bS (λρ=>((aa (λρ=>ah ρ 0) (λ_=>M.ret [])) ρ).bind fB))) (λ_=>M.ret [])) ρ).bind oG))
def dU : List PV -> M PV:=gF 1 1 ja
def jM : ak -> M Fl:=(aP (ka (bD (au (f6 false) (λρ=>ah ρ 0) (λ_=>M.ret (.str "-")))) (λρ=>((λ_=>M.ret []) ρ).bind bE) (λρ=>((aa (a8 (cC [none] (λρ=>((a8 (B0 (λρ=>ah ρ 0) (aa (λ_=>M.ret (.str ", ")) (λ_=>M.ret [])))) ρ).bind ba) (aX 0) bS (λρ=>((aa (λρ=>ah ρ 0) (λ_=>M.ret [])) ρ).bind dU))) (λ_=>M.ret [])) ρ).bind oG)))
def gx : List PV -> M PV:=gF 1 1 jM
def iK : ak -> M Fl:=(aG (bF 1 (a8 (B0 (λρ=>ah ρ 0) (aa (λ_=>M.ret (.str " ")) (λ_=>M.ret [])))))
    (aG (gB (bD (au (f6 false) (au bJ (λρ=>ah ρ 1) (λ_=>M.ret (.int 0))) (λ_=>M.ret (.str "rule"))))
    (aP (au dq (λρ=>((aa (oB "str" dY (λ_=>M.ret (.str " ")) (aa (mO pF (λρ=>ah ρ 1) (λ_=>M.ret none) (λρ=>((λ_=>M.ret (.int 4)) ρ).bind λy=>(jb y).bind λi=>M.ret (some i))) (λ_=>M.ret []))) (λ_=>M.ret [])) ρ).bind dU) (λρ=>((aa (λρ=>((aa (oB "str" dY (λ_=>M.ret (.str " ")) (aa (mO pF (λρ=>ah ρ 1) (λρ=>((λ_=>M.ret (.int 4)) ρ).bind λy=>(jb y).bind λi=>M.ret (some i)) (λ_=>M.ret none)) (λ_=>M.ret []))) (λ_=>M.ret [])) ρ).bind gx) (λ_=>M.ret [])) ρ).bind bE)))
    (λρ=>M.ret (.nx ρ)))
    (aP (λρ=>((aa (λρ=>ah ρ 0) (λ_=>M.ret [])) ρ).bind dU))))
def eu : List PV -> M PV:=gF 1 2 iK
def hM : ak -> M Fl:=(aG (gB (kE (cQ (bD (λρ=>((λρ=>ah ρ 1) ρ).bind (fj "str")))) (cQ (bD (λρ=>((aa (λρ=>ah ρ 0) (aa (λρ=>((aa (λρ=>ah ρ 1) (λ_=>M.ret [])) ρ).bind eu) (λ_=>M.ret []))) ρ).bind dO))))
    (λ_=>M.fail)
    (λρ=>M.ret (.nx ρ)))
    (aP (λρ=>((aa (λρ=>ah ρ 1) (λ_=>M.ret [])) ρ).bind eu)))
def bU : List PV -> M PV:=gF 2 2 hM
def iy : ak -> M Fl:=(aG (gB (cQ (bD (λρ=>((λρ=>ah ρ 1) ρ).bind (fj "str"))))
    (λ_=>M.fail)
    (λρ=>M.ret (.nx ρ)))
    (aG (bF 2 (ka (bD (au (f6 true) (λρ=>ah ρ 1) (λ_=>M.ret (.str "")))) (a8 (B0 (λρ=>ah ρ 1) (aa (λ_=>M.ret (.str "\n")) (λ_=>M.ret [])))) (a8 (λρ=>((λ_=>M.ret []) ρ).bind bb))))
    (aG (bF 3 (λρ=>((aa (a8 (cC [none, some 0] (λρ=>((λρ=>ah ρ 2) ρ).bind ba) (aX 0) bS (λρ=>((aa (λρ=>ah ρ 1) (aa (λρ=>ah ρ 0) (λ_=>M.ret []))) ρ).bind bU))) (λ_=>M.ret [])) ρ).bind oG)) (λρ=>M.ret (.nx ρ)))))
def gq : ak -> M Bool:=(cQ (bD (λρ=>((aa (λρ=>ah ρ 0) (aa (λρ=>ah ρ 3) (λ_=>M.ret []))) ρ).bind fJ)))
def kX : ak -> M Fl:=(aP (λρ=>ah ρ 3))
def ic : List PV -> M (Option PV):=fnX 2 4 iy gq kX
def df : List PV -> M PV:=Jm ic
def fX : ak -> M Fl:=(aP (oB "str" dY (λ_=>M.ret (.str " ")) (aa (a8 (cC [none] (λρ=>((λρ=>ah ρ 0) ρ).bind ba) (aX 0) bS (λρ=>((aa (λρ=>ah ρ 0) (λ_=>M.ret [])) ρ).bind kP))) (λ_=>M.ret []))))
def ck : List PV -> M PV:=gF 1 1 fX
def hG : ak -> M Fl:=(aP (ka (bD (au mH (λρ=>((aa (λρ=>ah ρ 0) (λ_=>M.ret [])) ρ).bind eV) (λ_=>M.ret (.int 0)))) (oB "str" dY (λ_=>M.ret (.str ", ")) (aa (a8 (cC [none] (λρ=>((λρ=>ah ρ 0) ρ).bind ba) (aX 0) bS (λρ=>((aa (λρ=>ah ρ 0) (λ_=>M.ret [])) ρ).bind ck))) (λ_=>M.ret []))) (λ_=>M.ret (.str "-"))))
def ft : List PV -> M PV:=gF 1 1 hG
def hV : ak -> M Fl:=(aG (gB (bD (au (f6 false) (au bJ (λρ=>ah ρ 0) (λ_=>M.ret (.int 0))) (λ_=>M.ret (.str "rule"))))
    (aP (λρ=>((aa (au dq (mO pF (λρ=>ah ρ 0) (λ_=>M.ret none) (λρ=>((λ_=>M.ret (.int 4)) ρ).bind λy=>(jb y).bind λi=>M.ret (some i))) (λρ=>((aa (λρ=>((aa (au bJ (λρ=>ah ρ 0) (λ_=>M.ret (.int 4))) (λ_=>M.ret [])) ρ).bind ft) (λ_=>M.ret [])) ρ).bind bE)) (λ_=>M.ret [])) ρ).bind ck))
    (λρ=>M.ret (.nx ρ)))
    (aP (λρ=>((aa (λρ=>ah ρ 0) (λ_=>M.ret [])) ρ).bind ck)))
def fu : List PV -> M PV:=gF 1 1 hV
def h8 : ak -> M Fl:=(aP (oB "str" dY (λ_=>M.ret (.str "\n")) (aa (a8 (cC [none] (λρ=>((λρ=>ah ρ 0) ρ).bind ba) (aX 0) bS (λρ=>((aa (λρ=>ah ρ 0) (λ_=>M.ret [])) ρ).bind fu))) (λ_=>M.ret []))))
def eE : List PV -> M PV:=gF 1 1 h8
def bV : ak -> M Fl:=(aP (au bJ (λρ=>ah ρ 1) (λρ=>((aa (λρ=>ah ρ 0) (aa (λρ=>((aa (λρ=>ah ρ 1) (λ_=>M.ret [])) ρ).bind eV) (λ_=>M.ret []))) ρ).bind ao)))
def aO : List PV -> M PV:=gF 2 2 bV
def fY : ak -> M Fl:=(aG (bF 1 (au bJ (a8 (λρ=>((aa (λ_=>M.ret (.int 2)) (aa (λ_=>M.ret (.int 1)) (aa (λ_=>M.ret (.int 3)) (aa (λ_=>M.ret (.int 8)) (aa (λ_=>M.ret (.int 4)) (aa (λ_=>M.ret (.int 1)) (aa (λ_=>M.ret (.int 5)) (aa (λ_=>M.ret (.int 2)) (λ_=>M.ret []))))))))) ρ).bind bb)) (λρ=>((aa (λρ=>ah ρ 0) (aa (λ_=>M.ret (.int 8)) (λ_=>M.ret []))) ρ).bind ao)))
    (aP (oB "str" dY (λ_=>M.ret (.str "")) (aa (a8 (cC [none, some 0] (λρ=>((aa (λρ=>ah ρ 1) (λ_=>M.ret [])) ρ).bind j7) (aX 0) bS (au bJ (λ_=>M.ret (.str "abcdefghijklmnopqrstuvwxyz")) (λρ=>((aa (λρ=>ah ρ 1) (aa (λ_=>M.ret (.int 26)) (λ_=>M.ret []))) ρ).bind ao)))) (λ_=>M.ret [])))))
def dM : List PV -> M PV:=gF 1 2 fY
def fz : ak -> M Fl:=(aG (y9 2 3 (λ_=>M.ret (.str "abcdefghijklmnopqrstuvwxyz")) (λρ=>((λ_=>M.ret []) ρ).bind bb))
    (aG (bF 4 (ka (bD (au (f6 false) (λρ=>((aa (λρ=>ah ρ 0) (aa (λ_=>M.ret (.int 2)) (λ_=>M.ret []))) ρ).bind ao) (λ_=>M.ret (.int 0)))) (mO pF (λρ=>((aa (λρ=>ah ρ 0) (λ_=>M.ret [])) ρ).bind dM) (λ_=>M.ret none) (λρ=>((λ_=>M.ret (.int 5)) ρ).bind λy=>(jb y).bind λi=>M.ret (some i))) (λ_=>M.ret (.str ""))))
    (aG (jw (λρ=>((aa (λρ=>ah ρ 1) (λ_=>M.ret [])) ρ).bind j7) (aX 5)
    (aG (bF 6 (mO pF (au dq (λρ=>ah ρ 4) (λρ=>((aa (λρ=>ah ρ 0) (λ_=>M.ret [])) ρ).bind dM)) (λ_=>M.ret none) (λρ=>((λ_=>M.ret (.int 8)) ρ).bind λy=>(jb y).bind λi=>M.ret (some i))))
    (aG (jw (λρ=>((aa (λ_=>M.ret (.int 26)) (λ_=>M.ret [])) ρ).bind j7) (aX 7)
    (gB (bD (au (Hx false) (λρ=>ah ρ 6) (λρ=>iR ρ 3)))
    (bF 6 (au dq (mO pF (λρ=>ah ρ 6) (λ_=>M.ret none) (λρ=>((λρ=>((λ_=>M.ret (.int 1)) ρ).bind uJ) ρ).bind λy=>(jb y).bind λi=>M.ret (some i))) (au bJ (λρ=>ah ρ 2) (au v9 (au dq (oB "str" lH (λρ=>ah ρ 2) (aa (au bJ (λρ=>ah ρ 6) (λρ=>((λ_=>M.ret (.int 1)) ρ).bind uJ)) (λ_=>M.ret []))) (λ_=>M.ret (.int 1))) (λ_=>M.ret (.int 26))))))
    (λρ=>M.ret (.nx ρ))))
    (sD 3 (λρ=>ah ρ 6)))))
    (aP (λρ=>ah ρ 3)))))
def cV : List PV -> M PV:=gF 2 8 fz
def gT : ak -> M Fl:=(aP (au bJ (a8 (λρ=>((aa (λ_=>M.ret (.int 0)) (aa (λ_=>M.ret (.int 1000000)) (aa (λρ=>ah ρ 1) (aa (λ_=>M.ret (.int 1)) (aa (au mY (λ_=>M.ret (.int 2)) (λρ=>ah ρ 1)) (aa (au mY (λ_=>M.ret (.int 3)) (λρ=>ah ρ 1)) (aa (au mY (λ_=>M.ret (.int 5)) (λρ=>ah ρ 1)) (aa (au dq (λρ=>ah ρ 1) (λ_=>M.ret (.int 1))) (λ_=>M.ret []))))))))) ρ).bind bb)) (λρ=>((aa (λρ=>ah ρ 0) (aa (λ_=>M.ret (.int 8)) (λ_=>M.ret []))) ρ).bind ao)))
def eS : List PV -> M PV:=gF 2 2 gT
def iN : ak -> M Fl:=(aG (bF 1 (ka (bD (au (f6 false) (λρ=>((aa (λρ=>ah ρ 0) (aa (λ_=>M.ret (.int 8)) (λ_=>M.ret []))) ρ).bind ao) (λ_=>M.ret (.int 7)))) (λ_=>M.ret (.int 12)) (au dq (λ_=>M.ret (.int 1)) (λρ=>((aa (λρ=>ah ρ 0) (aa (λ_=>M.ret (.int 6)) (λ_=>M.ret []))) ρ).bind ao))))
    (aG (ij 2 3 (aa (au bJ (a8 (λρ=>((aa (λ_=>M.ret (.int 1)) (aa (λ_=>M.ret (.int 7)) (aa (λ_=>M.ret (.int 33333)) (λ_=>M.ret [])))) ρ).bind bb)) (λρ=>((aa (λρ=>ah ρ 0) (aa (λ_=>M.ret (.int 3)) (λ_=>M.ret []))) ρ).bind ao)) (aa (λρ=>((aa (λρ=>ah ρ 0) (aa (au dq (λ_=>M.ret (.int 1)) (λρ=>((aa (λρ=>ah ρ 0) (aa (λ_=>M.ret (.int 5)) (λ_=>M.ret []))) ρ).bind ao)) (λ_=>M.ret []))) ρ).bind cV) (λ_=>M.ret []))))
    (aG (i9 4 (λρ=>((λ_=>M.ret []) ρ).bind bb))
    (aG (jw (λρ=>((λρ=>((aa (λρ=>ah ρ 0) (aa (λρ=>ah ρ 1) (λ_=>M.ret []))) ρ).bind cV) ρ).bind ba) (aX 5)
    (aG (eT 6 7 8 (aa (λρ=>((aa (λρ=>ah ρ 0) (aa (λ_=>M.ret (.int 4)) (λ_=>M.ret []))) ρ).bind ao) (aa (λρ=>((aa (λρ=>ah ρ 0) (aa (λρ=>ah ρ 3) (λ_=>M.ret []))) ρ).bind aO) (aa (λρ=>((aa (λρ=>ah ρ 0) (aa (λρ=>ah ρ 3) (λ_=>M.ret []))) ρ).bind aO) (λ_=>M.ret [])))))
    (aG (bF 9 (λρ=>((aa (λρ=>((aa (λρ=>ah ρ 0) (aa (λρ=>ah ρ 2) (λ_=>M.ret []))) ρ).bind eS) (aa (λρ=>((aa (λρ=>ah ρ 0) (aa (λρ=>ah ρ 2) (λ_=>M.ret []))) ρ).bind eS) (λ_=>M.ret []))) ρ).bind bE))
    (sD 4 (au dq (λρ=>((aa (λρ=>ah ρ 5) (aa (au bJ (a8 (λρ=>((aa (λ_=>M.ret (.str "slope")) (aa (λ_=>M.ret (.str "lift")) (aa (λ_=>M.ret (.str "path")) (aa (λ_=>M.ret (.str "slope")) (λ_=>M.ret []))))) ρ).bind bb)) (λρ=>ah ρ 6)) (aa (λρ=>ah ρ 7) (aa (λρ=>ah ρ 8) (λ_=>M.ret []))))) ρ).bind bE) (λρ=>ah ρ 9))))))
    (aG (bF 10 (au bJ (a8 (λρ=>((aa (λ_=>M.ret (.int 1000000)) (aa (λ_=>M.ret (.int 1)) (aa (au mY (λρ=>ah ρ 2) (au dq (λ_=>M.ret (.int 1)) (λρ=>((aa (λρ=>ah ρ 0) (aa (λ_=>M.ret (.int 30)) (λ_=>M.ret []))) ρ).bind ao))) (aa (au mY (λρ=>ah ρ 2) (au dq (λ_=>M.ret (.int 5)) (λρ=>((aa (λρ=>ah ρ 0) (aa (λ_=>M.ret (.int 9)) (λ_=>M.ret []))) ρ).bind ao))) (λ_=>M.ret []))))) ρ).bind bb)) (λρ=>((aa (λρ=>ah ρ 0) (aa (λ_=>M.ret (.int 4)) (λ_=>M.ret []))) ρ).bind ao)))
    (aP (λρ=>((aa (λρ=>((aa (λρ=>ah ρ 4) (λ_=>M.ret [])) ρ).bind oG) (aa (λρ=>((aa (λρ=>ah ρ 0) (aa (λρ=>ah ρ 3) (λ_=>M.ret []))) ρ).bind aO) (aa (λρ=>ah ρ 10) (λ_=>M.ret [])))) ρ).bind bE)))))))
def gh : List PV -> M PV:=gF 1 11 iN
def fw : ak -> M Fl:=(aP (au bJ (a8 (λρ=>((aa (λ_=>M.ret (.int 0)) (aa (au bJ (λρ=>ah ρ 1) (λ_=>M.ret (.int 2))) (aa (λρ=>((aa (λρ=>ah ρ 0) (aa (au dq (au bJ (λρ=>ah ρ 1) (λ_=>M.ret (.int 2))) (λ_=>M.ret (.int 1))) (λ_=>M.ret []))) ρ).bind ao) (aa (au rA (au bJ (λρ=>ah ρ 1) (λ_=>M.ret (.int 2))) (λ_=>M.ret (.int 2))) (λ_=>M.ret []))))) ρ).bind bb)) (λρ=>((aa (λρ=>ah ρ 0) (aa (λ_=>M.ret (.int 4)) (λ_=>M.ret []))) ρ).bind ao)))
def cE : List PV -> M PV:=gF 2 2 fw
def iL : ak -> M Fl:=(aG (ij 2 3 (aa (λρ=>((aa (λρ=>ah ρ 0) (aa (λ_=>M.ret (.int 8)) (λ_=>M.ret []))) ρ).bind ao) (aa (au eU (λρ=>((aa (λρ=>ah ρ 0) (aa (λ_=>M.ret (.int 7)) (λ_=>M.ret []))) ρ).bind ao) (λ_=>M.ret (.int 3))) (λ_=>M.ret []))))
    (aG (gB (bD (au (f6 false) (λρ=>((aa (λρ=>ah ρ 0) (aa (λ_=>M.ret (.int 6)) (λ_=>M.ret []))) ρ).bind ao) (λ_=>M.ret (.int 0))))
    (bF 3 (au mY (au eU (au vL (λ_=>M.ret (.int 10)) (λ_=>M.ret (.int 60))) (λ_=>M.ret (.int 1))) (au bJ (a8 (λρ=>((aa (λ_=>M.ret (.int 1)) (aa (λρ=>((λ_=>M.ret (.int 1)) ρ).bind uJ) (λ_=>M.ret []))) ρ).bind bb)) (λρ=>((aa (λρ=>ah ρ 0) (aa (λ_=>M.ret (.int 2)) (λ_=>M.ret []))) ρ).bind ao))))
    (λρ=>M.ret (.nx ρ)))
    (aG (gB (bD (au (f6 false) (λρ=>ah ρ 2) (λ_=>M.ret (.int 0))))
    (aG (bF 4 (λρ=>((aa (λρ=>ah ρ 0) (aa (λρ=>ah ρ 1) (λ_=>M.ret []))) ρ).bind cE))
    (aP (λρ=>((aa (λ_=>M.ret (.str "hours")) (aa (λρ=>ah ρ 4) (aa (λρ=>((aa (λρ=>ah ρ 0) (aa (a8 (λρ=>((aa (au dq (λρ=>ah ρ 4) (λ_=>M.ret (.int 1))) (aa (λ_=>M.ret (.int 1000001)) (aa (au dq (au dq (λρ=>ah ρ 4) (λ_=>M.ret (.int 1))) (λρ=>((aa (λρ=>ah ρ 0) (aa (au eU (λ_=>M.ret (.int 1000001)) (λρ=>ah ρ 4)) (λ_=>M.ret []))) ρ).bind ao)) (λ_=>M.ret [])))) ρ).bind bb)) (λ_=>M.ret []))) ρ).bind aO) (λ_=>M.ret [])))) ρ).bind bE)))
    (λρ=>M.ret (.nx ρ)))
    (aG (gB (bD (au mx (λρ=>ah ρ 2) (λ_=>M.ret (.int 4))))
    (aP (λρ=>((aa (au bJ (a8 (λρ=>((aa (λ_=>M.ret (.str "least")) (aa (λ_=>M.ret (.str "most")) (aa (λ_=>M.ret (.str "least")) (λ_=>M.ret [])))) ρ).bind bb)) (au eU (λρ=>ah ρ 2) (λ_=>M.ret (.int 1)))) (aa (λρ=>((aa (λρ=>ah ρ 0) (aa (a8 (λρ=>((aa (λ_=>M.ret (.str "wind")) (aa (λ_=>M.ret (.str "snow")) (aa (λ_=>M.ret (.str "a")) (aa (λ_=>M.ret (.str "zzzzzzzz")) (λ_=>M.ret []))))) ρ).bind bb)) (λ_=>M.ret []))) ρ).bind aO) (aa (λρ=>ah ρ 3) (λ_=>M.ret [])))) ρ).bind bE))
    (λρ=>M.ret (.nx ρ)))
    (aG (gB (bD (au (f6 false) (λρ=>ah ρ 2) (λ_=>M.ret (.int 4))))
    (aP (λρ=>((aa (λ_=>M.ret (.str "looked")) (aa (λρ=>((aa (λρ=>ah ρ 0) (aa (a8 (λρ=>((aa (λ_=>M.ret (.int 1)) (aa (λ_=>M.ret (.int 1000000)) (aa (au dq (λ_=>M.ret (.int 1)) (λρ=>((aa (λρ=>ah ρ 0) (aa (λ_=>M.ret (.int 40)) (λ_=>M.ret []))) ρ).bind ao)) (aa (au dq (λ_=>M.ret (.int 1)) (au rA (au bJ (λρ=>ah ρ 1) (λ_=>M.ret (.int 2))) (λ_=>M.ret (.int 3)))) (λ_=>M.ret []))))) ρ).bind bb)) (λ_=>M.ret []))) ρ).bind aO) (λ_=>M.ret []))) ρ).bind bE))
    (λρ=>M.ret (.nx ρ)))
    (aP (ka (bD (au mx (λρ=>ah ρ 2) (λ_=>M.ret (.int 7)))) (λρ=>((aa (λ_=>M.ret (.str "with")) (aa (au bJ (λρ=>((aa (λρ=>ah ρ 0) (aa (au bJ (λρ=>ah ρ 1) (λ_=>M.ret (.int 0))) (λ_=>M.ret []))) ρ).bind aO) (λ_=>M.ret (.int 0))) (λ_=>M.ret []))) ρ).bind bE) (λρ=>((aa (λ_=>M.ret (.str "never")) (λ_=>M.ret [])) ρ).bind bE))))))))
def gf : List PV -> M PV:=gF 2 5 iL
def hW : ak -> M Fl:=(aP (λρ=>((aa (a8 (cC [none, some 0, some 1] (λρ=>((aa (au bJ (a8 (λρ=>((aa (λ_=>M.ret (.int 1)) (aa (λ_=>M.ret (.int 2)) (aa (λ_=>M.ret (.int 0)) (aa (λ_=>M.ret (.int 3)) (aa (λ_=>M.ret (.int 6)) (aa (λ_=>M.ret (.int 1)) (aa (λ_=>M.ret (.int 2)) (aa (λ_=>M.ret (.int 4)) (λ_=>M.ret []))))))))) ρ).bind bb)) (λρ=>((aa (λρ=>ah ρ 0) (aa (λ_=>M.ret (.int 8)) (λ_=>M.ret []))) ρ).bind ao)) (λ_=>M.ret [])) ρ).bind j7) (aX 0) bS (λρ=>((aa (λρ=>ah ρ 1) (aa (λρ=>ah ρ 2) (λ_=>M.ret []))) ρ).bind gf))) (λ_=>M.ret [])) ρ).bind oG))
def fv : List PV -> M PV:=gF 2 2 hW
def gs : ak -> M Fl:=(aP (a8 (cC [none] (λρ=>((au bJ (λρ=>ah ρ 0) (λ_=>M.ret (.int 0))) ρ).bind ba) (aX 0) (bD (au (f6 false) (au bJ (λρ=>ah ρ 0) (λ_=>M.ret (.int 1))) (λ_=>M.ret (.str "slope")))) (au bJ (λρ=>ah ρ 0) (λ_=>M.ret (.int 0))))))
def eC : List PV -> M PV:=gF 1 1 gs
def iM : ak -> M Fl:=(aG (eT 3 4 5 (aa (λρ=>((aa (λρ=>ah ρ 0) (aa (λ_=>M.ret (.int 3)) (λ_=>M.ret []))) ρ).bind ao) (aa (λρ=>((aa (λρ=>ah ρ 0) (aa (λρ=>ah ρ 1) (λ_=>M.ret []))) ρ).bind cE) (aa (λρ=>((aa (λρ=>ah ρ 1) (λ_=>M.ret [])) ρ).bind eC) (λ_=>M.ret [])))))
    (aG (gB (gD (bD (au (f6 false) (λρ=>ah ρ 3) (λ_=>M.ret (.int 0)))) (bD (au (f6 true) (λρ=>ah ρ 5) (a8 (λρ=>((λ_=>M.ret []) ρ).bind bb)))))
    (aP (λρ=>((aa (λ_=>M.ret (.str "look")) (aa (λρ=>ah ρ 2) (aa (λρ=>ah ρ 4) (aa (λρ=>((aa (λρ=>ah ρ 0) (aa (λρ=>ah ρ 5) (λ_=>M.ret []))) ρ).bind aO) (λ_=>M.ret []))))) ρ).bind bE))
    (λρ=>M.ret (.nx ρ)))
    (aG (gB (bD (au (f6 false) (λρ=>ah ρ 3) (λ_=>M.ret (.int 1))))
    (aP (λρ=>((aa (λ_=>M.ret (.str "rule")) (aa (λρ=>ah ρ 2) (aa (λρ=>ah ρ 4) (aa (au bJ (λρ=>((aa (λρ=>ah ρ 0) (aa (au bJ (λρ=>ah ρ 1) (λ_=>M.ret (.int 0))) (λ_=>M.ret []))) ρ).bind aO) (λ_=>M.ret (.int 0))) (aa (λρ=>((aa (λρ=>ah ρ 0) (aa (λρ=>ah ρ 1) (λ_=>M.ret []))) ρ).bind fv) (λ_=>M.ret [])))))) ρ).bind bE))
    (λρ=>M.ret (.nx ρ)))
    (aG (bF 6 (au bJ (a8 (λρ=>((aa (au eU (λρ=>((aa (λρ=>ah ρ 0) (aa (λ_=>M.ret (.int 7)) (λ_=>M.ret []))) ρ).bind ao) (λ_=>M.ret (.int 3))) (aa (au eU (au vL (λ_=>M.ret (.int 10)) (λ_=>M.ret (.int 60))) (λ_=>M.ret (.int 1))) (aa (au eU (λ_=>M.ret (.int 1)) (au vL (λ_=>M.ret (.int 10)) (λ_=>M.ret (.int 60)))) (aa (λ_=>M.ret (.int 0)) (λ_=>M.ret []))))) ρ).bind bb)) (λρ=>((aa (λρ=>ah ρ 0) (aa (λ_=>M.ret (.int 4)) (λ_=>M.ret []))) ρ).bind ao)))
    (aP (λρ=>((aa (λ_=>M.ret (.str "read")) (aa (λρ=>ah ρ 2) (aa (λρ=>ah ρ 4) (aa (λρ=>((aa (λρ=>ah ρ 0) (aa (a8 (λρ=>((aa (λ_=>M.ret (.str "wind")) (aa (λ_=>M.ret (.str "snow")) (aa (λ_=>M.ret (.str "a")) (aa (λ_=>M.ret (.str "zzzzzzzz")) (λ_=>M.ret []))))) ρ).bind bb)) (λ_=>M.ret []))) ρ).bind aO) (aa (λρ=>ah ρ 6) (λ_=>M.ret [])))))) ρ).bind bE))))))
def gg : List PV -> M PV:=gF 3 7 iM
def hZ : ak -> M Fl:=(aG (za 3 4 (λρ=>((λ_=>M.ret []) ρ).bind bb) (λρ=>((λ_=>M.ret []) ρ).bind bb))
    (aG (jw (λρ=>((aa (λρ=>ah ρ 2) (λ_=>M.ret [])) ρ).bind j7) (aX 5)
    (aG (bF 6 (λρ=>((aa (λρ=>ah ρ 0) (aa (a8 (λρ=>((aa (λρ=>ah ρ 5) (aa (au eU (λ_=>M.ret (.int 999999)) (λρ=>ah ρ 5)) (aa (au eU (λ_=>M.ret (.int 60)) (λρ=>ah ρ 5)) (aa (λρ=>((aa (λρ=>ah ρ 0) (aa (λ_=>M.ret (.int 1000000)) (λ_=>M.ret []))) ρ).bind ao) (λ_=>M.ret []))))) ρ).bind bb)) (λ_=>M.ret []))) ρ).bind aO))
    (aG (jw (λρ=>((aa (λρ=>ah ρ 2) (λ_=>M.ret [])) ρ).bind j7) (aX 7)
    (gB (bD (au (Hx false) (λρ=>ah ρ 6) (λρ=>iR ρ 3)))
    (bF 6 (au v9 (au dq (λρ=>ah ρ 6) (λ_=>M.ret (.int 1))) (λ_=>M.ret (.int 1000000))))
    (λρ=>M.ret (.nx ρ))))
    (aG (sD 3 (λρ=>ah ρ 6))
    (sD 4 (λρ=>((aa (λρ=>ah ρ 0) (aa (λρ=>ah ρ 1) (aa (λρ=>ah ρ 6) (λ_=>M.ret [])))) ρ).bind gg))))))
    (aP (λρ=>ah ρ 4))))
def eD : List PV -> M PV:=gF 3 8 hZ
def dN : ak -> M Fl:=(aG (bF 1 (a8 (cC [none] (λρ=>((λρ=>ah ρ 0) ρ).bind ba) (aX 0) bS (oB "str" dY (λ_=>M.ret (.str " ")) (aa (a8 (cC [none] (λρ=>((λρ=>ah ρ 0) ρ).bind ba) (aX 0) bS (λρ=>((aa (λρ=>ah ρ 0) (λ_=>M.ret [])) ρ).bind kP))) (λ_=>M.ret []))))))
    (aP (ka (bD (au (f6 true) (λρ=>ah ρ 1) (a8 (λρ=>((λ_=>M.ret []) ρ).bind bb)))) (oB "str" dY (λ_=>M.ret (.str ", ")) (aa (λρ=>ah ρ 1) (λ_=>M.ret []))) (λ_=>M.ret (.str "-")))))
def cn : List PV -> M PV:=gF 1 2 dN
def dn : ak -> M Fl:=(aG (bF 1 (oB "str" dY (λ_=>M.ret (.str " ")) (aa (a8 (λρ=>((aa (au bJ (λρ=>ah ρ 0) (λ_=>M.ret (.int 0))) (aa (λρ=>((aa (au bJ (λρ=>ah ρ 0) (λ_=>M.ret (.int 1))) (λ_=>M.ret [])) ρ).bind kP) (aa (λρ=>((aa (au bJ (λρ=>ah ρ 0) (λ_=>M.ret (.int 2))) (λ_=>M.ret [])) ρ).bind kP) (aa (au bJ (λρ=>ah ρ 0) (λ_=>M.ret (.int 3))) (λ_=>M.ret []))))) ρ).bind bb)) (λ_=>M.ret []))))
    (aG (gB (bD (au (f6 false) (au bJ (λρ=>ah ρ 0) (λ_=>M.ret (.int 0))) (λ_=>M.ret (.str "look"))))
    (aP (λρ=>ah ρ 1))
    (λρ=>M.ret (.nx ρ)))
    (aP (au dq (au dq (λρ=>ah ρ 1) (λ_=>M.ret (.str " "))) (ka (bD (au (f6 false) (au bJ (λρ=>ah ρ 0) (λ_=>M.ret (.int 0))) (λ_=>M.ret (.str "read")))) (λρ=>((aa (au bJ (λρ=>ah ρ 0) (λ_=>M.ret (.int 4))) (λ_=>M.ret [])) ρ).bind kP) (λρ=>((aa (au bJ (λρ=>ah ρ 0) (λ_=>M.ret (.int 4))) (λ_=>M.ret [])) ρ).bind cn))))))
def bu : List PV -> M PV:=gF 1 2 dn
def cU : List PV -> M PV:=CL 2 ic
def pX : ak -> M Fl:=(aG (bF 3 (λρ=>((aa (λρ=>ah ρ 1) (λ_=>M.ret [])) ρ).bind gh))
    (aG (bF 4 (λρ=>((aa (λρ=>ah ρ 1) (aa (λρ=>ah ρ 3) (aa (ka (bD (au (f6 false) (λρ=>((aa (λρ=>ah ρ 1) (aa (λ_=>M.ret (.int 6)) (λ_=>M.ret []))) ρ).bind ao) (λ_=>M.ret (.int 5)))) (λ_=>M.ret (.int 30)) (λρ=>((aa (λρ=>ah ρ 1) (aa (λ_=>M.ret (.int 9)) (λ_=>M.ret []))) ρ).bind ao)) (λ_=>M.ret [])))) ρ).bind eD))
    (aG (bF 5 (λρ=>((aa (a8 (λρ=>((λρ=>ah ρ 4) ρ).bind qr)) (λ_=>M.ret [])) ρ).bind oG))
    (aG (ij 6 7 (aa (λρ=>((aa (λρ=>ah ρ 5) (λ_=>M.ret [])) ρ).bind eE) (aa (oB "str" dY (λ_=>M.ret (.str "\n")) (aa (a8 (cC [none] (λρ=>((λρ=>ah ρ 5) ρ).bind ba) (aX 0) bS (λρ=>((aa (λρ=>ah ρ 0) (λ_=>M.ret [])) ρ).bind bu))) (λ_=>M.ret []))) (λ_=>M.ret []))))
    (aG (gB (kE (cQ (bD (λρ=>((λρ=>ah ρ 6) ρ).bind (fj "str")))) (kE (bD (au (f6 true) (λρ=>ah ρ 6) (λρ=>ah ρ 7))) (bD (au (f6 true) (λρ=>((aa (λρ=>((aa (λρ=>ah ρ 3) (aa (λρ=>ah ρ 7) (λ_=>M.ret []))) ρ).bind df) (λ_=>M.ret [])) ρ).bind pG) (λρ=>((aa (λρ=>ah ρ 5) (λ_=>M.ret [])) ρ).bind pG)))))
    (aP (λ_=>M.ret (.bl false)))
    (λρ=>M.ret (.nx ρ)))
    (aG (bF 8 (au dq (λ_=>M.ret (.int 1)) (λρ=>((aa (λρ=>ah ρ 1) (aa (λρ=>((aa (λ_=>M.ret (.int 1)) (aa (au eU (λρ=>((aa (λρ=>ah ρ 5) (λ_=>M.ret [])) ρ).bind eV) (λ_=>M.ret (.int 1))) (λ_=>M.ret []))) ρ).bind CW) (λ_=>M.ret []))) ρ).bind ao)))
    (aG (bF 9 (oB "str" dY (λ_=>M.ret (.str "\n")) (aa (a8 (cC [none] (λρ=>((au dq (mO pF (λρ=>ah ρ 5) (λρ=>((λρ=>ah ρ 8) ρ).bind λy=>(jb y).bind λi=>M.ret (some i)) (λ_=>M.ret none)) (mO pF (λρ=>ah ρ 5) (λ_=>M.ret none) (λρ=>((λρ=>ah ρ 8) ρ).bind λy=>(jb y).bind λi=>M.ret (some i)))) ρ).bind ba) (aX 0) bS (λρ=>((aa (λρ=>ah ρ 0) (λ_=>M.ret [])) ρ).bind bu))) (λ_=>M.ret []))))
    (gB (gD (bD (au mH (λρ=>((aa (λρ=>ah ρ 5) (λ_=>M.ret [])) ρ).bind eV) (λ_=>M.ret (.int 1)))) (cQ (bD (λρ=>((aa (λρ=>ah ρ 3) (aa (λρ=>ah ρ 9) (λ_=>M.ret []))) ρ).bind cU))))
    (aP (λ_=>M.ret (.bl false)))
    (λρ=>M.ret (.nx ρ))))))))))
def vK : ak -> M Fl:=(aP (λ_=>M.ret (.bl true)))
section
variable {P : Program} {w : World} {K : Frag} {mg : Str -> Option Value} {base : Heap} {a_is_whole a_is_within a_is_name a_way_named a_is_way_name a_is_slope_name a_is_hours a_begins_with_text a_is_rule a_is_rules a_is_page a_book_of a_is_book a_are_figures a_thing_of a_row_of a_rows_of a_page_of a_read_page a_read_book a_row_text a_rows_text a_page_text a_book_text awbag awdraw awany awlabel awlabels awpace awhill awmoment awrule awrules awslopes awpage awpages awrules_text awpage_text awrefused a_law cb_book_of tb_book_of cb_law tb_law : Addr} {d_is_whole d_is_within d_is_name d_way_named d_is_way_name d_is_slope_name d_is_hours d_begins_with_text d_is_rule d_is_rules d_is_page d_book_of d_is_book d_are_figures d_thing_of d_row_of d_rows_of d_page_of d_read_page d_read_book d_row_text d_rows_text d_page_text d_book_text dwbag dwdraw dwany dwlabel dwlabels dwpace dwhill dwmoment dwrule dwrules dwslopes dwpage dwpages dwrules_text dwpage_text dwrefused d_law : FuncData} (T : Txt K mg a_is_whole a_is_within a_is_name a_way_named a_is_way_name a_is_slope_name a_is_hours a_begins_with_text a_is_rule a_is_rules a_is_page a_book_of a_is_book a_are_figures a_thing_of a_row_of a_rows_of a_page_of a_read_page a_read_book a_row_text a_rows_text a_page_text a_book_text awbag awdraw awany awlabel awlabels awpace awhill awmoment awrule awrules awslopes awpage awpages awrules_text awpage_text awrefused a_law cb_book_of tb_book_of cb_law tb_law d_is_whole d_is_within d_is_name d_way_named d_is_way_name d_is_slope_name d_is_hours d_begins_with_text d_is_rule d_is_rules d_is_page d_book_of d_is_book d_are_figures d_thing_of d_row_of d_rows_of d_page_of d_read_page d_read_book d_row_text d_rows_text d_page_text d_book_text dwbag dwdraw dwany dwlabel dwlabels dwpace dwhill dwmoment dwrule dwrules dwslopes dwpage dwpages dwrules_text dwpage_text dwrefused d_law)
include T
theorem v5 : aI P w K mg base bO 1 a_is_whole d_is_whole ["thing"] (cG (aZ tb_book_of tb_law K) cF):=by
  have eb : ar eM = ar eM:=rfl;conv at eb=>rhs; whnf
  have es : ag eM = ag eM:=rfl;conv at es=>rhs; whnf
  refine bL (N:=["thing"]) (ps:=["thing"]) (k:=0) (m:=gU) rfl T.cF vA (by decide) eb es λfi A outer s H E hr=>?_;unfold gU;exact (aF (aL (aM (fg (kr (aT gK rfl T.cD PyProof.Rows.boot_isinstance (bg (EV.b (af 0 (bv 0))) (bg (i5 (v:=.ty "int") rfl T.CZ PyProof.Rows.boot_int rfl) d8))) EY) (gC (HF (kr (aT gK rfl T.cD PyProof.Rows.boot_isinstance (bg (EV.b (af 0 (bv 0))) (bg (i5 (v:=.ty "bool") rfl T.Hh PyProof.Rows.boot_bool rfl) d8))) C5)))))))
theorem uF (fA : aI P w K mg base bO 1 a_is_whole d_is_whole ["thing"] (cG (aZ tb_book_of tb_law K) cF)) : aI P w K mg base bO 2 a_is_within d_is_within ["thing", "low", "high"] (cG (aZ tb_book_of tb_law K) bf):=by
  have eb : ar dG = ar dG:=rfl;conv at eb=>rhs; whnf
  have es : ag dG = ag dG:=rfl;conv at es=>rhs; whnf
  refine bL (N:=["thing", "low", "high"]) (ps:=["thing", "low", "high"]) (k:=1) (m:=dH) rfl T.bf ue (by decide) eb es λfi A outer s H E hr=>?_;unfold dH;exact (aF (aL (aM (fg (ax (aw fA (hr.mono (by decide)) rfl T.gU T.cF.kp T.m9 .nil aE (ae (af 0 (bv 0)) av))) (gC (rC kq kj kq kj (EV.b (af 1 (bv 1))) (EV.b (af 0 (bv 0))) (EV.b (af 2 (bv 2)))))))))
theorem xR : aI P w K mg base bO 1 a_is_name d_is_name ["thing"] (cG (aZ tb_book_of tb_law K) cq):=by
  obtain ⟨_, c_MOST_LETTERS⟩:=T.rG;have eb : ar eZ = ar eZ:=rfl;conv at eb=>rhs; whnf
  have es : ag eZ = ag eZ:=rfl;conv at es=>rhs; whnf
  refine bL (N:=["thing"]) (ps:=["thing"]) (k:=0) (m:=h7) rfl T.cq xv (by decide) eb es λfi A outer s H E hr=>?_;unfold h7
  exact (aD (dB (dJ (WV.t (mD (fS (fK (kr (aT gK rfl T.cD PyProof.Rows.boot_isinstance (bg (EV.b (af 0 (bv 0))) (bg (i5 (v:=.ty "str") rfl T.mF PyProof.Rows.boot_str rfl) d8))) n6))) (kN (fS (vi kq kj kq kj (EV.b aq) (EV.b (aR (aT bB rfl T.gI PySem.boot_len (aC (EV.b (af 0 (bv 0))) aN)) fM)) (EV.b (la rfl c_MOST_LETTERS))))))) (aF (aL (aM lL))) bW))
    (aF (aL (aM (aR (aT (oA rfl) rfl T.zj PyProof.Rows.boot_all (aC (EV.b (EF.v (jy (jz (bc.uL (N:=["sign"]) (js:=[none]) (ag eZ) ["thing"] rfl rfl (by decide +kernel)) rfl (my (EV.b (af 0 (bv 0)))) (λ_ _ _ _=>(dX (cf (i:=0) (by decide : (["sign"] : List Str).Nodup) rfl (Or.inl rfl)))) (λ_ _ _ _=>fT) (λ_ _ _ _=>(rC kq kj kq kj (EV.b aK) (EV.b (af 0 (bv 0))) (EV.b aK))))))) aN)) uY)))))
theorem ux : aI P w K mg base bO 1 a_way_named d_way_named ["hill", "name"] (cG (aZ tb_book_of tb_law K) cm):=by
  have eb : ar dC = ar dC:=rfl;conv at eb=>rhs; whnf
  have es : ag dC = ag dC:=rfl;conv at es=>rhs; whnf
  refine bL (N:=["hill", "name", "way"]) (ps:=["hill", "name"]) (k:=0) (m:=fo) rfl T.cm nI (by decide) eb es λfi A outer s H E hr=>?_;unfold fo
  exact (aD (oH (m7 PassesOwn.never rfl (JB (bp aV bo (EV.b (af 0 (bv 0))) (EV.b aq) (λ_ _=>rfl))) (kZ (cf (i:=2) nI.nd rfl (Or.inl rfl))) (aF (dB (dJ (bG (bI hr.units) (bY false) (EV.b (bp aV bo (EV.b (af 2 (bv 2))) (EV.b aq) (λ_ _=>rfl))) (EV.b (af 1 (bv 1))) (aW _)) (aF (aL (aM (af 2 (bv 2))))) bW)))))
    (aF (aL (aM yh))))
theorem qL (gv : aI P w K mg base bO 1 a_is_name d_is_name ["thing"] (cG (aZ tb_book_of tb_law K) cq)) (ie : aI P w K mg base bO 1 a_way_named d_way_named ["hill", "name"] (cG (aZ tb_book_of tb_law K) cm)) : aI P w K mg base bO 2 a_is_way_name d_is_way_name ["hill", "thing"] (cG (aZ tb_book_of tb_law K) bA):=by
  have eb : ar cx = ar cx:=rfl;conv at eb=>rhs; whnf
  have es : ag cx = ag cx:=rfl;conv at es=>rhs; whnf
  refine bL (N:=["hill", "thing"]) (ps:=["hill", "thing"]) (k:=1) (m:=dI) rfl T.bA qv (by decide) eb es λfi A outer s H E hr=>?_;unfold dI;exact (aF (aL (aM (fg (ax (aw gv (hr.mono (by decide)) rfl T.h7 T.cq.kp T.pf .nil aE (ae (af 1 (bv 1)) av))) (gC (fZ EG EC (EV.b (ax (aw ie (hr.mono (by decide)) rfl T.fo T.cm.kp T.pU .nil aE (ae (af 0 (bv 0)) (ae (af 1 (bv 1)) av))))) (EV.b yh) (aW _)))))))
theorem oX (cT : aI P w K mg base bO 2 a_is_way_name d_is_way_name ["hill", "thing"] (cG (aZ tb_book_of tb_law K) bA)) (ie : aI P w K mg base bO 1 a_way_named d_way_named ["hill", "name"] (cG (aZ tb_book_of tb_law K) cm)) : aI P w K mg base bO 3 a_is_slope_name d_is_slope_name ["hill", "thing"] (cG (aZ tb_book_of tb_law K) cI):=by
  have eb : ar bN = ar bN:=rfl;conv at eb=>rhs; whnf
  have es : ag bN = ag bN:=rfl;conv at es=>rhs; whnf
  refine bL (N:=["hill", "thing"]) (ps:=["hill", "thing"]) (k:=2) (m:=ei) rfl T.cI oK (by decide) eb es λfi A outer s H E hr=>?_;unfold ei;exact (aF (aL (aM (fg (ax (aw cT (hr.mono (by decide)) rfl T.dI T.bA.kp T.ku .nil aE (ae (af 0 (bv 0)) (ae (af 1 (bv 1)) av)))) (gC (fZ (bI hr.units) (bY false) (EV.b (bp aV bo (EV.b (ax (aw ie (hr.mono (by decide)) rfl T.fo T.cm.kp T.pU .nil aE (ae (af 0 (bv 0)) (ae (af 1 (bv 1)) av))))) (EV.b aq) (λ_ _=>rfl))) (EV.b aK) (aW _)))))))
theorem v8 (de : aI P w K mg base bO 2 a_is_within d_is_within ["thing", "low", "high"] (cG (aZ tb_book_of tb_law K) bf)) : aI P w K mg base bO 3 a_is_hours d_is_hours ["a", "b"] (cG (aZ tb_book_of tb_law K) gm):=by
  obtain ⟨_, c_MOST_HOUR⟩:=T.wD;have eb : ar eO = ar eO:=rfl;conv at eb=>rhs; whnf
  have es : ag eO = ag eO:=rfl;conv at es=>rhs; whnf
  refine bL (N:=["a", "b"]) (ps:=["a", "b"]) (k:=2) (m:=iQ) rfl T.gm vC (by decide) eb es λfi A outer s H E hr=>?_;unfold iQ;exact (aF (aL (aM (fg (ax (aw de (hr.mono (by decide)) rfl T.dH T.bf.kp T.jf .nil aE (by refine ae (af 0 (bv 0)) ?_; refine ae aq ?_; refine ae (la rfl c_MOST_HOUR) ?_; exact av))) (fg (ax (aw de (hr.mono (by decide)) rfl T.dH T.bf.kp T.jf .nil aE (by refine ae (af 1 (bv 1)) ?_; refine ae aq ?_; refine ae (la rfl c_MOST_HOUR) ?_; exact av))) (gC (fZ vS zd (EV.b (af 0 (bv 0))) (EV.b (af 1 (bv 1))) (aW _))))))))
theorem mw : aI P w K mg base bO 1 a_begins_with_text d_begins_with_text ["thing"] (cG (aZ tb_book_of tb_law K) a9):=by
  have eb : ar bt = ar bt:=rfl;conv at eb=>rhs; whnf
  have es : ag bt = ag bt:=rfl;conv at es=>rhs; whnf
  refine bL (N:=["thing"]) (ps:=["thing"]) (k:=0) (m:=cj) rfl T.a9 mr (by decide) eb es λfi A outer s H E hr=>?_;unfold cj;exact (aF (aL (aM (fg (kr (aT gK rfl T.cD PyProof.Rows.boot_isinstance (bg (EV.b (af 0 (bv 0))) (bg (i5 (v:=.ty "tuple") rfl T.i3 PyProof.Rows.boot_tuple rfl) d8))) kit_tuple) (fg (fZ vT ze (EV.b (aR (aT bB rfl T.gI PySem.boot_len (aC (EV.b (af 0 (bv 0))) aN)) fM)) (EV.b aq) (aW _)) (gC (kr (aT gK rfl T.cD PyProof.Rows.boot_isinstance (bg (EV.b (bp aV bo (EV.b (af 0 (bv 0))) (EV.b aq) (λ_ _=>rfl))) (bg (i5 (v:=.ty "str") rfl T.mF PyProof.Rows.boot_str rfl) d8))) n6)))))))
theorem xP (cM : aI P w K mg base bO 1 a_begins_with_text d_begins_with_text ["thing"] (cG (aZ tb_book_of tb_law K) a9)) (nA : aI P w K mg base bO 3 a_is_hours d_is_hours ["a", "b"] (cG (aZ tb_book_of tb_law K) gm)) (gv : aI P w K mg base bO 1 a_is_name d_is_name ["thing"] (cG (aZ tb_book_of tb_law K) cq)) (fA : aI P w K mg base bO 1 a_is_whole d_is_whole ["thing"] (cG (aZ tb_book_of tb_law K) cF)) (de : aI P w K mg base bO 2 a_is_within d_is_within ["thing", "low", "high"] (cG (aZ tb_book_of tb_law K) bf)) (cT : aI P w K mg base bO 2 a_is_way_name d_is_way_name ["hill", "thing"] (cG (aZ tb_book_of tb_law K) bA)) : aI P w K mg base bO 4 a_is_rule d_is_rule ["hill", "thing"] (cG (aZ tb_book_of tb_law K) gy):=by
  obtain ⟨_, c_MOST_LOOKED⟩:=T.sx;have eb : ar fH = ar fH:=rfl;conv at eb=>rhs; whnf
  have es : ag fH = ag fH:=rfl;conv at es=>rhs; whnf
  refine bL (N:=["hill", "thing", "word"]) (ps:=["hill", "thing"]) (k:=3) (m:=jN) rfl T.gy qw (by decide) eb es λfi A outer s H E hr=>?_;unfold jN
  exact (aD (dB (dJ (fS (fK (ax (aw cM (hr.mono (by decide)) rfl T.cj T.a9.kp T.jV .nil aE (ae (af 1 (bv 1)) av))))) (aF (aL (aM lL))) bW))
    (aD (di (dc (i:=2) qw.nd rfl (Or.inl rfl) (bp aV bo (EV.b (af 1 (bv 1))) (EV.b aq) (λ_ _=>rfl))))
    (aD (dB (dJ (bG (bI hr.units) (bY false) (EV.b (af 2 (bv 2))) (EV.b aK) (aW _)) (aF (aL (aM (fg (fZ (bI hr.units) (bY false) (EV.b (aR (aT bB rfl T.gI PySem.boot_len (aC (EV.b (af 1 (bv 1))) aN)) fM)) (EV.b aq) (aW _)) (gC (ax (aw nA (hr.mono (by decide)) rfl T.iQ T.gm.kp T.yx .nil aE (ae (bp aV bo (EV.b (af 1 (bv 1))) (EV.b aq) (λ_ _=>rfl)) (ae (bp aV bo (EV.b (af 1 (bv 1))) (EV.b aq) (λ_ _=>rfl)) av))))))))) bW))
    (aD (dB (dJ (WV.t (mD (bG (bI hr.units) (bY false) (EV.b (af 2 (bv 2))) (EV.b aK) (aW _)) (kN (bG (bI hr.units) (bY false) (EV.b (af 2 (bv 2))) (EV.b aK) (aW _))))) (aF (aL (aM (fg (fZ (bI hr.units) (bY false) (EV.b (aR (aT bB rfl T.gI PySem.boot_len (aC (EV.b (af 1 (bv 1))) aN)) fM)) (EV.b aq) (aW _)) (fg (ax (aw gv (hr.mono (by decide)) rfl T.h7 T.cq.kp T.pf .nil aE (ae (bp aV bo (EV.b (af 1 (bv 1))) (EV.b aq) (λ_ _=>rfl)) av))) (gC (ax (aw fA (hr.mono (by decide)) rfl T.gU T.cF.kp T.m9 .nil aE (ae (bp aV bo (EV.b (af 1 (bv 1))) (EV.b aq) (λ_ _=>rfl)) av))))))))) bW))
    (aD (dB (dJ (bG (bI hr.units) (bY false) (EV.b (af 2 (bv 2))) (EV.b aK) (aW _)) (aF (aL (aM (fg (fZ (bI hr.units) (bY false) (EV.b (aR (aT bB rfl T.gI PySem.boot_len (aC (EV.b (af 1 (bv 1))) aN)) fM)) (EV.b aq) (aW _)) (gC (ax (aw de (hr.mono (by decide)) rfl T.dH T.bf.kp T.jf .nil aE (by refine ae (bp aV bo (EV.b (af 1 (bv 1))) (EV.b aq) (λ_ _=>rfl)) ?_; refine ae aq ?_; refine ae (la rfl c_MOST_LOOKED) ?_; exact av)))))))) bW))
    (aD (dB (dJ (bG (bI hr.units) (bY false) (EV.b (af 2 (bv 2))) (EV.b aK) (aW _)) (aF (aL (aM (fg (fZ (bI hr.units) (bY false) (EV.b (aR (aT bB rfl T.gI PySem.boot_len (aC (EV.b (af 1 (bv 1))) aN)) fM)) (EV.b aq) (aW _)) (gC (ax (aw cT (hr.mono (by decide)) rfl T.dI T.bA.kp T.ku .nil aE (ae (af 0 (bv 0)) (ae (bp aV bo (EV.b (af 1 (bv 1))) (EV.b aq) (λ_ _=>rfl)) av))))))))) bW))
    (aF (aL (aM (fg (fZ (bI hr.units) (bY false) (EV.b (af 2 (bv 2))) (EV.b aK) (aW _)) (gC (fZ (bI hr.units) (bY false) (EV.b (aR (aT bB rfl T.gI PySem.boot_len (aC (EV.b (af 1 (bv 1))) aN)) fM)) (EV.b aq) (aW _)))))))))))))
theorem v7 (pC : aI P w K mg base bO 4 a_is_rule d_is_rule ["hill", "thing"] (cG (aZ tb_book_of tb_law K) gy)) : aI P w K mg base bO 5 a_is_rules d_is_rules ["hill", "thing"] (cG (aZ tb_book_of tb_law K) gk):=by
  obtain ⟨_, c_MOST_RULES⟩:=T.uW;have eb : ar dR = ar dR:=rfl;conv at eb=>rhs; whnf
  have es : ag dR = ag dR:=rfl;conv at es=>rhs; whnf
  refine bL (N:=["hill", "thing"]) (ps:=["hill", "thing"]) (k:=4) (m:=iO) rfl T.gk vB (by decide) eb es λfi A outer s H E hr=>?_;unfold iO
  exact (aD (dB (dJ (WV.t (mD (fS (fK (kr (aT gK rfl T.cD PyProof.Rows.boot_isinstance (bg (EV.b (af 1 (bv 1))) (bg (i5 (v:=.ty "tuple") rfl T.i3 PyProof.Rows.boot_tuple rfl) d8))) kit_tuple))) (kN (bG vT ze (EV.b (aR (aT bB rfl T.gI PySem.boot_len (aC (EV.b (af 1 (bv 1))) aN)) fM)) (EV.b (la rfl c_MOST_RULES)) (aW _))))) (aF (aL (aM lL))) bW))
    (aF (aL (aM (aR (aT (oA rfl) rfl T.zj PyProof.Rows.boot_all (aC (EV.b (EF.v (jy (jz (bc.uL (N:=["rule", "hill"]) (js:=[none, some 0]) (ag dR) ["hill", "thing"] rfl rfl (by decide +kernel)) rfl (my (EV.b (af 1 (bv 1)))) (λ_ _ _ _=>(dX (cf (i:=0) (by decide : (["rule", "hill"] : List Str).Nodup) rfl (Or.inl rfl)))) (λ_ _ _ _=>fT) (λ_ _ _ _=>(ax (aw pC (hr.mono (by decide)) rfl T.jN T.gy.kp T.A8 .nil aE (ae (af 1 (bv 1)) (ae (af 0 (bv 0)) av))))))))) aN)) uY)))))
theorem xQ (cM : aI P w K mg base bO 1 a_begins_with_text d_begins_with_text ["thing"] (cG (aZ tb_book_of tb_law K) a9)) (de : aI P w K mg base bO 2 a_is_within d_is_within ["thing", "low", "high"] (cG (aZ tb_book_of tb_law K) bf)) (gv : aI P w K mg base bO 1 a_is_name d_is_name ["thing"] (cG (aZ tb_book_of tb_law K) cq)) (fA : aI P w K mg base bO 1 a_is_whole d_is_whole ["thing"] (cG (aZ tb_book_of tb_law K) cF)) (ju : aI P w K mg base bO 3 a_is_slope_name d_is_slope_name ["hill", "thing"] (cG (aZ tb_book_of tb_law K) cI)) (cT : aI P w K mg base bO 2 a_is_way_name d_is_way_name ["hill", "thing"] (cG (aZ tb_book_of tb_law K) bA)) (nv : aI P w K mg base bO 5 a_is_rules d_is_rules ["hill", "thing"] (cG (aZ tb_book_of tb_law K) gk)) : aI P w K mg base bO 6 a_is_page d_is_page ["hill", "thing"] (cG (aZ tb_book_of tb_law K) dO):=by
  obtain ⟨_, c_MOST_NUMBER⟩:=T.sv;have eb : ar fI = ar fI:=rfl;conv at eb=>rhs; whnf
  have es : ag fI = ag fI:=rfl;conv at es=>rhs; whnf
  refine bL (N:=["hill", "thing", "word"]) (ps:=["hill", "thing"]) (k:=5) (m:=iP) rfl T.dO qx (by decide) eb es λfi A outer s H E hr=>?_;unfold iP
  exact (aD (dB (dJ (WV.t (mD (fS (fK (ax (aw cM (hr.mono (by decide)) rfl T.cj T.a9.kp T.jV .nil aE (ae (af 1 (bv 1)) av))))) (kN (bG vS zd (EV.b (aR (aT bB rfl T.gI PySem.boot_len (aC (EV.b (af 1 (bv 1))) aN)) fM)) (EV.b aq) (aW _))))) (aF (aL (aM lL))) bW))
    (aD (dB (dJ (WV.t (mD (fS (fK (ax (aw de (hr.mono (by decide)) rfl T.dH T.bf.kp T.jf .nil aE (by refine ae (bp aV bo (EV.b (af 1 (bv 1))) (EV.b aq) (λ_ _=>rfl)) ?_; refine ae aq ?_; refine ae (la rfl c_MOST_NUMBER) ?_; exact av))))) (kN (fS (fK (ax (aw de (hr.mono (by decide)) rfl T.dH T.bf.kp T.jf .nil aE (by refine ae (bp aV bo (EV.b (af 1 (bv 1))) (EV.b aq) (λ_ _=>rfl)) ?_; refine ae aq ?_; refine ae (bp aV bo (EV.b (af 0 (bv 0))) (EV.b aq) (λ_ _=>rfl)) ?_; exact av)))))))) (aF (aL (aM lL))) bW))
    (aD (di (dc (i:=2) qx.nd rfl (Or.inl rfl) (bp aV bo (EV.b (af 1 (bv 1))) (EV.b aq) (λ_ _=>rfl))))
    (aD (dB (dJ (bG (bI hr.units) (bY false) (EV.b (af 2 (bv 2))) (EV.b aK) (aW _)) (aF (aL (aM (fg (fZ (bI hr.units) (bY false) (EV.b (aR (aT bB rfl T.gI PySem.boot_len (aC (EV.b (af 1 (bv 1))) aN)) fM)) (EV.b aq) (aW _)) (fg (ax (aw gv (hr.mono (by decide)) rfl T.h7 T.cq.kp T.pf .nil aE (ae (bp aV bo (EV.b (af 1 (bv 1))) (EV.b aq) (λ_ _=>rfl)) av))) (gC (ax (aw fA (hr.mono (by decide)) rfl T.gU T.cF.kp T.m9 .nil aE (ae (bp aV bo (EV.b (af 1 (bv 1))) (EV.b aq) (λ_ _=>rfl)) av))))))))) bW))
    (aD (dB (dJ (bG (bI hr.units) (bY false) (EV.b (af 2 (bv 2))) (EV.b aK) (aW _)) (aF (aL (aM (fg (fZ (bI hr.units) (bY false) (EV.b (aR (aT bB rfl T.gI PySem.boot_len (aC (EV.b (af 1 (bv 1))) aN)) fM)) (EV.b aq) (aW _)) (gC (ax (aw ju (hr.mono (by decide)) rfl T.ei T.cI.kp T.p9 .nil aE (ae (af 0 (bv 0)) (ae (bp aV bo (EV.b (af 1 (bv 1))) (EV.b aq) (λ_ _=>rfl)) av))))))))) bW))
    (aD (dB (dJ (bG (bI hr.units) (bY false) (EV.b (af 2 (bv 2))) (EV.b aK) (aW _)) (aF (aL (aM (fg (fZ (bI hr.units) (bY false) (EV.b (aR (aT bB rfl T.gI PySem.boot_len (aC (EV.b (af 1 (bv 1))) aN)) fM)) (EV.b aq) (aW _)) (fg (ax (aw cT (hr.mono (by decide)) rfl T.dI T.bA.kp T.ku .nil aE (ae (af 0 (bv 0)) (ae (bp aV bo (EV.b (af 1 (bv 1))) (EV.b aq) (λ_ _=>rfl)) av)))) (gC (ax (aw nv (hr.mono (by decide)) rfl T.iO T.gk.kp T.yw .nil aE (ae (af 0 (bv 0)) (ae (bp aV bo (EV.b (af 1 (bv 1))) (EV.b aq) (λ_ _=>rfl)) av)))))))))) bW))
    (aF (aL (aM lL)))))))))
theorem xT (kb : K.In base) (hB : D3 base mg) : aI P w K mg base bO 4 a_book_of d_book_of ["pages"] (cG (aZ tb_book_of tb_law K) iV):=by
  have eb : ar fe = ar fe:=rfl;conv at eb=>rhs; whnf
  have es : ag fe = ag fe:=rfl;conv at es=>rhs; whnf
  refine HC (N:=["pages"]) (ps:=["pages"]) (k:=3) (m:=jP) rfl T.tR xx (by decide) eb es λA outer s H E hr=>?_;unfold jP;exact (aF (aL (aM (aR (dh eR rfl T.i3 PyProof.Rows.boot_tuple (aC (EV.b (EF.v (wC (tb:=(tb_book_of, _)) Lz (by intro q hq e; simp only [LK, LL, or_false] at hq; rcases hq with rfl | rfl <;> first | rfl | exact absurd e T.qQ) ⟨vN (k:=0) (N:=["page"]) (y:="page") (hr.mono (by decide)) hB rfl (PySem.W.codeHd_of_K kb T.tR.hd) rfl rfl ⟨rfl, rfl, rfl, by decide, rfl, by decide +kernel, by decide +kernel⟩ (λ_ _ _ _ _=>.of_eq rfl) (λ_ _ _ _ _=>uu (fO (gZ rf (pv 0) aJ (λ_ _=>rfl)) (fO (gZ rf (pv 0) aJ (λ_ _=>rfl)) jq))) rfl T.we (EV.b (af 0 (bv 0))).out⟩))) aN)) m5))))
theorem xS (pE : aI P w K mg base bO 4 a_book_of d_book_of ["pages"] (cG (aZ tb_book_of tb_law K) iV)) (jQ : aI P w K mg base bO 6 a_is_page d_is_page ["hill", "thing"] (cG (aZ tb_book_of tb_law K) dO)) : aI P w K mg base bO 7 a_is_book d_is_book ["hill", "thing"] (cG (aZ tb_book_of tb_law K) fJ):=by
  have eb : ar eh = ar eh:=rfl;conv at eb=>rhs; whnf
  have es : ag eh = ag eh:=rfl;conv at es=>rhs; whnf
  refine bL (N:=["hill", "thing"]) (ps:=["hill", "thing"]) (k:=6) (m:=jO) rfl T.fJ xw (by decide) eb es λfi A outer s H E hr=>?_;unfold jO
  exact (aD (dB (dJ (WV.t (mD (fS (fK (kr (aT gK rfl T.cD PyProof.Rows.boot_isinstance (bg (EV.b (af 1 (bv 1))) (bg (i5 (v:=.ty "tuple") rfl T.i3 PyProof.Rows.boot_tuple rfl) d8))) kit_tuple))) (kN (fS (fK (aR (aT (oA rfl) rfl T.zj PyProof.Rows.boot_all (aC (EV.b (EF.v (jy (jz (bc.uL (N:=["page", "hill"]) (js:=[none, some 0]) (ag eh) ["hill", "thing"] rfl rfl (by decide +kernel)) rfl (my (EV.b (af 1 (bv 1)))) (λ_ _ _ _=>(dX (cf (i:=0) (by decide : (["page", "hill"] : List Str).Nodup) rfl (Or.inl rfl)))) (λ_ _ _ _=>fT) (λ_ _ _ _=>(ax (aw jQ (hr.mono (by decide)) rfl T.iP T.dO.kp T.tQ .nil aE (ae (af 1 (bv 1)) (ae (af 0 (bv 0)) av))))))))) aN)) uY)))))) (aF (aL (aM lL))) bW))
    (aF (aL (aM (fg (fZ (bI hr.units) (bY false) (EV.b (af 1 (bv 1))) (EV.b (ax (aw pE (hr.mono (by decide)) rfl T.jP T.iV.kp T.Ba .nil aE (ae (af 1 (bv 1)) av)))) (aW _)) (gC (fZ (bI hr.units) (bY false) (EV.b (Dy (aT yq rfl T.gI PySem.boot_len (bg (JT (bc.uL (N:=["page"]) (js:=[none]) (ag eh) ["hill", "thing"] rfl rfl (by decide +kernel)) rfl (my (EV.b (af 1 (bv 1)))) (λ_ _ _ _=>(dX (cf (i:=0) (by decide : (["page"] : List Str).Nodup) rfl (Or.inl rfl)))) (λ_ _ _ _=>fT) (λ_ _ _ _=>(bp aV bo (EV.b (af 0 (bv 0))) (EV.b aq) (λ_ _=>rfl)))) d8)))) (EV.b (aR (aT bB rfl T.gI PySem.boot_len (aC (EV.b (af 1 (bv 1))) aN)) fM)) (aW _))))))))
theorem qM : aI P w K mg base bO 1 a_are_figures d_are_figures ["word"] (cG (aZ tb_book_of tb_law K) cc):=by
  obtain ⟨_, c_MOST_FIGURES⟩:=T.rH;have eb : ar bX = ar bX:=rfl;conv at eb=>rhs; whnf
  have es : ag bX = ag bX:=rfl;conv at es=>rhs; whnf
  refine bL (N:=["word"]) (ps:=["word"]) (k:=0) (m:=eQ) rfl T.cc qy (by decide) eb es λfi A outer s H E hr=>?_;unfold eQ
  exact (aD (dB (dJ (WV.t (mD (fS (vi kq kj kq kj (EV.b aq) (EV.b (aR (aT bB rfl T.gI PySem.boot_len (aC (EV.b (af 0 (bv 0))) aN)) fM)) (EV.b (la rfl c_MOST_FIGURES)))) (kN (fS (fK (aR (aT (oA rfl) rfl T.zj PyProof.Rows.boot_all (aC (EV.b (EF.v (jy (jz (bc.uL (N:=["sign"]) (js:=[none]) (ag bX) ["word"] rfl rfl (by decide +kernel)) rfl (my (EV.b (af 0 (bv 0)))) (λ_ _ _ _=>(dX (cf (i:=0) (by decide : (["sign"] : List Str).Nodup) rfl (Or.inl rfl)))) (λ_ _ _ _=>fT) (λ_ _ _ _=>(rC kq kj kq kj (EV.b aK) (EV.b (af 0 (bv 0))) (EV.b aK))))))) aN)) uY)))))) (aF (aL (aM lL))) bW))
    (aF (aL (aM (JM (fZ (bI hr.units) (bY false) (EV.b (af 0 (bv 0))) (EV.b aK) (aW _)) (gC (fZ (mV hr.units) (bY true) (EV.b (bp aV bo (EV.b (af 0 (bv 0))) (EV.b aq) (λ_ _=>rfl))) (EV.b aK) (aW _))))))))
theorem vU (i6 : aI P w K mg base bO 1 a_are_figures d_are_figures ["word"] (cG (aZ tb_book_of tb_law K) cc)) : aI P w K mg base bO 2 a_thing_of d_thing_of ["word"] (cG (aZ tb_book_of tb_law K) fB):=by
  have eb : ar eG = ar eG:=rfl;conv at eb=>rhs; whnf
  have es : ag eG = ag eG:=rfl;conv at es=>rhs; whnf
  refine bL (N:=["word"]) (ps:=["word"]) (k:=1) (m:=iJ) rfl T.fB vx (by decide) eb es λfi A outer s H E hr=>?_;unfold iJ
  exact (aD (dB (dJ (fK (ax (aw i6 (hr.mono (by decide)) rfl T.eQ T.cc.kp T.mI .nil aE (ae (af 0 (bv 0)) av)))) (aF (aL (aM (aR (dh tH rfl T.CZ PyProof.Rows.boot_int (aC (EV.b (af 0 (bv 0))) aN)) zJ)))) bW))
    (aD (dB (dJ (WV.t (tU (fK (kJ (gM PySem.F.plainAttrs_str PySem.F.slot_str_startswith PySem.F.type_str_startswith Ay (EV.b (af 0 (bv 0))) (aC (EV.b aK) aN)) Ax)) (tU (bG (mV hr.units) (bY true) (EV.b (af 0 (bv 0))) (EV.b aK) (aW _)) (tT (fK (ax (aw i6 (hr.mono (by decide)) rfl T.eQ T.cc.kp T.mI .nil aE (ae (gJ (gL r6 (EV.b (af 0 (bv 0))) (iY (EV.b aq)) iZ) rT) av)))))))) (aF (aL (aM (uV (zR tW (EV.b (aR (dh tH rfl T.CZ PyProof.Rows.boot_int (aC (EV.b (gJ (gL r6 (EV.b (af 0 (bv 0))) (iY (EV.b aq)) iZ) rT)) aN)) zJ))))))) bW))
    (aF (aL (aM (af 0 (bv 0)))))))
theorem Av (nh : aI P w K mg base bO 2 a_thing_of d_thing_of ["word"] (cG (aZ tb_book_of tb_law K) fB)) : aI P w K mg base bO 3 a_row_of d_row_of ["text"] (cG (aZ tb_book_of tb_law K) dU):=by
  have eb : ar fV = ar fV:=rfl;conv at eb=>rhs; whnf
  have es : ag fV = ag fV:=rfl;conv at es=>rhs; whnf
  refine bL (N:=["text"]) (ps:=["text"]) (k:=2) (m:=ja) rfl T.dU Ag (by decide) eb es λfi A outer s H E hr=>?_;unfold ja;exact (aF (aL (aM (aR (dh eR rfl T.i3 PyProof.Rows.boot_tuple (aC (EV.b (EF.v (jy (jz (bc.uL (N:=["word"]) (js:=[none]) (ag fV) ["text"] rfl rfl (by decide +kernel)) rfl (my (EV.b (EF.v (oo (gM PySem.F.plainAttrs_str PySem.F.slot_str_split PySem.F.type_str_split nY (EV.b (af 0 (bv 0))) (aC (EV.b aK) aN)))))) (λ_ _ _ _=>(dX (cf (i:=0) (by decide : (["word"] : List Str).Nodup) rfl (Or.inl rfl)))) (λ_ _ _ _=>fT) (λ_ _ _ _=>(ax (aw nh (hr.mono (by decide)) rfl T.iJ T.fB.kp T.yr .nil aE (ae (af 0 (bv 0)) av)))))))) aN)) m5))))
theorem xK (jX : aI P w K mg base bO 3 a_row_of d_row_of ["text"] (cG (aZ tb_book_of tb_law K) dU)) : aI P w K mg base bO 4 a_rows_of d_rows_of ["text"] (cG (aZ tb_book_of tb_law K) gx):=by
  have eb : ar eX = ar eX:=rfl;conv at eb=>rhs; whnf
  have es : ag eX = ag eX:=rfl;conv at es=>rhs; whnf
  refine bL (N:=["text"]) (ps:=["text"]) (k:=3) (m:=jM) rfl T.gx xt (by decide) eb es λfi A outer s H E hr=>?_;unfold jM;exact (aF (aL (aM (om (bG (bI hr.units) (bY false) (EV.b (af 0 (bv 0))) (EV.b aK) (aW _)) (iA av) (aR (dh eR rfl T.i3 PyProof.Rows.boot_tuple (aC (EV.b (EF.v (jy (jz (bc.uL (N:=["part"]) (js:=[none]) (ag eX) ["text"] rfl rfl (by decide +kernel)) rfl (my (EV.b (EF.v (oo (gM PySem.F.plainAttrs_str PySem.F.slot_str_split PySem.F.type_str_split nY (EV.b (af 0 (bv 0))) (aC (EV.b aK) aN)))))) (λ_ _ _ _=>(dX (cf (i:=0) (by decide : (["part"] : List Str).Nodup) rfl (Or.inl rfl)))) (λ_ _ _ _=>fT) (λ_ _ _ _=>(ax (aw jX (hr.mono (by decide)) rfl T.ja T.dU.kp T.rN .nil aE (ae (af 0 (bv 0)) av)))))))) aN)) m5)))))
theorem xM (jX : aI P w K mg base bO 3 a_row_of d_row_of ["text"] (cG (aZ tb_book_of tb_law K) dU)) (pk : aI P w K mg base bO 4 a_rows_of d_rows_of ["text"] (cG (aZ tb_book_of tb_law K) gx)) : aI P w K mg base bO 5 a_page_of d_page_of ["text"] (cG (aZ tb_book_of tb_law K) eu):=by
  have eb : ar fF = ar fF:=rfl;conv at eb=>rhs; whnf
  have es : ag fF = ag fF:=rfl;conv at es=>rhs; whnf
  refine bL (N:=["text", "words"]) (ps:=["text"]) (k:=4) (m:=iK) rfl T.eu qu (by decide) eb es λfi A outer s H E hr=>?_;unfold iK
  exact (aD (di (dc (i:=1) qu.nd rfl (Or.inl rfl) (EF.v (oo (gM PySem.F.plainAttrs_str PySem.F.slot_str_split PySem.F.type_str_split nY (EV.b (af 0 (bv 0))) (aC (EV.b aK) aN))))))
    (aD (dB (dJ (bG (bI hr.units) (bY false) (EV.b (bp aV bo (EV.b (af 1 (bv 1))) (EV.b aq) (λ_ _=>rfl))) (EV.b aK) (aW _)) (aF (aL (aM (bh cK dZ (EV.b (ax (aw jX (hr.mono (by decide)) rfl T.ja T.dU.kp T.rN .nil aE (ae (kJ (gM PySem.F.plainAttrs_str PySem.F.slot_str_join PySem.F.type_str_join ix (EV.b aK) (aC (EV.b (gJ (gL r6 (EV.b (af 1 (bv 1))) iZ (iY (EV.b aq))) rT)) aN)) iw) av)))) (EV.b (iA (ae (ax (aw pk (hr.mono (by decide)) rfl T.jM T.gx.kp T.A6 .nil aE (ae (kJ (gM PySem.F.plainAttrs_str PySem.F.slot_str_join PySem.F.type_str_join ix (EV.b aK) (aC (EV.b (gJ (gL r6 (EV.b (af 1 (bv 1))) (iY (EV.b aq)) iZ) rT)) aN)) iw) av))) av))))))) bW))
    (aF (aL (aM (ax (aw jX (hr.mono (by decide)) rfl T.ja T.dU.kp T.rN .nil aE (ae (af 0 (bv 0)) av))))))))
theorem uz (mn : aI P w K mg base bO 5 a_page_of d_page_of ["text"] (cG (aZ tb_book_of tb_law K) eu)) (jQ : aI P w K mg base bO 6 a_is_page d_is_page ["hill", "thing"] (cG (aZ tb_book_of tb_law K) dO)) : aI P w K mg base bO 7 a_read_page d_read_page ["hill", "text"] (cG (aZ tb_book_of tb_law K) bU):=by
  have eb : ar dD = ar dD:=rfl;conv at eb=>rhs; whnf
  have es : ag dD = ag dD:=rfl;conv at es=>rhs; whnf
  refine bL (N:=["hill", "text"]) (ps:=["hill", "text"]) (k:=6) (m:=hM) rfl T.bU ub (by decide) eb es λfi A outer s H E hr=>?_;unfold hM
  exact (aD (dB (dJ (WV.t (mD (fS (fK (kr (aT gK rfl T.cD PyProof.Rows.boot_isinstance (bg (EV.b (af 1 (bv 1))) (bg (i5 (v:=.ty "str") rfl T.mF PyProof.Rows.boot_str rfl) d8))) n6))) (kN (fS (fK (ax (aw jQ (hr.mono (by decide)) rfl T.iP T.dO.kp T.tQ .nil aE (ae (af 0 (bv 0)) (ae (ax (aw mn (hr.mono (by decide)) rfl T.iK T.eu.kp T.tP .nil aE (ae (af 1 (bv 1)) av))) av))))))))) yL bW))
    (aF (aL (aM (ax (aw mn (hr.mono (by decide)) rfl T.iK T.eu.kp T.tP .nil aE (ae (af 1 (bv 1)) av)))))))
theorem mE {cN cH : Addr} (e : Gr K mg "NoText" "HillError" cN cH [.type "ValueError", .type "Exception", .type "BaseException", .type "object"] "ValueError.__new__") (ig : aI P w K mg base bO 7 a_is_book d_is_book ["hill", "thing"] (cG (aZ tb_book_of tb_law K) fJ)) (fq : aI P w K mg base bO 7 a_read_page d_read_page ["hill", "text"] (cG (aZ tb_book_of tb_law K) bU)) : aI P w K mg base (D2 P w cN) 8 a_read_book d_read_book ["hill", "text"] (IC (aZ tb_book_of tb_law K) cN ic):=by
  have eb : ar cX = ar cX:=rfl;conv at eb=>rhs; whnf
  have es : ag cX = ag cX:=rfl;conv at es=>rhs; whnf
  refine Ds (N:=["hill", "text", "lines", "book"]) (ps:=["hill", "text"]) (k:=7) (m:=iy) (mc:=gq) (m2:=kX) rfl T.df kR eb es λfi A outer s H E hr=>?_;unfold iy gq kX
  exact (t4 (dB (dJ (fS (fK (kr (aT gK rfl T.cD PyProof.Rows.boot_isinstance (bg (EV.b (af 1 (bv 1))) (bg (i5 (v:=.ty "str") rfl T.mF PyProof.Rows.boot_str rfl) d8))) n6))) yL bW))
    (t4 (di (dc (i:=2) kR.nd rfl (Or.inl rfl) (om (bG (mV hr.units) (bY true) (EV.b (af 1 (bv 1))) (EV.b aK) (aW _)) (EF.v (oo (gM PySem.F.plainAttrs_str PySem.F.slot_str_split PySem.F.type_str_split nY (EV.b (af 1 (bv 1))) (aC (EV.b aK) aN)))) (EF.v (dS av)))))
    (t4 (di (dc (i:=3) kR.nd rfl (Or.inl rfl) (aR (dh eR rfl T.i3 PyProof.Rows.boot_tuple (aC (EV.b (EF.v (jy (jz (bc.uL (N:=["line", "hill"]) (js:=[none, some 0]) (ag cX) ["hill", "text", "lines", "book"] rfl rfl (by decide +kernel)) rfl (my (EV.b (af 2 (bv 2)))) (λ_ _ _ _=>(dX (cf (i:=0) (by decide : (["line", "hill"] : List Str).Nodup) rfl (Or.inl rfl)))) (λ_ _ _ _=>fT) (λ_ _ _ _=>(ax (aw fq (hr.mono (by decide)) rfl T.hM T.bU.kp T.wU .nil aE (ae (af 1 (bv 1)) (ae (af 0 (bv 0)) av))))))))) aN)) m5)))
    (GC (D8 (fS (fK (ax (aw ig (hr.mono (by decide)) rfl T.jO T.fJ.kp T.A9 .nil aE (ae (af 0 (bv 0)) (ae (af 3 (bv 3)) av)))))) (Cp e.n1 e.cl PySem.F.excBase_ValueError (by decide) PySem.F.excBase_ValueError rfl) (aL (aM (af 3 (bv 3)))))))))
theorem uA (ig : aI P w K mg base bO 7 a_is_book d_is_book ["hill", "thing"] (cG (aZ tb_book_of tb_law K) fJ)) (fq : aI P w K mg base bO 7 a_read_page d_read_page ["hill", "text"] (cG (aZ tb_book_of tb_law K) bU)) : aI P w K mg base bO 8 a_read_book d_read_book ["hill", "text"] (cG (aZ tb_book_of tb_law K) df):=by
  obtain ⟨cN, cH, e⟩:=T.xb;exact HB (mE T e ig fq)
theorem vV : aI P w K mg base bO 1 a_row_text d_row_text ["things"] (cG (aZ tb_book_of tb_law K) ck):=by
  have eb : ar dQ = ar dQ:=rfl;conv at eb=>rhs; whnf
  have es : ag dQ = ag dQ:=rfl;conv at es=>rhs; whnf
  refine bL (N:=["things"]) (ps:=["things"]) (k:=0) (m:=fX) rfl T.ck vy (by decide) eb es λfi A outer s H E hr=>?_;unfold fX;exact (aF (aL (aM (kJ (gM PySem.F.plainAttrs_str PySem.F.slot_str_join PySem.F.type_str_join ix (EV.b aK) (aC (EV.b (EF.v (jy (jz (bc.uL (N:=["thing"]) (js:=[none]) (ag dQ) ["things"] rfl rfl (by decide +kernel)) rfl (my (EV.b (af 0 (bv 0)))) (λ_ _ _ _=>(dX (cf (i:=0) (by decide : (["thing"] : List Str).Nodup) rfl (Or.inl rfl)))) (λ_ _ _ _=>fT) (λ_ _ _ _=>(aR (dh kK rfl T.mF PyProof.Rows.boot_str (aC (EV.b (af 0 (bv 0))) aN)) ou)))))) aN)) iw))))
theorem uy (gW : aI P w K mg base bO 1 a_row_text d_row_text ["things"] (cG (aZ tb_book_of tb_law K) ck)) : aI P w K mg base bO 2 a_rows_text d_rows_text ["rows"] (cG (aZ tb_book_of tb_law K) ft):=by
  have eb : ar cW = ar cW:=rfl;conv at eb=>rhs; whnf
  have es : ag cW = ag cW:=rfl;conv at es=>rhs; whnf
  refine bL (N:=["rows"]) (ps:=["rows"]) (k:=1) (m:=hG) rfl T.ft ua (by decide) eb es λfi A outer s H E hr=>?_;unfold hG;exact (aF (aL (aM (om (bG vT ze (EV.b (aR (aT bB rfl T.gI PySem.boot_len (aC (EV.b (af 0 (bv 0))) aN)) fM)) (EV.b aq) (aW _)) (kJ (gM PySem.F.plainAttrs_str PySem.F.slot_str_join PySem.F.type_str_join ix (EV.b aK) (aC (EV.b (EF.v (jy (jz (bc.uL (N:=["row"]) (js:=[none]) (ag cW) ["rows"] rfl rfl (by decide +kernel)) rfl (my (EV.b (af 0 (bv 0)))) (λ_ _ _ _=>(dX (cf (i:=0) (by decide : (["row"] : List Str).Nodup) rfl (Or.inl rfl)))) (λ_ _ _ _=>fT) (λ_ _ _ _=>(ax (aw gW (hr.mono (by decide)) rfl T.fX T.ck.kp T.m8 .nil aE (ae (af 0 (bv 0)) av)))))))) aN)) iw) aK))))
theorem uB (gW : aI P w K mg base bO 1 a_row_text d_row_text ["things"] (cG (aZ tb_book_of tb_law K) ck)) (lP : aI P w K mg base bO 2 a_rows_text d_rows_text ["rows"] (cG (aZ tb_book_of tb_law K) ft)) : aI P w K mg base bO 3 a_page_text d_page_text ["page"] (cG (aZ tb_book_of tb_law K) fu):=by
  have eb : ar dE = ar dE:=rfl;conv at eb=>rhs; whnf
  have es : ag dE = ag dE:=rfl;conv at es=>rhs; whnf
  refine bL (N:=["page"]) (ps:=["page"]) (k:=2) (m:=hV) rfl T.fu uc (by decide) eb es λfi A outer s H E hr=>?_;unfold hV
  exact (aD (dB (dJ (bG (bI hr.units) (bY false) (EV.b (bp aV bo (EV.b (af 0 (bv 0))) (EV.b aq) (λ_ _=>rfl))) (EV.b aK) (aW _)) (aF (aL (aM (ax (aw gW (hr.mono (by decide)) rfl T.fX T.ck.kp T.m8 .nil aE (ae (bh cK dZ (EV.b (gJ (gL r6 (EV.b (af 0 (bv 0))) iZ (iY (EV.b aq))) rT)) (EV.b (iA (ae (ax (aw lP (hr.mono (by decide)) rfl T.hG T.ft.kp T.wR .nil aE (ae (bp aV bo (EV.b (af 0 (bv 0))) (EV.b aq) (λ_ _=>rfl)) av))) av)))) av)))))) bW))
    (aF (aL (aM (ax (aw gW (hr.mono (by decide)) rfl T.fX T.ck.kp T.m8 .nil aE (ae (af 0 (bv 0)) av)))))))
theorem uG (lR : aI P w K mg base bO 3 a_page_text d_page_text ["page"] (cG (aZ tb_book_of tb_law K) fu)) : aI P w K mg base bO 4 a_book_text d_book_text ["book"] (cG (aZ tb_book_of tb_law K) eE):=by
  have eb : ar da = ar da:=rfl;conv at eb=>rhs; whnf
  have es : ag da = ag da:=rfl;conv at es=>rhs; whnf
  refine bL (N:=["book"]) (ps:=["book"]) (k:=3) (m:=h8) rfl T.eE uf (by decide) eb es λfi A outer s H E hr=>?_;unfold h8;exact (aF (aL (aM (kJ (gM PySem.F.plainAttrs_str PySem.F.slot_str_join PySem.F.type_str_join ix (EV.b aK) (aC (EV.b (EF.v (jy (jz (bc.uL (N:=["page"]) (js:=[none]) (ag da) ["book"] rfl rfl (by decide +kernel)) rfl (my (EV.b (af 0 (bv 0)))) (λ_ _ _ _=>(dX (cf (i:=0) (by decide : (["page"] : List Str).Nodup) rfl (Or.inl rfl)))) (λ_ _ _ _=>fT) (λ_ _ _ _=>(ax (aw lR (hr.mono (by decide)) rfl T.hV T.fu.kp T.wV .nil aE (ae (af 0 (bv 0)) av)))))))) aN)) iw))))
theorem xO (ay : aI P w K mg base bO 1 awdraw dwdraw ["_law_bag_here", "_law_many"] (cG (aZ tb_book_of tb_law K) ao)) : aI P w K mg base bO 2 awany dwany ["_law_bag_here", "_law_some"] (cG (aZ tb_book_of tb_law K) aO):=by
  have eb : ar fG = ar fG:=rfl;conv at eb=>rhs; whnf
  have es : ag fG = ag fG:=rfl;conv at es=>rhs; whnf
  refine bL (N:=["_law_bag_here", "_law_some"]) (ps:=["_law_bag_here", "_law_some"]) (k:=1) (m:=bV) rfl T.aO xu (by decide) eb es λfi A outer s H E hr=>?_;unfold bV;exact (aF (aL (aM (bp aV bo (EV.b (af 1 (bv 1))) (EV.b (ax (aw ay (hr.mono (by decide)) rfl T.aQ T.ao.kp T.aU .nil aE (ae (af 0 (bv 0)) (ae (aR (aT bB rfl T.gI PySem.boot_len (aC (EV.b (af 1 (bv 1))) aN)) fM) av))))) (λ_ _=>rfl)))))
theorem uE (ay : aI P w K mg base bO 1 awdraw dwdraw ["_law_bag_here", "_law_many"] (cG (aZ tb_book_of tb_law K) ao)) : aI P w K mg base bO 2 awlabel dwlabel ["_law_bag_here"] (cG (aZ tb_book_of tb_law K) dM):=by
  have eb : ar cZ = ar cZ:=rfl;conv at eb=>rhs; whnf
  have es : ag cZ = ag cZ:=rfl;conv at es=>rhs; whnf
  refine bL (N:=["_law_bag_here", "_law_size"]) (ps:=["_law_bag_here"]) (k:=1) (m:=fY) rfl T.dM nJ (by decide) eb es λfi A outer s H E hr=>?_;unfold fY
  exact (aD (di (dc (i:=1) nJ.nd rfl (Or.inl rfl) (bp aV bo (EV.b (EF.v (dS (by refine ae aq ?_; refine ae aq ?_; refine ae aq ?_; refine ae aq ?_; refine ae aq ?_; refine ae aq ?_; refine ae aq ?_; refine ae aq ?_; exact av)))) (EV.b (ax (aw ay (hr.mono (by decide)) rfl T.aQ T.ao.kp T.aU .nil aE (ae (af 0 (bv 0)) (ae aq av))))) (λ_ _=>rfl))))
    (aF (aL (aM (kJ (gM PySem.F.plainAttrs_str PySem.F.slot_str_join PySem.F.type_str_join ix (EV.b aK) (aC (EV.b (EF.v (jy (jz (bc.uL (N:=["_law_k", "_law_bag_here"]) (js:=[none, some 0]) (ag cZ) ["_law_bag_here", "_law_size"] rfl rfl (by decide +kernel)) rfl (mj (iS rfl T.kW (aC (EV.b (af 1 (bv 1))) aN))) (λ_ _ _ _=>(dX (cf (i:=0) (by decide : (["_law_k", "_law_bag_here"] : List Str).Nodup) rfl (Or.inl rfl)))) (λ_ _ _ _=>fT) (λ_ _ _ _=>(bp aV bo (EV.b aK) (EV.b (ax (aw ay (hr.mono (by decide)) rfl T.aQ T.ao.kp T.aU .nil aE (ae (af 1 (bv 1)) (ae aq av))))) (λ_ _=>rfl))))))) aN)) iw)))))
theorem sg (ay : aI P w K mg base bO 1 awdraw dwdraw ["_law_bag_here", "_law_many"] (cG (aZ tb_book_of tb_law K) ao)) (ke : aI P w K mg base bO 2 awlabel dwlabel ["_law_bag_here"] (cG (aZ tb_book_of tb_law K) dM)) : aI P w K mg base bO 3 awlabels dwlabels ["_law_bag_here", "_law_many"] (cG (aZ tb_book_of tb_law K) cV):=by
  have eb : ar cP = ar cP:=rfl;conv at eb=>rhs; whnf
  have es : ag cP = ag cP:=rfl;conv at es=>rhs; whnf
  refine bL (N:=["_law_bag_here", "_law_many", "_law_letters", "_law_found", "_law_stem", "_law_k", "_law_name", "_law_turn"]) (ps:=["_law_bag_here", "_law_many"]) (k:=2) (m:=fz) rfl T.cV eF (by decide) eb es λfi A outer s H E hr=>?_;unfold fz
  exact (aD (BU (rL (i:=2) (j:=3) rfl eF.nd rfl rfl (by decide) rfl rfl (bg aK (bg (dS av) d8)) rfl))
    (aD (di (dc (i:=4) eF.nd rfl (Or.inl rfl) (om (bG (bI hr.units) (bY false) (EV.b (ax (aw ay (hr.mono (by decide)) rfl T.aQ T.ao.kp T.aU .nil aE (ae (af 0 (bv 0)) (ae aq av))))) (EV.b aq) (aW _)) (gJ (gL r6 (EV.b (ax (aw ke (hr.mono (by decide)) rfl T.fY T.dM.kp T.pW .nil aE (ae (af 0 (bv 0)) av)))) iZ (iY (EV.b aq))) rT) aK)))
    (aD (oH (m7 PassesOwn.never rfl (mj (iS rfl T.kW (aC (EV.b (af 1 (bv 1))) aN))) (kZ (cf (i:=5) eF.nd rfl (Or.inl rfl))) (aD (di (dc (i:=6) eF.nd rfl (Or.inl rfl) (gJ (gL r6 (EV.b (bh cK dZ (EV.b (af 4 (bv 4))) (EV.b (ax (aw ke (hr.mono (by decide)) rfl T.fY T.dM.kp T.pW .nil aE (ae (af 0 (bv 0)) av)))))) iZ (iY (EV.b aq))) rT)))
    (aD (oH (m7 PassesOwn.never rfl (mj (iS rfl T.kW (aC (EV.b aq) aN))) (kZ (cf (i:=7) eF.nd rfl (Or.inl rfl))) (aF (dB (dJ (bG CG (FT false) (EV.b (af 6 (bv 6))) (zE 3 (bv 3)) rfl) (aF (di (dc (i:=6) eF.nd rfl (Or.inl rfl) (bh cK dZ (EV.b (gJ (gL r6 (EV.b (af 6 (bv 6))) iZ (iY (EV.b (uV (zR tW (EV.b aq)))))) rT)) (EV.b (bp aV bo (EV.b (af 2 (bv 2))) (EV.b (bh jr CC (EV.b (bh cK dZ (EV.b (kJ (gM PySem.F.plainAttrs_str PySem.F.slot_str_index PySem.F.type_str_index CU (EV.b (af 2 (bv 2))) (aC (EV.b (bp aV bo (EV.b (af 6 (bv 6))) (EV.b (uV (zR tW (EV.b aq)))) (λ_ _=>rfl))) aN)) CS)) (EV.b aq))) (EV.b aq))) (λ_ _=>rfl))))))) bW)))))
    (aF (t5 (k:=3) (qp (gM L6 L9 L8 kF (bv 3) (bg (af 6 (bv 6)) d8)))))))))
    (aF (aL (aM (af 3 (bv 3))))))))
theorem vY (ay : aI P w K mg base bO 1 awdraw dwdraw ["_law_bag_here", "_law_many"] (cG (aZ tb_book_of tb_law K) ao)) : aI P w K mg base bO 2 awpace dwpace ["_law_bag_here", "_law_scale"] (cG (aZ tb_book_of tb_law K) eS):=by
  have eb : ar eK = ar eK:=rfl;conv at eb=>rhs; whnf
  have es : ag eK = ag eK:=rfl;conv at es=>rhs; whnf
  refine bL (N:=["_law_bag_here", "_law_scale"]) (ps:=["_law_bag_here", "_law_scale"]) (k:=1) (m:=gT) rfl T.eS vz (by decide) eb es λfi A outer s H E hr=>?_;unfold gT;exact (aF (aL (aM (bp aV bo (EV.b (EF.v (dS (by refine ae aq ?_; refine ae aq ?_; refine ae (af 1 (bv 1)) ?_; refine ae aq ?_; refine ae (bh mf lX (EV.b aq) (EV.b (af 1 (bv 1)))) ?_; refine ae (bh mf lX (EV.b aq) (EV.b (af 1 (bv 1)))) ?_; refine ae (bh mf lX (EV.b aq) (EV.b (af 1 (bv 1)))) ?_; refine ae (bh cK dZ (EV.b (af 1 (bv 1))) (EV.b aq)) ?_; exact av)))) (EV.b (ax (aw ay (hr.mono (by decide)) rfl T.aQ T.ao.kp T.aU .nil aE (ae (af 0 (bv 0)) (ae aq av))))) (λ_ _=>rfl)))))
theorem vZ (jJ : aI P w K mg base bO 3 awlabels dwlabels ["_law_bag_here", "_law_many"] (cG (aZ tb_book_of tb_law K) cV)) (ay : aI P w K mg base bO 1 awdraw dwdraw ["_law_bag_here", "_law_many"] (cG (aZ tb_book_of tb_law K) ao)) (bQ : aI P w K mg base bO 2 awany dwany ["_law_bag_here", "_law_some"] (cG (aZ tb_book_of tb_law K) aO)) (lq : aI P w K mg base bO 2 awpace dwpace ["_law_bag_here", "_law_scale"] (cG (aZ tb_book_of tb_law K) eS)) : aI P w K mg base bO 4 awhill dwhill ["_law_bag_here"] (cG (aZ tb_book_of tb_law K) gh):=by
  have eb : ar eL = ar eL:=rfl;conv at eb=>rhs; whnf
  have es : ag eL = ag eL:=rfl;conv at es=>rhs; whnf
  refine bL (N:=["_law_bag_here", "_law_many", "_law_scale", "_law_spots", "_law_ways", "_law_name", "_law_kind", "_law_start", "_law_end", "_law_paces", "_law_dark"]) (ps:=["_law_bag_here"]) (k:=3) (m:=iN) rfl T.gh fm (by decide) eb es λfi A outer s H E hr=>?_;unfold iN
  exact (aD (di (dc (i:=1) fm.nd rfl (Or.inl rfl) (om (bG (bI hr.units) (bY false) (EV.b (ax (aw ay (hr.mono (by decide)) rfl T.aQ T.ao.kp T.aU .nil aE (ae (af 0 (bv 0)) (ae aq av))))) (EV.b aq) (aW _)) aq (bh cK dZ (EV.b aq) (EV.b (ax (aw ay (hr.mono (by decide)) rfl T.aQ T.ao.kp T.aU .nil aE (ae (af 0 (bv 0)) (ae aq av)))))))))
    (aD (xp (rL (i:=2) (j:=3) rfl fm.nd rfl rfl (by decide) rfl rfl (ae (bp aV bo (EV.b (EF.v (dS (by refine ae aq ?_; refine ae aq ?_; refine ae aq ?_; exact av)))) (EV.b (ax (aw ay (hr.mono (by decide)) rfl T.aQ T.ao.kp T.aU .nil aE (ae (af 0 (bv 0)) (ae aq av))))) (λ_ _=>rfl)) (ae (ax (aw jJ (hr.mono (by decide)) rfl T.fz T.cV.kp T.oD .nil aE (ae (af 0 (bv 0)) (ae (bh cK dZ (EV.b aq) (EV.b (ax (aw ay (hr.mono (by decide)) rfl T.aQ T.ao.kp T.aU .nil aE (ae (af 0 (bv 0)) (ae aq av)))))) av)))) av)) rfl))
    (aD (GD (dc (i:=4) fm.nd rfl (Or.inl rfl) (dS av)))
    (aD (oH (m7 PassesOwn.never rfl (JB (ax (aw jJ (hr.mono (by decide)) rfl T.fz T.cV.kp T.oD .nil aE (ae (af 0 (bv 0)) (ae (af 1 (bv 1)) av))))) (kZ (cf (i:=5) fm.nd rfl (Or.inl rfl))) (aD (yJ (zN (i:=6) (j:=7) (k:=8) rfl fm.nd rfl rfl rfl (by decide) (by decide) (by decide) rfl rfl rfl (by refine ae (ax (aw ay (hr.mono (by decide)) rfl T.aQ T.ao.kp T.aU .nil aE (ae (af 0 (bv 0)) (ae aq av)))) ?_; refine ae (ax (aw bQ (hr.mono (by decide)) rfl T.bV T.aO.kp T.fh .nil aE (ae (af 0 (bv 0)) (ae (af 3 (bv 3)) av)))) ?_; refine ae (ax (aw bQ (hr.mono (by decide)) rfl T.bV T.aO.kp T.fh .nil aE (ae (af 0 (bv 0)) (ae (af 3 (bv 3)) av)))) ?_; exact av) rfl))
    (aD (di (dc (i:=9) fm.nd rfl (Or.inl rfl) (iA (ae (ax (aw lq (hr.mono (by decide)) rfl T.gT T.eS.kp T.rO .nil aE (ae (af 0 (bv 0)) (ae (af 2 (bv 2)) av)))) (ae (ax (aw lq (hr.mono (by decide)) rfl T.gT T.eS.kp T.rO .nil aE (ae (af 0 (bv 0)) (ae (af 2 (bv 2)) av)))) av)))))
    (aF (t5 (k:=4) (qp (gM L6 L9 L8 kF (bv 4) (bg (bh cK dZ (EV.b (iA (by refine ae (af 5 (bv 5)) ?_; refine ae (bp aV bo (EV.b (EF.v (dS (by refine ae aK ?_; refine ae aK ?_; refine ae aK ?_; refine ae aK ?_; exact av)))) (EV.b (af 6 (bv 6))) (λ_ _=>rfl)) ?_; refine ae (af 7 (bv 7)) ?_; refine ae (af 8 (bv 8)) ?_; exact av))) (EV.b (af 9 (bv 9)))) d8)))))))))
    (aD (di (dc (i:=10) fm.nd rfl (Or.inl rfl) (bp aV bo (EV.b (EF.v (dS (by refine ae aq ?_; refine ae aq ?_; refine ae (bh mf lX (EV.b (af 2 (bv 2))) (EV.b (bh cK dZ (EV.b aq) (EV.b (ax (aw ay (hr.mono (by decide)) rfl T.aQ T.ao.kp T.aU .nil aE (ae (af 0 (bv 0)) (ae aq av)))))))) ?_; refine ae (bh mf lX (EV.b (af 2 (bv 2))) (EV.b (bh cK dZ (EV.b aq) (EV.b (ax (aw ay (hr.mono (by decide)) rfl T.aQ T.ao.kp T.aU .nil aE (ae (af 0 (bv 0)) (ae aq av)))))))) ?_; exact av)))) (EV.b (ax (aw ay (hr.mono (by decide)) rfl T.aQ T.ao.kp T.aU .nil aE (ae (af 0 (bv 0)) (ae aq av))))) (λ_ _=>rfl))))
    (aF (aL (aM (iA (by refine ae (aR (dh eR rfl T.i3 PyProof.Rows.boot_tuple (aC (EV.b (af 4 (bv 4))) aN)) m5) ?_; refine ae (ax (aw bQ (hr.mono (by decide)) rfl T.bV T.aO.kp T.fh .nil aE (ae (af 0 (bv 0)) (ae (af 3 (bv 3)) av)))) ?_; refine ae (af 10 (bv 10)) ?_; exact av))))))))))
theorem sf (ay : aI P w K mg base bO 1 awdraw dwdraw ["_law_bag_here", "_law_many"] (cG (aZ tb_book_of tb_law K) ao)) : aI P w K mg base bO 2 awmoment dwmoment ["_law_bag_here", "_law_hill_here"] (cG (aZ tb_book_of tb_law K) cE):=by
  have eb : ar cO = ar cO:=rfl;conv at eb=>rhs; whnf
  have es : ag cO = ag cO:=rfl;conv at es=>rhs; whnf
  refine bL (N:=["_law_bag_here", "_law_hill_here"]) (ps:=["_law_bag_here", "_law_hill_here"]) (k:=1) (m:=fw) rfl T.cE r9 (by decide) eb es λfi A outer s H E hr=>?_;unfold fw;exact (aF (aL (aM (bp aV bo (EV.b (EF.v (dS (by refine ae aq ?_; refine ae (bp aV bo (EV.b (af 1 (bv 1))) (EV.b aq) (λ_ _=>rfl)) ?_; refine ae (ax (aw ay (hr.mono (by decide)) rfl T.aQ T.ao.kp T.aU .nil aE (ae (af 0 (bv 0)) (ae (bh cK dZ (EV.b (bp aV bo (EV.b (af 1 (bv 1))) (EV.b aq) (λ_ _=>rfl))) (EV.b aq)) av)))) ?_; refine ae (bh nV zf (EV.b (bp aV bo (EV.b (af 1 (bv 1))) (EV.b aq) (λ_ _=>rfl))) (EV.b aq)) ?_; exact av)))) (EV.b (ax (aw ay (hr.mono (by decide)) rfl T.aQ T.ao.kp T.aU .nil aE (ae (af 0 (bv 0)) (ae aq av))))) (λ_ _=>rfl)))))
theorem vW (ay : aI P w K mg base bO 1 awdraw dwdraw ["_law_bag_here", "_law_many"] (cG (aZ tb_book_of tb_law K) ao)) (gu : aI P w K mg base bO 2 awmoment dwmoment ["_law_bag_here", "_law_hill_here"] (cG (aZ tb_book_of tb_law K) cE)) (bQ : aI P w K mg base bO 2 awany dwany ["_law_bag_here", "_law_some"] (cG (aZ tb_book_of tb_law K) aO)) : aI P w K mg base bO 3 awrule dwrule ["_law_bag_here", "_law_hill_here"] (cG (aZ tb_book_of tb_law K) gf):=by
  have eb : ar eI = ar eI:=rfl;conv at eb=>rhs; whnf
  have es : ag eI = ag eI:=rfl;conv at es=>rhs; whnf
  refine bL (N:=["_law_bag_here", "_law_hill_here", "_law_way", "_law_number", "_law_a"]) (ps:=["_law_bag_here", "_law_hill_here"]) (k:=2) (m:=iL) rfl T.gf j6 (by decide) eb es λfi A outer s H E hr=>?_;unfold iL
  exact (aD (xp (rL (i:=2) (j:=3) rfl j6.nd rfl rfl (by decide) rfl rfl (ae (ax (aw ay (hr.mono (by decide)) rfl T.aQ T.ao.kp T.aU .nil aE (ae (af 0 (bv 0)) (ae aq av)))) (ae (bh km kh (EV.b (ax (aw ay (hr.mono (by decide)) rfl T.aQ T.ao.kp T.aU .nil aE (ae (af 0 (bv 0)) (ae aq av))))) (EV.b aq)) av)) rfl))
    (aD (dB (dJ (bG (bI hr.units) (bY false) (EV.b (ax (aw ay (hr.mono (by decide)) rfl T.aQ T.ao.kp T.aU .nil aE (ae (af 0 (bv 0)) (ae aq av))))) (EV.b aq) (aW _)) (aF (di (dc (i:=3) j6.nd rfl (Or.inl rfl) (bh mf lX (EV.b (bh km kh (EV.b (bh xI xF (EV.b aq) (EV.b aq))) (EV.b aq))) (EV.b (bp aV bo (EV.b (EF.v (dS (ae aq (ae (uV (zR tW (EV.b aq))) av))))) (EV.b (ax (aw ay (hr.mono (by decide)) rfl T.aQ T.ao.kp T.aU .nil aE (ae (af 0 (bv 0)) (ae aq av))))) (λ_ _=>rfl))))))) bW))
    (aD (dB (dJ (bG (bI hr.units) (bY false) (EV.b (af 2 (bv 2))) (EV.b aq) (aW _)) (aD (di (dc (i:=4) j6.nd rfl (Or.inl rfl) (ax (aw gu (hr.mono (by decide)) rfl T.fw T.cE.kp T.oC .nil aE (ae (af 0 (bv 0)) (ae (af 1 (bv 1)) av))))))
    (aF (aL (aM (iA (by refine ae aK ?_; refine ae (af 4 (bv 4)) ?_; refine ae (ax (aw bQ (hr.mono (by decide)) rfl T.bV T.aO.kp T.fh .nil aE (ae (af 0 (bv 0)) (ae (EF.v (dS (by refine ae (bh cK dZ (EV.b (af 4 (bv 4))) (EV.b aq)) ?_; refine ae aq ?_; refine ae (bh cK dZ (EV.b (bh cK dZ (EV.b (af 4 (bv 4))) (EV.b aq))) (EV.b (ax (aw ay (hr.mono (by decide)) rfl T.aQ T.ao.kp T.aU .nil aE (ae (af 0 (bv 0)) (ae (bh km kh (EV.b aq) (EV.b (af 4 (bv 4)))) av)))))) ?_; exact av))) av)))) ?_; exact av)))))) bW))
    (aD (dB (dJ (bG vS zd (EV.b (af 2 (bv 2))) (EV.b aq) (aW _)) (aF (aL (aM (iA (by refine ae (bp aV bo (EV.b (EF.v (dS (by refine ae aK ?_; refine ae aK ?_; refine ae aK ?_; exact av)))) (EV.b (bh km kh (EV.b (af 2 (bv 2))) (EV.b aq))) (λ_ _=>rfl)) ?_; refine ae (ax (aw bQ (hr.mono (by decide)) rfl T.bV T.aO.kp T.fh .nil aE (ae (af 0 (bv 0)) (ae (EF.v (dS (by refine ae aK ?_; refine ae aK ?_; refine ae aK ?_; refine ae aK ?_; exact av))) av)))) ?_; refine ae (af 3 (bv 3)) ?_; exact av))))) bW))
    (aD (dB (dJ (bG (bI hr.units) (bY false) (EV.b (af 2 (bv 2))) (EV.b aq) (aW _)) (aF (aL (aM (iA (ae aK (ae (ax (aw bQ (hr.mono (by decide)) rfl T.bV T.aO.kp T.fh .nil aE (ae (af 0 (bv 0)) (ae (EF.v (dS (by refine ae aq ?_; refine ae aq ?_; refine ae (bh cK dZ (EV.b aq) (EV.b (ax (aw ay (hr.mono (by decide)) rfl T.aQ T.ao.kp T.aU .nil aE (ae (af 0 (bv 0)) (ae aq av)))))) ?_; refine ae (bh cK dZ (EV.b aq) (EV.b (bh nV zf (EV.b (bp aV bo (EV.b (af 1 (bv 1))) (EV.b aq) (λ_ _=>rfl))) (EV.b aq)))) ?_; exact av))) av)))) av)))))) bW))
    (aF (aL (aM (om (bG vS zd (EV.b (af 2 (bv 2))) (EV.b aq) (aW _)) (iA (ae aK (ae (bp aV bo (EV.b (ax (aw bQ (hr.mono (by decide)) rfl T.bV T.aO.kp T.fh .nil aE (ae (af 0 (bv 0)) (ae (bp aV bo (EV.b (af 1 (bv 1))) (EV.b aq) (λ_ _=>rfl)) av))))) (EV.b aq) (λ_ _=>rfl)) av))) (iA (ae aK av)))))))))))
theorem uC (nk : aI P w K mg base bO 3 awrule dwrule ["_law_bag_here", "_law_hill_here"] (cG (aZ tb_book_of tb_law K) gf)) (ay : aI P w K mg base bO 1 awdraw dwdraw ["_law_bag_here", "_law_many"] (cG (aZ tb_book_of tb_law K) ao)) : aI P w K mg base bO 4 awrules dwrules ["_law_bag_here", "_law_hill_here"] (cG (aZ tb_book_of tb_law K) fv):=by
  have eb : ar cY = ar cY:=rfl;conv at eb=>rhs; whnf
  have es : ag cY = ag cY:=rfl;conv at es=>rhs; whnf
  refine bL (N:=["_law_bag_here", "_law_hill_here"]) (ps:=["_law_bag_here", "_law_hill_here"]) (k:=3) (m:=hW) rfl T.fv ud (by decide) eb es λfi A outer s H E hr=>?_;unfold hW;exact (aF (aL (aM (aR (dh eR rfl T.i3 PyProof.Rows.boot_tuple (aC (EV.b (EF.v (jy (jz (bc.uL (N:=["_law_k", "_law_bag_here", "_law_hill_here"]) (js:=[none, some 0, some 1]) (ag cY) ["_law_bag_here", "_law_hill_here"] rfl rfl (by decide +kernel)) rfl (mj (iS rfl T.kW (aC (EV.b (bp aV bo (EV.b (EF.v (dS (by refine ae aq ?_; refine ae aq ?_; refine ae aq ?_; refine ae aq ?_; refine ae aq ?_; refine ae aq ?_; refine ae aq ?_; refine ae aq ?_; exact av)))) (EV.b (ax (aw ay (hr.mono (by decide)) rfl T.aQ T.ao.kp T.aU .nil aE (ae (af 0 (bv 0)) (ae aq av))))) (λ_ _=>rfl))) aN))) (λ_ _ _ _=>(dX (cf (i:=0) (by decide : (["_law_k", "_law_bag_here", "_law_hill_here"] : List Str).Nodup) rfl (Or.inl rfl)))) (λ_ _ _ _=>fT) (λ_ _ _ _=>(ax (aw nk (hr.mono (by decide)) rfl T.iL T.gf.kp T.yt .nil aE (ae (af 1 (bv 1)) (ae (af 2 (bv 2)) av))))))))) aN)) m5))))
theorem se : aI P w K mg base bO 1 awslopes dwslopes ["_law_hill_here"] (cG (aZ tb_book_of tb_law K) eC):=by
  have eb : ar cz = ar cz:=rfl;conv at eb=>rhs; whnf
  have es : ag cz = ag cz:=rfl;conv at es=>rhs; whnf
  refine bL (N:=["_law_hill_here"]) (ps:=["_law_hill_here"]) (k:=0) (m:=gs) rfl T.eC r8 (by decide) eb es λfi A outer s H E hr=>?_;unfold gs;exact (aF (aL (aM (EF.v (jy (jz (bc.uL (N:=["_law_way"]) (js:=[none]) (ag cz) ["_law_hill_here"] rfl rfl (by decide +kernel)) rfl (my (EV.b (bp aV bo (EV.b (af 0 (bv 0))) (EV.b aq) (λ_ _=>rfl)))) (λ_ _ _ _=>(dX (cf (i:=0) (by decide : (["_law_way"] : List Str).Nodup) rfl (Or.inl rfl)))) (λ_ _ _ _=>(Gx (bG (bI hr.units) (bY false) (EV.b (bp aV bo (EV.b (af 0 (bv 0))) (EV.b aq) (λ_ _=>rfl))) (EV.b aK) (aW _)))) (λ_ _ _ _=>(bp aV bo (EV.b (af 0 (bv 0))) (EV.b aq) (λ_ _=>rfl)))))))))
theorem vX (ay : aI P w K mg base bO 1 awdraw dwdraw ["_law_bag_here", "_law_many"] (cG (aZ tb_book_of tb_law K) ao)) (gu : aI P w K mg base bO 2 awmoment dwmoment ["_law_bag_here", "_law_hill_here"] (cG (aZ tb_book_of tb_law K) cE)) (ll : aI P w K mg base bO 1 awslopes dwslopes ["_law_hill_here"] (cG (aZ tb_book_of tb_law K) eC)) (bQ : aI P w K mg base bO 2 awany dwany ["_law_bag_here", "_law_some"] (cG (aZ tb_book_of tb_law K) aO)) (lS : aI P w K mg base bO 4 awrules dwrules ["_law_bag_here", "_law_hill_here"] (cG (aZ tb_book_of tb_law K) fv)) : aI P w K mg base bO 5 awpage dwpage ["_law_bag_here", "_law_hill_here", "_law_number"] (cG (aZ tb_book_of tb_law K) gg):=by
  have eb : ar eJ = ar eJ:=rfl;conv at eb=>rhs; whnf
  have es : ag eJ = ag eJ:=rfl;conv at es=>rhs; whnf
  refine bL (N:=["_law_bag_here", "_law_hill_here", "_law_number", "_law_way", "_law_moment_here", "_law_slopes_here", "_law_value"]) (ps:=["_law_bag_here", "_law_hill_here", "_law_number"]) (k:=4) (m:=iM) rfl T.gg lD (by decide) eb es λfi A outer s H E hr=>?_;unfold iM
  exact (aD (yJ (zN (i:=3) (j:=4) (k:=5) rfl lD.nd rfl rfl rfl (by decide) (by decide) (by decide) rfl rfl rfl (by refine ae (ax (aw ay (hr.mono (by decide)) rfl T.aQ T.ao.kp T.aU .nil aE (ae (af 0 (bv 0)) (ae aq av)))) ?_; refine ae (ax (aw gu (hr.mono (by decide)) rfl T.fw T.cE.kp T.oC .nil aE (ae (af 0 (bv 0)) (ae (af 1 (bv 1)) av)))) ?_; refine ae (ax (aw ll (hr.mono (by decide)) rfl T.gs T.eC.kp T.u7 .nil aE (ae (af 1 (bv 1)) av))) ?_; exact av) rfl))
    (aD (dB (dJ (WV.t (tU (bG (bI hr.units) (bY false) (EV.b (af 3 (bv 3))) (EV.b aq) (aW _)) (tT (bG (mV hr.units) (bY true) (EV.b (af 5 (bv 5))) (EV.b (EF.v (dS av))) (aW _))))) (aF (aL (aM (iA (by refine ae aK ?_; refine ae (af 2 (bv 2)) ?_; refine ae (af 4 (bv 4)) ?_; refine ae (ax (aw bQ (hr.mono (by decide)) rfl T.bV T.aO.kp T.fh .nil aE (ae (af 0 (bv 0)) (ae (af 5 (bv 5)) av)))) ?_; exact av))))) bW))
    (aD (dB (dJ (bG (bI hr.units) (bY false) (EV.b (af 3 (bv 3))) (EV.b aq) (aW _)) (aF (aL (aM (iA (by refine ae aK ?_; refine ae (af 2 (bv 2)) ?_; refine ae (af 4 (bv 4)) ?_; refine ae (bp aV bo (EV.b (ax (aw bQ (hr.mono (by decide)) rfl T.bV T.aO.kp T.fh .nil aE (ae (af 0 (bv 0)) (ae (bp aV bo (EV.b (af 1 (bv 1))) (EV.b aq) (λ_ _=>rfl)) av))))) (EV.b aq) (λ_ _=>rfl)) ?_; refine ae (ax (aw lS (hr.mono (by decide)) rfl T.hW T.fv.kp T.wW .nil aE (ae (af 0 (bv 0)) (ae (af 1 (bv 1)) av)))) ?_; exact av))))) bW))
    (aD (di (dc (i:=6) lD.nd rfl (Or.inl rfl) (bp aV bo (EV.b (EF.v (dS (by refine ae (bh km kh (EV.b (ax (aw ay (hr.mono (by decide)) rfl T.aQ T.ao.kp T.aU .nil aE (ae (af 0 (bv 0)) (ae aq av))))) (EV.b aq)) ?_; refine ae (bh km kh (EV.b (bh xI xF (EV.b aq) (EV.b aq))) (EV.b aq)) ?_; refine ae (bh km kh (EV.b aq) (EV.b (bh xI xF (EV.b aq) (EV.b aq)))) ?_; refine ae aq ?_; exact av)))) (EV.b (ax (aw ay (hr.mono (by decide)) rfl T.aQ T.ao.kp T.aU .nil aE (ae (af 0 (bv 0)) (ae aq av))))) (λ_ _=>rfl))))
    (aF (aL (aM (iA (by refine ae aK ?_; refine ae (af 2 (bv 2)) ?_; refine ae (af 4 (bv 4)) ?_; refine ae (ax (aw bQ (hr.mono (by decide)) rfl T.bV T.aO.kp T.fh .nil aE (ae (af 0 (bv 0)) (ae (EF.v (dS (by refine ae aK ?_; refine ae aK ?_; refine ae aK ?_; refine ae aK ?_; exact av))) av)))) ?_; refine ae (af 6 (bv 6)) ?_; exact av)))))))))
theorem uD (bQ : aI P w K mg base bO 2 awany dwany ["_law_bag_here", "_law_some"] (cG (aZ tb_book_of tb_law K) aO)) (nr : aI P w K mg base bO 5 awpage dwpage ["_law_bag_here", "_law_hill_here", "_law_number"] (cG (aZ tb_book_of tb_law K) gg)) (ay : aI P w K mg base bO 1 awdraw dwdraw ["_law_bag_here", "_law_many"] (cG (aZ tb_book_of tb_law K) ao)) : aI P w K mg base bO 6 awpages dwpages ["_law_bag_here", "_law_hill_here", "_law_many"] (cG (aZ tb_book_of tb_law K) eD):=by
  have eb : ar dF = ar dF:=rfl;conv at eb=>rhs; whnf
  have es : ag dF = ag dF:=rfl;conv at es=>rhs; whnf
  refine bL (N:=["_law_bag_here", "_law_hill_here", "_law_many", "_law_numbers", "_law_pages_here", "_law_k", "_law_number", "_law_turn"]) (ps:=["_law_bag_here", "_law_hill_here", "_law_many"]) (k:=5) (m:=hZ) rfl T.eD gp (by decide) eb es λfi A outer s H E hr=>?_;unfold hZ
  exact (aD (BV (rL (i:=3) (j:=4) rfl gp.nd rfl rfl (by decide) rfl rfl (bg (dS av) (bg (dS av) d8)) rfl))
    (aD (oH (m7 PassesOwn.never rfl (mj (iS rfl T.kW (aC (EV.b (af 2 (bv 2))) aN))) (kZ (cf (i:=5) gp.nd rfl (Or.inl rfl))) (aD (di (dc (i:=6) gp.nd rfl (Or.inl rfl) (ax (aw bQ (hr.mono (by decide)) rfl T.bV T.aO.kp T.fh .nil aE (ae (af 0 (bv 0)) (ae (EF.v (dS (by refine ae (af 5 (bv 5)) ?_; refine ae (bh km kh (EV.b aq) (EV.b (af 5 (bv 5)))) ?_; refine ae (bh km kh (EV.b aq) (EV.b (af 5 (bv 5)))) ?_; refine ae (ax (aw ay (hr.mono (by decide)) rfl T.aQ T.ao.kp T.aU .nil aE (ae (af 0 (bv 0)) (ae aq av)))) ?_; exact av))) av))))))
    (aD (oH (m7 PassesOwn.never rfl (mj (iS rfl T.kW (aC (EV.b (af 2 (bv 2))) aN))) (kZ (cf (i:=7) gp.nd rfl (Or.inl rfl))) (aF (dB (dJ (bG CG (FT false) (EV.b (af 6 (bv 6))) (zE 3 (bv 3)) rfl) (aF (di (dc (i:=6) gp.nd rfl (Or.inl rfl) (bh jr CC (EV.b (bh cK dZ (EV.b (af 6 (bv 6))) (EV.b aq))) (EV.b aq))))) bW)))))
    (aD (t5 (k:=3) (qp (gM L6 L9 L8 kF (bv 3) (bg (af 6 (bv 6)) d8))))
    (aF (t5 (k:=4) (qp (gM L6 L9 L8 kF (bv 4) (bg (ax (aw nr (hr.mono (by decide)) rfl T.iM T.gg.kp T.yu .nil aE (by refine ae (af 0 (bv 0)) ?_; refine ae (af 1 (bv 1)) ?_; refine ae (af 6 (bv 6)) ?_; exact av))) d8))))))))))
    (aF (aL (aM (af 4 (bv 4)))))))
theorem nW : aI P w K mg base bO 1 awrules_text dwrules_text ["_law_rules_here"] (cG (aZ tb_book_of tb_law K) cn):=by
  have eb : ar bw = ar bw:=rfl;conv at eb=>rhs; whnf
  have es : ag bw = ag bw:=rfl;conv at es=>rhs; whnf
  refine bL (N:=["_law_rules_here", "_law_texts"]) (ps:=["_law_rules_here"]) (k:=0) (m:=dN) rfl T.cn j5 (by decide) eb es λfi A outer s H E hr=>?_;unfold dN
  exact (aD (di (JV (HQ (JR (k:=1) j5.nd rfl (Or.inl rfl) (bc.uL (N:=["_law_rule_here"]) (js:=[none]) (ag bw) ["_law_rules_here", "_law_texts"] rfl rfl (by decide +kernel)) rfl (my (EV.b (af 0 (bv 0)))) (λ_ _ _ _=>(dX (cf (i:=0) (by decide : (["_law_rule_here"] : List Str).Nodup) rfl (Or.inl rfl)))) (λ_ _ _ _=>fT) (λ_ _ _ _=>(kJ (gM PySem.F.plainAttrs_str PySem.F.slot_str_join PySem.F.type_str_join ix (EV.b aK) (aC (EV.b (EF.v (jy (jz (bc.uL (N:=["_law_thing"]) (js:=[none]) _ ["_law_rule_here"] rfl rfl rfl) rfl (my (EV.b (af 0 (bv 0)))) (λ_ _ _ _=>(dX (cf (i:=0) (by decide : (["_law_thing"] : List Str).Nodup) rfl (Or.inl rfl)))) (λ_ _ _ _=>fT) (λ_ _ _ _=>(aR (dh kK rfl T.mF PyProof.Rows.boot_str (aC (EV.b (af 0 (bv 0))) aN)) ou)))))) aN)) iw))))))
    (aF (aL (aM (om (bG (mV hr.units) (bY true) (EV.b (af 1 (bv 1))) (EV.b (EF.v (dS av))) (aW _)) (kJ (gM PySem.F.plainAttrs_str PySem.F.slot_str_join PySem.F.type_str_join ix (EV.b aK) (aC (EV.b (af 1 (bv 1))) aN)) iw) aK)))))
theorem oW (iU : aI P w K mg base bO 1 awrules_text dwrules_text ["_law_rules_here"] (cG (aZ tb_book_of tb_law K) cn)) : aI P w K mg base bO 2 awpage_text dwpage_text ["_law_page_here"] (cG (aZ tb_book_of tb_law K) bu):=by
  have eb : ar bM = ar bM:=rfl;conv at eb=>rhs; whnf
  have es : ag bM = ag bM:=rfl;conv at es=>rhs; whnf
  refine bL (N:=["_law_page_here", "_law_text"]) (ps:=["_law_page_here"]) (k:=1) (m:=dn) rfl T.bu kC (by decide) eb es λfi A outer s H E hr=>?_;unfold dn
  exact (aD (di (dc (i:=1) kC.nd rfl (Or.inl rfl) (kJ (gM PySem.F.plainAttrs_str PySem.F.slot_str_join PySem.F.type_str_join ix (EV.b aK) (aC (EV.b (EF.v (dS (by refine ae (bp aV bo (EV.b (af 0 (bv 0))) (EV.b aq) (λ_ _=>rfl)) ?_; refine ae (aR (dh kK rfl T.mF PyProof.Rows.boot_str (aC (EV.b (bp aV bo (EV.b (af 0 (bv 0))) (EV.b aq) (λ_ _=>rfl))) aN)) ou) ?_; refine ae (aR (dh kK rfl T.mF PyProof.Rows.boot_str (aC (EV.b (bp aV bo (EV.b (af 0 (bv 0))) (EV.b aq) (λ_ _=>rfl))) aN)) ou) ?_; refine ae (bp aV bo (EV.b (af 0 (bv 0))) (EV.b aq) (λ_ _=>rfl)) ?_; exact av)))) aN)) iw)))
    (aD (dB (dJ (bG (bI hr.units) (bY false) (EV.b (bp aV bo (EV.b (af 0 (bv 0))) (EV.b aq) (λ_ _=>rfl))) (EV.b aK) (aW _)) (aF (aL (aM (af 1 (bv 1))))) bW))
    (aF (aL (aM (bh cK dZ (EV.b (bh cK dZ (EV.b (af 1 (bv 1))) (EV.b aK))) (EV.b (om (bG (bI hr.units) (bY false) (EV.b (bp aV bo (EV.b (af 0 (bv 0))) (EV.b aq) (λ_ _=>rfl))) (EV.b aK) (aW _)) (aR (dh kK rfl T.mF PyProof.Rows.boot_str (aC (EV.b (bp aV bo (EV.b (af 0 (bv 0))) (EV.b aq) (λ_ _=>rfl))) aN)) ou) (ax (aw iU (hr.mono (by decide)) rfl T.dN T.cn.kp T.pd .nil aE (ae (bp aV bo (EV.b (af 0 (bv 0))) (EV.b aq) (λ_ _=>rfl)) av)))))))))))
theorem qK (ig : aI P w K mg base bO 7 a_is_book d_is_book ["hill", "thing"] (cG (aZ tb_book_of tb_law K) fJ)) (fq : aI P w K mg base bO 7 a_read_page d_read_page ["hill", "text"] (cG (aZ tb_book_of tb_law K) bU)) : aI P w K mg base bO 9 awrefused dwrefused ["_law_hill_here", "_law_text"] (cG (aZ tb_book_of tb_law K) cU):=by
  obtain ⟨cN, cH, e⟩:=T.xb;have GX:=mE T e ig fq;have eb : ar cw = ar cw:=rfl;conv at eb=>rhs; whnf
  have es : ag cw = ag cw:=rfl;conv at es=>rhs; whnf
  refine HA (C:=cN) (g:=ic) (N:=["_law_hill_here", "_law_text", "_law_caught", "error"]) (ps:=["_law_hill_here", "_law_text"]) (k:=8) (i:=3) (j:=2) (ma:=aa (λρ=>ah ρ 0) (aa (λρ=>ah ρ 1) (λ_=>M.ret []))) T.cU jR eb es (by decide) (by decide) (λl hl=>?_) λfi A outer s H E hr=>?_
  · match l, hl with
    | [x, y], _=>rfl
  exact ⟨cA (PS.mW (di (dc (i:=2) jR.nd rfl (Or.inl rfl) yh)).out) (cA (GW rfl rfl rfl GX (hr.mono (by decide)) rfl T.pM T.df.kp T.pV (ae (af 0 (bv 0)) (ae (af 1 (bv 1)) av)).out rfl e.m2 e.hit jR.nd rfl rfl rfl rfl (by decide)) (iX (qC (nR DH rfl T.cD PyProof.Rows.boot_isinstance (fO (pv 2) (fO (y8 rfl e.m1 rfl) jq))))))⟩
theorem Ha (kb : K.In base) (hB : D3 base mg) (pq : aI P w K mg base bO 1 awbag dwbag ["_law_script"] (B2 K)) (nt : aI P w K mg base bO 4 awhill dwhill ["_law_bag_here"] (cG (aZ tb_book_of tb_law K) gh)) (lT : aI P w K mg base bO 6 awpages dwpages ["_law_bag_here", "_law_hill_here", "_law_many"] (cG (aZ tb_book_of tb_law K) eD)) (lU : aI P w K mg base bO 4 a_book_text d_book_text ["book"] (cG (aZ tb_book_of tb_law K) eE)) (ay : aI P w K mg base bO 1 awdraw dwdraw ["_law_bag_here", "_law_many"] (cG (aZ tb_book_of tb_law K) ao)) (gQ : aI P w K mg base bO 2 awpage_text dwpage_text ["_law_page_here"] (cG (aZ tb_book_of tb_law K) bu)) (kz : aI P w K mg base bO 9 awrefused dwrefused ["_law_hill_here", "_law_text"] (cG (aZ tb_book_of tb_law K) cU)) (lQ : aI P w K mg base bO 8 a_read_book d_read_book ["hill", "text"] (cG (aZ tb_book_of tb_law K) df)) (hm : ∀ c : Nat, (6 : Int) <= c -> (c : Int) <= max 6 12 -> (aG (jG (aX 2) pX (eB 0 c)) vK ((List.replicate 10 un).set 1 (.val .bH))).wp 1000000 λf _=>f = .rt (.bl true)) : aI P w K mg base bO 10 a_law d_law ["_law_script"] (oJ K [tb_book_of, tb_law]):=by
  have eb : ar jv = ar jv:=rfl;conv at eb=>rhs; whnf; arg 2; whnf
  have es : ag jv = ag jv:=rfl;conv at es=>rhs; whnf
  refine L2.AD (tabs:=[(tb_book_of, (("book_of" : Str) ++ ".<locals>." ++ "<lambda>")), (tb_law, (("law" : Str) ++ ".<locals>." ++ "<lambda>"))]) (N:=["_law_script", "_law_bag_here", "_law_turn", "_law_hill_here", "_law_pages_here", "_law_book", "_law_text", "_law_due", "_law_cut", "_law_other"]) (k:=9) (b:=1) (bd:=(aX 2)) (mb:=pX) (m':=vK) (lo:=6) (hi:=12) T.Gq kT eb es (λA outer s H E hr=>?_) (λA outer s H E hr=>?_) (λA outer s H E hr=>?_) (by decide) (by decide) hm (by decide) (by decide) (by decide)
  · exact (dc (i:=1) kT.nd rfl (Or.inl rfl) (aw pq (hr.mono (by decide)) rfl T.Az T.tS.kp T.A7 .nil aE (bg (bv 0) d8)))
  · unfold pX
    exact (m7 PassesOwn.never rfl (iS rfl T.kW (bg (aT (tG rfl) rfl T.FY PyProof.Rows.boot_max (bg ⟨aJ⟩ (bg (aT (A3 rfl) rfl T.Js PyProof.Rows.boot_min (bg ⟨aJ⟩ (bg (aT bB rfl T.gI PySem.boot_len (bg (bv 0) d8)) d8))) d8))) d8)) (kZ (cf (i:=2) kT.nd rfl (Or.inl rfl))) (aD (di (dc (i:=3) kT.nd rfl (Or.inl rfl) (ax (aw nt (hr.mono (by decide)) rfl T.iN T.gh.kp T.yv .nil aE (ae (af 1 (bv 1)) av)))))
    (aD (di (dc (i:=4) kT.nd rfl (Or.inl rfl) (ax (aw lT (hr.mono (by decide)) rfl T.hZ T.eD.kp T.wX .nil aE (by refine ae (af 1 (bv 1)) ?_; refine ae (af 3 (bv 3)) ?_; refine ae (om (bG (bI hr.units) (bY false) (EV.b (ax (aw ay (hr.mono (by decide)) rfl T.aQ T.ao.kp T.aU .nil aE (ae (af 1 (bv 1)) (ae aq av))))) (EV.b aq) (aW _)) aq (ax (aw ay (hr.mono (by decide)) rfl T.aQ T.ao.kp T.aU .nil aE (ae (af 1 (bv 1)) (ae aq av))))) ?_; exact av)))))
    (aD (di (dc (i:=5) kT.nd rfl (Or.inl rfl) (aR (dh eR rfl T.i3 PyProof.Rows.boot_tuple (aC (EV.b (EF.v (wC (tb:=(tb_law, _)) (LC _ Lz) (by intro q hq e; simp only [LK, LL, or_false] at hq; rcases hq with rfl | rfl <;> first | rfl | exact absurd e T.qR) ⟨vN (k:=0) (N:=["_law_page_here"]) (y:="_law_page_here") (hr.mono (by decide)) hB rfl (PySem.W.codeHd_of_K kb T.Gq.hd) rfl rfl ⟨rfl, rfl, rfl, by decide, rfl, by decide +kernel, by decide +kernel⟩ (λ_ _ _ _ _=>.of_eq rfl) (λ_ _ _ _ _=>uu (fO (gZ rf (pv 0) aJ (λ_ _=>rfl)) (fO (gZ rf (pv 0) aJ (λ_ _=>rfl)) jq))) rfl T.we (EV.b (af 4 (bv 4))).out⟩))) aN)) m5)))
    (aD (xp (rL (i:=6) (j:=7) rfl kT.nd rfl rfl (by decide) rfl rfl (ae (ax (aw lU (hr.mono (by decide)) rfl T.h8 T.eE.kp T.wY .nil aE (ae (af 5 (bv 5)) av))) (ae (kJ (gM PySem.F.plainAttrs_str PySem.F.slot_str_join PySem.F.type_str_join ix (EV.b aK) (aC (EV.b (EF.v (jy (jz (bc.uL (N:=["_law_page_here"]) (js:=[none]) (ag jv) ["_law_script", "_law_bag_here", "_law_turn", "_law_hill_here", "_law_pages_here", "_law_book", "_law_text", "_law_due", "_law_cut", "_law_other"] rfl rfl (by decide +kernel)) rfl (my (EV.b (af 5 (bv 5)))) (λ_ _ _ _=>(dX (cf (i:=0) (by decide : (["_law_page_here"] : List Str).Nodup) rfl (Or.inl rfl)))) (λ_ _ _ _=>fT) (λ_ _ _ _=>(ax (aw gQ (hr.mono (by decide)) rfl T.dn T.bu.kp T.lr .nil aE (ae (af 0 (bv 0)) av)))))))) aN)) iw) av)) rfl))
    (aD (dB (dJ (WV.t (mD (fS (fK (kr (aT gK rfl T.cD PyProof.Rows.boot_isinstance (bg (EV.b (af 6 (bv 6))) (bg (i5 (v:=.ty "str") rfl T.mF PyProof.Rows.boot_str rfl) d8))) n6))) (mD (bG (mV hr.units) (bY true) (EV.b (af 6 (bv 6))) (EV.b (af 7 (bv 7))) (aW _)) (kN (bG (mV hr.units) (bY true) (EV.b (aR (aT (rK hr.gd hr.units) rfl T.CY PyProof.Rows.boot_repr (aC (EV.b (ax (aw lQ (hr.mono (by decide)) rfl T.pM T.df.kp T.pV .nil aE (ae (af 3 (bv 3)) (ae (af 7 (bv 7)) av))))) aN)) wG)) (EV.b (aR (aT (rK hr.gd hr.units) rfl T.CY PyProof.Rows.boot_repr (aC (EV.b (af 5 (bv 5))) aN)) wG)) (aW _)))))) (aF (aL (aM lL))) bW))
    (aD (di (dc (i:=8) kT.nd rfl (Or.inl rfl) (bh cK dZ (EV.b aq) (EV.b (ax (aw ay (hr.mono (by decide)) rfl T.aQ T.ao.kp T.aU .nil aE (ae (af 1 (bv 1)) (ae (aR (aT (tG rfl) rfl T.FY PyProof.Rows.boot_max (aC (EV.b aq) (aC (EV.b (bh km kh (EV.b (aR (aT bB rfl T.gI PySem.boot_len (aC (EV.b (af 5 (bv 5))) aN)) fM)) (EV.b aq))) aN))) Fj) av))))))))
    (aD (di (dc (i:=9) kT.nd rfl (Or.inl rfl) (kJ (gM PySem.F.plainAttrs_str PySem.F.slot_str_join PySem.F.type_str_join ix (EV.b aK) (aC (EV.b (EF.v (jy (jz (bc.uL (N:=["_law_page_here"]) (js:=[none]) (ag jv) ["_law_script", "_law_bag_here", "_law_turn", "_law_hill_here", "_law_pages_here", "_law_book", "_law_text", "_law_due", "_law_cut", "_law_other"] rfl rfl (by decide +kernel)) rfl (my (EV.b (bh cK dZ (EV.b (gJ (gL r6 (EV.b (af 5 (bv 5))) (iY (EV.b (af 8 (bv 8)))) iZ) rT)) (EV.b (gJ (gL r6 (EV.b (af 5 (bv 5))) iZ (iY (EV.b (af 8 (bv 8))))) rT))))) (λ_ _ _ _=>(dX (cf (i:=0) (by decide : (["_law_page_here"] : List Str).Nodup) rfl (Or.inl rfl)))) (λ_ _ _ _=>fT) (λ_ _ _ _=>(ax (aw gQ (hr.mono (by decide)) rfl T.dn T.bu.kp T.lr .nil aE (ae (af 0 (bv 0)) av)))))))) aN)) iw)))
    (aF (dB (dJ (WV.t (tU (bG vT ze (EV.b (aR (aT bB rfl T.gI PySem.boot_len (aC (EV.b (af 5 (bv 5))) aN)) fM)) (EV.b aq) (aW _)) (tT (fS (fK (ax (aw kz (hr.mono (by decide)) rfl T.sj T.cU.kp T.sC .nil aE (ae (af 3 (bv 3)) (ae (af 9 (bv 9)) av))))))))) (aF (aL (aM lL))) bW)))))))))))
  · unfold vK;exact (aF (aL (aM lL)))
end
noncomputable def d5 (x : Str) : Bool:=decide (1 <= x.length /\ x.length <= 8) && x.cps.toList.all (λc=>decide (97 <= c /\ c <= 122))
def isName : PV -> Bool
  | .str x=>d5 x
  | _=>false
def sE (y : PV) : Prop:=y ≠ .bH /\ ∀ x, y = .str x -> x.length <= 100000
def zk (c d : Nat) : (!decide (([d] : List Nat) < [c])) = decide (c <= d):=by
  by_cases h : c <= d
  · rw [Mp h]
    have : ¬ ([d] : List Nat) < [c]:=by
      intro z;rw [List.cons_lt_cons_iff] at z;rcases z with z | ⟨_, z⟩
      · omega
      · exact absurd z (List.not_lt_nil [])
    simp [this]
  · rw [LZ h];have : ([d] : List Nat) < [c]:=by rw [List.cons_lt_cons_iff]; left; omega
    simp [this]
theorem zP (f : Nat -> Bool) : ∀ cs : List Nat, kL (cs.map λc=>PV.bl (f c)) = some (cs.map f)
  | []=>rfl
  | c :: cs=>by simp [kL, zP f cs]
def Jv {x : Str} (h : x.length <= 100000) : eV [.str x] = .ret (.int x.length):=by simp [eV, h]
def Ae (x : Str) : qk (aX 0) bS (chain cS cS (λ_=>M.ret (.str "a")) (λρ=>ah ρ 0) (λ_=>M.ret (.str "z"))) (gA x) [un] = .ret (x.cps.toList.map λc=>.bl (decide (97 <= c /\ c <= 122))):=by
  have h:=j8 (k:=0) (te:=chain cS cS (λ_=>M.ret (.str "a")) (λρ=>ah ρ 0) (λ_=>M.ret (.str "z"))) (f:=λy=>match y with | .str z=>.bl (Bk "a" z && Bk z "z") | _=>.cB) (ρ:=[un]) (gA x) [un] (λ_=>rfl) (λy hy=>by
    unfold gA at hy;obtain ⟨c, _, rfl⟩:=LM.mp hy;simp [chain, cS, ah]
    cases Bk "a" ⟨#[c]⟩ <;> simp)
  rw [h, gA, Ms];congr 2;funext c;have e1 : Bk "a" ⟨#[c]⟩ = decide (97 <= c):=zk 97 c;have e2 : Bk ⟨#[c]⟩ "z" = decide (c <= 122):=zk c 122;simp only [Function.comp, e1, e2];by_cases a : 97 <= c <;> by_cases b : c <= 122 <;> simp [a, b]
def CQ (x : Str) (h : x.length <= 100000) : cq [.str x] = .ret (.bl (d5 x)):=by
  unfold cq h7 d5;have h1:=Jv h;have h2:=Ae x;have h3 : (gA x).length = x.length:=by simp [gA, Str.length]
  by_cases c1 : 1 <= x.length
  · by_cases c2 : x.length <= 8
    · have d1 : decide ((1 : Int) <= x.length) = true:=Mp (by omega);have d2 : decide ((x.length : Int) <= 8) = true:=Mp (by omega);simp [aG, bF, i9, ij, eT, jZ, gB, aP, au, aa, bD, cQ, gD, kE, jE, d9, oU, ka, chain, a8, bb, bE, gF, br, bR, fj, inst, nC, ah, iR, f7, Ent.freeze, gc, dA, M.dW, List.replicate, cC, ba, fN, cS, mx, mH, rQ, gS, eU, xor, h1, c1, c2, d1, d2, h3, h];simp only [ah] at h2;rw [h2];simp [fN, M.dW, zP, bR, List.all_map, Function.comp_def]
    · have d1 : decide ((1 : Int) <= x.length) = true:=Mp (by omega);have d2 : decide ((x.length : Int) <= 8) = false:=LZ (by omega);simp [aG, bF, i9, ij, eT, jZ, gB, aP, au, aa, bD, cQ, gD, kE, jE, d9, oU, ka, chain, a8, bb, bE, gF, br, bR, fj, inst, nC, ah, iR, f7, Ent.freeze, gc, dA, M.dW, List.replicate, cC, ba, fN, cS, mx, mH, rQ, gS, eU, xor, h1, c1, c2, d1, d2]
  · have d1 : decide ((1 : Int) <= x.length) = false:=LZ (by omega);simp [aG, bF, i9, ij, eT, jZ, gB, aP, au, aa, bD, cQ, gD, kE, jE, d9, oU, ka, chain, a8, bb, bE, gF, br, bR, fj, inst, nC, ah, iR, f7, Ent.freeze, gc, dA, M.dW, List.replicate, cC, ba, fN, cS, mx, mH, rQ, gS, eU, xor, h1, c1, d1]
def Gi (i j : Int) : f6 false (.int i) (.int j) = .ret (.bl (i == j)):=by
  show M.ret (PV.bl (xor false (i == j))) = _;simp
def uK {y : PV} (h : sE y) : cq [y] = .ret (.bl (isName y)):=by
  cases y with
  | str x=>exact CQ x (h.2 x rfl)
  | bH=>exact absurd rfl h.1
  | _=>rfl
noncomputable def lx (lo hi : Int) : PV -> Bool
  | .int i=>decide (lo <= i) && decide (i <= hi)
  | _=>false
def Bt {y : PV} (h : y ≠ .bH) : cF [y] = .ret (.bl (match y with | .int _=>true | _=>false)):=by
  cases y with
  | bH=>exact absurd rfl h
  | _=>rfl
def kA {y : PV} {lo hi : Int} (h : y ≠ .bH) : bf [y, .int lo, .int hi] = .ret (.bl (lx lo hi y)):=by
  have h1:=Bt h;unfold bf dH
  cases y with
  | bH=>exact absurd rfl h
  | int i=>
    simp [aG, bF, i9, ij, eT, jZ, gB, aP, au, aa, bD, cQ, gD, kE, jE, d9, oU, ka, chain, a8, bb, bE, gF, br, bR, fj, inst, nC, ah, iR, f7, Ent.freeze, gc, dA, M.dW, List.replicate, cC, ba, fN, cS, mx, mH, rQ, gS, eU, xor, h1, lx]
    by_cases c : lo <= i <;> simp [c, bR]
  | _=>rfl
def yi (x y : Str) : f6 false (.str x) (.str y) = .ret (.bl (x == y)):=by
  show M.ret (PV.bl (xor false (x == y))) = _;simp
def isNum : PV -> Bool
  | .int _=>true
  | _=>false
def CK {y : PV} (h : y ≠ .bH) : cF [y] = .ret (.bl (isNum y)):=by
  cases y with
  | bH=>exact absurd rfl h
  | _=>rfl
def ltI : PV -> PV -> Bool
  | .int a, .int b=>decide (a < b)
  | _, _=>false
def mm (a b : PV) : Bool:=lx 0 1000001 a && (lx 0 1000001 b && ltI a b)
def Dg {a b : PV} (ha : a ≠ .bH) (hb : b ≠ .bH) : gm [a, b] = .ret (.bl (mm a b)):=by
  have h1:=kA (lo:=0) (hi:=1000001) ha;have h2:=kA (lo:=0) (hi:=1000001) hb;unfold gm iQ mm
  cases e1 : lx 0 1000001 a with
  | false=>simp [aG, bF, i9, ij, eT, jZ, gB, aP, au, aa, bD, cQ, gD, kE, jE, d9, oU, ka, chain, a8, bb, bE, gF, br, bR, fj, inst, nC, ah, iR, f7, Ent.freeze, gc, dA, M.dW, List.replicate, cC, ba, fN, cS, mx, mH, rQ, gS, eU, xor, h1, e1]
  | true=>
    cases e2 : lx 0 1000001 b with
    | false=>simp [aG, bF, i9, ij, eT, jZ, gB, aP, au, aa, bD, cQ, gD, kE, jE, d9, oU, ka, chain, a8, bb, bE, gF, br, bR, fj, inst, nC, ah, iR, f7, Ent.freeze, gc, dA, M.dW, List.replicate, cC, ba, fN, cS, mx, mH, rQ, gS, eU, xor, h1, h2, e1, e2]
    | true=>
      cases a <;> simp [lx] at e1;cases b <;> simp [lx] at e2;simp [aG, bF, i9, ij, eT, jZ, gB, aP, au, aa, bD, cQ, gD, kE, jE, d9, oU, ka, chain, a8, bb, bE, gF, br, bR, fj, inst, nC, ah, iR, f7, Ent.freeze, gc, dA, M.dW, List.replicate, cC, ba, fN, cS, mx, mH, rQ, gS, eU, xor, h1, h2, lx, e1, e2, ltI]
def jW (h : PV) (ps : List (Str × List PV)) (aB : Int) : Prop:=∃ home, h = .tup [.tup (ps.map λp=>.tup (.str p.1 :: p.2)), home, .int aB] /\ ps ≠ [] /\ ps.length <= 100 /\ (∀ p ∈ ps, d5 p.1 = true) /\ 1 <= aB /\ aB <= 1000000
def j0 (ps : List (Str × List PV)) : PV -> Bool
  | .str x=>ps.any λp=>p.1 == x
  | _=>false
theorem qU (x : Str) (h : PV) : ∀ (ps : List (Str × List PV)) (e : Ent), ∃ f, jG (aX 2) (gB (bD (au (f6 false) (au bJ (λρ=>ah ρ 2) (λ_=>M.ret (.int 0))) (λρ=>ah ρ 1)))
    (aP (λρ=>ah ρ 2))
    (λρ=>M.ret (.nx ρ))) (ps.map λp=>.tup (.str p.1 :: p.2)) [.val h, .val (.str x), e] = .ret f /\ (if j0 ps (.str x) = true then ∃ l, f = .rt (.tup l) else ∃ e', f = .nx [.val h, .val (.str x), e'])
  | [], e=>⟨_, rfl, by simp [j0]⟩
  | p :: ps, e=>by
    obtain ⟨f, hf, hr⟩:=qU x h ps (.val (.tup (.str p.1 :: p.2)));have i0 : jY (PV.str p.1 :: p.2) 0 = some (.str p.1):=by unfold jY Bm; simp
    rw [LJ, jG]
    cases c : p.1 == x with
    | true=>
      refine ⟨.rt (.tup (.str p.1 :: p.2)), ?_, ?_⟩
      · simp [aG, bF, i9, ij, eT, jZ, gB, aP, au, aa, bD, cQ, gD, kE, jE, d9, oU, ka, chain, a8, bb, bE, gF, br, bR, fj, inst, nC, ah, iR, f7, Ent.freeze, gc, dA, M.dW, List.replicate, cC, ba, fN, cS, mx, mH, rQ, gS, eU, xor, aX, bJ, i0, yi, c]
      · rw [Mk (by simp [j0, c])]; exact ⟨_, rfl⟩
    | false=>
      refine ⟨f, ?_, ?_⟩
      · have hf':=hf;simp [aG, bF, i9, ij, eT, jZ, gB, aP, au, aa, bD, cQ, gD, kE, jE, d9, oU, ka, chain, a8, bb, bE, gF, br, bR, fj, inst, nC, ah, iR, f7, Ent.freeze, gc, dA, M.dW, List.replicate, cC, ba, fN, cS, mx, mH, rQ, gS, eU, xor, aX, bJ, i0, yi, c] at hf' ⊢;exact hf'
      · have e1 : j0 (p :: ps) (.str x) = j0 ps (.str x):=by simp [j0, c]
        rw [e1]; exact hr
def mK {h a : PV} {ps : List (Str × List PV)} {aB : Int} (H : jW h ps aB) (ha : sE a) : bA [h, a] = .ret (.bl (j0 ps a)):=by
  obtain ⟨home, rfl, jx, hl, dz, _⟩:=H;have h1:=uK ha;unfold bA dI
  cases a with
  | bH=>exact absurd rfl ha.1
  | str x=>
    cases c : d5 x with
    | false=>
      have e : j0 ps (.str x) = false:=by
        cases d : j0 ps (.str x) with
        | false=>rfl
        | true=>
          unfold j0 at d;obtain ⟨p, hp, e⟩:=List.any_eq_true.mp d;have:=dz p hp;rw [eq_of_beq e, c] at this;cases this
      rw [e];have h1' : cq [.str x] = .ret (.bl false):=by rw [h1]; simp [isName, c]
      simp [aG, bF, i9, ij, eT, jZ, gB, aP, au, aa, bD, cQ, gD, kE, jE, d9, oU, ka, chain, a8, bb, bE, gF, br, bR, fj, inst, nC, ah, iR, f7, Ent.freeze, gc, dA, M.dW, List.replicate, cC, ba, fN, cS, mx, mH, rQ, gS, eU, xor, h1']
    | true=>
      have h1' : cq [.str x] = .ret (.bl true):=by rw [h1]; simp [isName, c]
      obtain ⟨f, hf, hr⟩:=qU x (.tup [.tup (ps.map λp=>.tup (.str p.1 :: p.2)), home, .int aB]) ps .un;have i0 : jY [PV.tup (ps.map λp=>.tup (.str p.1 :: p.2)), home, PV.int aB] 0 = some (.tup (ps.map λp=>.tup (.str p.1 :: p.2))):=rfl
      have hw : ∃ y, cm [.tup [.tup (ps.map λp=>.tup (.str p.1 :: p.2)), home, .int aB], .str x] = .ret y /\ JC y = !j0 ps (.str x):=by
        unfold cm fo;by_cases d : j0 ps (.str x) = true
        · rw [Mk d] at hr;obtain ⟨l, rfl⟩:=hr;refine ⟨.tup l, ?_, by rw [d]; rfl⟩;simp [aG, bF, i9, ij, eT, jZ, gB, aP, au, aa, bD, cQ, gD, kE, jE, d9, oU, ka, chain, a8, bb, bE, gF, br, bR, fj, inst, nC, ah, iR, f7, Ent.freeze, gc, dA, M.dW, List.replicate, cC, ba, fN, cS, mx, mH, rQ, gS, eU, xor, aX] at hf;simp [aG, bF, i9, ij, eT, jZ, gB, aP, au, aa, bD, cQ, gD, kE, jE, d9, oU, ka, chain, a8, bb, bE, gF, br, bR, fj, inst, nC, ah, iR, f7, Ent.freeze, gc, dA, M.dW, List.replicate, cC, ba, fN, cS, mx, mH, rQ, gS, eU, xor, jw, bJ, i0, aX, hf]
        · rw [Ml d] at hr;obtain ⟨e', rfl⟩:=hr;refine ⟨.cB, ?_, by simp at d; rw [d]; rfl⟩;simp [aG, bF, i9, ij, eT, jZ, gB, aP, au, aa, bD, cQ, gD, kE, jE, d9, oU, ka, chain, a8, bb, bE, gF, br, bR, fj, inst, nC, ah, iR, f7, Ent.freeze, gc, dA, M.dW, List.replicate, cC, ba, fN, cS, mx, mH, rQ, gS, eU, xor, aX] at hf;simp [aG, bF, i9, ij, eT, jZ, gB, aP, au, aa, bD, cQ, gD, kE, jE, d9, oU, ka, chain, a8, bb, bE, gF, br, bR, fj, inst, nC, ah, iR, f7, Ent.freeze, gc, dA, M.dW, List.replicate, cC, ba, fN, cS, mx, mH, rQ, gS, eU, xor, jw, bJ, i0, aX, hf]
      obtain ⟨y, hy, hn⟩:=hw
      simp [aG, bF, i9, ij, eT, jZ, gB, aP, au, aa, bD, cQ, gD, kE, jE, d9, oU, ka, chain, a8, bb, bE, gF, br, bR, fj, inst, nC, ah, iR, f7, Ent.freeze, gc, dA, M.dW, List.replicate, cC, ba, fN, cS, mx, mH, rQ, gS, eU, xor, h1', hy, KU, hn]
  | _=>rfl
def JF : List PV -> Bool
  | [a, b]=>mm a b
  | _=>false
def vD (ps : List (Str × List PV)) (w : Str) (r : List PV) : Bool:=
  if (w == "hours") = true then JF r
  else if (w == "least" || w == "most") = true then (match r with | [a, b]=>isName a && isNum b | _=>false)
  else if (w == "looked") = true then (match r with | [a]=>lx 1 1000000 a | _=>false)
  else if (w == "with") = true then (match r with | [a]=>j0 ps a | _=>false)
  else w == "never" && r.isEmpty
def jo (ps : List (Str × List PV)) : PV -> Bool
  | .tup (.str w :: r)=>vD ps w r
  | _=>false
def p3 (y : PV) : Prop:=y ≠ .bH /\ ∀ l, y = .tup l -> ∀ z ∈ l, sE z
def zS (a : PV) (r : List PV) : jY (a :: r) 0 = some a:=by unfold jY Bm; simp
def j4 : PV -> Bool
  | .tup (.str _ :: _)=>true
  | _=>false
def tO {y : PV} (h : p3 y) : a9 [y] = .ret (.bl (j4 y)):=by
  unfold a9 cj j4
  cases y with
  | bH=>exact absurd rfl h.1
  | tup l=>
    cases l with
    | nil=>simp [aG, bF, i9, ij, eT, jZ, gB, aP, au, aa, bD, cQ, gD, kE, jE, d9, oU, ka, chain, a8, bb, bE, gF, br, bR, fj, inst, nC, ah, iR, f7, Ent.freeze, gc, dA, M.dW, List.replicate, cC, ba, fN, cS, mx, mH, rQ, gS, eU, xor, eV]
    | cons a r=>
      have d : decide ((0 : Int) < ↑r.length + 1) = true:=Mp (by omega)
      cases a with
      | bH=>exact absurd rfl (h.2 _ rfl .bH (by simp)).1
      | _=>simp [aG, bF, i9, ij, eT, jZ, gB, aP, au, aa, bD, cQ, gD, kE, jE, d9, oU, ka, chain, a8, bb, bE, gF, br, bR, fj, inst, nC, ah, iR, f7, Ent.freeze, gc, dA, M.dW, List.replicate, cC, ba, fN, cS, mx, mH, rQ, gS, eU, xor, eV, bJ, zS, d]
  | _=>simp [aG, bF, i9, ij, eT, jZ, gB, aP, au, aa, bD, cQ, gD, kE, jE, d9, oU, ka, chain, a8, bb, bE, gF, br, bR, fj, inst, nC, ah, iR, f7, Ent.freeze, gc, dA, M.dW, List.replicate, cC, ba, fN, cS, mx, mH, rQ, gS, eU, xor]
def cy {m k : ak -> M Fl} {ρ ρ' : ak} {Y : M PV} (h : m ρ = .ret (.nx ρ')) (h' : (k ρ').bind bR = Y) : (aG m k ρ).bind bR = Y:=by
  unfold aG; rw [h]; exact h'
def dP {m k : ak -> M Fl} {ρ : ak} {y : PV} (h : m ρ = .ret (.rt y)) : (aG m k ρ).bind bR = .ret y:=by
  unfold aG; rw [h]; rfl
def gV {c : ak -> M Bool} {a b : ak -> M Fl} {ρ : ak} (h : c ρ = .ret false) : gB c a b ρ = b ρ:=by unfold gB; rw [h]; rfl
def ik {c : ak -> M Bool} {a b : ak -> M Fl} {ρ : ak} (h : c ρ = .ret true) : gB c a b ρ = a ρ:=by unfold gB; rw [h]; rfl
def tf {c : ak -> M Bool} {a b : ak -> M PV} {ρ : ak} (h : c ρ = .ret true) : ka c a b ρ = a ρ:=by unfold ka; rw [h]; rfl
def tj {c : ak -> M Bool} {a b : ak -> M PV} {ρ : ak} (h : c ρ = .ret false) : ka c a b ρ = b ρ:=by unfold ka; rw [h]; rfl
def bK {m : ak -> M PV} {ρ : ak} {y : PV} (h : m (ρ.map Ent.freeze) = .ret y) : aP m ρ = .ret (.rt y):=by unfold aP; rw [h]; rfl
def fQ {m : ak -> M Fl} {ρ : ak} {y : PV} (h : m ρ = .ret (.rt y)) : (m ρ).bind bR = .ret y:=by rw [h]; rfl
def mC {ρ : ak} {w z : Str} {h y : Ent} {t : List Ent} (hρ : ρ = h :: y :: .val (.str w) :: t) : bD (au (f6 false) (λρ=>ah ρ 2) (λ_=>M.ret (.str z))) ρ = .ret (w == z):=by
  subst hρ; simp [bD, au, ah, yi]
def o8 {a b : ak -> M Bool} {ρ : ak} {x y : Bool} (ha : a ρ = .ret x) (hb : b ρ = .ret y) : kE a b ρ = .ret (x || y):=by
  unfold kE; rw [ha]; cases x <;> simp [hb]
def v_and {a b : ak -> M PV} {ρ : ak} {x y : Bool} (ha : a ρ = .ret (.bl x)) (hb : x = true -> b ρ = .ret (.bl y)) : d9 a b ρ = .ret (.bl (x && y)):=by
  cases x <;> simp [d9, bD, ha, hb]
def gb {ρ : ak} {l : List PV} {h : Ent} {t : List Ent} {k : Nat} (hρ : ρ = h :: .val (.tup l) :: t) : au (f6 false) (λρ=>((aa (λρ=>ah ρ 1) (λ_=>M.ret [])) ρ).bind eV) (λ_=>M.ret (.int k)) ρ = .ret (.bl (l.length == k)):=by
  subst hρ;simp only [au, aa, ah, List.getElem?_cons_succ, LP, rZ, eV, Gi];congr 2;rw [Bool.eq_iff_iff]; simp;omega
def Ej {h y : PV} {ps : List (Str × List PV)} {aB : Int} (H : jW h ps aB) (hy : p3 y) : gy [h, y] = .ret (.bl (jo ps y)):=by
  have hb:=tO hy;unfold gy jN;show (aG _ _ [val h, val y, un]).bind bR = _;by_cases hs : ∃ w r, y = .tup (.str w :: r)
  · obtain ⟨w, r, rfl⟩:=hs;have hf:=hy.2 _ rfl;refine cy (ρ':=[val h, val (.tup (.str w :: r)), un]) (gV (by simp [cQ, bD, aa, ah, hb, j4])) ?_;refine cy (ρ':=[val h, val (.tup (.str w :: r)), val (.str w)]) (by simp [bF, au, bJ, ah, zS, M.dW]) ?_;show _ = M.ret (PV.bl (vD ps w r));unfold vD
    cases c1 : w == "hours" with
    | true=>
      refine dP ((ik ((mC rfl).trans (by rw [c1]))).trans (bK ?_));rw [Mk rfl]
      match r, hf with
      | [], _=>exact v_and (y:=false) (gb rfl) (λh=>by simp at h)
      | [a], _=>exact v_and (y:=false) (gb rfl) (λh=>by simp at h)
      | [a, b], hf=>
        have h1:=Dg (hf a (by simp)).1 (hf b (by simp)).1;have i1 : jY [PV.str w, a, b] 1 = some a:=rfl;have i2 : jY [PV.str w, a, b] 2 = some b:=rfl
        exact v_and (y:=mm a b) (gb rfl) (λ_=>by simp [aa, au, bJ, ah, Ent.freeze, i1, i2, M.dW, h1])
      | a :: b :: d :: r, _=>exact (v_and (y:=false) (gb rfl) (λh=>by simp at h)).trans (by simp [JF])
    | false=>
      refine cy (gV ((mC rfl).trans (by rw [c1]))) ?_;rw [Ml (by simp)]
      cases c2 : (w == "least" || w == "most") with
      | true=>
        refine dP ((ik ((o8 (mC rfl) (mC rfl)).trans (by rw [c2]))).trans (bK ?_));rw [Mk rfl]
        match r, hf with
        | [], _=>exact v_and (y:=false) (gb rfl) (λh=>by simp at h)
        | [a], _=>exact v_and (y:=false) (gb rfl) (λh=>by simp at h)
        | [a, b], hf=>
          have h1:=uK (hf a (by simp));have h2:=CK (hf b (by simp)).1;have i1 : jY [PV.str w, a, b] 1 = some a:=rfl;have i2 : jY [PV.str w, a, b] 2 = some b:=rfl
          exact v_and (y:=isName a && isNum b) (gb rfl) (λ_=>v_and (by simp [aa, au, bJ, ah, Ent.freeze, i1, M.dW, h1]) (λ_=>by simp [aa, au, bJ, ah, Ent.freeze, i2, M.dW, h2]))
        | a :: b :: d :: r, _=>exact (v_and (y:=false) (gb rfl) (λh=>by simp at h)).trans (by simp)
      | false=>
        refine cy (gV ((o8 (mC rfl) (mC rfl)).trans (by rw [c2]))) ?_;rw [Ml (by simp)]
        cases c3 : w == "looked" with
        | true=>
          refine dP ((ik ((mC rfl).trans (by rw [c3]))).trans (bK ?_));rw [Mk rfl]
          match r, hf with
          | [], _=>exact v_and (y:=false) (gb rfl) (λh=>by simp at h)
          | [a], hf=>
            have h1:=kA (lo:=1) (hi:=1000000) (hf a (by simp)).1;have i1 : jY [PV.str w, a] 1 = some a:=rfl
            exact v_and (y:=lx 1 1000000 a) (gb rfl) (λ_=>by simp [aa, au, bJ, ah, Ent.freeze, i1, M.dW, h1])
          | a :: b :: r, _=>exact (v_and (y:=false) (gb rfl) (λh=>by simp at h)).trans (by simp)
        | false=>
          refine cy (gV ((mC rfl).trans (by rw [c3]))) ?_;rw [Ml (by simp)]
          cases c4 : w == "with" with
          | true=>
            refine dP ((ik ((mC rfl).trans (by rw [c4]))).trans (bK ?_));rw [Mk rfl]
            match r, hf with
            | [], _=>exact v_and (y:=false) (gb rfl) (λh=>by simp at h)
            | [a], hf=>
              have h1:=mK H (hf a (by simp));have i1 : jY [PV.str w, a] 1 = some a:=rfl
              exact v_and (y:=j0 ps a) (gb rfl) (λ_=>by simp [aa, au, bJ, ah, Ent.freeze, i1, M.dW, h1])
            | a :: b :: r, _=>exact (v_and (y:=false) (gb rfl) (λh=>by simp at h)).trans (by simp)
          | false=>
            refine cy (gV ((mC rfl).trans (by rw [c4]))) ?_;rw [Ml (by simp)];refine fQ (bK (v_and (x:=w == "never") (y:=r.isEmpty) (by simp [au, ah, Ent.freeze, yi]) λ_=>(gb (k:=1) rfl).trans ?_));cases r <;> simp
  · have e : j4 y = false:=by
      unfold j4;split
      · exact (hs ⟨_, _, rfl⟩).elim
      · rfl
    rw [e] at hb
    have e2 : jo ps y = false:=by
      unfold jo;split
      · exact (hs ⟨_, _, rfl⟩).elim
      · rfl
    rw [e2];exact dP ((ik (by simp [cQ, bD, aa, ah, hb])).trans (bK rfl))
def ve (y : PV) : Prop:=y ≠ .bH /\ ∀ l, y = .tup l -> ∀ z ∈ l, p3 z
def iW (ps : List (Str × List PV)) : PV -> Bool
  | .tup l=>decide (l.length <= 6) && l.all (jo ps)
  | _=>false
theorem rM (f : PV -> Bool) : ∀ cs : List PV, kL (cs.map λc=>PV.bl (f c)) = some (cs.map f)
  | []=>rfl
  | c :: cs=>by simp [kL, rM f cs]
def DS {te : ak -> M PV} {h : PV} {ps : List (Str × List PV)} {l : List PV} (hl : l.length <= 6) (ht : ∀ y ∈ l, te [.val y, .val h] = .ret (.bl (jo ps y))) : (qk (aX 0) bS te l [un, val h]).bind (λzs=>fN [.lst zs]) = .ret (.bl (l.all (jo ps))):=by
  rw [j8 (k:=0) (f:=λy=>.bl (jo ps y)) (ρ:=[un, val h]) l [un, val h] (λ_=>rfl) (λy hy=>ht y hy)];simp only [rZ, fN, rM, M.dW];simp [List.all_map, Function.comp_def]
def B8 {h y : PV} {ps : List (Str × List PV)} {aB : Int} (H : jW h ps aB) (hy : ve y) : gk [h, y] = .ret (.bl (iW ps y)):=by
  unfold gk iO;show (aG _ _ [val h, val y]).bind bR = _
  cases y with
  | bH=>exact absurd rfl hy.1
  | tup l=>
    have hf:=hy.2 l rfl;by_cases c : l.length <= 6
    · have d : decide ((6 : Int) < l.length) = false:=LZ (by omega);refine cy (ρ':=[val h, val (.tup l)]) (gV (by simp [cQ, kE, bD, au, aa, eV, ah, fj, inst, nC, M.dW, mH, gS, d])) ?_;refine fQ (bK ?_);have q:=DS (h:=h) (ps:=ps) (te:=λρ=>((aa (λρ=>ah ρ 1) (aa (λρ=>ah ρ 0) (λ_=>M.ret []))) ρ).bind gy) c (λy hy'=>by simp [aa, ah, Ej H (hf y hy')]);have c' : l.length <= 100000:=by omega
      simp only [iW, Mp c, Bool.true_and];rw [<- q];simp [aa, a8, cC, ah, ba, f7, Ent.freeze, c'];simp only [M.bZ, rZ]
    simp only [M.bZ, rZ]
    · have d : decide ((6 : Int) < l.length) = true:=Mp (by omega);have e : iW ps (.tup l) = false:=by simp [iW, c]
      rw [e]
      exact dP ((ik (by simp [cQ, kE, bD, au, aa, eV, ah, fj, inst, nC, M.dW, mH, gS, d])).trans (bK rfl))
  | _=>exact dP ((ik (by simp [cQ, kE, bD, ah, fj, inst, nC, M.dW])).trans (bK rfl))
def d7 (y : PV) (ρ : ak) : ah (.val y :: ρ) 0 = .ret y:=rfl
def ip (e : Ent) (ρ : ak) (i : Nat) : ah (e :: ρ) (i + 1) = ah ρ i:=rfl
def Kh (y : PV) (ρ : ak) : iR (.val y :: ρ) 0 = .ret y:=rfl
def wt (l : List PV) (ρ : ak) : iR (.own l :: ρ) 0 = .ret (.lst l):=rfl
def Gd (e : Ent) (ρ : ak) (i : Nat) : iR (e :: ρ) (i + 1) = iR ρ i:=rfl
def iT {α : Type} {l : List α} {d : Int} (h0 : 0 <= d) (h1 : d < l.length) : ∃ y ∈ l, jY l d = some y:=by
  have hd : d.toNat < l.length:=by omega
  have e : d = ((d.toNat : Nat) : Int):=by omega
  refine ⟨l[d.toNat], Mg hd, ?_⟩;have q:=lg (Lx hd);rw [<- e] at q;exact q
def jF {l : List PV} (h0 : 0 < l.length) (h1 : l.length <= 100000) : Gen (aO [.bH, .lst l]) 1 (λy=>y ∈ l):=by
  unfold aO bV;simp [aG, bF, i9, ij, eT, jZ, gB, aP, au, aa, bD, cQ, gD, kE, jE, d9, oU, ka, chain, a8, bb, bE, gF, br, bR, fj, inst, nC, d7, ip, Kh, wt, Gd, f7, Ent.freeze, gc, dA, M.dW, List.replicate, cC, ba, fN, cS, mx, mH, rQ, gS, eU, xor, eV, ao];simp only [M.bZ];refine Gen.le (Gen.bind (Gen.draw (by omega) (by omega)) (d:=0) ?_) (LH _);rintro _ ⟨d, rfl, d0, d1⟩;obtain ⟨y, hy, e⟩:=iT d0 d1;refine Gen.eq (y:=y) ?_ hy;simp [bJ, e, M.dW, bR]
theorem qJ : ∀ (ys : List Str), (∀ z ∈ ys, z.length = 1) -> (ys.map (·.length)).sum = ys.length
  | [], _=>rfl
  | y :: r, h=>by
    have:=qJ r λz hz=>h z (LC _ hz);rw [LJ, List.sum_cons, this, h y Lz, LN];omega
def join_ones (ys : List Str) (h : ∀ z ∈ ys, z.length = 1) : (Txt.join (Str.ofString "") ys).length = ys.length:=by
  show (Builtin.Str.glued (Str.ofString "") ys).length = _;rw [PySem.size_glued];have e : (Str.ofString "").length = 0:=by decide
  rw [e];have:=qJ ys h;omega
def Lets (x : Str) : Prop:=∀ c ∈ x.cps.toList, 97 <= c /\ c <= 122
def One (y : PV) : Prop:=∃ c : Nat, y = .str ⟨#[c]⟩ /\ 97 <= c /\ c <= 122
theorem vm : ∀ (l : List PV), (∀ y ∈ l, One y) -> ∃ ys, strsOf l = some ys /\ ys.length = l.length /\ ∀ z ∈ ys, z.length = 1 /\ Lets z
  | [], _=>⟨[], rfl, rfl, λz hz=>by simp at hz⟩
  | y :: l, h=>by
    obtain ⟨ys, e1, e2, e3⟩:=vm l λy hy=>h y (LC _ hy);obtain ⟨c, rfl, hc⟩:=h y Lz
    exact ⟨⟨#[c]⟩ :: ys, by simp [strsOf, e1], by simp [e2], λu hu=>by
      rcases LK.mp hu with rfl | hu
      · exact ⟨rfl, λd hd=>by simp at hd; subst hd; exact hc⟩
      · exact e3 u hu⟩
theorem tw (sep : Str) (hs : Lets sep) : ∀ (ys : List Str) (acc : Array Nat), (∀ z ∈ ys, Lets z) -> (∀ c ∈ acc.toList, 97 <= c /\ c <= 122) -> ∀ c ∈ (ys.foldl (λacc p=>acc ++ sep.cps ++ p.cps) acc).toList, 97 <= c /\ c <= 122
  | [], acc, _, ha=>ha
  | y :: ys, acc, h, ha=>by
    rw [Mr];refine tw sep hs ys _ (λz hz=>h z (LC _ hz)) λc hc=>?_;rw [Array.toList_append, Array.toList_append, Mj, Mj] at hc;rcases hc with (hc | hc) | hc
    · exact ha c hc
    · exact hs c hc
    · exact h y Lz c hc
def AH (ys : List Str) (h : ∀ z ∈ ys, Lets z) : Lets (Txt.join (Str.ofString "") ys):=by
  have he : Lets (Str.ofString ""):=λc hc=>by
    have : (Str.ofString "").cps.toList = []:=by decide
    rw [this] at hc; simp at hc
  show Lets (Builtin.Str.glued (Str.ofString "") ys);unfold Builtin.Str.glued
  cases ys with
  | nil=>exact λc hc=>by simp [Str.empty] at hc
  | cons y ys=>exact tw _ he ys _ (λz hz=>h z (LC _ hz)) (h y Lz)
def HS (d : Int) (h0 : 0 <= d) (h1 : d < 26) : jY (Str.ofString "abcdefghijklmnopqrstuvwxyz").cps.toList d = some (97 + d.toNat):=by
  have e : ∀ k : Fin 26, jY (Str.ofString "abcdefghijklmnopqrstuvwxyz").cps.toList ((k.val : Nat) : Int) = some (97 + k.val):=by decide +kernel
  have:=e ⟨d.toNat, by omega⟩;simp only at this;rw [show ((d.toNat : Nat) : Int) = d by omega] at this;exact this
def DU (d : Int) (h0 : 0 <= d) (h1 : d < 26) : bJ (.str "abcdefghijklmnopqrstuvwxyz") (.int d) = .ret (.str ⟨#[97 + d.toNat]⟩):=by
  have hz : (Str.ofString "abcdefghijklmnopqrstuvwxyz").length <= 100000:=by decide +kernel
  simp [bJ, HS d h0 h1, M.dW, hz]
def Dj {ρ : ak} (h : ah ρ 1 = .ret .bH) : Gen (au bJ (λ_=>M.ret (.str "abcdefghijklmnopqrstuvwxyz")) (λρ=>(ah ρ 1).bind λa=>zF [a, .int 26]) ρ) 1 One:=by
  simp only [au, h, rZ];refine Gen.le (Gen.bind (Gen.draw (by omega) (by omega)) (d:=0) ?_) (LH _);rintro _ ⟨d, rfl, d0, d1⟩;exact Gen.eq (DU d d0 d1) ⟨_, rfl, by omega, by omega⟩
def Label (y : PV) : Prop:=∃ z : Str, y = .str z /\ 1 <= z.length /\ z.length <= 8 /\ Lets z
def tv : Gen (dM [.bH]) 9 Label:=by
  unfold dM fY;simp [aG, bF, i9, ij, eT, jZ, gB, aP, au, aa, bD, cQ, gD, kE, jE, d9, oU, ka, chain, a8, bb, bE, gF, br, bR, fj, inst, nC, d7, ip, Kh, wt, Gd, f7, Ent.freeze, gc, dA, M.dW, List.replicate, cC, ba, fN, cS, mx, mH, rQ, gS, eU, xor, eV, ao];simp only [M.bZ];refine Gen.le (Gen.bind (Gen.draw (by omega) (by omega)) (d:=8) ?_) (LH _);rintro _ ⟨d, rfl, d0, d1⟩;obtain ⟨y, hy, e⟩:=iT (l:=[PV.int 2, PV.int 1, PV.int 3, PV.int 8, PV.int 4, PV.int 1, PV.int 5, PV.int 2]) d0 d1
  obtain ⟨k, rfl, k0, k1⟩ : ∃ k : Int, y = .int k /\ 1 <= k /\ k <= 8:=by
    simp only [LK, LL, or_false] at hy;rcases hy with rfl | rfl | rfl | rfl | rfl | rfl | rfl | rfl <;> exact ⟨_, rfl, by decide, by decide⟩
  simp [bJ, e, M.dW, aG, bF, i9, ij, eT, jZ, gB, aP, au, aa, bD, cQ, gD, kE, jE, d9, oU, ka, chain, a8, bb, bE, gF, br, bR, fj, inst, nC, d7, ip, Kh, wt, Gd, f7, Ent.freeze, gc, dA, M.dW, List.replicate, cC, ba, fN, cS, mx, mH, rQ, gS, eU, xor, oB, tyP, j7, (by omega : -1000000 <= k /\ k <= 100000)];have hlen : (eB 0 k.toNat).length = k.toNat:=by simp [eB]
  simp [hlen, (by omega : k.toNat <= 100000)];simp only [M.bZ];refine Gen.le (Gen.bind (Gen.lc (ρ:=[un, val PV.bH]) (c:=1) (Pr:=One) _ _ (λ_=>rfl) (λy hy=>Dj rfl)) (d:=0) ?_) (by rw [hlen]; omega);rintro zs ⟨z1, z2⟩;obtain ⟨ys, e1, e2, e3⟩:=vm zs z2;have e4:=qJ ys λz hz=>(e3 z hz).1;have e5 : (Str.ofString "").length = 0:=by decide
  have e6:=join_ones ys λz hz=>(e3 z hz).1;refine Gen.eq (y:=.str (Txt.join (Str.ofString "") ys)) ?_ ⟨_, rfl, by rw [e6, e2, z1, hlen]; omega, by rw [e6, e2, z1, hlen]; omega, AH ys λz hz=>(e3 z hz).2⟩;have hs : (ys.map (·.length)).sum + ys.length * (Str.ofString "").length <= 16777216:=by rw [e4, e5, e2, z1, hlen]; omega
  simp only [rZ, dY, e1, M.dW, Mk hs, bR]
def HJ (x : Str) (j : Int) (c : Nat) (hc : (c : Int) = if j < 0 then max 0 (j + x.length) else min j x.length) : Txt.slice x none (some j) = ⟨(x.cps.toList.take c).toArray⟩:=by
  have hle : c <= x.length:=by split at hc <;> omega
  have e : Builtin.Str.strSliceIndices none (some j) 1 x.length = Builtin.Str.strSliceIndices (some ((0 : Nat) : Int)) (some (c : Int)) 1 x.length:=by
    unfold Builtin.Str.strSliceIndices;simp;congr 1 <;> omega
  have e2:=StrLaws.sliceText_nat x (L1 c) hle
  have e3 : Txt.slice x none (some j) = StrLaws.sliceText x (some ((0 : Nat) : Int)) (some (c : Int)):=by
    unfold Txt.slice StrLaws.sliceText;rw [e]
  rw [e3, e2, List.drop_zero, Nat.sub_zero]
def wI {x : Str} (h : Lets x) (c : Nat) : Lets ⟨(x.cps.toList.take c).toArray⟩:=λd hd=>h d (List.mem_of_mem_take (by simpa using hd))
def zK (x : Str) (c : Nat) : (⟨(x.cps.toList.take c).toArray⟩ : Str).length = min c x.length:=by
  show (x.cps.toList.take c).toArray.size = _;rw [LF, List.length_take];simp [Str.length]
def DR {x y : Str} (hx : Lets x) (hy : Lets y) : Lets (x ++ y):=λc hc=>by
  have : c ∈ x.cps.toList ++ y.cps.toList:=by
    rw [<- Array.toList_append]; exact hc
  rcases Mj.mp this with h | h
  · exact hx c h
  · exact hy c h
def Fs (x y : Str) : (x ++ y).length = x.length + y.length:=Array.size_append
def AQ (c : Nat) (h : 97 <= c /\ c <= 122) : lH (.str "abcdefghijklmnopqrstuvwxyz") [.str ⟨#[c]⟩] = .ret (.int ((c - 97 : Nat) : Int)):=by
  have e : ∀ k : Fin 26, Builtin.Str.occurrences (Str.ofString "abcdefghijklmnopqrstuvwxyz") ⟨#[97 + k.val]⟩ 0 (Str.ofString "abcdefghijklmnopqrstuvwxyz").length 1 = [k.val]:=by decide +kernel
  have q:=e ⟨c - 97, by omega⟩;simp only at q;rw [show 97 + (c - 97) = c by omega] at q;unfold lH;simp only [q]
def Good (z : Str) : Prop:=1 <= z.length /\ z.length <= 8 /\ Lets z
def Good.ok {z : Str} (h : Good z) : d5 z = true:=by
  unfold d5;rw [Mb];refine ⟨Mp ⟨h.1, h.2.1⟩, List.all_eq_true.mpr λc hc=>Mp (h.2.2 c hc)⟩
def xr {x : Str} {j : Int} (h : x.length <= 100000) (c : Nat) (hc : (c : Int) = if j < 0 then max 0 (j + x.length) else min j x.length) : pF (.str x) none (some j) = .ret (.str ⟨(x.cps.toList.take c).toArray⟩):=by
  unfold pF;dsimp only;rw [Mk h, HJ x j c hc]
def pJ (p : List Nat) (c : Nat) : Str:=⟨(p ++ [c]).toArray⟩
def Lp (p : List Nat) : Prop:=p.length <= 7 /\ ∀ c ∈ p, 97 <= c /\ c <= 122
def uI (p : List Nat) (c : Nat) : (pJ p c).length = p.length + 1:=by
  show (p ++ [c]).toArray.size = _;simp
def CO {p : List Nat} {c : Nat} (h : Lp p) (h1 : 97 <= c) (h2 : c <= 122) : Good (pJ p c):=by
  refine ⟨by rw [uI]; omega, by rw [uI]; have:=h.1; omega, λd hd=>?_⟩;have hd' : d ∈ p ++ [c]:=hd;rcases Mj.mp hd' with w | w
  · exact h.2 d w
  · rw [L3.mp w]; exact ⟨h1, h2⟩
def Good.split {z : Str} (h : Good z) : ∃ p c, z = pJ p c /\ Lp p /\ 97 <= c /\ c <= 122:=by
  obtain ⟨h1, h2, h3⟩:=h;have hl : z.cps.toList.length = z.length:=by simp [Str.length]
  have jx : z.cps.toList ≠ []:=λe=>by rw [e] at hl; simp at hl; omega
  have e:=List.dropLast_concat_getLast jx;refine ⟨z.cps.toList.dropLast, z.cps.toList.getLast jx, ?_, ⟨by rw [List.length_dropLast]; omega, λc hc=>h3 c (List.dropLast_subset _ hc)⟩, h3 _ (List.getLast_mem jx)⟩;unfold pJ;rw [e]
def ER {p : List Nat} {c d : Nat} (h : pJ p c = pJ p d) : c = d:=by
  unfold pJ at h;have h':=congrArg (λz : Str=>z.cps.toList) h;simpa using h'
def p7 (c i : Nat) : Nat:=97 + (c - 97 + i) % 26
def turned {p : List Nat} {c : Nat} (hp : Lp p) (hc : 97 <= c /\ c <= 122) : au dq (mO pF (λ_=>M.ret (.str (pJ p c))) (λ_=>M.ret none) (λρ=>((λρ=>((λ_=>M.ret (.int 1)) ρ).bind uJ) ρ).bind λy=>(jb y).bind λi=>M.ret (some i))) (au bJ (λ_=>M.ret (.str "abcdefghijklmnopqrstuvwxyz")) (au v9 (au dq (oB "str" lH (λ_=>M.ret (.str "abcdefghijklmnopqrstuvwxyz")) (aa (au bJ (λ_=>M.ret (.str (pJ p c))) (λρ=>((λ_=>M.ret (.int 1)) ρ).bind uJ)) (λ_=>M.ret []))) (λ_=>M.ret (.int 1))) (λ_=>M.ret (.int 26)))) [] = .ret (.str (pJ p (p7 c 1))):=by
  have hl:=uI p c;have hp7:=hp.1;have hL : (pJ p c).cps.toList = p ++ [c]:=rfl;have e1:=xr (x:=pJ p c) (j:=-1) (by omega) p.length (by rw [Mk (by omega)]; omega);rw [hL, List.take_left' rfl] at e1
  have ec : jY (pJ p c).cps.toList (-1) = some c:=by
    rw [hL];unfold jY Bm;rw [Ml (by omega), Mk (by simp; omega)];have : (-1 + ((p ++ [c]).length : Int)).toNat = p.length:=by simp; omega
    rw [this];simp
  have e2:=AQ c hc
  have e3 : bJ (.str (pJ p c)) (.int (-1)) = .ret (.str ⟨#[c]⟩):=by
    simp [bJ, ec, M.dW, (by omega : (pJ p c).length <= 100000)]
  have e4 : v9 (.int (((c - 97 : Nat) : Int) + 1)) (.int 26) = .ret (.int ((((c - 97 : Nat) : Int) + 1) % 26)):=by
    unfold v9 sh; simp
  have e5:=DU ((((c - 97 : Nat) : Int) + 1) % 26) (by omega) (by omega);have hk : 97 + ((((c - 97 : Nat) : Int) + 1) % 26).toNat = p7 c 1:=by unfold p7; omega
  rw [hk] at e5
  have e6 : (⟨p.toArray⟩ : Str) ++ ⟨#[p7 c 1]⟩ = pJ p (p7 c 1):=by
    show (⟨p.toArray ++ #[p7 c 1]⟩ : Str) = ⟨(p ++ [p7 c 1]).toArray⟩;congr 1;apply Array.ext';simp
  have e7 : (⟨p.toArray⟩ : Str).length = p.length:=by show p.toArray.size = _; simp
  simp only [au, mO, uJ, rZ, jb, e1, oB, tyP, aa, e3, e2, dq, e4, e5];simp only [M.dW, Mv, if_true, rZ, e2, dq, e4, e5];rw [Mk]
  · rw [e6]
  · rw [e7];show _ + 1 <= _;omega
def EM (c i : Nat) (h : 97 <= c) : p7 (p7 c i) 1 = p7 c (i + 1):=by unfold p7; omega
def xU (c i : Nat) : 97 <= p7 c i /\ p7 c i <= 122:=by unfold p7; omega
theorem Cu : ∀ (l m : List Str), l.Nodup -> (∀ x ∈ l, x ∈ m) -> l.length <= m.length
  | [], m, _, _=>L1 _
  | x :: l, m, nd, h=>by
    have hx:=h x Lz;have nd':=List.nodup_cons.mp nd;have q:=Cu l (m.erase x) nd'.2 λy hy=>(List.mem_erase_of_ne (λ(e : y = x)=>nd'.1 (e ▸ hy))).mpr (h y (LC _ hy));rw [List.length_erase_of_mem hx] at q;have : 0 < m.length:=List.length_pos_of_mem hx;simp only [LN];omega
def Bb {p : List Nat} {c : Nat} {zs : List Str} (hc : 97 <= c /\ c <= 122) (h : ∀ i < 26, pJ p (p7 c i) ∈ zs) : 26 <= zs.length:=by
  have q:=Cu ((List.range 26).map λi=>pJ p (p7 c i)) zs ?_ ?_
  · simpa using q
  · refine List.Pairwise.map _ (λa b (hab : a ∈ List.range 26 /\ b ∈ List.range 26 /\ a ≠ b) e=>?_) ?_ (R:=λa b=>a ∈ List.range 26 /\ b ∈ List.range 26 /\ a ≠ b)
    · have e':=ER e;have h1:=ME.mp hab.1;have h2:=ME.mp hab.2.1;have h3:=hab.2.2;unfold p7 at e';omega
    · exact List.Pairwise.imp_of_mem (λha hb hn=>⟨ha, hb, hn⟩) List.nodup_range
  · intro x hx;obtain ⟨i, hi, rfl⟩:=LM.mp hx;exact h i (ME.mp hi)
def iz {m k : ak -> M Fl} {ρ : ak} {c d : Nat} {I : ak -> Prop} {Pr : PV -> Prop} (h : Gen (m ρ) c λf=>∃ ρ', f = .nx ρ' /\ I ρ') (h' : ∀ ρ', I ρ' -> Gen ((k ρ').bind bR) d Pr) : Gen ((aG m k ρ).bind bR) (c + d) Pr:=by
  unfold aG;rw [M.bZ];refine Gen.bind h λf hf=>?_;obtain ⟨ρ', rfl, hi⟩:=hf;exact h' ρ' hi
def rj {m k : ak -> M Fl} {ρ : ak} {c d : Nat} {I : ak -> Prop} {Pr : Fl -> Prop} (h : Gen (m ρ) c λf=>∃ ρ', f = .nx ρ' /\ I ρ') (h' : ∀ ρ', I ρ' -> Gen (k ρ') d Pr) : Gen (aG m k ρ) (c + d) Pr:=by
  unfold aG;refine Gen.bind h λf hf=>?_;obtain ⟨ρ', rfl, hi⟩:=hf;exact h' ρ' hi
def AU {m : ak -> M Fl} {ρ ρ' : ak} {I : ak -> Prop} (h : m ρ = .ret (.nx ρ')) (hi : I ρ') : Gen (m ρ) 0 λf=>∃ ρ', f = .nx ρ' /\ I ρ':=Gen.eq h ⟨ρ', rfl, hi⟩
theorem E8 {k : Nat} {mb : ak -> M Fl} {c : Nat} {Iv : Nat -> ak -> Prop} : ∀ (l : List PV) (i : Nat) (ρ : ak), Iv i ρ -> (∀ y ∈ l, ∀ j < i + l.length, ∀ ρ, Iv j ρ -> Gen (mb (ρ.set k (.val y))) c λf=>∃ ρ', f = .nx ρ' /\ Iv (j + 1) ρ') -> Gen (jG (aX k) mb l ρ) (l.length * c) λf=>∃ ρ', f = .nx ρ' /\ Iv (i + l.length) ρ'
  | [], i, ρ, h, _=>Gen.le (Gen.ret ⟨ρ, rfl, h⟩) (by simp)
  | y :: l, i, ρ, h, hb=>by
    unfold jG;simp only [aX, rZ];refine Gen.le (Gen.bind (hb y Lz i (by simp) ρ h) λf hf=>?_) (d:=(y :: l).length * c) (Nat.le_of_eq (?_ : c + l.length * c = _))
    · obtain ⟨ρ', rfl, h'⟩:=hf;have q:=E8 l (i + 1) ρ' h' λy' hy j hj=>hb y' (LC _ hy) j (by simp only [LN]; omega);rw [show i + (y :: l).length = i + 1 + l.length by simp only [LN]; omega];exact q
    · simp only [LN, Nat.succ_mul]; omega
theorem Hz {k : Nat} {mb : ak -> M Fl} {c : Nat} {Iv : Nat -> ak -> Prop} (L : List PV) (hb : ∀ (j : Nat) (y : PV), L[j]? = some y -> ∀ ρ, Iv j ρ -> Gen (mb (ρ.set k (.val y))) c λf=>∃ ρ', f = .nx ρ' /\ Iv (j + 1) ρ') : ∀ (l : List PV) (i : Nat) (ρ : ak), L.drop i = l -> i <= L.length -> Iv i ρ -> Gen (jG (aX k) mb l ρ) (l.length * c) λf=>∃ ρ', f = .nx ρ' /\ Iv L.length ρ'
  | [], i, ρ, e, hi, h=>by
    have : L.length <= i:=by rw [List.drop_eq_nil_iff] at e; exact e
    have e' : i = L.length:=by omega
    subst e'
    exact Gen.le (Gen.ret ⟨ρ, rfl, h⟩) (by simp)
  | y :: l, i, ρ, e, hi, h=>by
    unfold jG;simp only [aX, rZ]
    have hget : L[i]? = some y:=by
      have : (L.drop i)[0]? = some y:=by rw [e]; rfl
      rw [List.getElem?_drop] at this;simpa using this
    have kY : i < L.length:=(LG.mp hget).1
    have n9 : L.drop (i + 1) = l:=by
      have : (L.drop i).drop 1 = l:=by rw [e]; rfl
      rw [List.drop_drop] at this;exact this
    refine Gen.le (Gen.bind (hb i y hget ρ h) λf hf=>?_) (d:=(y :: l).length * c) (Nat.le_of_eq (?_ : c + l.length * c = _))
    · obtain ⟨ρ', rfl, h'⟩:=hf;exact Hz L hb l (i + 1) ρ' n9 kY h'
    · simp only [LN, Nat.succ_mul]; omega
def E5 (zs : List Str) (x : Str) : Bool:=zs.any λz=>z == x
def zv {zs : List Str} {x : Str} : E5 zs x = true ↔ x ∈ zs:=by
  unfold E5;rw [List.any_eq_true];constructor
  · rintro ⟨z, hz, e⟩; rw [<- eq_of_beq e]; exact hz
  · intro h; exact ⟨x, h, Mv x⟩
def AY (zs : List Str) : (zs.map PV.str).all bT = true:=by
  rw [List.all_eq_true];intro y hy;obtain ⟨z, _, rfl⟩:=LM.mp hy;rfl
def Df (x : Str) (zs : List Str) (b : Bool) : Hx b (.str x) (.lst (zs.map PV.str)) = .ret (.bl (xor b (E5 zs x))):=by
  have e : si (.str x) (zs.map PV.str) = E5 zs x:=by
    unfold si E5;rw [List.any_map];rfl
  unfold Hx;dsimp only;rw [AY, e];simp [bT, toV, ia]
def J5 (y : PV) (k : Nat) : Prop:=∃ zs : List Str, y = .lst (zs.map PV.str) /\ zs.length = k /\ (∀ z ∈ zs, Good z) /\ zs.Nodup
def rm {k : Int} (k0 : 1 <= k) (k1 : k <= 12) : Gen (cV [.bH, .int k]) 200 (λy=>J5 y k.toNat):=by
  unfold cV fz;show Gen ((aG _ _ [val .bH, val (.int k), un, un, un, un, un, un]).bind bR) 200 _;refine Gen.le (iz (d:=199) (I:=λρ=>ρ = [val .bH, val (.int k), val (.str "abcdefghijklmnopqrstuvwxyz"), Ent.own [], un, un, un, un]) (AU (by simp [y9, bb]) rfl) ?_) (by decide);rintro _ rfl;refine Gen.le (iz (c:=10) (d:=189) (I:=λρ=>∃ st : Str, st.length <= 8 /\ Lets st /\ ρ = [val .bH, val (.int k), val (.str "abcdefghijklmnopqrstuvwxyz"), Ent.own [], val (.str st), un, un, un]) ?_ ?_) (by decide)
  · simp only [bF, ka, bD, au, aa, d7, ip, rZ, ao, M.bZ];refine Gen.le (Gen.bind (Gen.draw (by omega) (by omega)) (d:=9) ?_) (LH _);rintro _ ⟨d, rfl, d0, d1⟩;rw [Gi];by_cases c : d = 0
    · subst c;simp only [rZ, Mv, if_true, mO, aa, d7, ip, M.bZ];refine Gen.le (Gen.bind tv (d:=0) ?_) (LH _);rintro _ ⟨z, rfl, z1, z2, z3⟩;have e:=xr (x:=z) (j:=5) (by omega) (min 5 z.length) (by rw [Ml (by omega)]; omega);refine Gen.eq (y:=.nx [val .bH, val (.int k), val (.str "abcdefghijklmnopqrstuvwxyz"), Ent.own [], val (.str ⟨(z.cps.toList.take (min 5 z.length)).toArray⟩), un, un, un]) ?_ ⟨_, rfl, _, ?_, wI z3 _, rfl⟩
      · simp only [rZ, jb, e]; rfl
      · rw [zK]; omega
    · have c' : (d == 0) = false:=by simpa using c
      refine Gen.le (Gen.eq (y:=.nx [val .bH, val (.int k), val (.str "abcdefghijklmnopqrstuvwxyz"), Ent.own [], val (.str ""), un, un, un]) ?_ ⟨_, rfl, _, by decide, ?_, rfl⟩) (by decide)
      · simp [c']
      · intro x hx;have : (Str.ofString "").cps.toList = []:=by decide
        rw [this] at hx; simp at hx
  · rintro _ ⟨st, st1, st2, rfl⟩;have hint : (eB 0 k.toNat).length = k.toNat:=by simp [eB]
    refine Gen.le (iz (c:=k.toNat * 9) (d:=0) (I:=λρ=>∃ zs e5 e6 e7, ρ = [val .bH, val (.int k), val (.str "abcdefghijklmnopqrstuvwxyz"), Ent.own (List.map PV.str zs), val (.str st), e5, e6, e7] /\ zs.length = k.toNat /\ (∀ z ∈ zs, Good z) /\ zs.Nodup) ?_ ?_) (by omega)
    · simp only [jw, aa, d7, ip, rZ, j7, Mk (by omega : -1000000 <= k /\ k <= 100000)];refine Gen.mono (E8 (k:=5) (c:=9) (Iv:=λi ρ=>∃ zs e5 e6 e7, ρ = [val .bH, val (.int k), val (.str "abcdefghijklmnopqrstuvwxyz"), Ent.own (List.map PV.str zs), val (.str st), e5, e6, e7] /\ zs.length = i /\ (∀ z ∈ zs, Good z) /\ zs.Nodup) (eB 0 k.toNat) 0 [val .bH, val (.int k), val (.str "abcdefghijklmnopqrstuvwxyz"), Ent.own [], val (.str st), un, un, un] ⟨[], _, _, _, rfl, rfl, λz hz=>by simp at hz, List.nodup_nil⟩ ?_) (by rw [hint]; exact LH _) ?_
      rotate_left
      · intro f hf; rw [hint, Nat.zero_add] at hf; exact hf
      · rintro y hy j hj _ ⟨zs, e5, e6, e7, rfl, hzl, hzg, hzn⟩;rw [hint] at hj;show Gen (aG _ _ [val .bH, val (.int k), val (.str "abcdefghijklmnopqrstuvwxyz"), Ent.own (List.map PV.str zs), val (.str st), val y, e6, e7]) 9 _;refine Gen.le (rj (c:=9) (d:=0) (I:=λρ=>∃ n, Good n /\ ρ = [val .bH, val (.int k), val (.str "abcdefghijklmnopqrstuvwxyz"), Ent.own (List.map PV.str zs), val (.str st), val y, val (.str n), e7]) ?_ ?_) (LH _)
        · simp only [bF, mO, au, aa, d7, ip, rZ, M.bZ];refine Gen.le (Gen.bind tv (d:=0) ?_) (LH _);rintro _ ⟨z, rfl, z1, z2, z3⟩;have l1:=Fs st z;have e:=xr (x:=st ++ z) (j:=8) (by omega) (min 8 (st ++ z).length) (by rw [Ml (by omega)]; omega);have l2:=zK (st ++ z) (min 8 (st ++ z).length);refine Gen.eq (y:=.nx [val .bH, val (.int k), val (.str "abcdefghijklmnopqrstuvwxyz"), Ent.own (List.map PV.str zs), val (.str st), val y, val (.str ⟨((st ++ z).cps.toList.take (min 8 (st ++ z).length)).toArray⟩), e7]) ?_ ⟨_, rfl, _, ⟨by rw [l2]; omega, by rw [l2]; omega, wI (DR st2 z3) _⟩, rfl⟩;simp only [dq, Mk (by omega : st.length + z.length <= 100000), rZ, jb, e];rfl
        · rintro _ ⟨n, hn, rfl⟩;obtain ⟨p, c, rfl, hp, hc⟩:=hn.split;refine Gen.le (rj (c:=0) (d:=0) (I:=λρ=>∃ n e7, Good n /\ n ∉ zs /\ ρ = [val .bH, val (.int k), val (.str "abcdefghijklmnopqrstuvwxyz"), Ent.own (List.map PV.str zs), val (.str st), val y, val (.str n), e7]) ?_ ?_) (LH _)
          · simp only [jw, aa, rZ, j7, Mk (by omega : -1000000 <= (26 : Int) /\ (26 : Int) <= 100000)];have h26 : (eB 0 (26 : Int).toNat).length = 26:=by simp [eB]
            refine Gen.mono (Hz (k:=7) (c:=0) (Iv:=λi ρ=>∃ n e7, ((Good n /\ n ∉ zs) \/ (n = pJ p (p7 c i) /\ ∀ i' < i, pJ p (p7 c i') ∈ zs)) /\ ρ = [val .bH, val (.int k), val (.str "abcdefghijklmnopqrstuvwxyz"), Ent.own (List.map PV.str zs), val (.str st), val y, val (.str n), e7]) (eB 0 (26 : Int).toNat) ?_ (eB 0 (26 : Int).toNat) 0 _ rfl (L1 _) ⟨pJ p c, e7, .inr ⟨by congr 1; unfold p7; omega, λi' h=>by omega⟩, rfl⟩) (by simp) ?_
            · rintro i t ht _ ⟨n, e7, hn, rfl⟩;have hb:=Df n zs false;show Gen (gB _ _ _ [val .bH, val (.int k), val (.str "abcdefghijklmnopqrstuvwxyz"), Ent.own (List.map PV.str zs), val (.str st), val y, val (.str n), val t]) 0 _;by_cases hin : n ∈ zs
              · rw [zv.mpr hin] at hb;rcases hn with ⟨_, hn⟩ | ⟨rfl, hn⟩
                · exact absurd hin hn
                have hq:=turned hp (xU c i);rw [EM c i hc.1] at hq;refine AU (I:=λρ=>∃ n e7, ((Good n /\ n ∉ zs) \/ (n = pJ p (p7 c (i + 1)) /\ ∀ i' < i + 1, pJ p (p7 c i') ∈ zs)) /\ ρ = _) ((ik (by simp only [bD, au, d7, ip, wt, Gd, rZ, hb]; rfl)).trans ?_) ⟨pJ p (p7 c (i + 1)), val t, .inr ⟨rfl, λi' h'=>?_⟩, rfl⟩
                · simp only [au, mO, oB, aa, rZ] at hq;simp only [bF, au, mO, oB, aa, d7, ip, rZ, hq];rfl
                · by_cases e : i' = i
                  · rw [e]; exact hin
                  · exact hn i' (by omega)
              · have hb' : E5 zs n = false:=by
                  cases d : E5 zs n with
                  | false=>rfl
                  | true=>exact absurd (zv.mp d) hin
                rw [hb'] at hb;refine AU (I:=λρ=>∃ n e7, ((Good n /\ n ∉ zs) \/ (n = pJ p (p7 c (i + 1)) /\ ∀ i' < i + 1, pJ p (p7 c i') ∈ zs)) /\ ρ = _) (gV (by simp only [bD, au, d7, ip, wt, Gd, rZ, hb]; rfl)) ⟨n, _, .inl ⟨?_, hin⟩, rfl⟩;rcases hn with ⟨hn, _⟩ | ⟨rfl, _⟩
                · exact hn
                · exact CO hp (xU c i).1 (xU c i).2
            · rintro f ⟨ρ', rfl, n, e7, hn, rfl⟩;rw [h26] at hn;refine ⟨_, rfl, n, e7, ?_⟩;rcases hn with ⟨h1, h2⟩ | ⟨_, h2⟩
              · exact ⟨h1, h2, rfl⟩
              · exact absurd (Bb hc h2) (by omega)
          · rintro _ ⟨n, e7, hn, hnz, rfl⟩;refine Gen.eq (y:=.nx [val .bH, val (.int k), val (.str "abcdefghijklmnopqrstuvwxyz"), Ent.own (List.map PV.str (zs ++ [n])), val (.str st), val y, val (.str n), e7]) ?_ ⟨_, rfl, zs ++ [n], _, _, _, rfl, by simp [hzl], λz hz=>?_, ?_⟩
            · simp [sD, d7, ip, hzl, (by omega : j < 100000)]
            · rcases Mj.mp hz with h | h
              · exact hzg z h
              · rw [L3.mp h]; exact hn
            · rw [List.nodup_append];refine ⟨hzn, by simp, λa ha b hb e=>?_⟩;rw [L3.mp hb] at e;exact hnz (e ▸ ha)
    · rintro _ ⟨zs, e5, e6, e7, rfl, hzl, hzg, hzn⟩;exact Gen.eq (fQ (bK rfl)) ⟨zs, rfl, hzl, hzg, hzn⟩
def CT {a b : Int} (h0 : -1000000000000 < a) (h1 : a < 1000000000000) : mY (.int a) (.int b) = .ret (.int (a * b)):=by
  have e : (2 : Int) ^ 64 = 18446744073709551616:=by decide
  unfold mY xX;dsimp only;rw [Mk (show qa a b from Or.inl ⟨by omega, by omega⟩)]
def Hg (a b c : PV) : bb [a, b, c] = .ret [a, b, c]:=by simp [bb]
def wa (a b c d : PV) : bb [a, b, c, d] = .ret [a, b, c, d]:=by simp [bb]
def Hf (a : PV) : bE [a] = .ret (.tup [a]):=by simp [bE]
def He (a b : PV) : bE [a, b] = .ret (.tup [a, b]):=by simp [bE]
def Hd (a b c : PV) : bE [a, b, c] = .ret (.tup [a, b, c]):=by simp [bE]
def wq {sc : Int} (h0 : 1 <= sc) (h1 : sc <= 33333) : Gen (eS [.bH, .int sc]) 1 (λy=>∃ i, y = .int i /\ 0 <= i /\ i <= 1000000):=by
  unfold eS gT;have e2 : mY (.int 2) (.int sc) = .ret (.int (2 * sc)):=CT (by omega) (by omega);have e3 : mY (.int 3) (.int sc) = .ret (.int (3 * sc)):=CT (by omega) (by omega);have e5 : mY (.int 5) (.int sc) = .ret (.int (5 * sc)):=CT (by omega) (by omega);have e1 : dq (.int sc) (.int 1) = .ret (.int (sc + 1)):=rfl;simp [aG, bF, i9, ij, eT, jZ, gB, aP, au, aa, bD, cQ, gD, kE, jE, d9, oU, ka, chain, a8, bb, bE, gF, br, bR, fj, inst, nC, d7, ip, Kh, wt, Gd, f7, Ent.freeze, gc, dA, M.dW, List.replicate, cC, ba, fN, cS, mx, mH, rQ, gS, eU, xor, ao, e1, e2, e3, e5];simp only [M.bZ];refine Gen.le (Gen.bind (Gen.draw (by omega) (by omega)) (d:=0) ?_) (LH _);rintro _ ⟨d, rfl, d0, d1⟩;obtain ⟨y, hy, e⟩:=iT (l:=[PV.int 0, PV.int 1000000, PV.int sc, PV.int 1, PV.int (2 * sc), PV.int (3 * sc), PV.int (5 * sc), PV.int (sc + 1)]) d0 d1;refine Gen.eq (y:=y) (by simp [bJ, e, M.dW, bR]) ?_;simp only [LK, LL, or_false] at hy;rcases hy with rfl | rfl | rfl | rfl | rfl | rfl | rfl | rfl <;> exact ⟨_, rfl, by omega, by omega⟩
def HV (r : List PV) : Prop:=∃ (k a b : Str) (i j : Int), r = [.str k, .str a, .str b, .int i, .int j] /\ a.length <= 8 /\ b.length <= 8 /\ (k = "slope" \/ k = "lift" \/ k = "path") /\ 0 <= i /\ i <= 1000000 /\ 0 <= j /\ j <= 1000000 /\ d5 a = true /\ d5 b = true
def lu (h : PV) (ps : List (Str × List PV)) (aB : Int) : Prop:=jW h ps aB /\ (ps.map (·.1)).Nodup /\ (∀ p ∈ ps, HV p.2) /\ ps.length <= 12 /\ ∃ hm : Str, h = .tup [.tup (ps.map λp=>.tup (.str p.1 :: p.2)), .str hm, .int aB] /\ hm.length <= 8 /\ d5 hm = true
def Dm : Gen (gh [.bH]) 1000 (λh=>∃ ps aB, lu h ps aB):=by
  unfold gh iN;show Gen ((aG _ _ [val .bH, un, un, un, un, un, un, un, un, un, un]).bind bR) 1000 _;refine Gen.le (iz (c:=2) (d:=998) (I:=λρ=>∃ many : Int, 1 <= many /\ many <= 12 /\ ρ = [val .bH, val (.int many), un, un, un, un, un, un, un, un, un]) ?_ ?_) (by decide)
  · simp only [bF, ka, bD, au, aa, d7, ip, rZ, ao, M.bZ];refine Gen.le (Gen.bind (Gen.draw (by omega) (by omega)) (d:=1) ?_) (LH _);rintro _ ⟨d, rfl, d0, d1⟩;rw [Gi];by_cases c : d = 7
    · subst c;exact Gen.le (Gen.eq (y:=.nx _) rfl ⟨_, rfl, 12, by decide, by decide, rfl⟩) (by decide)
    · have c' : (d == 7) = false:=by simpa using c
      simp only [rZ, c', Mf, if_false, M.bZ];refine Gen.le (Gen.bind (Gen.draw (by omega) (by omega)) (d:=0) ?_) (LH _);rintro _ ⟨d, rfl, d0, d1⟩;exact Gen.eq (y:=.nx _) rfl ⟨_, rfl, 1 + d, by omega, by omega, rfl⟩
  rintro _ ⟨many, m0, m1, rfl⟩;refine Gen.le (iz (c:=202) (d:=796) (I:=λρ=>∃ (sc : Int) (sp : List PV), 1 <= sc /\ sc <= 33333 /\ 0 < sp.length /\ sp.length <= 5 /\ (∀ y ∈ sp, ∃ a : Str, y = .str a /\ Good a) /\ ρ = [val .bH, val (.int many), val (.int sc), val (.lst sp), un, un, un, un, un, un, un]) ?_ ?_) (by decide)
  · simp only [ij, au, a8, aa, d7, ip, rZ, ao, M.bZ, Hg];refine Gen.le (Gen.bind (Gen.draw (by omega) (by omega)) (d:=201) ?_) (LH _);rintro _ ⟨d, rfl, d0, d1⟩;obtain ⟨y, hy, e⟩:=iT (l:=[PV.int 1, PV.int 7, PV.int 33333]) d0 d1
    obtain ⟨sc, rfl, s0, s1⟩ : ∃ sc : Int, y = .int sc /\ 1 <= sc /\ sc <= 33333:=by
      simp only [LK, LL, or_false] at hy;rcases hy with rfl | rfl | rfl <;> exact ⟨_, rfl, by decide, by decide⟩
    simp only [bJ, e, M.dW, rZ];refine Gen.le (Gen.bind (Gen.draw (by omega) (by omega)) (d:=200) ?_) (LH _);rintro _ ⟨d, rfl, d0, d1⟩;simp only [dq, rZ];refine Gen.le (Gen.bind (rm (k:=1 + d) (by omega) (by omega)) (d:=0) ?_) (LH _);rintro _ ⟨zs, rfl, zl, zg, _⟩;exact Gen.eq (y:=.nx _) rfl ⟨_, rfl, sc, zs.map PV.str, s0, s1, by rw [LA]; omega, by rw [LA]; omega, λy hy=>by obtain ⟨a, ha, rfl⟩:=LM.mp hy; exact ⟨a, rfl, zg a ha⟩, rfl⟩
  rintro _ ⟨sc, sp, s0, s1, p0, p1, spg, rfl⟩;refine Gen.le (iz (c:=0) (d:=796) (I:=λρ=>ρ = [val .bH, val (.int many), val (.int sc), val (.lst sp), Ent.own [], un, un, un, un, un, un]) (AU (by simp [i9, bb]) rfl) ?_) (by decide);rintro _ rfl;refine Gen.le (iz (c:=200 + 60) (d:=536) (I:=λρ=>∃ (ps : List (Str × List PV)) (e5 e6 e7 e8 e9 : Ent), ps ≠ [] /\ ps.length <= 12 /\ (∀ p ∈ ps, d5 p.1 = true) /\ (ps.map (·.1)).Nodup /\ (∀ p ∈ ps, HV p.2) /\ ρ = [val .bH, val (.int many), val (.int sc), val (.lst sp), Ent.own (ps.map λp=>.tup (.str p.1 :: p.2)), e5, e6, e7, e8, e9, un]) ?_ ?_) (by decide)
  · simp only [jw, aa, d7, ip, rZ, M.bZ];refine Gen.bind (rm m0 m1) ?_;rintro _ ⟨zs, rfl, zl, zg, zn⟩;simp only [ba, rZ];refine Gen.mono (Hz (k:=5) (c:=5) (Iv:=λi ρ=>∃ (ps : List (Str × List PV)) (e5 e6 e7 e8 e9 : Ent), ps.map (·.1) = zs.take i /\ (∀ p ∈ ps, HV p.2) /\ ρ = [val .bH, val (.int many), val (.int sc), val (.lst sp), Ent.own (ps.map λp=>.tup (.str p.1 :: p.2)), e5, e6, e7, e8, e9, un]) (zs.map PV.str) ?_ (zs.map PV.str) 0 _ rfl (L1 _) ⟨[], _, _, _, _, _, by simp, λp hp=>by simp at hp, rfl⟩) (by rw [LA]; omega) ?_
    rotate_left
    · rintro f ⟨ρ', rfl, ps, e5, e6, e7, e8, e9, hm, hg, rfl⟩;rw [LA, List.take_length] at hm;have hl : ps.length = zs.length:=by rw [<- hm, LA]
      exact ⟨_, rfl, ps, e5, e6, e7, e8, e9, λh=>by subst h; simp at hl; omega, by omega, λp hp=>(zg p.1 (by rw [<- hm]; exact LM.mpr ⟨p, hp, rfl⟩)).ok, by rw [hm]; exact zn, hg, rfl⟩
    · rintro j y hy _ ⟨ps, e5, e6, e7, e8, e9, hm, hg, rfl⟩;rw [LU] at hy;obtain ⟨z, hz, rfl⟩:=LY.mp hy;have hj : j < zs.length:=(LG.mp hz).1;have hl : ps.length = j:=by rw [<- LA (as:=ps) (f:=(·.1)), hm, List.length_take]; omega
      show Gen (aG _ _ [val .bH, val (.int many), val (.int sc), val (.lst sp), Ent.own (ps.map λp=>.tup (.str p.1 :: p.2)), val (.str z), e6, e7, e8, e9, un]) 5 _;refine Gen.le (rj (c:=3) (d:=2) (I:=λρ=>∃ (kd : Int) (a b : PV), 0 <= kd /\ kd < 4 /\ a ∈ sp /\ b ∈ sp /\ ρ = [val .bH, val (.int many), val (.int sc), val (.lst sp), Ent.own (ps.map λp=>.tup (.str p.1 :: p.2)), val (.str z), val (.int kd), val a, val b, e9, un]) ?_ ?_) (by decide)
      · simp only [eT, aa, d7, ip, rZ, ao, M.bZ];refine Gen.le (Gen.bind (Gen.draw (by omega) (by omega)) (d:=2) ?_) (LH _);rintro _ ⟨d, rfl, d0, d1⟩;refine Gen.le (Gen.bind (jF p0 (by omega)) (d:=1) ?_) (LH _);intro a ha;refine Gen.le (Gen.bind (jF p0 (by omega)) (d:=0) ?_) (LH _);intro b hb;exact Gen.eq (y:=.nx _) rfl ⟨_, rfl, d, a, b, d0, d1, ha, hb, rfl⟩
      rintro _ ⟨kd, a, b, kd0, kd1, ha, hb, rfl⟩;obtain ⟨a, rfl, hag⟩:=spg a ha;obtain ⟨b, rfl, hbg⟩:=spg b hb;refine Gen.le (rj (c:=2) (d:=0) (I:=λρ=>∃ (p q : Int), 0 <= p /\ p <= 1000000 /\ 0 <= q /\ q <= 1000000 /\ ρ = [val .bH, val (.int many), val (.int sc), val (.lst sp), Ent.own (ps.map λp=>.tup (.str p.1 :: p.2)), val (.str z), val (.int kd), val (.str a), val (.str b), val (.tup [.int p, .int q]), un]) ?_ ?_) (by decide)
      · simp only [bF, aa, d7, ip, rZ, M.bZ];refine Gen.le (Gen.bind (wq s0 s1) (d:=1) ?_) (LH _);rintro _ ⟨p, rfl, hp0, hp1⟩;refine Gen.le (Gen.bind (wq s0 s1) (d:=0) ?_) (LH _);rintro _ ⟨q, rfl, KW, hq1⟩;exact Gen.eq (y:=.nx _) (by rw [He]; rfl) ⟨_, rfl, p, q, hp0, hp1, KW, hq1, rfl⟩
      rintro _ ⟨p, q, hp0, hp1, KW, hq1, rfl⟩;obtain ⟨ki, hki, ek⟩:=iT (l:=[PV.str "slope", PV.str "lift", PV.str "path", PV.str "slope"]) kd0 kd1
      obtain ⟨kn, rfl, hkn⟩ : ∃ kn : Str, ki = .str kn /\ (kn = "slope" \/ kn = "lift" \/ kn = "path"):=by
        simp only [LK, LL, or_false] at hki;rcases hki with rfl | rfl | rfl | rfl
        · exact ⟨_, rfl, .inl rfl⟩
        · exact ⟨_, rfl, .inr (.inl rfl)⟩
        · exact ⟨_, rfl, .inr (.inr rfl)⟩
        · exact ⟨_, rfl, .inl rfl⟩
      refine Gen.eq (y:=.nx [val .bH, val (.int many), val (.int sc), val (.lst sp), Ent.own ((ps ++ [(z, [PV.str kn, PV.str a, PV.str b, PV.int p, PV.int q])]).map λp=>.tup (.str p.1 :: p.2)), val (.str z), val (.int kd), val (.str a), val (.str b), val (.tup [.int p, .int q]), un]) ?_ ⟨_, rfl, ps ++ [(z, [PV.str kn, PV.str a, PV.str b, PV.int p, PV.int q])], _, _, _, _, _, ?_, λr hr=>?_, rfl⟩
      · simp [sD, au, aa, a8, d7, ip, bb, bE, bJ, ek, M.dW, dq, hl, (by omega : j < 100000)]
      · rw [Mq, hm, List.take_succ, hz];rfl
      · rcases Mj.mp hr with h | h
        · exact hg r h
        · rw [L3.mp h];exact ⟨kn, a, b, p, q, rfl, hag.2.1, hbg.2.1, hkn, hp0, hp1, KW, hq1, hag.ok, hbg.ok⟩
  rintro _ ⟨ps, e5, e6, e7, e8, e9, jx, hl, hg, hnd, hwr, rfl⟩;refine Gen.le (iz (c:=3) (d:=1) (I:=λρ=>∃ (aB : Int), 1 <= aB /\ aB <= 1000000 /\ ρ = [val .bH, val (.int many), val (.int sc), val (.lst sp), Ent.own (ps.map λp=>.tup (.str p.1 :: p.2)), e5, e6, e7, e8, e9, val (.int aB)]) ?_ ?_) (by decide)
  · simp only [bF, au, a8, aa, d7, ip, rZ, ao, M.bZ];refine Gen.le (Gen.bind (Gen.draw (by omega) (by omega)) (d:=2) ?_) (LH _);rintro _ ⟨d, rfl, d0, d1⟩;simp only [dq, rZ, CT (by omega : -1000000000000 < sc) (by omega : sc < 1000000000000)];refine Gen.le (Gen.bind (Gen.draw (by omega) (by omega)) (d:=1) ?_) (LH _);rintro _ ⟨f, rfl, f0, f1⟩;simp only [dq, rZ, CT (by omega : -1000000000000 < sc) (by omega : sc < 1000000000000), wa];refine Gen.le (Gen.bind (Gen.draw (by omega) (by omega)) (d:=0) ?_) (LH _);rintro _ ⟨g, rfl, g0, g1⟩;obtain ⟨y, hy, e⟩:=iT (l:=[PV.int 1000000, PV.int 1, PV.int (sc * (1 + d)), PV.int (sc * (5 + f))]) g0 g1
    obtain ⟨aB, rfl, k0, k1⟩ : ∃ aB : Int, y = .int aB /\ 1 <= aB /\ aB <= 1000000:=by
      have a1 : 1 <= sc * (1 + d):=Int.le_trans (by omega : (1 : Int) <= 1 * (1 + d)) (Int.mul_le_mul_of_nonneg_right s0 (by omega));have a2 : sc * (1 + d) <= 1000000:=Int.le_trans (Int.mul_le_mul s1 (by omega : 1 + d <= 30) (by omega) (by omega)) (by decide);have a3 : 1 <= sc * (5 + f):=Int.le_trans (by omega : (1 : Int) <= 1 * (5 + f)) (Int.mul_le_mul_of_nonneg_right s0 (by omega));have a4 : sc * (5 + f) <= 1000000:=Int.le_trans (Int.mul_le_mul s1 (by omega : 5 + f <= 14) (by omega) (by omega)) (by decide);simp only [LK, LL, or_false] at hy;rcases hy with rfl | rfl | rfl | rfl
      · exact ⟨_, rfl, by decide, by decide⟩
      · exact ⟨_, rfl, by decide, by decide⟩
      · exact ⟨_, rfl, a1, a2⟩
      · exact ⟨_, rfl, a3, a4⟩
    exact Gen.eq (y:=.nx _) (by simp only [bJ, e, M.dW, rZ]; rfl) ⟨_, rfl, aB, k0, k1, rfl⟩
  rintro _ ⟨aB, k0, k1, rfl⟩;simp only [aP, List.map, Ent.freeze, aa, d7, ip, rZ, M.bZ, oG];refine Gen.le (Gen.bind (jF p0 (by omega)) (d:=0) ?_) (LH _);intro home hhome;obtain ⟨hm, rfl, hhg⟩:=spg home hhome;refine Gen.eq (y:=.tup [.tup (ps.map λp=>.tup (.str p.1 :: p.2)), .str hm, .int aB]) (by simp only [rZ, Hd]; rfl) ⟨ps, aB, ⟨.str hm, rfl, jx, by omega, hg, k0, k1⟩, hnd, hwr, hl, hm, rfl, hhg.2.1, hhg.ok⟩
def wo {h : PV} {ps : List (Str × List PV)} {aB : Int} (H : jW h ps aB) : bJ h (.int 0) = .ret (.tup (ps.map λp=>.tup (.str p.1 :: p.2))) /\ bJ h (.int 2) = .ret (.int aB):=by
  obtain ⟨home, rfl, _⟩:=H;exact ⟨rfl, rfl⟩
def Gf {a b : Int} (h0 : 0 < b) (h1 : b < 1000) : rA (.int a) (.int b) = .ret (.int (a / b)):=by
  unfold rA sh;dsimp only;rw [Mk (show Bi a b from ⟨h0, by omega⟩)]
def rl {h : PV} {ps : List (Str × List PV)} {aB : Int} (H : jW h ps aB) : Gen (cE [.bH, h]) 2 (λy=>∃ i : Int, y = .int i /\ 0 <= i /\ i <= aB):=by
  obtain ⟨_, h2⟩:=wo H;obtain ⟨_, _, _, _, _, k0, k1⟩:=H;unfold cE fw;show Gen ((aP _ [val .bH, val h]).bind bR) 2 _;have e1 : dq (.int aB) (.int 1) = .ret (.int (aB + 1)):=rfl;have e2 : rA (.int aB) (.int 2) = .ret (.int (aB / 2)):=Gf (by omega) (by omega);simp only [aP, List.map, Ent.freeze, au, a8, aa, d7, ip, rZ, h2, e1, e2, ao, M.bZ];refine Gen.le (Gen.bind (Gen.draw (by omega) (by omega)) (d:=1) ?_) (LH _);rintro _ ⟨d, rfl, d0, d1⟩;simp only [rZ, wa];refine Gen.le (Gen.bind (Gen.draw (by omega) (by omega)) (d:=0) ?_) (LH _);rintro _ ⟨g, rfl, g0, g1⟩;obtain ⟨y, hy, e⟩:=iT (l:=[PV.int 0, PV.int aB, PV.int d, PV.int (aB / 2)]) g0 g1
  obtain ⟨i, rfl, i0, i1⟩ : ∃ i : Int, y = .int i /\ 0 <= i /\ i <= aB:=by
    simp only [LK, LL, or_false] at hy;rcases hy with rfl | rfl | rfl | rfl <;> exact ⟨_, rfl, by omega, by omega⟩
  exact Gen.eq (y:=.int i) (by simp only [bJ, e, M.dW, rZ]; rfl) ⟨i, rfl, i0, i1⟩
def Du (i : Int) : sE (.int i):=⟨λh=>(by cases h), λx h=>(by cases h)⟩
def Dt (x : Str) (h : x.length <= 100000) : sE (.str x):=⟨λh=>(by cases h), λy e=>(by cases e; exact h)⟩
def um (y : PV) : Prop:=y = .str "wind" \/ y = .str "snow" \/ y = .str "a" \/ y = .str "zzzzzzzz"
inductive mJ (ps : List (Str × List PV)) : PV -> Prop
  | Gb (a b : Int) : 0 <= a -> a < b -> b <= 1000001 -> mJ ps (.tup [.str "hours", .int a, .int b])
  | least (y : PV) (n : Int) : um y -> -(10 ^ 60) < n -> n < 10 ^ 60 -> mJ ps (.tup [.str "least", y, .int n])
  | most (y : PV) (n : Int) : um y -> -(10 ^ 60) < n -> n < 10 ^ 60 -> mJ ps (.tup [.str "most", y, .int n])
  | looked (n : Int) : 1 <= n -> n <= 1000000 -> mJ ps (.tup [.str "looked", .int n])
  | Fx (p : Str × List PV) : p ∈ ps -> mJ ps (.tup [.str "with", .str p.1])
  | never : mJ ps (.tup [.str "never"])
def Dk {h : PV} {ps : List (Str × List PV)} {aB : Int} (H : jW h ps aB) : Gen (gf [.bH, h]) 10 (mJ ps):=by
  obtain ⟨h0, h2⟩:=wo H;have H':=H;obtain ⟨_, _, jx, tm, hpo, k0, k1⟩:=H';unfold gf iL;show Gen ((aG _ _ [val .bH, val h, un, un, un]).bind bR) 10 _;refine Gen.le (iz (c:=2) (d:=8) (I:=λρ=>∃ w n : Int, 0 <= w /\ w < 8 /\ -(10 ^ 60) < n /\ n < 10 ^ 60 /\ ρ = [val .bH, val h, val (.int w), val (.int n), un]) ?_ ?_) (by decide)
  · simp only [ij, au, aa, d7, ip, rZ, ao, M.bZ];refine Gen.le (Gen.bind (Gen.draw (by omega) (by omega)) (d:=1) ?_) (LH _);rintro _ ⟨w, rfl, w0, w1⟩;refine Gen.le (Gen.bind (Gen.draw (by omega) (by omega)) (d:=0) ?_) (LH _);rintro _ ⟨n, rfl, n0, n1⟩;exact Gen.eq (y:=.nx _) rfl ⟨_, rfl, w, n - 3, w0, w1, by omega, by omega, rfl⟩
  rintro _ ⟨w, n, w0, w1, n0, n1, rfl⟩;refine Gen.le (iz (c:=2) (d:=6) (I:=λρ=>∃ n : Int, -(10 ^ 60) < n /\ n < 10 ^ 60 /\ ρ = [val .bH, val h, val (.int w), val (.int n), un]) ?_ ?_) (by decide)
  · simp only [gB, bD, au, aa, d7, ip, rZ, ao, M.bZ];refine Gen.le (Gen.bind (Gen.draw (by omega) (by omega)) (d:=1) ?_) (LH _);rintro _ ⟨d, rfl, d0, d1⟩;rw [Gi];by_cases c : d = 0
    · subst c
      have ep : vL (.int 10) (.int 60) = .ret (.int (10 ^ 60)):=by
        unfold vL sh;dsimp only;rw [Mk (by decide +kernel)];rfl
      have es : eU (.int (10 ^ 60)) (.int 1) = .ret (.int (10 ^ 60 - 1)):=rfl;have el : bb [.int 1, .int (-1)] = .ret [.int 1, .int (-1)]:=by simp [bb]
      simp only [rZ, Mv, if_true, bF, au, a8, aa, d7, ip, uJ, ep, es, el, M.bZ];refine Gen.le (Gen.bind (Gen.draw (by omega) (by omega)) (d:=0) ?_) (LH _);rintro _ ⟨g, rfl, g0, g1⟩;obtain ⟨y, hy, e⟩:=iT (l:=[PV.int 1, PV.int (-1)]) g0 g1
      obtain ⟨i, rfl, i0, i1⟩ : ∃ i : Int, y = .int i /\ -2 < i /\ i < 2:=by
        simp only [LK, LL, or_false] at hy;rcases hy with rfl | rfl <;> exact ⟨_, rfl, by decide, by decide⟩
      have em : mY (.int (10 ^ 60 - 1)) (.int i) = .ret (.int ((10 ^ 60 - 1) * i)):=by
        have e64 : (2 : Int) ^ 64 = 18446744073709551616:=by decide
        unfold mY xX;dsimp only;rw [Mk (show qa _ i from Or.inr ⟨by omega, by omega⟩)]
      exact Gen.eq (y:=.nx _) (by simp only [bJ, e, M.dW, rZ, em]; rfl) ⟨_, rfl, _, by omega, by omega, rfl⟩
    · have c' : (d == 0) = false:=by simpa using c
      refine Gen.le (Gen.eq (y:=.nx _) (by simp only [rZ, c', Mf, if_false]) ⟨_, rfl, n, n0, n1, rfl⟩) (by decide)
  rintro _ ⟨n, n0, n1, rfl⟩;have hw0 : bD (au (f6 false) (λρ=>ah ρ 2) (λ_=>M.ret (.int 0))) [val .bH, val h, val (.int w), val (.int n), un] = .ret (w == 0):=by simp [bD, au, ah, Gi]
  have hw4 : bD (au (f6 false) (λρ=>ah ρ 2) (λ_=>M.ret (.int 4))) [val .bH, val h, val (.int w), val (.int n), un] = .ret (w == 4):=by simp [bD, au, ah, Gi]
  have hl4 : bD (au mx (λρ=>ah ρ 2) (λ_=>M.ret (.int 4))) [val .bH, val h, val (.int w), val (.int n), un] = .ret (decide (w < 4)):=by simp [bD, au, ah, mx, gS]
  have hl7 : bD (au mx (λρ=>ah ρ 2) (λ_=>M.ret (.int 7))) [val .bH, val h, val (.int w), val (.int n), un] = .ret (decide (w < 7)):=by simp [bD, au, ah, mx, gS]
  by_cases c0 : w = 0
  · subst c0;unfold aG;rw [ik hw0];show Gen ((M.bind (aG _ _ [val .bH, val h, val (.int 0), val (.int n), un]) _).bind bR) 6 _;unfold aG;simp only [bF, aa, d7, ip, rZ, M.bZ];refine Gen.le (Gen.bind (rl H) (d:=2) ?_) (by decide);rintro _ ⟨a, rfl, a0, a1⟩;simp only [rZ, List.set_cons_succ, LI, aP, List.map, Ent.freeze, aa, au, a8, d7, ip, dq, eU, ao, M.bZ];refine Gen.le (Gen.bind (Gen.draw (by omega) (by omega)) (d:=1) ?_) (by decide);rintro _ ⟨b, rfl, b0, b1⟩;simp only [rZ, dq, Hg];refine Gen.le (Gen.bind (jF (by simp) (by simp)) (d:=0) ?_) (by decide);intro y hy;simp only [LK, LL, or_false] at hy
    obtain ⟨e, rfl, e0, e1⟩ : ∃ e : Int, y = .int e /\ a < e /\ e <= 1000001:=by
      rcases hy with rfl | rfl | rfl <;> exact ⟨_, rfl, by omega, by omega⟩
    exact Gen.eq (y:=.tup [.str "hours", .int a, .int e]) (by simp only [rZ, Hd]; rfl) (.Gb a e a0 e0 e1)
  · have c0' : (w == 0) = false:=by simpa using c0
    refine Gen.le (iz (c:=0) (d:=6) (I:=λρ=>ρ = [val .bH, val h, val (.int w), val (.int n), un]) (AU (gV (by rw [hw0, c0'])) rfl) ?_) (by decide);rintro _ rfl;by_cases c4 : w < 4
    · unfold aG;rw [ik (by rw [hl4, Mp c4])];obtain ⟨v, hv, ev⟩:=iT (l:=[PV.str "least", PV.str "most", PV.str "least"]) (d:=w - 1) (by omega) (by simp; omega)
      obtain ⟨wd, rfl, hwd⟩ : ∃ wd : Str, v = .str wd /\ (wd = "least" \/ wd = "most"):=by
        simp only [LK, LL, or_false] at hv;rcases hv with rfl | rfl | rfl
        · exact ⟨_, rfl, .inl rfl⟩
        · exact ⟨_, rfl, .inr rfl⟩
        · exact ⟨_, rfl, .inl rfl⟩
      simp only [aP, List.map, Ent.freeze, aa, au, a8, d7, ip, rZ, Hg, wa, eU, bJ, ev, M.dW, M.bZ];refine Gen.le (Gen.bind (jF (by simp) (by simp)) (d:=0) ?_) (by decide);intro y hy;simp only [LK, LL, or_false] at hy;refine Gen.eq (y:=.tup [.str wd, y, .int n]) (by simp only [rZ, Hd]; rfl) ?_;rcases hwd with rfl | rfl
      · exact .least y n hy n0 n1
      · exact .most y n hy n0 n1
    · refine Gen.le (iz (c:=0) (d:=6) (I:=λρ=>ρ = [val .bH, val h, val (.int w), val (.int n), un]) (AU (gV (by rw [hl4, LZ c4])) rfl) ?_) (by decide);rintro _ rfl;by_cases c5 : w = 4
      · subst c5;unfold aG;rw [ik hw4];have ef : rA (.int aB) (.int 3) = .ret (.int (aB / 3)):=Gf (by omega) (by omega);simp only [aP, List.map, Ent.freeze, aa, au, a8, d7, ip, rZ, ao, M.bZ];refine Gen.le (Gen.bind (Gen.draw (by omega) (by omega)) (d:=1) ?_) (by decide);rintro _ ⟨b, rfl, b0, b1⟩;simp only [rZ, dq, h2, ef, wa];refine Gen.le (Gen.bind (jF (by simp) (by simp)) (d:=0) ?_) (by decide);intro y hy;simp only [LK, LL, or_false] at hy
        obtain ⟨e, rfl, e0, e1⟩ : ∃ e : Int, y = .int e /\ 1 <= e /\ e <= 1000000:=by
          rcases hy with rfl | rfl | rfl | rfl <;> exact ⟨_, rfl, by omega, by omega⟩
        exact Gen.eq (y:=.tup [.str "looked", .int e]) (by simp only [rZ, He]; rfl) (.looked e e0 e1)
      · have c5' : (w == 4) = false:=by simpa using c5
        refine Gen.le (iz (c:=0) (d:=6) (I:=λρ=>ρ = [val .bH, val h, val (.int w), val (.int n), un]) (AU (gV (by rw [hw4, c5'])) rfl) ?_) (by decide);rintro _ rfl;unfold aP;simp only [List.map, Ent.freeze];by_cases c7 : w < 7
        · rw [tf (by rw [hl7, Mp c7])];simp only [aa, au, d7, ip, rZ, h0, M.bZ]
          have hany : Gen (aO [.bH, .tup (ps.map λp=>.tup (.str p.1 :: p.2))]) 1 (λy=>∃ p ∈ ps, y = .tup (.str p.1 :: p.2)):=by
            unfold aO bV;have hlen : eV [.tup (ps.map λp=>PV.tup (.str p.1 :: p.2))] = .ret (.int ps.length):=by simp [eV]
            show Gen ((aP _ [val .bH, val (.tup (ps.map λp=>.tup (.str p.1 :: p.2)))]).bind bR) 1 _;simp only [aP, List.map, Ent.freeze, aa, au, d7, ip, rZ, ao, M.bZ];simp only [hlen, rZ];have hpos : 0 < ps.length:=List.length_pos_iff.mpr jx;refine Gen.le (Gen.bind (Gen.draw (by omega) (by omega)) (d:=0) ?_) (by decide);rintro _ ⟨d, rfl, d0, d1⟩;obtain ⟨y, hy, e⟩:=iT (l:=ps.map λp=>PV.tup (.str p.1 :: p.2)) d0 (by rw [LA]; exact d1);obtain ⟨p, hp, rfl⟩:=LM.mp hy;exact Gen.eq (y:=.tup (.str p.1 :: p.2)) (by simp only [bJ, e, M.dW, rZ]; rfl) ⟨p, hp, rfl⟩
          refine Gen.le (Gen.bind hany (d:=0) ?_) (by decide);rintro _ ⟨p, hp, rfl⟩;exact Gen.eq (y:=.tup [.str "with", .str p.1]) (by simp only [bJ, zS, M.dW, rZ, He]; rfl) (.Fx p hp)
        · rw [tj (by rw [hl7, LZ c7])];exact Gen.le (Gen.eq (y:=.tup [.str "never"]) (by simp only [aa, rZ, Hf]; rfl) .never) (by decide)
theorem sR (x : Str) (h : PV) : ∀ (ps : List (Str × List PV)) (e : Ent), ∃ e', jG (aX 2) (gB (bD (au (f6 false) (au bJ (λρ=>ah ρ 2) (λ_=>M.ret (.int 0))) (λρ=>ah ρ 1)))
    (aP (λρ=>ah ρ 2))
    (λρ=>M.ret (.nx ρ))) (ps.map λp=>.tup (.str p.1 :: p.2)) [.val h, .val (.str x), e] = .ret (match ps.find? (λp=>p.1 == x) with | some p=>.rt (.tup (.str p.1 :: p.2)) | none=>.nx [.val h, .val (.str x), e'])
  | [], e=>⟨e, rfl⟩
  | p :: ps, e=>by
    obtain ⟨e', hf⟩:=sR x h ps (.val (.tup (.str p.1 :: p.2)));refine ⟨e', ?_⟩;rw [LJ, jG, List.find?_cons]
    cases c : p.1 == x with
    | true=>simp [aX, gB, bD, au, ah, aP, Ent.freeze, bJ, zS, M.dW, yi, c]
    | false=>
      have hf':=hf;simp [aX, gB, bD, au, ah, aP, Ent.freeze, bJ, zS, M.dW, yi, c] at hf' ⊢;exact hf'
def CP {h : PV} {ps : List (Str × List PV)} {aB : Int} (H : jW h ps aB) (x : Str) : cm [h, .str x] = .ret (match ps.find? (λp=>p.1 == x) with | some p=>.tup (.str p.1 :: p.2) | none=>.cB):=by
  obtain ⟨home, rfl, _⟩:=H;obtain ⟨e', hf⟩:=sR x (.tup [.tup (ps.map λp=>.tup (.str p.1 :: p.2)), home, .int aB]) ps .un;have i0 : bJ (.tup [.tup (ps.map λp=>.tup (.str p.1 :: p.2)), home, .int aB]) (.int 0) = .ret (.tup (ps.map λp=>.tup (.str p.1 :: p.2))):=rfl;unfold cm fo;show (aG _ _ [val (.tup [.tup (ps.map λp=>.tup (.str p.1 :: p.2)), home, .int aB]), val (.str x), un]).bind bR = _;unfold aG jw;simp only [au, d7, rZ, i0, ba];rw [hf];cases ps.find? (λp=>p.1 == x) <;> rfl
noncomputable def wm : List PV -> Bool
  | .str k :: _=>k == "slope"
  | _=>false
def vq (ps : List (Str × List PV)) : PV -> Bool
  | .str x=>ps.any λp=>wm p.2 && p.1 == x
  | _=>false
theorem yM {x : Str} : ∀ {ps : List (Str × List PV)}, x ∉ ps.map (·.1) -> (ps.any λp=>wm p.2 && p.1 == x) = false
  | [], _=>rfl
  | p :: ps, h=>by
    rw [LJ, LK, not_or] at h;rw [List.any_cons, yM h.2]
    have : (p.1 == x) = false:=by
      cases c : p.1 == x with
      | false=>rfl
      | true=>exact absurd (eq_of_beq c).symm h.1
    rw [this]; simp
theorem yN {x : Str} : ∀ {ps : List (Str × List PV)}, (ps.map (·.1)).Nodup -> vq ps (.str x) = (match ps.find? (λp=>p.1 == x) with | some p=>wm p.2 | none=>false)
  | [], _=>rfl
  | p :: ps, h=>by
    rw [LJ, List.nodup_cons] at h;have ih:=yN (x:=x) h.2;rw [List.find?_cons];unfold vq at ih ⊢;dsimp only at ih ⊢;rw [List.any_cons]
    cases c : p.1 == x with
    | true=>
      rw [yM (eq_of_beq c ▸ h.1)]
      simp
    | false=>simp only [Bool.and_false, Bool.false_or]; exact ih
theorem zi {x : Str} : ∀ (ps : List (Str × List PV)), j0 ps (.str x) = (ps.find? (λp=>p.1 == x)).isSome
  | []=>rfl
  | p :: ps=>by
    rw [List.find?_cons];have ih:=zi (x:=x) ps;unfold j0 at ih ⊢;dsimp only at ih ⊢;rw [List.any_cons]
    cases c : p.1 == x with
    | true=>rfl
    | false=>simpa using ih
def B5 {h a : PV} {ps : List (Str × List PV)} {aB : Int} (U : lu h ps aB) (ha : sE a) : cI [h, a] = .ret (.bl (vq ps a)):=by
  have h1:=mK U.1 ha;unfold cI ei;show (aP _ [val h, val a]).bind bR = _
  cases a with
  | bH=>exact absurd rfl ha.1
  | str x=>
    have h2:=CP U.1 x;have e:=zi (x:=x) ps;rw [yN U.2.1]
    cases c : ps.find? (λp=>p.1 == x) with
    | none=>
      rw [c] at e;refine fQ (bK ((v_and (x:=false) (y:=false) ?_ λh=>by cases h).trans rfl))
      simp only [List.map, Ent.freeze, aa, d7, ip, rZ, h1, e]; rfl
    | some p=>
      rw [c] at e h2;obtain ⟨k, a, b, i, j, hr, _⟩:=U.2.2.1 p (List.mem_of_find?_eq_some c);refine fQ (bK ((v_and (x:=true) (y:=wm p.2) ?_ λ_=>?_).trans rfl))
      · simp only [List.map, Ent.freeze, aa, d7, ip, rZ, h1, e]; rfl
      · have e1 : jY (PV.str p.1 :: p.2) 1 = some (.str k):=by rw [hr]; rfl
        simp only [List.map, Ent.freeze, au, aa, d7, ip, rZ, h2, bJ, e1, M.dW, yi]
        rw [hr]; rfl
  | _=>
    refine fQ (bK ((v_and (x:=false) (y:=false) ?_ λh=>by cases h).trans rfl));simp only [List.map, Ent.freeze, aa, d7, ip, rZ, h1, j0]
def dv (ps : List (Str × List PV)) : List Str:=(ps.filter λp=>wm p.2).map (·.1)
def Ad {h : PV} {ps : List (Str × List PV)} {aB : Int} (U : lu h ps aB) : eC [h] = .ret (.lst ((dv ps).map PV.str)):=by
  obtain ⟨h0, _⟩:=wo U.1;have hlen:=U.2.2.2.1;unfold eC gs;show (aP _ [val h]).bind bR = _;refine fQ (bK ?_)
  have q:=qX (k:=0) (tt:=bD (au (f6 false) (au bJ (λρ=>ah ρ 0) (λ_=>M.ret (.int 1))) (λ_=>M.ret (.str "slope")))) (te:=au bJ (λρ=>ah ρ 0) (λ_=>M.ret (.int 0))) (p:=λy=>match y with | .tup (_ :: r)=>wm r | _=>false) (f:=λy=>match y with | .tup (a :: _)=>a | _=>.cB) (ρ:=[un]) (ps.map λp=>PV.tup (.str p.1 :: p.2)) [un] (λ_=>rfl) (λy hy=>by
    obtain ⟨p, hp, rfl⟩:=LM.mp hy;obtain ⟨k, a, b, i, j, hr, _⟩:=U.2.2.1 p hp;have e1 : jY (PV.str p.1 :: p.2) 1 = some (.str k):=by rw [hr]; rfl
    simp only [bD, au, ah, LI, LP, rZ, bJ, e1, M.dW, yi]
    rw [hr]; rfl) (λy hy _=>by
    obtain ⟨p, hp, rfl⟩:=LM.mp hy
    simp only [au, ah, LI, LP, rZ, bJ, zS, M.dW])
  have hl : (ps.map λp=>PV.tup (.str p.1 :: p.2)).length <= 100000:=by rw [LA]; omega
  simp only [a8, cC, au, List.map, Ent.freeze, d7, rZ, h0, ba, Mk hl];have ec : f7 [none] [val h] = [un]:=rfl;rw [ec, q];simp only [rZ, dv, List.filter_map, Ms];rfl
def J9 (y : PV) : Prop:=sE y /\ p3 y /\ ve y
def rP (y : PV) : Prop:=y ≠ .bH /\ ∀ l, y = .tup l -> ∀ z ∈ l, J9 z
def rP.t {y : PV} (h : rP y) : p3 y:=⟨h.1, λl e z hz=>(h.2 l e z hz).1⟩
def IG (ps : List (Str × List PV)) (c : PV) : List PV -> Bool
  | [v]=>j0 ps c && iW ps v
  | _=>false
def vR (ps : List (Str × List PV)) (w : Str) (c : PV) (r : List PV) : Bool:=
  if (w == "read") = true then (match r with | [v]=>isName c && isNum v | _=>false)
  else if (w == "look") = true then (match r with | []=>vq ps c | _=>false)
  else if (w == "rule") = true then IG ps c r
  else false
def iH (ps : List (Str × List PV)) (aB : Int) : PV -> Bool
  | .tup (.str w :: a :: b :: c :: r)=>lx 0 999999 a && lx 0 aB b && vR ps w c r
  | _=>false
def K7 (a b : PV) (r : List PV) : jY (a :: b :: r) 1 = some b:=lg (j:=1) rfl
def at2 (a b c : PV) (r : List PV) : jY (a :: b :: c :: r) 2 = some c:=lg (j:=2) rfl
def Kj (a b c d : PV) (r : List PV) : jY (a :: b :: c :: d :: r) 3 = some d:=lg (j:=3) rfl
def JU (a b c d e : PV) (r : List PV) : jY (a :: b :: c :: d :: e :: r) 4 = some e:=lg (j:=4) rfl
def lN {a : ak -> M Bool} {ρ : ak} {x : Bool} (ha : a ρ = .ret x) : cQ a ρ = .ret (!x):=by unfold cQ; rw [ha]; rfl
def zb {h y : PV} {ps : List (Str × List PV)} {aB : Int} (U : lu h ps aB) (hy : rP y) : dO [h, y] = .ret (.bl (iH ps aB y)):=by
  obtain ⟨_, hd⟩:=wo U.1;have hb:=tO hy.t;unfold dO iP;show (aG _ _ [val h, val y, un]).bind bR = _;by_cases hs : ∃ w r, y = .tup (.str w :: r)
  · obtain ⟨w, r, rfl⟩:=hs;have hf:=hy.2 _ rfl;have b1 : cQ (bD (λρ=>((aa (λρ=>ah ρ 1) (λ_=>M.ret [])) ρ).bind a9)) [val h, val (.tup (.str w :: r)), un] = .ret false:=by simp [cQ, bD, aa, ah, hb, j4]
    have b2 : bD (au mx (λρ=>((aa (λρ=>ah ρ 1) (λ_=>M.ret [])) ρ).bind eV) (λ_=>M.ret (.int 4))) [val h, val (.tup (.str w :: r)), un] = .ret (decide (((PV.str w :: r).length : Int) < 4)):=by simp [bD, au, aa, ah, eV, mx, gS]
    match r, hf, b1, b2 with
    | [], _, b1, b2=>exact dP ((ik ((o8 b1 b2).trans rfl)).trans (bK rfl))
    | [a], _, b1, b2=>exact dP ((ik ((o8 b1 b2).trans rfl)).trans (bK rfl))
    | [a, b], _, b1, b2=>exact dP ((ik ((o8 b1 b2).trans rfl)).trans (bK rfl))
    | a :: b :: c :: r, hf, b1, b2=>
      have b2':=b2.trans (show _ = M.ret false by rw [LZ (by simp only [LN]; omega)]);refine cy (ρ':=[val h, val (.tup (.str w :: a :: b :: c :: r)), un]) (gV ((o8 b1 b2').trans rfl)) ?_;have fa:=(hf a (by simp)).1;have fb:=(hf b (by simp)).1;have fc:=(hf c (by simp)).1;have w1:=kA (lo:=0) (hi:=999999) fa.1;have w2:=kA (lo:=0) (hi:=aB) fb.1;have t1:=lN (ρ:=[val h, val (.tup (.str w :: a :: b :: c :: r)), un]) (a:=bD (λρ=>((aa (au bJ (λρ=>ah ρ 1) (λ_=>M.ret (.int 1))) (aa (λ_=>M.ret (.int 0)) (aa (λ_=>M.ret (.int 999999)) (λ_=>M.ret [])))) ρ).bind bf)) (x:=lx 0 999999 a) (by simp [bD, aa, au, ah, bJ, K7, M.dW, w1])
      have t2:=lN (ρ:=[val h, val (.tup (.str w :: a :: b :: c :: r)), un]) (a:=bD (λρ=>((aa (au bJ (λρ=>ah ρ 1) (λ_=>M.ret (.int 2))) (aa (λ_=>M.ret (.int 0)) (aa (au bJ (λρ=>ah ρ 0) (λ_=>M.ret (.int 2))) (λ_=>M.ret [])))) ρ).bind bf)) (x:=lx 0 aB b) (by
        have e2 : bJ (.tup (.str w :: a :: b :: c :: r)) (.int 2) = .ret b:=by simp [bJ, at2, M.dW]
        simp [bD, aa, au, ah, hd, e2, w2])
      have t:=o8 t1 t2;show _ = M.ret (PV.bl (lx 0 999999 a && lx 0 aB b && vR ps w c r))
      cases g : (lx 0 999999 a && lx 0 aB b) with
      | false=>
        refine dP ((ik (t.trans ?_)).trans (bK rfl))
        rw [<- Bool.not_and, g]; rfl
      | true=>
        refine cy (ρ':=[val h, val (.tup (.str w :: a :: b :: c :: r)), un]) (gV (t.trans (by rw [<- Bool.not_and, g]; rfl))) ?_;refine cy (ρ':=[val h, val (.tup (.str w :: a :: b :: c :: r)), val (.str w)]) (by simp [bF, au, bJ, ah, zS, M.dW]) ?_;rw [Bool.true_and];unfold vR
        cases c1 : w == "read" with
        | true=>
          refine dP ((ik ((mC rfl).trans (by rw [c1]))).trans (bK ?_));rw [Mk rfl]
          match r, hf with
          | [], _=>exact v_and (y:=false) (gb rfl) (λh=>by simp at h)
          | [v], hf=>
            have h1:=uK fc;have h2:=CK (hf v (by simp)).1.1
            exact v_and (y:=isName c && isNum v) (gb rfl) (λ_=>v_and (by simp [aa, au, bJ, ah, Ent.freeze, Kj, M.dW, h1]) (λ_=>by simp [aa, au, bJ, ah, Ent.freeze, JU, M.dW, h2]))
          | v :: u :: r, _=>exact (v_and (y:=false) (gb rfl) (λh=>by simp at h)).trans (by simp [IG])
        | false=>
          refine cy (gV ((mC rfl).trans (by rw [c1]))) ?_;rw [Ml (by simp)]
          cases c2 : w == "look" with
          | true=>
            refine dP ((ik ((mC rfl).trans (by rw [c2]))).trans (bK ?_));rw [Mk rfl]
            match r, hf with
            | [], _=>
              have h1:=B5 U fc
              exact v_and (y:=vq ps c) (gb rfl) (λ_=>by simp [aa, au, bJ, ah, Ent.freeze, Kj, M.dW, h1])
            | v :: r, _=>exact (v_and (y:=false) (gb rfl) (λh=>by simp at h)).trans (by simp [IG])
          | false=>
            refine cy (gV ((mC rfl).trans (by rw [c2]))) ?_;rw [Ml (by simp)]
            cases c3 : w == "rule" with
            | true=>
              refine dP ((ik ((mC rfl).trans (by rw [c3]))).trans (bK ?_));rw [Mk rfl]
              match r, hf with
              | [], _=>exact v_and (y:=false) (gb rfl) (λh=>by simp at h)
              | [v], hf=>
                have h1:=mK U.1 fc;have h2:=B8 U.1 (hf v (by simp)).2.2
                exact v_and (y:=IG ps c [v]) (gb rfl) (λ_=>v_and (y:=iW ps v) (by simp [aa, au, bJ, ah, Ent.freeze, Kj, M.dW, h1]) (λ_=>by simp [aa, au, bJ, ah, Ent.freeze, JU, M.dW, h2]))
              | v :: u :: r, _=>exact (v_and (y:=false) (gb rfl) (λh=>by simp at h)).trans (by simp [IG])
            | false=>
              refine cy (gV ((mC rfl).trans (by rw [c3]))) ?_;rw [Ml (by simp)];exact fQ (bK rfl)
  · have e : j4 y = false:=by
      unfold j4;split
      · exact (hs ⟨_, _, rfl⟩).elim
      · rfl
    rw [e] at hb
    have e2 : iH ps aB y = false:=by
      unfold iH;split
      · exact (hs ⟨_, _, rfl⟩).elim
      · rfl
    rw [e2];exact dP ((ik (by simp [kE, cQ, bD, aa, ah, hb])).trans (bK rfl))
def yE (ps : List (Str × List PV)) (y : PV) : Prop:=∃ l : List PV, y = .tup l /\ l.length <= 6 /\ ∀ z ∈ l, mJ ps z
def AW {h : PV} {ps : List (Str × List PV)} {aB : Int} (H : jW h ps aB) : Gen (fv [.bH, h]) 61 (yE ps):=by
  unfold fv hW;show Gen ((aP _ [val .bH, val h]).bind bR) 61 _;have e8 : ∀ a b c d e f g i : PV, bb [a, b, c, d, e, f, g, i] = .ret [a, b, c, d, e, f, g, i]:=by intros; simp [bb]
  simp only [aP, List.map, Ent.freeze, aa, au, a8, cC, d7, ip, rZ, e8, ao, M.bZ];refine Gen.le (Gen.bind (Gen.draw (by omega) (by omega)) (d:=60) ?_) (by decide);rintro _ ⟨d, rfl, d0, d1⟩;obtain ⟨y, hy, e⟩:=iT (l:=[PV.int 1, PV.int 2, PV.int 0, PV.int 3, PV.int 6, PV.int 1, PV.int 2, PV.int 4]) d0 d1
  obtain ⟨k, rfl, k0, k1⟩ : ∃ k : Int, y = .int k /\ 0 <= k /\ k <= 6:=by
    simp only [LK, LL, or_false] at hy;rcases hy with rfl | rfl | rfl | rfl | rfl | rfl | rfl | rfl <;> exact ⟨_, rfl, by decide, by decide⟩
  have hlen : (eB 0 k.toNat).length = k.toNat:=by simp [eB]
  simp only [bJ, e, M.dW, rZ, j7, Mk (by omega : -1000000 <= k /\ k <= 100000), hlen, Mk (by omega : k.toNat <= 100000)];refine Gen.le (Gen.bind (Gen.lc (ρ:=[un, val PV.bH, val h]) (c:=10) (Pr:=mJ ps) _ _ (λ_=>rfl) (λy hy=>?_)) (d:=0) ?_) (by rw [hlen]; omega)
  · simp only [LI, d7, ip, rZ];exact Dk H
  · rintro zs ⟨z1, z2⟩;exact Gen.eq (y:=.tup zs) (by simp only [rZ, oG]; rfl) ⟨zs, rfl, by rw [z1, hlen]; omega, z2⟩
def JI {m : List PV} (h : ∀ z ∈ m, sE z) : p3 (.tup m):=⟨λe=>(by cases e), λm' e=>(by cases e; exact h)⟩
def wy (l : List PV) : sE (.tup l):=⟨λh=>(by cases h), λx h=>(by cases h)⟩
def Ls {m : List PV} (h : ∀ z ∈ m, p3 z) : ve (.tup m):=⟨λe=>(by cases e), λm' e=>(by cases e; exact h)⟩
inductive pY (ps : List (Str × List PV)) (aB n : Int) : PV -> Prop
  | look (m : Int) (z : Str) : 0 <= m -> m <= aB -> z ∈ dv ps -> pY ps aB n (.tup [.str "look", .int n, .int m, .str z])
  | rule (m : Int) (p : Str × List PV) (r : PV) : 0 <= m -> m <= aB -> p ∈ ps -> yE ps r -> pY ps aB n (.tup [.str "rule", .int n, .int m, .str p.1, r])
  | read (m : Int) (y : PV) (v : Int) : 0 <= m -> m <= aB -> um y -> -(10 ^ 60) < v -> v < 10 ^ 60 -> pY ps aB n (.tup [.str "read", .int n, .int m, y, .int v])
def CI {x : Str} (h : d5 x = true) : x.length <= 8:=by
  unfold d5 at h;rw [Mb] at h;exact (My h.1).2
def Dp {ps : List (Str × List PV)} (jx : ps ≠ []) (hl : ps.length <= 100) : Gen (aO [.bH, .tup (ps.map λp=>.tup (.str p.1 :: p.2))]) 1 (λy=>∃ p ∈ ps, y = .tup (.str p.1 :: p.2)):=by
  unfold aO bV;have hlen : eV [.tup (ps.map λp=>PV.tup (.str p.1 :: p.2))] = .ret (.int ps.length):=by simp [eV]
  show Gen ((aP _ [val .bH, val (.tup (ps.map λp=>.tup (.str p.1 :: p.2)))]).bind bR) 1 _;simp only [aP, List.map, Ent.freeze, aa, au, d7, ip, rZ, ao, M.bZ];simp only [hlen, rZ];have hpos : 0 < ps.length:=List.length_pos_iff.mpr jx;refine Gen.le (Gen.bind (Gen.draw (by omega) (by omega)) (d:=0) ?_) (by decide);rintro _ ⟨d, rfl, d0, d1⟩;obtain ⟨y, hy, e⟩:=iT (l:=ps.map λp=>PV.tup (.str p.1 :: p.2)) d0 (by rw [LA]; exact d1);obtain ⟨p, hp, rfl⟩:=LM.mp hy;exact Gen.eq (y:=.tup (.str p.1 :: p.2)) (by simp only [bJ, e, M.dW, rZ]; rfl) ⟨p, hp, rfl⟩
def KN (a b c d : PV) : bE [a, b, c, d] = .ret (.tup [a, b, c, d]):=by simp [bE]
def Jp (a b c d e : PV) : bE [a, b, c, d, e] = .ret (.tup [a, b, c, d, e]):=by simp [bE]
def Jq : bb [] = .ret []:=by simp [bb]
def KO : bE [] = .ret (.tup []):=by simp [bE]
def Jo (l : List PV) : f6 true (.lst l) (.lst []) = .ret (.bl (!l.isEmpty)):=by cases l <;> rfl
def Dl {h : PV} {ps : List (Str × List PV)} {aB : Int} (U : lu h ps aB) (n : Int) : Gen (gg [.bH, h, .int n]) 70 (pY ps aB n):=by
  have H:=U.1;obtain ⟨h0, h2⟩:=wo H;have hs:=Ad U;obtain ⟨_, _, jx, tm, hpo, k0, k1⟩:=U.1;unfold gg iM;show Gen ((aG _ _ [val .bH, val h, val (.int n), un, un, un, un]).bind bR) 70 _;refine Gen.le (iz (c:=3) (d:=67) (I:=λρ=>∃ w m : Int, 0 <= m /\ m <= aB /\ ρ = [val .bH, val h, val (.int n), val (.int w), val (.int m), val (.lst ((dv ps).map PV.str)), un]) ?_ ?_) (by decide)
  · simp only [eT, aa, d7, ip, rZ, ao, M.bZ];refine Gen.le (Gen.bind (Gen.draw (by omega) (by omega)) (d:=2) ?_) (by decide);rintro _ ⟨w, rfl, w0, w1⟩;refine Gen.le (Gen.bind (rl H) (d:=0) ?_) (by decide);rintro _ ⟨m, rfl, m0, m1⟩;exact Gen.eq (y:=.nx _) (by simp only [hs, rZ]; rfl) ⟨_, rfl, w, m, m0, m1, rfl⟩
  rintro _ ⟨w, m, m0, m1, rfl⟩;have hc : ∀ k : Int, bD (au (f6 false) (λρ=>ah ρ 3) (λ_=>M.ret (.int k))) [val .bH, val h, val (.int n), val (.int w), val (.int m), val (.lst ((dv ps).map PV.str)), un] = .ret (w == k):=by intro k; simp [bD, au, ah, Gi]
  have hd : bD (au (f6 true) (λρ=>ah ρ 5) (a8 (λρ=>((λ_=>M.ret []) ρ).bind bb))) [val .bH, val h, val (.int n), val (.int w), val (.int m), val (.lst ((dv ps).map PV.str)), un] = .ret (!(dv ps).isEmpty):=by
    simp only [bD, au, a8, d7, ip, rZ, Jq, Jo];simp
  have hand : ∀ {a b : ak -> M Bool} {ρ : ak} {x y : Bool}, a ρ = .ret x -> b ρ = .ret y -> gD a b ρ = .ret (x && y):=by
    intro a b ρ x y ha hb;unfold gD; rw [ha]; cases x <;> simp [hb]
  have hcc:=hand (hc 0) hd
  cases g : (w == 0 && !(dv ps).isEmpty) with
  | true=>
    rw [g] at hcc;rw [Mb] at g
    have hpos : 0 < ((dv ps).map PV.str).length:=by
      rw [LA];exact List.length_pos_iff.mpr (λe=>by rw [e] at g; simp at g)
    have hle : ((dv ps).map PV.str).length <= 100000:=by
      unfold dv;have:=List.length_filter_le (λp : Str × List PV=>wm p.2) ps;simp only [LA];omega
    unfold aG;rw [ik hcc];simp only [aP, List.map, Ent.freeze, aa, d7, ip, rZ, M.bZ];refine Gen.le (Gen.bind (jF hpos hle) (d:=0) ?_) (by decide);intro y hy;obtain ⟨z, hz, rfl⟩:=LM.mp hy
    exact Gen.eq (y:=.tup [.str "look", .int n, .int m, .str z]) (by simp only [rZ, KN]; rfl) (.look m z m0 m1 hz)
  | false=>
    rw [g] at hcc;refine Gen.le (iz (c:=0) (d:=67) (I:=λρ=>ρ = [val .bH, val h, val (.int n), val (.int w), val (.int m), val (.lst ((dv ps).map PV.str)), un]) (AU (gV hcc) rfl) ?_) (by decide);rintro _ rfl;by_cases c1 : w = 1
    · unfold aG;rw [ik (by rw [hc 1, c1]; rfl)];simp only [aP, List.map, Ent.freeze, aa, au, d7, ip, rZ, h0, M.bZ];refine Gen.le (Gen.bind (Dp jx tm) (d:=61) ?_) (by decide);rintro _ ⟨p, hp, rfl⟩;simp only [bJ, zS, M.dW, rZ];refine Gen.le (Gen.bind (AW H) (d:=0) ?_) (by decide);intro r hr;exact Gen.eq (y:=.tup [.str "rule", .int n, .int m, .str p.1, r]) (by simp only [rZ, Jp]; rfl) (.rule m p r m0 m1 hp hr)
    · have c1' : (w == 1) = false:=by simpa using c1
      refine Gen.le (iz (c:=0) (d:=67) (I:=λρ=>ρ = [val .bH, val h, val (.int n), val (.int w), val (.int m), val (.lst ((dv ps).map PV.str)), un]) (AU (gV (by rw [hc 1, c1'])) rfl) ?_) (by decide);rintro _ rfl
      have ep : vL (.int 10) (.int 60) = .ret (.int (10 ^ 60)):=by
        unfold vL sh;dsimp only;rw [Mk (by decide +kernel)];rfl
      have es1 : eU (.int (10 ^ 60)) (.int 1) = .ret (.int (10 ^ 60 - 1)):=rfl;have es2 : eU (.int 1) (.int (10 ^ 60)) = .ret (.int (1 - 10 ^ 60)):=rfl;refine Gen.le (iz (c:=2) (d:=1) (I:=λρ=>∃ v : Int, -(10 ^ 60) < v /\ v < 10 ^ 60 /\ ρ = [val .bH, val h, val (.int n), val (.int w), val (.int m), val (.lst ((dv ps).map PV.str)), val (.int v)]) ?_ ?_) (by decide)
      · simp only [bF, au, a8, aa, d7, ip, rZ, ao, M.bZ];refine Gen.le (Gen.bind (Gen.draw (by omega) (by omega)) (d:=1) ?_) (by decide);rintro _ ⟨d, rfl, d0, d1⟩;have es3 : eU (.int d) (.int 3) = .ret (.int (d - 3)):=rfl;simp only [rZ, ep, es1, es2, es3, wa];refine Gen.le (Gen.bind (Gen.draw (by omega) (by omega)) (d:=0) ?_) (by decide);rintro _ ⟨g, rfl, g0, g1⟩;obtain ⟨y, hy, e⟩:=iT (l:=[PV.int (d - 3), PV.int (10 ^ 60 - 1), PV.int (1 - 10 ^ 60), PV.int 0]) g0 g1
        obtain ⟨v, rfl, v0, v1⟩ : ∃ v : Int, y = .int v /\ -(10 ^ 60) < v /\ v < 10 ^ 60:=by
          simp only [LK, LL, or_false] at hy;rcases hy with rfl | rfl | rfl | rfl <;> exact ⟨_, rfl, by omega, by omega⟩
        exact Gen.eq (y:=.nx _) (by simp only [bJ, e, M.dW, rZ]; rfl) ⟨_, rfl, v, v0, v1, rfl⟩
      rintro _ ⟨v, v0, v1, rfl⟩;simp only [aP, List.map, Ent.freeze, aa, a8, d7, ip, rZ, wa, M.bZ];refine Gen.le (Gen.bind (jF (by simp) (by simp)) (d:=0) ?_) (by decide);intro y hy;simp only [LK, LL, or_false] at hy;exact Gen.eq (y:=.tup [.str "read", .int n, .int m, y, .int v]) (by simp only [rZ, Jp]; rfl) (.read m y v m0 m1 hy v0 v1)
def E4 (x : Int) (ns : List Int) : Hx false (.int x) (.lst (ns.map PV.int)) = .ret (.bl (decide (x ∈ ns))):=by
  have hf : (ns.map PV.int).all bT = true:=by
    rw [List.all_eq_true];intro y hy;obtain ⟨z, _, rfl⟩:=LM.mp hy;rfl
  have hm : si (.int x) (ns.map PV.int) = decide (x ∈ ns):=by
    unfold si;rw [List.any_map]
    induction ns with
    | nil=>simp
    | cons a l ih=>
      rw [List.any_cons, ih (by
        rw [List.all_eq_true];intro y hy;obtain ⟨z, _, rfl⟩:=LM.mp hy
        rfl)]
      by_cases c : a = x
      · subst c; simp [toV, rR]
      · have c' : ¬ x = a:=λz=>c z.symm;simp [toV, rR, c, c']
  unfold Hx;dsimp only;rw [hf, hm];simp [bT, toV, ia]
theorem sub_len : ∀ (l m : List Int), l.Nodup -> (∀ x ∈ l, x ∈ m) -> l.length <= m.length
  | [], m, _, _=>L1 _
  | x :: l, m, nd, hs=>by
    rw [List.nodup_cons] at nd;have hx:=hs x Lz;have:=sub_len l (m.erase x) nd.2 λy hy=>(List.mem_erase_of_ne (λz : y = x=>nd.1 (z ▸ hy))).mpr (hs y (LC _ hy));rw [List.length_erase_of_mem hx] at this;have hp : 0 < m.length:=List.length_pos_of_mem hx;rw [LN];omega
def EO {ns : List Int} {n : Int} {k : Nat} (hk : k <= 1000) (hl : ns.length < k) (h : ∀ t : Nat, t < k -> (n + t) % 1000000 ∈ ns) : False:=by
  have:=sub_len ((List.range k).map λt : Nat=>(n + t) % 1000000) ns (by
    unfold List.Nodup;rw [List.pairwise_map];refine List.Pairwise.imp_of_mem ?_ List.nodup_range;intro a b ha hb ne e;rw [ME] at ha hb
    omega) (λx hx=>by
    obtain ⟨t, ht, rfl⟩:=LM.mp hx
    exact h t (ME.mp ht))
  rw [LA, List.length_range] at this;omega
def kx (ps : List (Str × List PV)) (aB : Int) (l : List PV) (ns : List Int) : Prop:=ns.length = l.length /\ ns.Nodup /\ (∀ n ∈ ns, 0 <= n /\ n < 1000000) /\ ∀ (i : Nat) (n : Int) (z : PV), ns[i]? = some n -> l[i]? = some z -> pY ps aB n z
def kx.snoc {ps : List (Str × List PV)} {aB : Int} {l : List PV} {ns : List Int} {n : Int} {z : PV} (h : kx ps aB l ns) (hn : n ∉ ns) (h0 : 0 <= n) (h1 : n < 1000000) (hz : pY ps aB n z) : kx ps aB (l ++ [z]) (ns ++ [n]):=by
  obtain ⟨g1, g2, g3, g4⟩:=h;refine ⟨by simp [g1], ?_, λx hx=>?_, λi x y hx hy=>?_⟩
  · rw [List.nodup_append];exact ⟨g2, by simp, λa ha b hb=>by rw [L3.mp hb]; exact λe=>hn (e ▸ ha)⟩
  · rcases Mj.mp hx with hx | hx
    · exact g3 x hx
    · rw [L3.mp hx]; exact ⟨h0, h1⟩
  · by_cases c : i < l.length
    · rw [Me (by omega)] at hx;rw [Me c] at hy;exact g4 i x y hx hy
    · rw [List.getElem?_append_right (by omega)] at hx hy;by_cases e : i - l.length = 0
      · rw [e] at hy;rw [show i - ns.length = 0 by omega] at hx;simp at hx hy;subst hx hy;exact hz
      · rw [MC (by simp; omega)] at hy;cases hy
def AX {h : PV} {ps : List (Str × List PV)} {aB : Int} (U : lu h ps aB) {k : Int} (k0 : 0 <= k) (k1 : k <= 30) : Gen (eD [.bH, h, .int k]) (k.toNat * 72) (λy=>∃ l ns, y = .lst l /\ l.length = k.toNat /\ kx ps aB l ns):=by
  unfold eD hZ;show Gen ((aG _ _ [val .bH, val h, val (.int k), un, un, un, un, un]).bind bR) _ _;refine Gen.le (iz (c:=0) (d:=k.toNat * 72) (I:=λρ=>ρ = [val .bH, val h, val (.int k), Ent.own [], Ent.own [], un, un, un]) (AU (by simp [za, bb]) rfl) ?_) (by omega);rintro _ rfl;have hint : (eB 0 k.toNat).length = k.toNat:=by simp [eB]
  have er : j7 [.int k] = .ret (eB 0 k.toNat):=by simp only [j7, Mk (by omega : -1000000 <= k /\ k <= 100000)]
  refine Gen.le (iz (c:=k.toNat * 72) (d:=0) (I:=λρ=>∃ (ns : List Int) (l : List PV) (e5 e6 e7 : Ent), l.length = k.toNat /\ kx ps aB l ns /\ ρ = [val .bH, val h, val (.int k), Ent.own (ns.map PV.int), Ent.own l, e5, e6, e7]) ?_ ?_) (by omega)
  · simp only [jw, aa, d7, ip, rZ, er];refine Gen.mono (E8 (k:=5) (c:=72) (Iv:=λi ρ=>∃ (ns : List Int) (l : List PV) (e5 e6 e7 : Ent), ns.length = i /\ l.length = i /\ kx ps aB l ns /\ ρ = [val .bH, val h, val (.int k), Ent.own (ns.map PV.int), Ent.own l, e5, e6, e7]) (eB 0 k.toNat) 0 _ ⟨[], [], _, _, _, rfl, rfl, ⟨rfl, List.nodup_nil, λz hz=>absurd hz LL, λi n z e=>by simp at e⟩, rfl⟩ ?_) (by rw [hint]; exact LH _) ?_
    rotate_left
    · rintro f ⟨ρ', rfl, ns, l, e5, e6, e7, _, hl, hp, rfl⟩;rw [hint, Nat.zero_add] at hl;exact ⟨_, rfl, ns, l, e5, e6, e7, hl, hp, rfl⟩
    · rintro y hy j hj _ ⟨ns, l, e5, e6, e7, hn, hl, hp, rfl⟩;rw [hint] at hj;obtain ⟨q, hq, rfl⟩:=LM.mp hy;have hq:=ME.mp hq;show Gen (aG _ _ [val .bH, val h, val (.int k), Ent.own (ns.map PV.int), Ent.own l, val (.int (0 + (q : Nat))), e6, e7]) 72 _;refine Gen.le (rj (c:=2) (d:=70) (I:=λρ=>∃ n : Int, 0 <= n /\ n < 1000000 /\ ρ = [val .bH, val h, val (.int k), Ent.own (ns.map PV.int), Ent.own l, val (.int (0 + (q : Nat))), val (.int n), e7]) ?_ ?_) (by decide)
      · have s1 : eU (.int 999999) (.int (0 + (q : Nat))) = .ret (.int (999999 - (0 + (q : Nat)))):=rfl;have s2 : eU (.int 60) (.int (0 + (q : Nat))) = .ret (.int (60 - (0 + (q : Nat)))):=rfl;simp only [bF, au, a8, aa, d7, ip, rZ, s1, s2, ao, M.bZ];refine Gen.le (Gen.bind (Gen.draw (by omega) (by omega)) (d:=1) ?_) (by decide);rintro _ ⟨d, rfl, d0, d1⟩;simp only [rZ, wa];refine Gen.le (Gen.bind (jF (by simp) (by simp)) (d:=0) ?_) (by decide);intro y hy
        obtain ⟨n, rfl, n0, n1⟩ : ∃ n : Int, y = .int n /\ 0 <= n /\ n < 1000000:=by
          simp only [LK, LL, or_false] at hy;rcases hy with rfl | rfl | rfl | rfl <;> exact ⟨_, rfl, by omega, by omega⟩
        exact Gen.eq (y:=.nx _) rfl ⟨_, rfl, n, n0, n1, rfl⟩
      rintro _ ⟨n, n0, n1, rfl⟩;refine Gen.le (rj (c:=0) (d:=70) (I:=λρ=>∃ (n : Int) (e7 : Ent), n ∉ ns /\ 0 <= n /\ n < 1000000 /\ ρ = [val .bH, val h, val (.int k), Ent.own (ns.map PV.int), Ent.own l, val (.int (0 + (q : Nat))), val (.int n), e7]) ?_ ?_) (by decide)
      · simp only [jw, aa, d7, ip, rZ, er];refine Gen.mono (E8 (k:=7) (c:=0) (Iv:=λi ρ=>∃ (x : Int) (e7 : Ent), 0 <= x /\ x < 1000000 /\ (x ∉ ns \/ (x = (n + (i : Nat)) % 1000000 /\ ∀ t : Nat, t < i -> (n + t) % 1000000 ∈ ns)) /\ ρ = [val .bH, val h, val (.int k), Ent.own (ns.map PV.int), Ent.own l, val (.int (0 + (q : Nat))), val (.int x), e7]) (eB 0 k.toNat) 0 _ ⟨n, e7, n0, n1, .inr ⟨by omega, λt ht=>by omega⟩, rfl⟩ ?_) (by omega) ?_
        rotate_left
        · rintro f ⟨ρ', rfl, x, e7, x0, x1, hx, rfl⟩;refine ⟨_, rfl, x, e7, ?_, x0, x1, rfl⟩;rcases hx with hx | ⟨_, hx⟩
          · exact hx
          · rw [hint, Nat.zero_add] at hx;exact (EO (k:=k.toNat) (by omega) (by omega) hx).elim
        · rintro t ht i hi _ ⟨x, e7, x0, x1, hx, rfl⟩;have hb:=E4 x ns;have ea : dq (.int x) (.int 1) = .ret (.int (x + 1)):=rfl;have em : v9 (.int (x + 1)) (.int 1000000) = .ret (.int ((x + 1) % 1000000)):=by unfold v9 sh; simp
          show Gen (gB _ _ _ [val .bH, val h, val (.int k), Ent.own (ns.map PV.int), Ent.own l, val (.int (0 + (q : Nat))), val (.int x), val t]) 0 _;by_cases c : x ∈ ns
          · rw [Mp c] at hb;refine AU (I:=λρ=>∃ (x : Int) (e7 : Ent), 0 <= x /\ x < 1000000 /\ (x ∉ ns \/ (x = (n + ((i + 1 : Nat) : Int)) % 1000000 /\ ∀ t : Nat, t < i + 1 -> (n + t) % 1000000 ∈ ns)) /\ ρ = [val .bH, val h, val (.int k), Ent.own (ns.map PV.int), Ent.own l, val (.int (0 + (q : Nat))), val (.int x), e7]) ((ik (by simp only [bD, au, d7, ip, wt, Gd, rZ, hb])).trans ?_) ⟨(x + 1) % 1000000, val t, by omega, by omega, ?_, rfl⟩
            · simp only [bF, au, d7, ip, rZ, ea, em];rfl
            · rcases hx with hx | ⟨hx, hall⟩
              · exact (hx c).elim
              · refine .inr ⟨by omega, λt ht=>?_⟩;by_cases z : t = i
                · subst z; rw [<- hx]; exact c
                · exact hall t (by omega)
          · rw [LZ c] at hb;exact AU (I:=λρ=>∃ (x : Int) (e7 : Ent), 0 <= x /\ x < 1000000 /\ (x ∉ ns \/ (x = (n + ((i + 1 : Nat) : Int)) % 1000000 /\ ∀ t : Nat, t < i + 1 -> (n + t) % 1000000 ∈ ns)) /\ ρ = [val .bH, val h, val (.int k), Ent.own (ns.map PV.int), Ent.own l, val (.int (0 + (q : Nat))), val (.int x), e7]) (gV (by simp only [bD, au, d7, ip, wt, Gd, rZ, hb])) ⟨x, _, x0, x1, .inl c, rfl⟩
      rintro _ ⟨n, e7, nn, n0, n1, rfl⟩;refine Gen.le (rj (c:=0) (d:=70) (I:=λρ=>ρ = [val .bH, val h, val (.int k), Ent.own ((ns ++ [n]).map PV.int), Ent.own l, val (.int (0 + (q : Nat))), val (.int n), e7]) (AU (by simp [sD, d7, ip, hn, (by omega : j < 100000)]) rfl) ?_) (by decide);rintro _ rfl;have kY : l.length < 100000:=by omega
      simp only [sD, List.getElem?_cons_succ, LP, aa, d7, ip, rZ, M.bZ];refine Gen.le (Gen.bind (Dl U n) (d:=0) ?_) (by decide);intro z hz;exact Gen.eq (y:=.nx _) (by rw [Mk kY]; rfl) ⟨_, rfl, ns ++ [n], l ++ [z], _, _, _, by simp [hn], by simp [hl], hp.snoc nn n0 n1 hz, rfl⟩
  · rintro _ ⟨ns, l, e5, e6, e7, hl, hp, rfl⟩;exact Gen.eq (fQ (bK rfl)) ⟨l, ns, rfl, hl, hp⟩
def oh (c : Nat) : Bool:=Bk "0" ⟨#[c]⟩ && Bk ⟨#[c]⟩ "9"
def zD (c : Nat) : oh c = (decide (48 <= c) && decide (c <= 57)):=by
  have e0 : ("0" : Str).cps.toList = [48]:=by decide +kernel
  have e9 : ("9" : Str).cps.toList = [57]:=by decide +kernel
  unfold oh Bk;rw [e0, e9];rw [Bool.eq_iff_iff];simp [List.cons_lt_cons_iff]
def Dx : PV -> PV
  | .str z=>.bl (Bk "0" z && Bk z "9")
  | y=>y
def Fb (z : Str) : qk (aX 0) bS (chain cS cS (λ_=>M.ret (.str "0")) (λρ=>ah ρ 0) (λ_=>M.ret (.str "9"))) (gA z) [.un] = .ret ((gA z).map Dx):=by
  refine j8 (ρ:=[.un]) _ _ (λ_=>rfl) λy hy=>?_;obtain ⟨c, _, rfl⟩:=LM.mp hy;show chain cS cS _ _ _ [val (.str ⟨#[c]⟩)] = _;cases h : Bk "0" ⟨#[c]⟩ <;> simp [chain, ah, cS, h, Dx]
def uS (l : List Nat) : Bool:=decide (1 <= l.length /\ l.length <= 60) && l.all oh && (l == [48] || l.head? != some 48)
def DM (l : List Nat) : kL ((l.map λc=>PV.str ⟨#[c]⟩).map Dx) = some (l.map oh):=by
  induction l with
  | nil=>rfl
  | cons a l ih=>simp [kL, Dx, oh] at ih ⊢; simp [ih]
def DT (z : Str) (hz : z.length <= 100000) : (((aa (a8 (cC [none] (λρ=>((λρ=>ah ρ 0) ρ).bind ba) (aX 0) bS (chain cS cS (λ_=>M.ret (.str "0")) (λρ=>ah ρ 0) (λ_=>M.ret (.str "9"))))) (λ_=>M.ret [])) [val (.str z)]).bind fN) = .ret (.bl (z.cps.toList.all oh)):=by
  have e:=sS (js:=[none]) (mi:=λρ=>((λρ=>ah ρ 0) ρ).bind ba) (bd:=aX 0) (tt:=bS) (te:=chain cS cS (λ_=>M.ret (.str "0")) (λρ=>ah ρ 0) (λ_=>M.ret (.str "9"))) (ρ:=[val (.str z)]) (l:=gA z) [.un] rfl (by simpa [gA, Str.length] using hz) rfl;simp only [aa, a8, e, Fb, rZ];have b : kL ((gA z).map Dx) = some (z.cps.toList.map oh):=DM z.cps.toList;simp [fN, b, M.dW, List.all_map]
def str_beq (x y : Str) : (x == y) = (x.cps.toList == y.cps.toList):=by
  rw [Bool.eq_iff_iff];constructor
  · intro h; rw [eq_of_beq h]; exact Mv _
  · intro h; rw [j3 (eq_of_beq h)]; exact Mv _
def Jn (x y : Str) : f6 true (.str x) (.str y) = .ret (.bl (!(x == y))):=by
  show M.ret (PV.bl (xor true (x == y))) = _;simp
def jg {m : ak -> M PV} {ρ : ak} {x : Bool} (h : m ρ = .ret (.bl x)) : bD m ρ = .ret x:=by unfold bD; rw [h]; rfl
def v_or {a b : ak -> M PV} {ρ : ak} {x y : Bool} (ha : a ρ = .ret (.bl x)) (hb : x = false -> b ρ = .ret (.bl y)) : oU a b ρ = .ret (.bl (x || y)):=by
  cases x with
  | true=>unfold oU; rw [jg ha]; rfl
  | false=>have h2:=hb rfl; unfold oU; rw [jg ha]; exact h2
def Fc (z : Str) (hz : z.length <= 100000) : bD (chain cS cS (λ_=>M.ret (.int 1)) (λρ=>((aa (λρ=>ah ρ 0) (λ_=>M.ret [])) ρ).bind eV) (λ_=>M.ret (.int 60))) [val (.str z)] = .ret (decide (1 <= z.length /\ z.length <= 60)):=by
  have h1:=Jv hz;by_cases c1 : 1 <= z.length
  · by_cases c2 : z.length <= 60
    · have d1 : decide ((1 : Int) <= z.length) = true:=Mp (by omega);have d2 : decide ((z.length : Int) <= 60) = true:=Mp (by omega);simp [bD, chain, aa, ah, cS, h1, c1, c2, d1, d2]
    · have d1 : decide ((1 : Int) <= z.length) = true:=Mp (by omega);have d2 : decide ((z.length : Int) <= 60) = false:=LZ (by omega);simp [bD, chain, aa, ah, cS, h1, c1, c2, d1, d2]
  · have d1 : decide ((1 : Int) <= z.length) = false:=LZ (by omega);simp [bD, chain, aa, ah, cS, h1, c1, d1]
def E7 {z : Str} (hz : z.length <= 100000) (h1 : 1 <= z.length) : ∃ c r, z.cps.toList = c :: r /\ bJ (.str z) (.int 0) = .ret (.str ⟨#[c]⟩):=by
  have : z.cps.toList ≠ []:=by intro e; rw [cR, e] at h1; simp at h1
  cases e : z.cps.toList with
  | nil=>exact absurd e this
  | cons c r=>
    refine ⟨c, r, rfl, ?_⟩;have a : jY (c :: r) 0 = some c:=lg (j:=0) rfl;simp [bJ, hz, e, a, M.dW]
def zB (z : Str) (hz : z.length <= 100000) : cc [.str z] = .ret (.bl (uS z.cps.toList)):=by
  unfold cc eQ;show (aG _ _ [val (.str z)]).bind bR = _;have t1:=lN (Fc z hz);have t2:=lN (a:=bD λρ=>((aa (a8 (cC [none] (λρ=>((λρ=>ah ρ 0) ρ).bind ba) (aX 0) bS (chain cS cS (λ_=>M.ret (.str "0")) (λρ=>ah ρ 0) (λ_=>M.ret (.str "9"))))) (λ_=>M.ret [])) ρ).bind fN) (ρ:=[val (.str z)]) (x:=z.cps.toList.all oh) (jg (DT z hz));have t:=o8 t1 t2;have el : z.cps.toList.length = z.length:=(cR z).symm
  cases g : (!decide (1 <= z.length /\ z.length <= 60) || !z.cps.toList.all oh) with
  | true=>
    refine (dP ((ik (t.trans (by rw [g]))).trans (bK rfl))).trans ?_
    have : uS z.cps.toList = false:=by
      unfold uS; rw [el];cases a : decide (1 <= z.length /\ z.length <= 60) <;> cases b : z.cps.toList.all oh <;> simp_all
    rw [this]
  | false=>
    have a : decide (1 <= z.length /\ z.length <= 60) = true:=by
      cases a : decide (1 <= z.length /\ z.length <= 60) with
      | true=>rfl
      | false=>rw [a] at g; cases g
    have b : z.cps.toList.all oh = true:=by
      cases b : z.cps.toList.all oh with
      | true=>rfl
      | false=>rw [a, b] at g; cases g
    refine cy (ρ':=[val (.str z)]) (gV (t.trans (by rw [g]))) ?_;obtain ⟨c, r, e, hi⟩:=E7 hz (My a).1;have e0 : ("0" : Str).cps.toList = [48]:=by decide +kernel
    have k1 : (z == "0") = (z.cps.toList == [48]):=by rw [str_beq, e0]
    have k2 : ((⟨#[c]⟩ : Str) == "0") = (c == 48):=by rw [str_beq, e0]; simp
    refine (fQ (bK (v_or (x:=z == "0") (y:=!(c == 48)) (by simp only [List.map, Ent.freeze, au, d7, rZ, yi]) λ_=>by simp only [List.map, Ent.freeze, au, d7, rZ, hi, Jn, k2]))).trans ?_;unfold uS;rw [el, a, b, k1, e];by_cases q : c = 48
    · subst q; simp
    · have q1 : (c == 48) = false:=beq_eq_false_iff_ne.mpr q;have q2 : (some c != some 48) = true:=by simp [bne, q1, q]
      rw [List.head?_cons, q2, q1]; simp
noncomputable def tx : PV -> Str
  | .int i=>Str.ofString (toString i)
  | .str z=>z
  | _=>""
def wl (y : PV) : List Nat:=(tx y).cps.toList
def Th (y : PV) : Prop:=(∃ i : Int, y = .int i /\ -(10 ^ 60) < i /\ i < 10 ^ 60) \/ ∃ z, y = .str z /\ d5 z = true
def sY {i : Int} (h0 : -(10 ^ 60) < i) (h1 : i < 10 ^ 60) : ∃ m : Nat, m < 10 ^ 60 /\ (i = (m : Int) \/ (m ≠ 0 /\ i = -(m : Int))):=by
  rcases Int.le_total 0 i with h | h
  · exact ⟨i.toNat, by omega, .inl (by omega)⟩
  · by_cases z : i = 0
    · exact ⟨0, by decide, .inl (by omega)⟩
    · exact ⟨(-i).toNat, by omega, .inr ⟨by omega, by omega⟩⟩
def Bs {m : Nat} : wl (.int (m : Int)) = dg m:=uX m
def xh {m : Nat} (h : m ≠ 0) : wl (.int (-(m : Int))) = 45 :: dg m:=ET m h
def kU {z : Str} (h : d5 z = true) : 1 <= z.length /\ z.length <= 8 /\ ∀ c ∈ z.cps.toList, 97 <= c /\ c <= 122:=by
  unfold d5 at h;rw [Mb, MA, List.all_eq_true] at h;exact ⟨h.1.1, h.1.2, λc hc=>My (h.2 c hc)⟩
def nE {y : PV} (h : Th y) : (wl y).length <= 61 /\ wl y ≠ [] /\ ∀ c ∈ wl y, 45 <= c /\ c <= 122:=by
  rcases h with ⟨i, rfl, i0, i1⟩ | ⟨z, rfl, hz⟩
  · obtain ⟨m, hm, rfl | ⟨m0, rfl⟩⟩:=sY i0 i1
    · rw [Bs];have:=rJ (k:=60) (by decide) hm;have p:=DD m;refine ⟨by omega, λe=>by rw [e] at p; simp at p, λc hc=>?_⟩;have:=yk hc; omega
    · rw [xh m0];have:=rJ (k:=60) (by decide) hm;refine ⟨by simp only [LN]; omega, by simp, λc hc=>?_⟩;rcases LK.mp hc with rfl | hc
      · decide
      · have:=yk hc; omega
  · obtain ⟨l0, l1, hc⟩:=kU hz;have e : wl (.str z) = z.cps.toList:=rfl;rw [e];rw [cR] at l0 l1;refine ⟨by omega, λe=>by rw [e] at l0; simp at l0, λc h=>?_⟩;have:=hc c h; omega
def str_is {y : PV} (h : Th y) : kP [y] = .ret (.str (tx y)):=by
  rcases h with ⟨i, rfl, i0, i1⟩ | ⟨z, rfl, hz⟩
  · have : i.natAbs < 10 ^ 61:=by omega
    simp only [kP, Mk this, tx]
  · rfl
def Dw {m : Nat} (h : m < 10 ^ 60) : uS (dg m) = true:=by
  have l0:=DD m;have l1:=rJ (k:=60) (by decide) h
  have a : (dg m).all oh = true:=List.all_eq_true.mpr λc hc=>by
    have:=yk hc;rw [zD, Mp this.1, Mp this.2]; rfl
  unfold uS;rw [Mp ⟨l0, l1⟩, a];by_cases z : m = 0
  · rw [z]; decide
  · obtain ⟨c, r, e, hc⟩:=zH m z;rw [e];simp [hc]
def zC {c : Nat} {r : List Nat} (h : c < 48 \/ 57 < c) : uS (c :: r) = false:=by
  have : oh c = false:=by
    rw [zD];rcases h with h | h
    · rw [LZ (by omega : ¬ 48 <= c)]; rfl
    · rw [LZ (by omega : ¬ c <= 57), Bool.and_false]
  unfold uS;rw [List.all_cons, this];simp
def Aa (z : Str) : lW (.str z) [.str "-"] = .ret (.bl (z.cps.toList.head? == some 45)):=by
  have e : ("-" : Str).cps = #[45]:=by decide +kernel
  have l : ("-" : Str).length = 1:=by decide +kernel
  show M.ret (PV.bl (decide (0 + ("-" : Str).length <= z.length) && (z.cps.extract 0 (0 + ("-" : Str).length) == ("-" : Str).cps))) = _;rw [l, e, cR]
  have k : (z.cps.extract 0 (0 + 1) == #[45]) = ((z.cps.toList.take 1) == [45]):=by
    rw [Bool.eq_iff_iff, beq_iff_eq, beq_iff_eq, <- Array.toList_inj, Array.toList_extract];simp [List.extract]
  rw [k]
  cases z.cps.toList with
  | nil=>rfl
  | cons a r=>simp
def JJ {z : Str} {c : Nat} {l : List Nat} (h : z.cps.toList = c :: l) (hz : z.length <= 100000) : pF (.str z) (some 1) none = .ret (.str (jL l)):=by
  have e : z.length = l.length + 1:=by rw [cR, h]; rfl
  have k:=slice_from_eq (x:=z) (i:=1) (b:=z.length) (by decide) (by omega) rfl;simp only [pF, Mk hz];rw [k, h];congr 2;unfold jL;congr 2;rw [e];simp
def reads {m : Nat} (h : m < 10 ^ 60) : AN [.str (Str.ofString (toString (m : Int)))] = .ret (.int m):=by
  have l : (Str.ofString (toString (m : Int))).length <= 60:=by
    rw [cR, uX]; exact rJ (by decide) h
  simp only [AN, Mk (show (Str.ofString (toString (m : Int))).length <= 640 by omega), AM (m:=m) (by omega), M.dW, rZ]
def BC {y : PV} (h : Th y) : (tx y).length <= 61:=by rw [cR]; exact (nE h).1
def zM {a b : ak -> M Bool} {ρ : ak} {x y : Bool} (ha : a ρ = .ret x) (hb : x = true -> b ρ = .ret y) : gD a b ρ = .ret (x && y):=by
  cases x with
  | false=>unfold gD; rw [ha]; rfl
  | true=>have h2:=hb rfl; unfold gD; rw [ha]; exact h2
def sA {op : PV -> List PV -> M PV} {mo : ak -> M PV} {ml : ak -> M (List PV)} {ρ : ak} {x : Str} {l : List PV} (h : mo ρ = .ret (.str x)) (hl : ml ρ = .ret l) : oB "str" op mo ml ρ = op (.str x) l:=by
  unfold oB; rw [h];simp only [rZ, tyP, if_true, hl]
def Bz {y : PV} (h : Th y) : fB [.str (tx y)] = .ret y:=by
  have hl : (tx y).length <= 100000:=LV (BC h) (by decide);have f1:=zB (tx y) hl;have s1:=Aa (tx y);unfold fB iJ;show (aG _ _ [val (.str (tx y))]).bind bR = _
  have g1 : bD (λρ=>((aa (λρ=>ah ρ 0) (λ_=>M.ret [])) ρ).bind cc) [val (.str (tx y))] = .ret (uS (wl y)):=by
    exact jg ((f9 (d7 _ _)).trans f1)
  rcases h with ⟨i, rfl, i0, i1⟩ | ⟨z, rfl, hz⟩
  · obtain ⟨m, hm, rfl | ⟨m0, rfl⟩⟩:=sY i0 i1
    · rw [Bs, Dw hm] at g1;refine dP ((ik g1).trans (bK ?_));exact (f9 (d7 _ _)).trans (reads hm)
    · rw [xh m0, zC (by decide)] at g1;refine cy (gV g1) ?_;have et : (tx (.int (-(m : Int)))).cps.toList = 45 :: dg m:=xh m0;have sl:=JJ et hl;have eo : jL (dg m) = Str.ofString (toString (m : Int)):=j3 (by rw [cJ, uX])
      have lo : (jL (dg m)).length <= 100000:=by
        rw [gN]; exact LV (rJ (k:=60) (by decide) hm) (by decide)
      have f2:=zB (jL (dg m)) lo;rw [cJ, Dw hm] at f2
      have ne : (tx (.int (-(m : Int))) == "-0") = false:=by
        rw [str_beq, et];have e : ("-0" : Str).cps.toList = [45, 48]:=by decide +kernel
        obtain ⟨c, r, e', hc⟩:=zH m m0;rw [e, e'];simp [hc]
      refine dP ((ik ((zM (x:=true) (y:=true) ?_ λ_=>zM (x:=true) (y:=true) ?_ λ_=>?_).trans rfl)).trans (bK ?_))
      · have : oB "str" lW (λρ=>ah ρ 0) (aa (λ_=>M.ret (.str "-")) (λ_=>M.ret [])) [val (.str (tx (.int (-(m : Int)))))] = .ret (.bl true):=by
          rw [sA (d7 _ _) rfl, s1, et]; rfl
        exact jg this
      · have : au (f6 true) (λρ=>ah ρ 0) (λ_=>M.ret (.str "-0")) [val (.str (tx (.int (-(m : Int)))))] = .ret (.bl true):=by
          simp only [au, d7, rZ, Jn, ne, Bool.not_false]
        exact jg this
      · refine jg ?_;simp only [aa, mO, d7, rZ, jb, sl, f2]
      · simp only [List.map, Ent.freeze, aa, mO, d7, rZ, jb, sl];rw [eo, reads hm];rfl
  · obtain ⟨l0, l1, hc⟩:=kU hz;have l0':=l0;rw [cR] at l0
    cases e : z.cps.toList with
    | nil=>rw [e] at l0; simp at l0
    | cons c r=>
      have hb:=hc c (by rw [e]; simp);have ew : wl (.str z) = c :: r:=e;rw [ew, zC (by omega)] at g1;refine cy (gV g1) ?_;refine cy (ρ':=[val (.str z)]) (gV ((zM (x:=false) (y:=false) ?_ λh=>by cases h).trans rfl)) ?_
      · have : oB "str" lW (λρ=>ah ρ 0) (aa (λ_=>M.ret (.str "-")) (λ_=>M.ret [])) [val (.str z)] = .ret (.bl false):=by
          rw [sA (d7 _ _) rfl, show lW (.str z) [.str "-"] = .ret (.bl ((c :: r).head? == some 45)) by rw [<- e]; exact s1];have : c ≠ 45:=by omega
          simp [this]
        exact jg this
      · exact fQ (bK rfl)
theorem m3 (s : List Nat) (k : Nat) : ∀ (xs : List (List Nat)), (∀ x ∈ xs, x.length <= k) -> (jn s xs).length <= xs.length * (k + s.length)
  | [], _=>by simp [jn]
  | [x], h=>by
    have:=h x (by simp)
    simp [jn]; omega
  | x :: y :: r, h=>by
    have h1:=h x (by simp);have h2:=m3 s k (y :: r) (λz hz=>h z (by simp at hz ⊢; exact .inr hz));have e : (jn s (x :: y :: r)).length = x.length + s.length + (jn s (y :: r)).length:=by simp [jn]; omega
    have e2 : (x :: y :: r).length * (k + s.length) = (k + s.length) + (y :: r).length * (k + s.length):=by
      rw [LN (a:=x), Nat.add_mul, Nat.one_mul, Nat.add_comm]
    omega
theorem q0 (c : Nat) (s : List Nat) : ∀ (xs : List (List Nat)), (xs.map List.length).sum + xs.length <= (jn (c :: s) xs).length + 1
  | []=>by simp [jn]
  | [x]=>by simp [jn]
  | x :: y :: r=>by
    have h:=q0 c s (y :: r);have e : (jn (c :: s) (x :: y :: r)).length = x.length + (s.length + 1) + (jn (c :: s) (y :: r)).length:=by simp [jn]; omega
    simp only [LJ, List.sum_cons, LN] at h ⊢;rw [e]; omega
theorem wk {s : List Nat} {c : Nat} : ∀ {xs : List (List Nat)}, c ∈ jn s xs -> c ∈ s \/ ∃ x ∈ xs, c ∈ x
  | [], h=>by simp [jn] at h
  | [x], h=>.inr ⟨x, by simp, h⟩
  | x :: y :: r, h=>by
    have h : c ∈ x ++ s ++ jn s (y :: r):=h;rw [Mj, Mj] at h;rcases h with (h | h) | h
    · exact .inr ⟨x, by simp, h⟩
    · exact .inl h
    · rcases wk h with h | ⟨z, hz, h⟩
      · exact .inl h
      · exact .inr ⟨z, by simp at hz ⊢; exact .inr hz, h⟩
theorem strs_map {α : Type} (f : α -> Str) : ∀ (l : List α), strsOf (l.map λy=>PV.str (f y)) = some (l.map f)
  | []=>rfl
  | y :: l=>by simp [strsOf, strs_map f l]
def uN {α : Type} (sep : Str) (f : α -> Str) {l : List α} {k : Nat} (hl : l.length <= k) (hf : ∀ y ∈ l, (f y).length <= 10000) (hk : k * (10000 + sep.length) <= 16777216) : dY (.str sep) [.lst (l.map λy=>PV.str (f y))] = .ret (.str (jL (jn sep.cps.toList (l.map λy=>(f y).cps.toList)))):=by
  have hs : ∀ (m : List α), (∀ y ∈ m, (f y).length <= 10000) -> ((m.map f).map (·.length)).sum + m.length * sep.length <= m.length * (10000 + sep.length):=by
    intro m
    induction m with
    | nil=>simp
    | cons a m ih=>
      intro h;have h1:=h a (by simp);have h2:=ih (λy hy=>h y (by simp [hy]));simp only [LJ, List.sum_cons, LN, Nat.add_mul, Nat.one_mul] at h2 ⊢;omega
  have hb:=hs l hf;have hm : l.length * (10000 + sep.length) <= k * (10000 + sep.length):=Nat.mul_le_mul_right _ hl
  have e : Txt.join sep (l.map f) = jL (jn sep.cps.toList (l.map λy=>(f y).cps.toList)):=by
    refine j3 ?_;rw [wj, cJ, Ms]; rfl
  simp only [dY, strs_map, M.dW, rZ];rw [Mk (by rw [LA]; omega), e]
def gH (l : List PV) : List Nat:=jn [32] (l.map wl)
def eP (l : List PV) : Str:=jL (gH l)
def blank : (" " : Str).cps.toList = [32]:=by decide +kernel
def comma : (", " : Str).cps.toList = [44, 32]:=by decide +kernel
def Tw (y : PV) : Prop:=Th y \/ ∃ z : Str, y = .str z /\ z.length <= 10000
def Tw.len {y : PV} (h : Tw y) : (tx y).length <= 10000:=by
  rcases h with h | ⟨z, rfl, hz⟩
  · exact LV (BC h) (by decide)
  · exact hz
def Tw.str {y : PV} (h : Tw y) : kP [y] = .ret (.str (tx y)):=by
  rcases h with h | ⟨z, rfl, hz⟩
  · exact str_is h
  · rfl
def vg {l : List PV} (h : ∀ y ∈ l, Tw y) : qk (aX 0) bS (λρ=>((aa (λρ=>ah ρ 0) (λ_=>M.ret [])) ρ).bind kP) l [.un] = .ret (l.map λy=>PV.str (tx y)):=
  j8 (ρ:=[.un]) _ _ (λ_=>rfl) λy hy=>(f9 (d7 _ _)).trans (h y hy).str
def qB {l : List PV} (h : ∀ y ∈ l, Tw y) (hl : l.length <= 100) : dY (.str " ") [.lst (l.map λy=>PV.str (tx y))] = .ret (.str (eP l)):=by
  rw [uN " " tx hl (λy hy=>(h y hy).len) (by decide), blank]; rfl
def xy {l : List PV} (h : ∀ y ∈ l, Tw y) (hl : l.length <= 100) : ck [.tup l] = .ret (.str (eP l)):=by
  unfold ck fX;show (aP _ [val (.tup l)]).bind bR = _;have e:=sS (js:=[none]) (mi:=λρ=>((λρ=>ah ρ 0) ρ).bind ba) (bd:=aX 0) (tt:=bS) (te:=λρ=>((aa (λρ=>ah ρ 0) (λ_=>M.ret [])) ρ).bind kP) (ρ:=[val (.tup l)]) (l:=l) [.un] rfl (by omega) rfl;refine fQ (bK ((sA rfl ?_).trans (qB h hl)));have : a8 (cC [none] (λρ=>((λρ=>ah ρ 0) ρ).bind ba) (aX 0) bS (λρ=>((aa (λρ=>ah ρ 0) (λ_=>M.ret [])) ρ).bind kP)) [val (.tup l)] = .ret (.lst (l.map λy=>PV.str (tx y))):=mG (e.trans (vg h));show aa _ _ [val (.tup l)] = _;rw [wJ, this]; rfl
def iu (ls : List (List PV)) : List Nat:=if ls = [] then [45] else jn [44, 32] (ls.map gH)
def dw (ls : List (List PV)) : Str:=jL (iu ls)
def lF {l : List PV} (h : ∀ y ∈ l, Th y) (hl : l.length <= 10) : (gH l).length <= 620:=by
  have:=m3 [32] 61 (l.map wl) (λx hx=>by
    obtain ⟨y, hy, rfl⟩:=LM.mp hx
    exact (nE (h y hy)).1)
  simp only [LA, LN, List.length_nil] at this;unfold gH;omega
def Rw (l : List PV) : Prop:=l ≠ [] /\ l.length <= 10 /\ ∀ y ∈ l, Th y
def oM {ls : List (List PV)} (h : ∀ l ∈ ls, Rw l) (hl : ls.length <= 10) : (iu ls).length <= 6220:=by
  unfold iu;split
  · simp
  · have:=m3 [44, 32] 620 (ls.map gH) (λx hx=>by
      obtain ⟨y, hy, rfl⟩:=LM.mp hx
      exact lF (h y hy).2.2 (h y hy).2.1)
    simp only [LA, LN, List.length_nil] at this;omega
def sQ {ls : List (List PV)} (h : ∀ l ∈ ls, Rw l) (hl : ls.length <= 10) (h0 : ls ≠ []) : dY (.str ", ") [.lst (ls.map λy=>PV.str (eP y))] = .ret (.str (dw ls)):=by
  rw [uN ", " eP hl (λy hy=>by
    show (jL (gH y)).length <= 10000
    rw [gN]; exact LV (lF (h y hy).2.2 (h y hy).2.1) (by decide)) (by decide), comma]
  unfold dw iu;rw [Ml h0];have : (λy=>(eP y).cps.toList) = gH:=funext λy=>cJ _;rw [this]
def Rw.w {l : List PV} (h : Rw l) : ∀ y ∈ l, Tw y:=λy hy=>.inl (h.2.2 y hy)
def Ek {ls : List (List PV)} (h : ∀ l ∈ ls, Rw l) (hl : ls.length <= 10) : ft [.tup (ls.map PV.tup)] = .ret (.str (dw ls)):=by
  unfold ft hG;show (aP _ [val (.tup (ls.map PV.tup))]).bind bR = _;refine fQ (bK ?_);show ka _ _ _ [val (.tup (ls.map PV.tup))] = _
  have t : bD (au mH (λρ=>((aa (λρ=>ah ρ 0) (λ_=>M.ret [])) ρ).bind eV) (λ_=>M.ret (.int 0))) [val (.tup (ls.map PV.tup))] = .ret (decide (ls ≠ [])):=by
    refine jg ?_;simp only [au, aa, d7, rZ, KP, Lr, LA];congr 2
    cases ls with
    | nil=>rfl
    | cons a r=>simp only [LN]; rw [Mp (by omega)]; simp
  by_cases h0 : ls = []
  · subst h0;rw [tj t];rfl
  · rw [Mp h0] at t;rw [tf t];have e:=sS (js:=[none]) (mi:=λρ=>((λρ=>ah ρ 0) ρ).bind ba) (bd:=aX 0) (tt:=bS) (te:=λρ=>((aa (λρ=>ah ρ 0) (λ_=>M.ret [])) ρ).bind ck) (ρ:=[val (.tup (ls.map PV.tup))]) (l:=ls.map PV.tup) [.un] rfl (by rw [LA]; omega) rfl
    have k : qk (aX 0) bS (λρ=>((aa (λρ=>ah ρ 0) (λ_=>M.ret [])) ρ).bind ck) (ls.map PV.tup) [.un] = .ret ((ls.map PV.tup).map λy=>match y with | .tup l=>PV.str (eP l) | y=>y):=
      j8 (ρ:=[.un]) _ _ (λ_=>rfl) λy hy=>by
        obtain ⟨l, hm, rfl⟩:=LM.mp hy;exact (f9 (d7 _ _)).trans (xy (h l hm).w (LV (h l hm).2.1 (by decide)))
    rw [Ms] at k;have g:=mG (e.trans k);refine (sA rfl ?_).trans (sQ h hl h0);rw [wJ, g]; rfl
theorem yc {α : Type} {k : Nat} {te : ak -> M PV} {g f : α -> PV} {ρ : ak} : ∀ (l : List α) (ρ' : ak), (∀ e, ρ'.set k e = ρ.set k e) -> (∀ y ∈ l, te (ρ.set k (.val (g y))) = .ret (f y)) -> qk (aX k) bS te (l.map g) ρ' = .ret (l.map f)
  | [], ρ', _, _=>rfl
  | y :: l, ρ', hρ, h=>by
    rw [LJ];unfold qk;simp only [aX, bS, rZ, if_true];rw [hρ, h y Lz, yc (f:=f) (ρ:=ρ) l _ (λe=>by rw [List.set_set]) λy' hy=>h y' (LC _ hy)];rfl
def vn {z c : Str} {ws : List (List Nat)} {c0 : Nat} {tl : List Nat} {ρ : ak} {mo : ak -> M PV} (hm : mo ρ = .ret (.str z)) (hk : Builtin.Str.strKind c = 1) (hs : c.cps.toList = c0 :: tl) (hw : ∀ u ∈ ws, c0 ∉ u) (h0 : ws ≠ []) (ez : z.cps.toList = jn (c0 :: tl) ws) (hz : z.length <= 90000) : B0 mo (aa (λ_=>M.ret (.str c)) (λ_=>M.ret [])) ρ = .ret (ws.map λu=>PV.str (jL u)):=by
  have e:=BY hk hs hw h0 ez;have l0 : c.length ≠ 0:=by rw [cR, hs]; simp
  have lp : (ir z c).length <= 100000:=by
    have:=q0 c0 tl ws;rw [<- ez, <- cR] at this;rw [e, LA]; omega
  unfold B0;rw [hm];simp only [rZ, tyP, if_true, aa, BZ];rw [Mk ⟨l0, by omega, lp⟩, e, Ms];rfl
def C7 : Builtin.Str.strKind " " = 1:=by decide +kernel
def Jz : Builtin.Str.strKind ", " = 1:=by decide +kernel
def qO {y : PV} (h : Th y) : 32 ∉ wl y:=λhc=>by have:=(nE h).2.2 32 hc; omega
def CN {y : PV} (h : Th y) : 44 ∉ wl y:=λhc=>by have:=(nE h).2.2 44 hc; omega
def CJ (y : PV) : jL (wl y) = tx y:=qi _
def zm {l : List PV} {mi : ak -> M (List PV)} {te : ak -> M PV} {ρ : ak} {α : Type} {g f : α -> PV} {ls : List α} (hm : mi ρ = .ret (ls.map g)) (hl : ls.length <= 100000) (h : ∀ y ∈ ls, te [.val (g y)] = .ret (f y)) : a8 (cC [none] mi (aX 0) bS te) ρ = .ret (.lst (ls.map f)):=by
  have e:=sS (js:=[none]) (mi:=mi) (bd:=aX 0) (tt:=bS) (te:=te) (ρ:=ρ) (l:=ls.map g) [.un] hm (by rw [LA]; exact hl) rfl;exact mG (e.trans (yc (ρ:=[.un]) ls [.un] (λ_=>rfl) h))
def qA {l : List PV} (h : Rw l) : dU [.str (eP l)] = .ret (.tup l):=by
  unfold dU ja;show (aP _ [val (.str (eP l))]).bind bR = _;refine fQ (bK ?_)
  have s:=vn (z:=eP l) (c:=" ") (ws:=l.map wl) (c0:=32) (tl:=[]) (ρ:=[val (.str (eP l))]) (mo:=λρ=>ah ρ 0) rfl C7 blank (λu hu=>by
    obtain ⟨y, hy, rfl⟩:=LM.mp hu
    exact qO (h.2.2 y hy)) (by simpa using h.1) (cJ _) (by
      show (jL (gH l)).length <= _
      rw [gN]; exact LV (lF h.2.2 h.2.1) (by decide))
  have g:=zm (l:=l) (mi:=λρ=>((a8 (B0 (λρ=>ah ρ 0) (aa (λ_=>M.ret (.str " ")) (λ_=>M.ret [])))) ρ).bind ba) (te:=λρ=>((aa (λρ=>ah ρ 0) (λ_=>M.ret [])) ρ).bind fB) (ρ:=[val (.str (eP l))]) (ls:=l) (g:=λy=>.str (tx y)) (f:=id) (by
    show M.bind _ _ = _;rw [mG s];simp only [rZ, ba, Ms]
    rfl) (by have:=h.2.1; omega) λy hy=>(f9 (d7 _ _)).trans (Bz (h.2.2 y hy))
  refine (f9 g).trans ?_;rw [List.map_id]; rfl
def Aj {l : List PV} (h : Rw l) : ∃ y r, l = y :: r /\ ∃ q, gH l = wl y ++ q:=by
  cases l with
  | nil=>exact absurd rfl h.1
  | cons y r=>
    refine ⟨y, r, rfl, ?_⟩
    cases r with
    | nil=>exact ⟨[], by simp [gH, jn]⟩
    | cons x r=>exact ⟨[32] ++ gH (x :: r), by simp [gH, jn]⟩
def Rn (l : List PV) : Prop:=Rw l /\ ∃ z r, l = .str z :: r /\ d5 z = true
def Ai {ls : List (List PV)} (h : ∀ l ∈ ls, Rn l) (h0 : ls ≠ []) : ∃ c q, iu ls = c :: q /\ 97 <= c:=by
  cases ls with
  | nil=>exact absurd rfl h0
  | cons l ls=>
    obtain ⟨hw, z, r, rfl, hz⟩:=h l (by simp);obtain ⟨y, r', e, q, eq⟩:=Aj hw;cases e;obtain ⟨l0, _, hc⟩:=kU hz
    cases ez : z.cps.toList with
    | nil=>rw [cR, ez] at l0; simp at l0
    | cons c t=>
      have ew : wl (.str z) = c :: t:=ez
      have : ∃ q', iu ((.str z :: r) :: ls) = gH (.str z :: r) ++ q':=by
        unfold iu;rw [Ml (by simp)]
        cases ls with
        | nil=>exact ⟨[], by simp [jn]⟩
        | cons a b=>exact ⟨[44, 32] ++ jn [44, 32] ((a :: b).map gH), by simp [jn]⟩
      obtain ⟨q', e'⟩:=this;exact ⟨c, t ++ q ++ q', by rw [e', eq, ew]; simp, (hc c (by rw [ez]; simp)).1⟩
def Ah {ls : List (List PV)} (h : ∀ l ∈ ls, Rn l) (hl : ls.length <= 10) : gx [.str (dw ls)] = .ret (.tup (ls.map PV.tup)):=by
  unfold gx jM;show (aP _ [val (.str (dw ls))]).bind bR = _;refine fQ (bK ?_);show ka _ _ _ [val (.str (dw ls))] = _;have em : ("-" : Str).cps.toList = [45]:=by decide +kernel
  have t : bD (au (f6 false) (λρ=>ah ρ 0) (λ_=>M.ret (.str "-"))) [val (.str (dw ls))] = .ret (decide (ls = [])):=by
    refine jg ?_;simp only [au, d7, rZ, yi];congr 2;rw [str_beq, em];show ((jL (iu ls)).cps.toList == [45]) = _;rw [cJ];by_cases h0 : ls = []
    · subst h0; rfl
    · obtain ⟨c, q, e, hc⟩:=Ai h h0;rw [e, LZ h0];have : c ≠ 45:=by omega
      simp [this]
  by_cases h0 : ls = []
  · subst h0;rw [Mp rfl] at t;rw [tf t];simp only [rZ, KO]; rfl
  · rw [LZ h0] at t;rw [tj t]
    have s:=vn (z:=dw ls) (c:=", ") (ws:=ls.map gH) (c0:=44) (tl:=[32]) (ρ:=[val (.str (dw ls))]) (mo:=λρ=>ah ρ 0) rfl Jz comma (λu hu hc=>by
      obtain ⟨l, hm, rfl⟩:=LM.mp hu;rcases wk hc with hc | ⟨x, hx, hc⟩
      · simp at hc
      · obtain ⟨y, hy, rfl⟩:=LM.mp hx
        exact CN ((h l hm).1.2.2 y hy) hc) (by simpa using h0) (by
        show (jL (iu ls)).cps.toList = _
        rw [cJ]; unfold iu; rw [Ml h0]) (by
        show (jL (iu ls)).length <= _
        rw [gN]; exact LV (oM (λl hm=>(h l hm).1) hl) (by decide))
    have g:=zm (l:=[]) (mi:=λρ=>((a8 (B0 (λρ=>ah ρ 0) (aa (λ_=>M.ret (.str ", ")) (λ_=>M.ret [])))) ρ).bind ba) (te:=λρ=>((aa (λρ=>ah ρ 0) (λ_=>M.ret [])) ρ).bind dU) (ρ:=[val (.str (dw ls))]) (ls:=ls) (g:=λl=>.str (eP l)) (f:=PV.tup) (by
      show M.bind _ _ = _;rw [mG s];simp only [rZ, ba, Ms]
      rfl) (by omega) λl hm=>(f9 (d7 _ _)).trans (qA (h l hm).1)
    exact f9 g
inductive Pg : List PV -> Prop
  | flat (w : Str) (a b : Int) (r : List PV) : (w = "look" \/ w = "read") -> Rw (.str w :: .int a :: .int b :: r) -> (w = "look" -> ∃ c, r = [.str c]) -> (w = "read" -> ∃ c v, r = [.str c, .int v]) -> Pg (.str w :: .int a :: .int b :: r)
  | rule (a b : Int) (c : Str) (ls : List (List PV)) : Rw [.str "rule", .int a, .int b, .str c] -> ls.length <= 6 -> (∀ l ∈ ls, Rn l) -> Pg [.str "rule", .int a, .int b, .str c, .tup (ls.map PV.tup)]
def mT : List PV -> Str
  | [.str w, a, b, c, .tup rs]=>eP [.str w, a, b, c, .str (dw (rs.map λr=>match r with | .tup l=>l | _=>[]))]
  | l=>eP l
def Il (ls : List (List PV)) : (ls.map PV.tup).map (λr=>match r with | .tup l=>l | _=>[]) = ls:=by
  rw [Ms];exact (List.map_congr_left λl _=>rfl).trans (List.map_id ls)
def lG (a b : Int) (c : Str) (ls : List (List PV)) : mT [.str "rule", .int a, .int b, .str c, .tup (ls.map PV.tup)] = eP [.str "rule", .int a, .int b, .str c, .str (dw ls)]:=by
  show eP [_, _, _, _, .str (dw ((ls.map PV.tup).map _))] = _;rw [Il]
def Gu (w : Str) (r : List PV) (h : w = "look" \/ w = "read") : bD (au (f6 false) (au bJ (λρ=>ah ρ 0) (λ_=>M.ret (.int 0))) (λ_=>M.ret (.str "rule"))) [val (.tup (.str w :: r))] = .ret false:=by
  refine jg ?_;simp only [au, d7, rZ, bJ, zS, M.dW, yi];rcases h with rfl | rfl <;> rfl
def tX {a b : Int} {c : Str} {ls : List (List PV)} (h : Rw [.str "rule", .int a, .int b, .str c]) (hl : ls.length <= 6) (hr : ∀ l ∈ ls, Rn l) : ∀ y ∈ ([.str "rule", .int a, .int b, .str c, .str (dw ls)] : List PV), Tw y:=λy hy=>by
  have hy : y ∈ ([.str "rule", .int a, .int b, .str c] : List PV) ++ [.str (dw ls)]:=hy;rcases Mj.mp hy with hy | hy
  · exact h.w y hy
  · rw [L3.mp hy];refine .inr ⟨_, rfl, ?_⟩;show (jL (iu ls)).length <= _;rw [gN]; exact LV (oM (λl hm=>(hr l hm).1) (by omega)) (by decide)
def vQ {l : List PV} (h : Pg l) : fu [.tup l] = .ret (.str (mT l)):=by
  unfold fu hV
  cases h with
  | flat w a b r hw hr h1 h2=>
    show (aG _ _ [val (.tup (.str w :: .int a :: .int b :: r))]).bind bR = _;refine cy (gV (Gu w _ hw)) (fQ (bK ?_));refine (f9 (d7 _ _)).trans ((xy hr.w (by have:=hr.2.1; omega)).trans ?_);rcases hw with rfl | rfl
    · obtain ⟨c, rfl⟩:=h1 rfl; rfl
    · obtain ⟨c, v, rfl⟩:=h2 rfl; rfl
  | rule a b c ls hw hl hr=>
    show (aG _ _ [val (.tup [.str "rule", .int a, .int b, .str c, .tup (ls.map PV.tup)])]).bind bR = _;refine dP ((ik (jg (by simp only [au, d7, rZ, bJ, zS, M.dW, yi]; rfl))).trans (bK ?_));have rs:=Ek (λl hm=>(hr l hm).1) (LV hl (by decide));have e4 : jY [PV.str "rule", .int a, .int b, .str c, .tup (ls.map PV.tup)] 4 = some (.tup (ls.map PV.tup)):=JU _ _ _ _ _ _;have ad : dq (.tup (lM [PV.str "rule", .int a, .int b, .str c, .tup (ls.map PV.tup)] none (some 4))) (.tup [.str (dw ls)]) = .ret (.tup [.str "rule", .int a, .int b, .str c, .str (dw ls)]):=rfl;rw [lG];refine (f9 (y:=.tup [.str "rule", .int a, .int b, .str c, .str (dw ls)]) ?_).trans (xy (tX hw hl hr) (by simp));simp only [List.map, Ent.freeze, au, mO, aa, d7, rZ, jb, pF, bJ, e4, M.dW, rs, Hf, ad]
def Cc {ls : List (List PV)} (h : ∀ l ∈ ls, Rw l) (hl : ls.length <= 10) : cn [.tup (ls.map PV.tup)] = .ret (.str (dw ls)):=by
  unfold cn dN;show (aG _ _ [val (.tup (ls.map PV.tup)), un]).bind bR = _
  have g:=zm (l:=[]) (mi:=λρ=>((λρ=>ah ρ 0) ρ).bind ba) (te:=oB "str" dY (λ_=>M.ret (.str " ")) (aa (a8 (cC [none] (λρ=>((λρ=>ah ρ 0) ρ).bind ba) (aX 0) bS (λρ=>((aa (λρ=>ah ρ 0) (λ_=>M.ret [])) ρ).bind kP))) (λ_=>M.ret []))) (ρ:=[val (.tup (ls.map PV.tup)), un]) (ls:=ls) (g:=PV.tup) (f:=λl=>.str (eP l)) rfl (by omega) λl hm=>by
    have e:=sS (js:=[none]) (mi:=λρ=>((λρ=>ah ρ 0) ρ).bind ba) (bd:=aX 0) (tt:=bS) (te:=λρ=>((aa (λρ=>ah ρ 0) (λ_=>M.ret [])) ρ).bind kP) (ρ:=[val (.tup l)]) (l:=l) [.un] rfl (by have:=(h l hm).2.1; omega) rfl;have g:=mG (e.trans (vg (h l hm).w));refine (sA rfl ?_).trans (qB (h l hm).w (by have:=(h l hm).2.1; omega));rw [wJ, g]; rfl
  refine cy (ρ':=[val (.tup (ls.map PV.tup)), val (.lst (ls.map λl=>.str (eP l)))]) (by unfold bF; rw [g]; rfl) ?_;refine fQ (bK ?_);show ka _ _ _ [val (.tup (ls.map PV.tup)), val (.lst (ls.map λl=>.str (eP l)))] = _
  have t : bD (au (f6 true) (λρ=>ah ρ 1) (a8 (λρ=>((λ_=>M.ret []) ρ).bind bb))) [val (.tup (ls.map PV.tup)), val (.lst (ls.map λl=>.str (eP l)))] = .ret (!(ls.map λl=>PV.str (eP l)).isEmpty):=by
    refine jg ?_;simp only [au, d7, ip, rZ, a8, Jq, Jo]
  by_cases h0 : ls = []
  · subst h0;rw [tj t]; rfl
  · have : (!(ls.map λl=>PV.str (eP l)).isEmpty) = true:=by cases ls <;> simp_all
    rw [this] at t;rw [tf t];exact (sA rfl rfl).trans (sQ h hl h0)
def GG {f : List PV} (hf : f ≠ []) (y : PV) : (eP f ++ " ") ++ tx y = eP (f ++ [y]):=by
  refine j3 ?_;rw [vb, vb, blank];show (jL (gH f)).cps.toList ++ [32] ++ wl y = (jL (gH (f ++ [y]))).cps.toList;rw [cJ, cJ];unfold gH;rw [Mq, LJ, List.map_nil, uO _ _ _ (by simpa using hf)]
def vE {l : List PV} (h : Rw l) : (eP l).length <= 620:=by
  show (jL (gH l)).length <= _;rw [gN]; exact lF h.2.2 h.2.1
def adds {f : List PV} (hf : Rw f) {y : PV} (hy : Tw y) : au dq (au dq (λ_=>M.ret (.str (eP f))) (λ_=>M.ret (.str " "))) (λ_=>M.ret (.str (tx y))) [] = .ret (.str (eP (f ++ [y]))):=by
  have l1:=vE hf;have l2:=hy.len;have l3 : (" " : Str).length = 1:=by decide +kernel
  have l4 : (eP f ++ " ").length = (eP f).length + 1:=by
    rw [cR, vb, blank, cR]; simp
  simp only [au, rZ, dq];rw [Mk (by rw [l3]; omega)];simp only [rZ, dq];rw [Mk (by rw [l4]; omega), GG hf.1]
def Gn {f : List PV} {r : List PV} {y z : PV} {m : ak -> M PV} {ρ : ak} (hf : Rw f) (hy : Tw y) (e : ρ = [val z, val (.str (eP f))]) (hm : m ρ = .ret (.str (tx y))) : au dq (au dq (λρ=>ah ρ 1) (λ_=>M.ret (.str " "))) m ρ = .ret (.str (eP (f ++ [y]))):=by
  have:=adds hf hy;subst e;simp only [au, ip, d7, rZ, hm] at this ⊢;exact this
def yg {w c : Str} {a b : Int} {r : List PV} (h : Rw [.str w, .int a, .int b, .str c]) : bF 1 (oB "str" dY (λ_=>M.ret (.str " ")) (aa (a8 (λρ=>((aa (au bJ (λρ=>ah ρ 0) (λ_=>M.ret (.int 0))) (aa (λρ=>((aa (au bJ (λρ=>ah ρ 0) (λ_=>M.ret (.int 1))) (λ_=>M.ret [])) ρ).bind kP) (aa (λρ=>((aa (au bJ (λρ=>ah ρ 0) (λ_=>M.ret (.int 2))) (λ_=>M.ret [])) ρ).bind kP) (aa (au bJ (λρ=>ah ρ 0) (λ_=>M.ret (.int 3))) (λ_=>M.ret []))))) ρ).bind bb)) (λ_=>M.ret []))) [val (.tup (.str w :: .int a :: .int b :: .str c :: r)), un] = .ret (.nx [val (.tup (.str w :: .int a :: .int b :: .str c :: r)), val (.str (eP [.str w, .int a, .int b, .str c]))]):=by
  have s1:=str_is (h.2.2 (.int a) (by simp));have s2:=str_is (h.2.2 (.int b) (by simp));have j:=qB (l:=[.str w, .int a, .int b, .str c]) h.w (by simp)
  have e : a8 (λρ=>((aa (au bJ (λρ=>ah ρ 0) (λ_=>M.ret (.int 0))) (aa (λρ=>((aa (au bJ (λρ=>ah ρ 0) (λ_=>M.ret (.int 1))) (λ_=>M.ret [])) ρ).bind kP) (aa (λρ=>((aa (au bJ (λρ=>ah ρ 0) (λ_=>M.ret (.int 2))) (λ_=>M.ret [])) ρ).bind kP) (aa (au bJ (λρ=>ah ρ 0) (λ_=>M.ret (.int 3))) (λ_=>M.ret []))))) ρ).bind bb) [val (.tup (.str w :: .int a :: .int b :: .str c :: r)), un] = .ret (.lst [.str w, .str (tx (.int a)), .str (tx (.int b)), .str c]):=by
    simp only [a8, aa, au, d7, rZ, bJ, zS, K7, at2, Kj, M.dW, s1, s2, wa]
  unfold bF;rw [(sA rfl (by rw [wJ, e]; rfl)).trans j];rfl
def w_is (k w : Str) (r : List PV) (e : Ent) : bD (au (f6 false) (au bJ (λρ=>ah ρ 0) (λ_=>M.ret (.int 0))) (λ_=>M.ret (.str k))) [val (.tup (.str w :: r)), e] = .ret (w == k):=by
  refine jg ?_;simp only [au, d7, rZ, bJ, zS, M.dW, yi]
def Rw.BD {w c : Str} {a b : Int} {r : List PV} (h : Rw (.str w :: .int a :: .int b :: .str c :: r)) : Rw [.str w, .int a, .int b, .str c]:=⟨by simp, by simp, λy hy=>h.2.2 y (by simp at hy ⊢; rcases hy with h | h | h | h <;> simp [h])⟩
def nS {l : List PV} (h : Pg l) : bu [.tup l] = .ret (.str (mT l)):=by
  unfold bu dn
  cases h with
  | flat w a b r hw hr h1 h2=>
    rcases hw with rfl | rfl
    · obtain ⟨c, rfl⟩:=h1 rfl;show (aG _ _ [val (.tup [.str "look", .int a, .int b, .str c]), un]).bind bR = _;refine cy (yg hr.BD) ?_;exact dP ((ik (w_is _ _ _ _)).trans (bK rfl))
    · obtain ⟨c, v, rfl⟩:=h2 rfl;show (aG _ _ [val (.tup [.str "read", .int a, .int b, .str c, .int v]), un]).bind bR = _;refine cy (yg hr.BD) ?_;refine cy (gV (w_is _ _ _ _)) (fQ (bK ?_));have hv:=hr.2.2 (.int v) (by simp);refine (Gn (r:=[]) (y:=.int v) hr.BD (.inl hv) rfl ?_).trans rfl;rw [tf (w_is _ _ _ _)];show M.bind _ _ = _
      simp only [List.map, Ent.freeze, aa, au, d7, rZ, bJ, JU, M.dW, str_is hv]
  | rule a b c ls hw hl hr=>
    show (aG _ _ [val (.tup [.str "rule", .int a, .int b, .str c, .tup (ls.map PV.tup)]), un]).bind bR = _;refine cy (yg hw) ?_;refine cy (gV (w_is _ _ _ _)) (fQ (bK ?_));have ht:=tX hw hl hr (.str (dw ls)) (by simp);have rs:=Cc (λl hm=>(hr l hm).1) (LV hl (by decide));rw [lG];refine (Gn (r:=[]) (y:=.str (dw ls)) hw ht rfl ?_).trans rfl;rw [tj (w_is _ _ _ _)];show M.bind _ _ = _;simp only [List.map, Ent.freeze, aa, au, d7, rZ, bJ, JU, M.dW, rs];rfl
def qZ {ps : List (List Nat)} (h : (jn [32] ps).length <= 90000) : dY (.str " ") [.lst (ps.map λu=>PV.str (jL u))] = .ret (.str (jL (jn [32] ps))):=by
  have hp:=q0 32 [] ps
  have e : Txt.join " " (ps.map jL) = jL (jn [32] ps):=by
    refine j3 ?_;rw [wj, cJ, blank, Ms];exact congrArg (jn [32]) ((List.map_congr_left λu _=>cJ u).trans (List.map_id _))
  have es : ((ps.map jL).map (·.length)).sum = (ps.map List.length).sum:=by
    rw [Ms];exact congrArg List.sum (List.map_congr_left λu _=>gN u)
  have l3 : (" " : Str).length = 1:=by decide +kernel
  simp only [dY, strs_map, M.dW, rZ];rw [Mk (by rw [es, LA, l3]; omega), e]
def JP (A B : List PV) (h : A.length = 4) : lM (A ++ B) none (some 4) = A:=by
  unfold lM
  have e : HT.fC (A ++ B).length (A ++ B).length (some 4) = 4:=by
    simp only [HT.fC, L0, h]; first | omega | (simp; done) | (simp; omega)
  have e0 : HT.fC (A ++ B).length 0 none = 0:=rfl;rw [e, e0, List.drop_zero, Nat.sub_zero, <- h, List.take_left'];rfl
def JO (A B : List PV) (h : A.length = 4) : lM (A ++ B) (some 4) none = B:=by
  unfold lM
  have e : HT.fC (A ++ B).length 0 (some 4) = 4:=by
    simp only [HT.fC, L0, h]; first | omega | (simp; done) | (simp; omega)
  have e0 : HT.fC (A ++ B).length (A ++ B).length none = (A ++ B).length:=rfl;rw [e, e0, <- h, List.drop_left' rfl, L0, Nat.add_sub_cancel_left, List.take_length]
def tN {op : PV -> PV -> M PV} {a b : ak -> M PV} {ρ : ak} {x y : PV} (ha : a ρ = .ret x) (hb : b ρ = .ret y) : au op a b ρ = op x y:=by unfold au; rw [ha]; simp only [rZ]; rw [hb]; rfl
def Cd {l : List PV} (h : ∀ y ∈ l, Tw y) (hl : l.length <= 6) : (eP l).length <= 60006:=by
  show (jL (gH l)).length <= _;rw [gN]
  have:=m3 [32] 10000 (l.map wl) (λx hx=>by
    obtain ⟨y, hy, rfl⟩:=LM.mp hx;have:=(h y hy).len;rw [cR] at this
    exact this)
  simp only [LA, LN, List.length_nil] at this;unfold gH;omega
def Ap {l : List PV} (h : Pg l) : eu [.str (mT l)] = .ret (.tup l):=by
  unfold eu iK
  cases h with
  | flat w a b r hw hr h1 h2=>
    have ep : mT (.str w :: .int a :: .int b :: r) = eP (.str w :: .int a :: .int b :: r):=by
      rcases hw with rfl | rfl
      · obtain ⟨c, rfl⟩:=h1 rfl; rfl
      · obtain ⟨c, v, rfl⟩:=h2 rfl; rfl
    rw [ep]
    have s:=vn (z:=eP (.str w :: .int a :: .int b :: r)) (c:=" ") (ws:=(.str w :: .int a :: .int b :: r).map wl) (c0:=32) (tl:=[]) (ρ:=[val (.str (eP (.str w :: .int a :: .int b :: r))), un]) (mo:=λρ=>ah ρ 0) rfl C7 blank (λu hu=>by
      obtain ⟨y, hy, rfl⟩:=LM.mp hu
      exact qO (hr.2.2 y hy)) (by simp) (show (jL (gH _)).cps.toList = _ by rw [cJ]; rfl) (LV (vE hr) (by decide))
    have g:=mG s;show (aG _ _ [val (.str (eP (.str w :: .int a :: .int b :: r))), un]).bind bR = _;refine cy (ρ':=[val (.str (eP (.str w :: .int a :: .int b :: r))), val (.lst (((.str w :: .int a :: .int b :: r).map wl).map λu=>PV.str (jL u)))]) (by unfold bF; rw [g]; rfl) ?_
    have t : bD (au (f6 false) (au bJ (λρ=>ah ρ 1) (λ_=>M.ret (.int 0))) (λ_=>M.ret (.str "rule"))) [val (.str (eP (.str w :: .int a :: .int b :: r))), val (.lst (((.str w :: .int a :: .int b :: r).map wl).map λu=>PV.str (jL u)))] = .ret false:=by
      refine jg ?_;rw [LJ, LJ];simp only [au, d7, ip, rZ, bJ, zS, M.dW, CJ, tx, yi];rcases hw with rfl | rfl <;> rfl
    refine cy (gV t) (fQ (bK ?_))
    exact (f9 (d7 _ _)).trans (qA hr)
  | rule a b c ls hw hl hr=>
    rw [lG];obtain ⟨ps, p0, p1, p2⟩:=DF 32 (iu ls);obtain ⟨z, hz⟩ : ∃ z, z = eP [.str "rule", .int a, .int b, .str c, .str (dw ls)]:=⟨_, rfl⟩;have lz : z.length <= 60006:=hz ▸ Cd (tX hw hl hr) (by simp)
    have ez : z.cps.toList = jn [32] (([.str "rule", .int a, .int b, .str c] : List PV).map wl ++ ps):=by
      rw [hz];show (jL (gH _)).cps.toList = _;rw [cJ, <- Dc _ _ p0, p2];have : wl (.str (dw ls)) = iu ls:=cJ _;show jn [32] (([.str "rule", .int a, .int b, .str c] : List PV).map wl ++ [wl (.str (dw ls))]) = _;rw [this]
    rw [<- hz]
    have s:=vn (z:=z) (c:=" ") (ws:=([.str "rule", .int a, .int b, .str c] : List PV).map wl ++ ps) (c0:=32) (tl:=[]) (ρ:=[val (.str z), un]) (mo:=λρ=>ah ρ 0) rfl C7 blank (λu hu=>by
      rcases Mj.mp hu with hu | hu
      · obtain ⟨y, hy, rfl⟩:=LM.mp hu;exact qO (hw.2.2 y hy)
      · exact p1 u hu) (by simp) ez (by omega)
    rw [Mq] at s;obtain ⟨A, hA⟩ : ∃ A, A = (([.str "rule", .int a, .int b, .str c] : List PV).map wl).map λu=>PV.str (jL u):=⟨_, rfl⟩;obtain ⟨B, hB⟩ : ∃ B, B = ps.map λu=>PV.str (jL u):=⟨_, rfl⟩;rw [<- hA, <- hB] at s;have lA : A.length = 4:=by rw [hA]; rfl
    have g:=mG s;show (aG _ _ [val (.str z), un]).bind bR = _;refine cy (ρ':=[val (.str z), val (.lst (A ++ B))]) (by unfold bF; rw [g]; rfl) ?_
    have t : bD (au (f6 false) (au bJ (λρ=>ah ρ 1) (λ_=>M.ret (.int 0))) (λ_=>M.ret (.str "rule"))) [val (.str z), val (.lst (A ++ B))] = .ret true:=by
      refine jg ?_;rw [hA, LJ, LJ, List.cons_append];simp only [au, d7, ip, rZ, bJ, zS, M.dW, CJ, tx, yi];rfl
    have jA : dY (.str " ") [.lst A] = .ret (.str (eP [.str "rule", .int a, .int b, .str c])):=by
      rw [hA, qZ (by
        show (gH [.str "rule", .int a, .int b, .str c]).length <= _
        exact LV (lF hw.2.2 hw.2.1) (by decide))]
      rfl
    have jB : dY (.str " ") [.lst B] = .ret (.str (dw ls)):=by
      rw [hB, qZ (by rw [p2]; exact LV (oM (λl hm=>(hr l hm).1) (by omega)) (by decide)), p2];rfl
    have r1:=qA hw;have r2:=Ah hr (LV hl (by decide));refine dP ((ik t).trans (bK ?_))
    have b1 : oB "str" dY (λ_=>M.ret (.str " ")) (aa (mO pF (λρ=>ah ρ 1) (λ_=>M.ret none) (λρ=>((λ_=>M.ret (.int 4)) ρ).bind λy=>(jb y).bind λi=>M.ret (some i))) (λ_=>M.ret [])) [val (.str z), val (.lst (A ++ B))] = .ret (.str (eP [.str "rule", .int a, .int b, .str c])):=by
      refine (sA rfl ?_).trans jA;simp only [aa, mO, d7, ip, rZ, jb, pF, JP A B lA]
    have b2 : oB "str" dY (λ_=>M.ret (.str " ")) (aa (mO pF (λρ=>ah ρ 1) (λρ=>((λ_=>M.ret (.int 4)) ρ).bind λy=>(jb y).bind λi=>M.ret (some i)) (λ_=>M.ret none)) (λ_=>M.ret [])) [val (.str z), val (.lst (A ++ B))] = .ret (.str (dw ls)):=by
      refine (sA rfl ?_).trans jB;simp only [aa, mO, d7, ip, rZ, jb, pF, JO A B lA]
    have c1:=(f9 (F:=dU) b1).trans r1;have c2:=(f9 (F:=gx) b2).trans r2;exact (tN c1 ((f9 c2).trans (Hf _))).trans rfl
def vJ {h : PV} {l : List PV} {ps : List (Str × List PV)} {aB : Int} (U : lu h ps aB) (hp : Pg l) (hf : rP (.tup l)) (ok : iH ps aB (.tup l) = true) : bU [h, .str (mT l)] = .ret (.tup l):=by
  have e1:=Ap hp;have e2:=zb U hf;unfold bU hM;show (aG _ _ [val h, val (.str (mT l))]).bind bR = _;have c1:=f9 (ρ:=[val h, val (.str (mT l))]) (f:=λρ=>ah ρ 1) (F:=eu) (y:=.str (mT l)) rfl;rw [e1] at c1;refine cy (ρ':=[val h, val (.str (mT l))]) (gV ((o8 (lN (x:=true) (jg rfl)) (lN (x:=true) (jg ?_))).trans rfl)) (fQ (bK c1));rw [ok] at e2
  rw [show aa (λρ=>ah ρ 0) (aa (λρ=>((aa (λρ=>ah ρ 1) (λ_=>M.ret [])) ρ).bind eu) (λ_=>M.ret [])) [val h, val (.str (mT l))] = .ret [h, .tup l] by
    show M.bind _ _ = _;rw [show (λρ : ak=>ah ρ 0) [val h, val (.str (mT l))] = .ret h from rfl];simp only [rZ]
    rw [wJ, c1]; rfl]
  exact e2
def FE {l : List PV} {k : Nat} (hk : k < l.length) : rk (λi=>Bl (l.getD i .cB)) k = (l.map pI)[k]'(by simpa using hk):=by
  rw [List.getElem_map];unfold rk pI;dsimp only;rw [LR, Lx hk];rfl
def lZ (l : List PV) : (mv l).Perm l:=by
  unfold mv;have h:=(Array.perm_iff_toList_perm.mp (lY (rk λi=>Bl (l.getD i .cB)) l.length)).map λi=>l.getD i .cB
  have e : (List.toArray (List.range l.length)).toList.map (λi=>l.getD i .cB) = l:=by
    apply List.ext_getElem
    · simp
    · intro i h1 h2;simp [LR, Lx h2]
  rw [e] at h;exact h
def qI {l : List PV} (nd : (l.map pI).Nodup) : mv l = AJ l:=by
  unfold mv oS;by_cases c : l.length < 2
  · rw [Mk c]
    match l, c with
    | [], _=>rfl
    | [x], _=>rfl
  · rw [Ml c]
    obtain ⟨p, ep, hz, hp, hu⟩:=D9 (r:=rk λi=>Bl (l.getD i .cB)) (n:=l.length) (by omega) (λi j hi hj ne z=>by
      rw [FE hi, FE hj] at z;have pw:=List.pairwise_iff_getElem.mp nd;rcases Nat.lt_or_gt_of_ne ne with c | c
      · exact pw i j (by simpa using hi) (by simpa using hj) c z
      · exact pw j i (by simpa using hj) (by simpa using hi) c z.symm)
    rw [ep];exact (CF nd (λi _=>rfl) hz hp hu).symm
def Pl : Nat -> PV -> Prop
  | 0, _=>False
  | k + 1, y=>(∃ i, y = .int i) \/ (∃ x, y = .str x) \/ ∃ l, y = .tup l /\ ∀ z ∈ l, Pl k z
theorem Pl.up : ∀ {k : Nat} {y : PV}, Pl k y -> Pl (k + 1) y
  | 0, _, h=>h.elim
  | k + 1, y, h=>by
    rcases h with h | h | ⟨l, e, h⟩
    · exact .inl h
    · exact .inr (.inl h)
    · exact .inr (.inr ⟨l, e, λz hz=>(h z hz).up⟩)
theorem Dz {f : PV -> PV -> Option Bool} : ∀ (a b : List PV), (∀ y ∈ a, ∀ z ∈ b, ∃ c, f y z = some c /\ (c = true ↔ y = z)) -> ∃ c, eqs f a b = some c /\ (c = true ↔ a = b)
  | [], [], _=>⟨true, rfl, by simp⟩
  | [], _ :: _, _=>⟨false, rfl, by simp⟩
  | _ :: _, [], _=>⟨false, rfl, by simp⟩
  | y :: a, z :: b, h=>by
    obtain ⟨c, e, hc⟩:=h y Lz z Lz;obtain ⟨d, e', hd⟩:=Dz a b λy' hy z' hz=>h y' (LC _ hy) z' (LC _ hz);refine ⟨c && d, by simp only [eqs, e, e', Option.bind_some], ?_⟩;rw [Mb, hc, hd, List.cons.injEq]
theorem Gg : ∀ (k : Nat) (y z : PV), Pl k y -> Pl k z -> ∃ c, yj k y z = some c /\ (c = true ↔ y = z)
  | 0, _, _, h, _=>h.elim
  | k + 1, y, z, h, h'=>by
    rcases h with ⟨i, rfl⟩ | ⟨x, rfl⟩ | ⟨l, rfl, h⟩ <;> rcases h' with ⟨j, rfl⟩ | ⟨x', rfl⟩ | ⟨l', rfl, h'⟩
    · exact ⟨_, rfl, by simp [toV, rR]⟩
    · exact ⟨_, rfl, by simp [toV, rR]⟩
    · exact ⟨false, rfl, by simp⟩
    · exact ⟨_, rfl, by simp [toV, rR]⟩
    · exact ⟨_, rfl, by simp [toV, rR]⟩
    · exact ⟨false, rfl, by simp⟩
    · exact ⟨false, rfl, by simp⟩
    · exact ⟨false, rfl, by simp⟩
    · obtain ⟨c, e, hc⟩:=Dz (f:=yj k) l l' λy hy z hz=>Gg k y z (h y hy) (h' z hz);exact ⟨c, by simp only [yj]; exact e, by rw [hc]; simp⟩
def oQ {k : Nat} (i : Int) : Pl (k + 1) (.int i):=.inl ⟨i, rfl⟩
def qF {k : Nat} (x : Str) : Pl (k + 1) (.str x):=.inr (.inl ⟨x, rfl⟩)
def GZ {k : Nat} {lo hi : Int} {y : PV} (h : lx lo hi y = true) : Pl (k + 1) y:=by
  cases y <;> first | exact oQ _ | cases h
def Ct {k : Nat} {y : PV} (h : isNum y = true) : Pl (k + 1) y:=by
  cases y <;> first | exact oQ _ | cases h
def yZ {k : Nat} {y : PV} (h : isName y = true) : Pl (k + 1) y:=by
  cases y <;> first | exact qF _ | cases h
def yY {k : Nat} {ps : List (Str × List PV)} {y : PV} (h : j0 ps y = true) : Pl (k + 1) y:=by
  cases y <;> first | exact qF _ | cases h
def Et {k : Nat} {ps : List (Str × List PV)} {y : PV} (h : vq ps y = true) : Pl (k + 1) y:=by
  cases y <;> first | exact qF _ | cases h
def Cr {k : Nat} {a b : PV} (ha : Pl k a) (hb : Pl k b) : ∀ z ∈ [a, b], Pl k z:=λz hz=>by
  simp only [LK, LL, or_false] at hz;rcases hz with rfl | rfl
  · exact ha
  · exact hb
def ur {k : Nat} {a : PV} (ha : Pl k a) : ∀ z ∈ [a], Pl k z:=λz hz=>by
  rw [L3.mp hz];exact ha
def Eu {ps : List (Str × List PV)} {y : PV} (h : jo ps y = true) : Pl 2 y:=by
  match y, h with
  | .tup (.str w :: r), h=>
    refine .inr (.inr ⟨_, rfl, λz hz=>?_⟩);rcases LK.mp hz with rfl | hz
    · exact qF _
    have all : ∀ z ∈ r, Pl 1 z:=by
      have h' : vD ps w r = true:=h;unfold vD at h';split at h'
      · match r, h' with
        | [a, b], h'=>
          have ho : mm a b = true:=h';cases a <;> cases b <;> first | exact Cr (oQ _) (oQ _) | (exfalso; simp [mm, lx] at ho; done)
      · split at h'
        · match r, h' with
          | [a, b], h'=>
            simp only [Mb] at h';exact Cr (yZ h'.1) (Ct h'.2)
        · split at h'
          · match r, h' with
            | [a], h'=>exact ur (GZ h')
          · split at h'
            · match r, h' with
              | [a], h'=>exact ur (yY h')
            · simp only [Mb, List.isEmpty_iff] at h';rw [h'.2];exact λz hz=>absurd hz LL
    exact all z hz
def Cs {ps : List (Str × List PV)} {y : PV} (h : iW ps y = true) : Pl 3 y:=by
  match y, h with
  | .tup l, h=>
    have h' : (decide (l.length <= 6) && l.all (jo ps)) = true:=h;simp only [Mb, List.all_eq_true] at h';exact .inr (.inr ⟨l, rfl, λz hz=>Eu (h'.2 z hz)⟩)
def EA {ps : List (Str × List PV)} {aB : Int} {y : PV} (h : iH ps aB y = true) : ∃ (w : Str) (n m : Int) (r : List PV), y = .tup (.str w :: .int n :: .int m :: r) /\ 0 <= n /\ n <= 999999 /\ 0 <= m /\ m <= aB /\ Pl 4 y:=by
  match y, h with
  | .tup (.str w :: a :: b :: c :: r), h=>
    have h' : (lx 0 999999 a && lx 0 aB b && vR ps w c r) = true:=h;simp only [Mb] at h';obtain ⟨⟨ha, hb⟩, hc⟩:=h'
    have tl : Pl 3 c /\ ∀ z ∈ r, Pl 3 z:=by
      unfold vR at hc;split at hc
      · match r, hc with
        | [v], hc=>
          simp only [Mb] at hc;exact ⟨yZ hc.1, ur (Ct hc.2)⟩
      · split at hc
        · match r, hc with
          | [], hc=>exact ⟨Et hc, λz hz=>absurd hz LL⟩
        · split at hc
          · match r, hc with
            | [v], hc=>
              have hc' : (j0 ps c && iW ps v) = true:=hc;simp only [Mb] at hc';exact ⟨yY hc'.1, ur (Cs hc'.2)⟩
          · cases hc
    cases a <;> first | cases ha | skip
    rename_i n;cases b <;> first | cases hb | skip
    rename_i m;simp only [lx, Mb, MA] at ha hb;refine ⟨w, n, m, c :: r, rfl, ha.1, ha.2, hb.1, hb.2, .inr (.inr ⟨_, rfl, λz hz=>?_⟩)⟩;rcases LK.mp hz with rfl | hz
    · exact qF _
    rcases LK.mp hz with rfl | hz
    · exact oQ _
    rcases LK.mp hz with rfl | hz
    · exact oQ _
    rcases LK.mp hz with rfl | hz
    · exact tl.1
    · exact tl.2 z hz
def Dr : ∀ (zs : List Int) (ks : List Key), ((zs.map PV.int).foldl (λks z=>if qm ks (keyOf z) = true then ks else ks ++ [keyOf z]) ks).length <= ks.length + zs.length:=λzs ks=>by
  have:=m4 (zs.map PV.int) ks;simpa using this
def uP (ks : List Key) (k u : Key) : qm (ks ++ [k]) u = (qm ks u || decide (k = u)):=by unfold qm; rw [List.any_append]; simp
theorem wu : ∀ (zs : List Int) (ks : List Key), ((zs.map PV.int).foldl (λks z=>if qm ks (keyOf z) = true then ks else ks ++ [keyOf z]) ks).length = ks.length + zs.length ↔ zs.Nodup /\ ∀ z ∈ zs, qm ks (.inl z) = false
  | [], ks=>by simp
  | z :: zs, ks=>by
    rw [LJ, Mr];by_cases h : qm ks (keyOf (.int z)) = true
    · rw [Mk h];have q:=Dr zs ks;constructor
      · intro e; rw [LN] at e; omega
      · rintro ⟨_, h2⟩;have:=h2 z Lz;rw [show qm ks (.inl z) = true from h] at this;cases this
    · rw [Ml h];have q:=wu zs (ks ++ [keyOf (.int z)]);rw [L0, List.length_singleton] at q;rw [LN, show ks.length + (zs.length + 1) = ks.length + 1 + zs.length by omega, q, List.nodup_cons]
      have h' : qm ks (.inl z) = false:=by
        cases c : qm ks (.inl z) with
        | false=>rfl
        | true=>exact absurd c h
      constructor
      · rintro ⟨n1, n2⟩;refine ⟨⟨λhz=>?_, n1⟩, λu hu=>?_⟩
        · have:=n2 z hz;rw [uP] at this;simp [keyOf] at this
        · rcases LK.mp hu with rfl | hu
          · exact h'
          · have:=n2 u hu;rw [uP, Bool.or_eq_false_iff] at this;exact this.1
      · rintro ⟨⟨n1, n2⟩, n3⟩;refine ⟨n2, λu hu=>?_⟩;rw [uP, n3 u (LC _ hu), Bool.false_or];apply LZ;intro e;have : z = u:=by injection e
        exact n1 (this ▸ hu)
def HG (zs : List Int) : (dk (zs.map PV.int)).length = zs.length ↔ zs.Nodup:=by
  have q:=wu zs [];unfold dk;simp only [List.length_nil, Nat.zero_add] at q;rw [q];constructor
  · intro h; exact h.1
  · intro h; exact ⟨h, λz _=>rfl⟩
def uH (y : PV) : Int:=(Bl y).2
abbrev Ij (a b : PV) : Prop:=uH a ≠ uH b /\ pI a < pI b
def Pk (y : PV) : Prop:=∃ (w : Str) (n m : Int) (r : List PV), y = .tup (.str w :: .int n :: .int m :: r) /\ 0 <= n /\ n <= 999999 /\ Pl 4 y
def Pk.of {ps : List (Str × List PV)} {aB : Int} {y : PV} (h : iH ps aB y = true) : Pk y:=by
  obtain ⟨w, n, m, r, e, h1, h2, _, _, h3⟩:=EA h;exact ⟨w, n, m, r, e, h1, h2, h3⟩
def Pk.ok {y : PV} (h : Pk y) : FU y = true:=by
  obtain ⟨w, n, m, r, rfl, h1, h2, _⟩:=h;show (decide (0 <= n) && decide (n < 1000000)) = true;rw [Mp h1, Mp (by omega)];rfl
def Pk.one {y : PV} (h : Pk y) : bJ y (.int 1) = .ret (.int (uH y)):=by
  obtain ⟨w, n, m, r, rfl, _⟩:=h;simp only [bJ, K7, M.dW];rfl
def Pk.nu {y : PV} (h : Pk y) : 0 <= uH y /\ uH y <= 999999:=by
  obtain ⟨w, n, m, r, rfl, h1, h2, _⟩:=h;exact ⟨h1, h2⟩
def FJ {a b : PV} (ha : Pk a) (hb : Pk b) (h : uH a ≠ uH b) : pI a ≠ pI b:=by
  have:=ha.nu;have:=hb.nu;unfold pI;unfold uH at *;omega
def DL {l : List PV} (hp : ∀ y ∈ l, Pk y) : (l = mv l /\ (l.map uH).Nodup) ↔ l.Pairwise Ij:=by
  constructor
  · rintro ⟨e, nd⟩
    have nd' : (l.map pI).Nodup:=by
      unfold List.Nodup at nd ⊢;rw [List.pairwise_map] at nd ⊢;exact nd.imp_of_mem λ{a b} ha hb h=>FJ (hp a ha) (hp b hb) h
    have up:=ql l nd';rw [<- qI nd', <- e] at up;unfold List.Nodup at nd;rw [List.pairwise_map] at nd;exact nd.imp₂ (λa b h1 h2=>⟨h1, h2⟩) up
  · intro h
    have nd : (l.map uH).Nodup:=by
      unfold List.Nodup;rw [List.pairwise_map];exact h.imp λ{a b} q=>q.1
    have nd' : (l.map pI).Nodup:=by
      unfold List.Nodup;rw [List.pairwise_map];exact h.imp λ{a b} q=>by have:=q.2; omega
    exact ⟨by rw [qI nd', zq nd' (.refl _) (h.imp λ{a b} q=>q.2)], nd⟩
def Ka (y : PV) : Prop:=y ≠ .bH /\ ∀ l, y = .tup l -> l.length <= 40 /\ ∀ z ∈ l, rP z
open Classical in
def o9 (ps : List (Str × List PV)) (aB : Int) : PV -> Bool
  | .tup l=>l.all (iH ps aB) && decide (l.Pairwise Ij)
  | _=>false
def JW {te : ak -> M PV} {f : PV -> Bool} {h : PV} {l : List PV} (ht : ∀ y ∈ l, te [.val y, .val h] = .ret (.bl (f y))) : (qk (aX 0) bS te l [un, val h]).bind (λzs=>fN [.lst zs]) = .ret (.bl (l.all f)):=by
  rw [j8 (k:=0) (f:=λy=>.bl (f y)) (ρ:=[un, val h]) l [un, val h] (λ_=>rfl) (λy hy=>ht y hy)];simp only [rZ, fN, rM, M.dW];simp [List.all_map, Function.comp_def]
def A5 {l : List PV} (hp : ∀ y ∈ l, Pk y) (hl : l.length <= 40) : iV [.tup l] = .ret (.tup (mv l)):=by
  unfold iV jP;show (aP _ [val (.tup l)]).bind bR = _;refine fQ (bK ?_);have hc : l.length < 64 /\ ∀ z ∈ l, FU z = true:=⟨by omega, λz hz=>(hp z hz).ok⟩;simp only [List.map, Ent.freeze, aa, a8, d7, rZ, qr, sP, Mk hc];rfl
def Fq {l : List PV} (hp : ∀ y ∈ l, Pk y) : ∃ c, f6 false (.tup l) (.tup (mv l)) = .ret (.bl c) /\ (c = true ↔ l = mv l):=by
  have up : ∀ (j : Nat) (y : PV), Pl 4 y -> Pl (4 + j) y:=λj=>by
    induction j with
    | zero=>exact λy h=>h
    | succ j ih=>exact λy h=>(ih y h).up
  have e1 : ∀ m : List PV, (∀ y ∈ m, Pk y) -> Pl 20 (.tup m):=λm hm=>.inr (.inr ⟨m, rfl, λz hz=>by
    obtain ⟨_, _, _, _, _, _, _, q⟩:=hm z hz
    exact up 15 z q⟩)
  obtain ⟨c, e, hc⟩:=Gg 20 (.tup l) (.tup (mv l)) (e1 l hp) (e1 _ λy hy=>hp y ((lZ l).mem_iff.mp hy));refine ⟨c, ?_, by rw [hc]; simp⟩;unfold f6;rw [e];simp [M.dW]
def K0 (a b : PV) (r : ak) : ah (val a :: val b :: r) 1 = .ret b:=rfl
def Lq {ps : List (Str × List PV)} {aB : Int} {l : List PV} (g : l.all (iH ps aB) = true) : ∀ y ∈ l, Pk y:=λy hy=>Pk.of (List.all_eq_true.mp g y hy)
def AL {h y : PV} {ps : List (Str × List PV)} {aB : Int} (U : lu h ps aB) (hy : Ka y) : fJ [h, y] = .ret (.bl (o9 ps aB y)):=by
  unfold fJ jO;show (aG _ _ [val h, val y]).bind bR = _
  cases y with
  | bH=>exact absurd rfl hy.1
  | tup l=>
    obtain ⟨hl, hf⟩:=hy.2 l rfl;have c' : l.length <= 100000:=by omega
    have c4 : l.length <= 4000:=by omega
    have q:=JW (h:=h) (f:=iH ps aB) (l:=l) (te:=λρ=>((aa (λρ=>ah ρ 1) (aa (λρ=>ah ρ 0) (λ_=>M.ret []))) ρ).bind dO) (λy hy'=>by simp [aa, ah, zb U (hf y hy')]);have t1 : cQ (bD (λρ=>((λρ=>ah ρ 1) ρ).bind (fj "tuple"))) [val h, val (.tup l)] = .ret false:=by simp [cQ, bD, ah, fj, inst, nC, M.dW]
    have t2:=lN (ρ:=[val h, val (.tup l)]) (a:=bD (λρ=>((aa (a8 (cC [none, some 0] (λρ=>((λρ=>ah ρ 1) ρ).bind ba) (aX 0) bS (λρ=>((aa (λρ=>ah ρ 1) (aa (λρ=>ah ρ 0) (λ_=>M.ret []))) ρ).bind dO))) (λ_=>M.ret [])) ρ).bind fN)) (x:=l.all (iH ps aB)) (by
      have ec : f7 [none, some 0] [val h, val (.tup l)] = [un, val h]:=rfl;simp only [aa, rZ, M.bZ] at q
      simp only [bD, aa, a8, cC, K0, rZ, ba, Mk c', ec, M.bZ, q])
    show _ = M.ret (PV.bl (l.all (iH ps aB) && _))
    cases g : l.all (iH ps aB) with
    | false=>
      rw [g] at t2
      exact dP ((ik ((o8 t1 t2).trans rfl)).trans (bK rfl))
    | true=>
      rw [g] at t2;refine cy (ρ':=[val h, val (.tup l)]) (gV ((o8 t1 t2).trans rfl)) (fQ (bK ?_));have hp:=Lq g;obtain ⟨c, ec, hc⟩:=Fq hp;rw [Bool.true_and]
      have q2:=j8 (k:=0) (te:=λρ=>((au bJ (λρ=>ah ρ 0) (λ_=>M.ret (.int 1))) ρ).bind C8) (f:=λy=>.int (uH y)) (ρ:=[un]) l [un] (λ_=>rfl) (λy hy=>by
        simp [au, ah, (hp y hy).one, C8])
      have e2 : f7 [none] [val h, val (.tup l)] = [un]:=rfl;refine (v_and (x:=c) (y:=decide (l.map uH).Nodup) ?_ λ_=>?_).trans ?_
      · simp only [au, aa, List.map, Ent.freeze, K0, rZ, A5 hp hl, ec]
      · simp only [au, CV, List.map, Ent.freeze, aa, K0, rZ, ba, Mk c', e2];simp only [au, rZ] at q2;rw [q2];simp only [Mk c4, rZ, mZ, eV, Gi];congr 2;have z:=HG (l.map uH);rw [LA, Ms] at z;rw [Bool.eq_iff_iff, decide_eq_true_iff, <- z]; simp [Function.comp_def];omega
      · congr 2
        rw [Bool.eq_iff_iff, Mb, decide_eq_true_iff, decide_eq_true_iff, hc, DL hp]
  | _=>exact dP ((ik (by simp [cQ, kE, bD, ah, fj, inst, nC, M.dW])).trans (bK rfl))
def mL {i : Int} (h0 : -1000002 <= i) (h1 : i <= 1000002) : Th (.int i):=.inl ⟨i, rfl, by omega, by omega⟩
def xn {i : Int} (h0 : -(10 ^ 60) < i) (h1 : i < 10 ^ 60) : Th (.int i):=.inl ⟨i, rfl, h0, h1⟩
def gR {z : Str} (h : d5 z = true) : Th (.str z):=.inr ⟨z, rfl, h⟩
def Th.Dv {y : PV} (h : Th y) : sE y /\ p3 y /\ ve y:=by
  rcases h with ⟨i, rfl, _⟩ | ⟨z, rfl, hz⟩
  · exact ⟨Du i, ⟨λe=>(by cases e), λl e=>(by cases e)⟩, ⟨λe=>(by cases e), λl e=>(by cases e)⟩⟩
  · exact ⟨Dt z (LV (CI hz) (by decide)), ⟨λe=>(by cases e), λl e=>(by cases e)⟩, ⟨λe=>(by cases e), λl e=>(by cases e)⟩⟩
def uk {y : PV} (h : um y) : ∃ z, y = .str z /\ d5 z = true:=by
  rcases h with rfl | rfl | rfl | rfl <;> exact ⟨_, rfl, by decide +kernel⟩
def nK {l : List PV} (h0 : l ≠ []) (hl : l.length <= 10) (h : ∀ y ∈ l, Th y) : Rw l:=⟨h0, hl, h⟩
def bP {y : PV} {l : List PV} (h : Th y) (hl : ∀ y ∈ l, Th y) : ∀ x ∈ y :: l, Th x:=λx hx=>by
  rcases LK.mp hx with rfl | hx
  · exact h
  · exact hl x hx
def kO : ∀ x ∈ ([] : List PV), Th x:=λx hx=>by simp at hx
def FW {ps : List (Str × List PV)} {p : Str × List PV} (h : p ∈ ps) : j0 ps (.str p.1) = true:=by
  show (ps.any λq=>q.1 == p.1) = true;exact List.any_eq_true.mpr ⟨p, h, Mv _⟩
def GL {h z : PV} {ps : List (Str × List PV)} {aB : Int} (H : jW h ps aB) (hz : mJ ps z) : ∃ l, z = .tup l /\ Rn l /\ l.length <= 3 /\ jo ps z = true:=by
  obtain ⟨_, _, _, _, hn, _⟩:=H
  cases hz with
  | Gb a b h0 h1 h2=>
    refine ⟨_, rfl, ⟨nK (by simp) (by simp) (bP (gR (by decide +kernel)) (bP (mL (by omega) (by omega)) (bP (mL (by omega) (by omega)) kO))), _, _, rfl, by decide +kernel⟩, by simp, ?_⟩;show (lx 0 1000001 (.int a) && (lx 0 1000001 (.int b) && ltI (.int a) (.int b))) = true;simp only [lx, ltI]
    rw [Mp h0, Mp (by omega : a <= 1000001), Mp (by omega : 0 <= b), Mp h2, Mp h1]; rfl
  | least y n hy n0 n1=>
    obtain ⟨w, rfl, hw⟩:=uk hy;refine ⟨_, rfl, ⟨nK (by simp) (by simp) (bP (gR (by decide +kernel)) (bP (gR hw) (bP (xn n0 n1) kO))), _, _, rfl, by decide +kernel⟩, by simp, ?_⟩;show (d5 w && true) = true
    rw [hw]; rfl
  | most y n hy n0 n1=>
    obtain ⟨w, rfl, hw⟩:=uk hy;refine ⟨_, rfl, ⟨nK (by simp) (by simp) (bP (gR (by decide +kernel)) (bP (gR hw) (bP (xn n0 n1) kO))), _, _, rfl, by decide +kernel⟩, by simp, ?_⟩;show (d5 w && true) = true
    rw [hw]; rfl
  | looked n n0 n1=>
    refine ⟨_, rfl, ⟨nK (by simp) (by simp) (bP (gR (by decide +kernel)) (bP (mL (by omega) (by omega)) kO)), _, _, rfl, by decide +kernel⟩, by simp, ?_⟩;show lx 1 1000000 (.int n) = true;simp only [lx]
    rw [Mp n0, Mp n1]; rfl
  | Fx p hp=>
    exact ⟨_, rfl, ⟨nK (by simp) (by simp) (bP (gR (by decide +kernel)) (bP (gR (hn p hp)) kO)), _, _, rfl, by decide +kernel⟩, by simp, FW hp⟩
  | never=>exact ⟨_, rfl, ⟨nK (by simp) (by simp) (bP (gR (by decide +kernel)) kO), _, _, rfl, by decide +kernel⟩, by simp, rfl⟩
theorem uM {α : Type} {f : α -> PV} {P : α -> Prop} : ∀ (l : List PV), (∀ z ∈ l, ∃ q, z = f q /\ P q) -> ∃ qs : List α, l = qs.map f /\ ∀ q ∈ qs, P q
  | [], _=>⟨[], rfl, by simp⟩
  | z :: l, h=>by
    obtain ⟨q, rfl, hq⟩:=h z (by simp);obtain ⟨qs, rfl, hs⟩:=uM l (λz hz=>h z (by simp [hz]));refine ⟨q :: qs, rfl, λx hx=>?_⟩;rcases LK.mp hx with rfl | hx
    · exact hq
    · exact hs x hx
def Ei {h r : PV} {ps : List (Str × List PV)} {aB : Int} (H : jW h ps aB) (hr : yE ps r) : ∃ ls : List (List PV), r = .tup (ls.map PV.tup) /\ ls.length <= 6 /\ (∀ l ∈ ls, Rn l /\ l.length <= 3) /\ iW ps r = true:=by
  obtain ⟨l, rfl, hl, hz⟩:=hr
  obtain ⟨ls, rfl, hs⟩:=uM (f:=PV.tup) (P:=λq=>Rn q /\ q.length <= 3 /\ jo ps (.tup q) = true) l (λz hm=>by
    obtain ⟨q, rfl, h1, h2, h3⟩:=GL H (hz z hm)
    exact ⟨q, rfl, h1, h2, h3⟩)
  rw [LA] at hl;refine ⟨ls, rfl, hl, λl hm=>⟨(hs l hm).1, (hs l hm).2.1⟩, ?_⟩;show (decide ((ls.map PV.tup).length <= 6) && (ls.map PV.tup).all (jo ps)) = true;rw [LA, Mp hl, Bool.true_and]
  exact List.all_eq_true.mpr λz hz=>by
    obtain ⟨q, hq, rfl⟩:=LM.mp hz;exact (hs q hq).2.2
structure D0 (ps : List (Str × List PV)) (aB : Int) (l : List PV) : Prop where
  pg : Pg l
  Dv : rP (.tup l)
  ok : iH ps aB (.tup l) = true
  sm : Bc 7738 3 false (.tup l)
  len : (mT l).length <= 2000
def Fy {y : PV} (h : Th y) : Bc 82 0 false y:=by
  rcases h with ⟨i, rfl, i0, i1⟩ | ⟨z, rfl, hz⟩
  · exact (Ee (by omega) false).mono (by decide) (by decide)
  · exact Ed (k:=8) (CI hz) (λc hc=>Nat.lt_of_le_of_lt ((kU hz).2.2 c hc).2 (by decide)) false
def rq {l : List PV} (h : ∀ y ∈ l, Th y \/ ∃ ls : List (List PV), y = .tup (ls.map PV.tup) /\ ∀ q ∈ ls, Rn q) : rP (.tup l):=by
  refine ⟨λe=>(by cases e), λl' e z hz=>?_⟩;cases e;rcases h z hz with h | ⟨ls, rfl, hs⟩
  · exact h.Dv
  · refine ⟨wy _, JI λq hq=>?_, Ls λq hq=>?_⟩
    · obtain ⟨x, _, rfl⟩:=LM.mp hq;exact wy x
    · obtain ⟨x, hx, rfl⟩:=LM.mp hq;exact JI λy hy=>((hs x hx).1.2.2 y hy).Dv.1
def B4 {l : List PV} (hl : l.length <= 5) (h : ∀ y ∈ l, Th y \/ ∃ ls : List (List PV), y = .tup (ls.map PV.tup) /\ ls.length <= 6 /\ ∀ q ∈ ls, Rn q /\ q.length <= 3) : Bc 7738 3 false (.tup l):=by
  refine qe (c:=1545) (dp:=2) (n:=5) (λy hy=>?_) hl;rcases h y hy with h | ⟨ls, rfl, l6, hs⟩
  · exact (Fy h).mono (by decide) (by decide)
  · refine qe (c:=255) (dp:=1) (n:=6) (λq hq=>?_) (by rw [LA]; exact l6);obtain ⟨x, hx, rfl⟩:=LM.mp hq;exact qe (c:=82) (dp:=0) (n:=3) (λy hy=>Fy ((hs x hx).1.1.2.2 y hy)) (hs x hx).2
def uh {l : List PV} (h : ∀ y ∈ l, Th y) : (gH l).length <= 62 * l.length:=by
  have:=m3 [32] 61 (l.map wl) (λx hx=>by
    obtain ⟨y, hy, rfl⟩:=LM.mp hx
    exact (nE (h y hy)).1)
  simp only [LA, LN, List.length_nil] at this;unfold gH;omega
def Cb {ls : List (List PV)} (h : ∀ q ∈ ls, Rn q /\ q.length <= 3) (hl : ls.length <= 6) : (dw ls).length <= 1200:=by
  show (jL (iu ls)).length <= _;rw [gN];unfold iu;split
  · simp
  · have:=m3 [44, 32] 186 (ls.map gH) (λx hx=>by
      obtain ⟨y, hy, rfl⟩:=LM.mp hx;have:=uh (h y hy).1.1.2.2;have:=(h y hy).2
      omega)
    simp only [LA, LN, List.length_nil] at this;omega
def wx {l : List PV} (h : ∀ y ∈ l, Th y) (hl : l.length <= 10) : (eP l).length <= 2000:=by
  show (jL (gH l)).length <= _;rw [gN];have:=uh h;omega
def B9 {a b : Int} {c : Str} {ls : List (List PV)} (h : ∀ y ∈ ([.str "rule", .int a, .int b, .str c] : List PV), Th y) (hs : ∀ q ∈ ls, Rn q /\ q.length <= 3) (hl : ls.length <= 6) : (mT [.str "rule", .int a, .int b, .str c, .tup (ls.map PV.tup)]).length <= 2000:=by
  rw [lG];show (jL (jn [32] (([.str "rule", .int a, .int b, .str c] : List PV).map wl ++ [wl (.str (dw ls))]))).length <= _;rw [gN, uO _ _ _ (by simp)];have h1:=uh h;have h2:=Cb hs hl;unfold gH at h1;rw [cR] at h2;simp only [L0, LN, List.length_nil] at h1 ⊢;have : (wl (.str (dw ls))).length = (dw ls).cps.toList.length:=rfl;omega
def sZ {lo hi i : Int} (h0 : lo <= i) (h1 : i <= hi) : lx lo hi (.int i) = true:=by
  simp only [lx]; rw [Mp h0, Mp h1]; rfl
def IE {ps : List (Str × List PV)} {z : Str} (h : z ∈ dv ps) : vq ps (.str z) = true /\ ∃ p ∈ ps, z = p.1:=by
  unfold dv at h;obtain ⟨p, hp, rfl⟩:=LM.mp h;obtain ⟨h1, h2⟩:=List.mem_filter.mp hp;refine ⟨?_, p, h1, rfl⟩;show (ps.any λq=>wm q.2 && q.1 == p.1) = true;exact List.any_eq_true.mpr ⟨p, h1, by rw [h2, Mv]; rfl⟩
def G5 {h z : PV} {ps : List (Str × List PV)} {aB n : Int} (U : lu h ps aB) (n0 : 0 <= n) (n1 : n <= 999999) (hz : pY ps aB n z) : ∃ l, z = .tup l /\ D0 ps aB l:=by
  have H:=U.1;obtain ⟨_, _, _, _, hn, d0, d1⟩:=U.1;have tn : Th (.int n):=mL (by omega) (by omega)
  cases hz with
  | look m z m0 m1 hs=>
    obtain ⟨hs, p, hp, rfl⟩:=IE hs;have ht : ∀ y ∈ ([.str "look", .int n, .int m, .str p.1] : List PV), Th y:=bP (gR (by decide +kernel)) (bP tn (bP (mL (by omega) (by omega)) (bP (gR (hn p hp)) kO)));refine ⟨_, rfl, .flat _ _ _ _ (.inl rfl) (nK (by simp) (by simp) ht) (λ_=>⟨_, rfl⟩) (λe=>absurd e (by decide +kernel)), rq (λy hy=>.inl (ht y hy)), ?_, B4 (by simp) (λy hy=>.inl (ht y hy)), wx ht (by simp)⟩;show (lx 0 999999 (.int n) && lx 0 aB (.int m) && vq ps (.str p.1)) = true
    rw [sZ n0 n1, sZ m0 m1, hs]; rfl
  | rule m p r m0 m1 hp hr=>
    obtain ⟨ls, rfl, hl, hq, ok⟩:=Ei H hr;have ht : ∀ y ∈ ([.str "rule", .int n, .int m, .str p.1] : List PV), Th y:=bP (gR (by decide +kernel)) (bP tn (bP (mL (by omega) (by omega)) (bP (gR (hn p hp)) kO)))
    have hc : ∀ y ∈ ([.str "rule", .int n, .int m, .str p.1, .tup (ls.map PV.tup)] : List PV), Th y \/ ∃ ls : List (List PV), y = .tup (ls.map PV.tup) /\ ls.length <= 6 /\ ∀ q ∈ ls, Rn q /\ q.length <= 3:=λy hy=>by
      have hy : y ∈ ([.str "rule", .int n, .int m, .str p.1] : List PV) ++ [.tup (ls.map PV.tup)]:=hy;rcases Mj.mp hy with hy | hy
      · exact .inl (ht y hy)
      · exact .inr ⟨ls, L3.mp hy, hl, hq⟩
    refine ⟨_, rfl, .rule _ _ _ _ (nK (by simp) (by simp) ht) hl (λl hm=>(hq l hm).1), rq (λy hy=>(hc y hy).imp id λ⟨ls, e, _, h⟩=>⟨ls, e, λq hm=>(h q hm).1⟩), ?_, B4 (by simp) hc, B9 ht hq hl⟩;show (lx 0 999999 (.int n) && lx 0 aB (.int m) && (j0 ps (.str p.1) && iW ps (.tup (ls.map PV.tup)))) = true
    rw [sZ n0 n1, sZ m0 m1, FW hp, ok]; rfl
  | read m y v m0 m1 hy v0 v1=>
    obtain ⟨w, rfl, hw⟩:=uk hy;have ht : ∀ y ∈ ([.str "read", .int n, .int m, .str w, .int v] : List PV), Th y:=bP (gR (by decide +kernel)) (bP tn (bP (mL (by omega) (by omega)) (bP (gR hw) (bP (xn v0 v1) kO))));refine ⟨_, rfl, .flat _ _ _ _ (.inr rfl) (nK (by simp) (by simp) ht) (λe=>absurd e (by decide +kernel)) (λ_=>⟨_, _, rfl⟩), rq (λy hy=>.inl (ht y hy)), ?_, B4 (by simp) (λy hy=>.inl (ht y hy)), wx ht (by simp)⟩;show (lx 0 999999 (.int n) && lx 0 aB (.int m) && (d5 w && true)) = true;rw [sZ n0 n1, sZ m0 m1, hw]; rfl
def pL (q : List PV) : List Nat:=(mT q).cps.toList
def je (bs : List (List PV)) : Str:=jL (jn [10] (bs.map pL))
def nl : ("\n" : Str).cps.toList = [10]:=by decide +kernel
def Jy : Builtin.Str.strKind "\n" = 1:=by decide +kernel
theorem C9 {s x : List Nat} (h : x ≠ []) : ∀ (r : List (List Nat)), jn s (x :: r) ≠ []
  | []=>h
  | y :: r=>λe=>by
    have e : x ++ s ++ jn s (y :: r) = []:=e;rw [List.append_eq_nil_iff, List.append_eq_nil_iff] at e;exact h e.1.1
def yQ {l : List PV} (h : ∀ y ∈ l, Th y) {c : Nat} (hc : c ∈ gH l) : 32 <= c:=by
  rcases wk hc with h1 | ⟨x, hx, h1⟩
  · rw [L3.mp h1]; decide
  · obtain ⟨y, hy, rfl⟩:=LM.mp hx;have:=(nE (h y hy)).2.2 c h1;omega
def Ca {ls : List (List PV)} (h : ∀ q ∈ ls, Rn q) {c : Nat} (hc : c ∈ iu ls) : 32 <= c:=by
  unfold iu at hc;split at hc
  · rw [L3.mp hc]; decide
  · rcases wk hc with h1 | ⟨x, hx, h1⟩
    · simp only [LK, LL, or_false] at h1;rcases h1 with rfl | rfl <;> decide
    · obtain ⟨y, hy, rfl⟩:=LM.mp hx;exact yQ (h y hy).1.2.2 h1
def FR {l : List PV} (h : Pg l) : pL l ≠ [] /\ ∀ c ∈ pL l, 32 <= c:=by
  cases h with
  | flat w a b r hw hr h1 h2=>
    have e : pL (.str w :: .int a :: .int b :: r) = gH (.str w :: .int a :: .int b :: r):=by
      unfold pL;rcases hw with rfl | rfl
      · obtain ⟨c, rfl⟩:=h1 rfl; exact cJ _
      · obtain ⟨c, v, rfl⟩:=h2 rfl; exact cJ _
    rw [e]
    exact ⟨C9 (nE (hr.2.2 _ (by simp))).2.1 _, λc hc=>yQ hr.2.2 hc⟩
  | rule a b c ls hr hl hs=>
    have e : pL [.str "rule", .int a, .int b, .str c, .tup (ls.map PV.tup)] = gH [.str "rule", .int a, .int b, .str c, .str (dw ls)]:=by
      unfold pL;rw [lG]; exact cJ _
    rw [e];refine ⟨C9 (nE (hr.2.2 _ (by simp))).2.1 _, λd hd=>?_⟩;rcases wk hd with h1 | ⟨x, hx, h1⟩
    · rw [L3.mp h1]; decide
    · obtain ⟨y, hy, rfl⟩:=LM.mp hx;have hy : y ∈ ([.str "rule", .int a, .int b, .str c] : List PV) ++ [.str (dw ls)]:=hy;rcases Mj.mp hy with hy | hy
      · have:=(nE (hr.2.2 y hy)).2.2 d h1;omega
      · rw [L3.mp hy] at h1;have e : wl (.str (dw ls)) = iu ls:=cJ _;rw [e] at h1;exact Ca hs h1
section
variable {ps : List (Str × List PV)} {aB : Int} {bs : List (List PV)} {h : PV}
def uZ {mi : ak -> M (List PV)} {te : ak -> M PV} {ρ : ak} (hm : mi ρ = .ret (bs.map PV.tup)) (hb : ∀ q ∈ bs, D0 ps aB q) (hl : bs.length <= 30) (ht : ∀ q ∈ bs, te [.val (.tup q)] = .ret (.str (mT q))) :
    oB "str" dY (λ_=>M.ret (.str "\n")) (aa (a8 (cC [none] mi (aX 0) bS te)) (λ_=>M.ret [])) ρ = .ret (.str (je bs)):=by
  have g:=zm (l:=[]) hm (by omega) ht;have c : aa (a8 (cC [none] mi (aX 0) bS te)) (λ_=>M.ret []) ρ = .ret [.lst (bs.map λq=>.str (mT q))]:=by rw [wJ, g]; rfl
  refine Eq.trans (sA (op:=dY) (x:="\n") (mo:=λ_=>M.ret (.str "\n")) rfl c) ?_;have j:=uN "\n" mT hl (λq hq=>LV (hb q hq).len (by decide)) (by decide);rw [nl] at j;exact j
def wQ (hb : ∀ q ∈ bs, D0 ps aB q) (hl : bs.length <= 30) : eE [.tup (bs.map PV.tup)] = .ret (.str (je bs)):=by
  unfold eE h8;show (aP _ [val (.tup (bs.map PV.tup))]).bind bR = _;exact fQ (bK (uZ rfl hb hl λq hq=>(f9 (d7 _ _)).trans (vQ (hb q hq).pg)))
def pH (U : lu h ps aB) (hb : ∀ q ∈ bs, D0 ps aB q) (hl : bs.length <= 30) : ic [h, .str (je bs)] = .ret (if o9 ps aB (.tup (bs.map PV.tup)) = true then some (.tup (bs.map PV.tup)) else none):=by
  have st2 : bF 2 (ka (bD (au (f6 true) (λρ=>ah ρ 1) (λ_=>M.ret (.str "")))) (a8 (B0 (λρ=>ah ρ 1) (aa (λ_=>M.ret (.str "\n")) (λ_=>M.ret [])))) (a8 (λρ=>((λ_=>M.ret []) ρ).bind bb))) [val h, val (.str (je bs)), un, un] = .ret (.nx [val h, val (.str (je bs)), val (.lst (bs.map λq=>.str (mT q))), un]):=by
    have ne : bD (au (f6 true) (λρ=>ah ρ 1) (λ_=>M.ret (.str ""))) [val h, val (.str (je bs)), un, un] = .ret (!(je bs == "")):=jg ((tN rfl rfl).trans (Jn _ _))
    have bq : (je bs == "") = bs.isEmpty:=by
      rw [str_beq];unfold je;rw [cJ]
      cases bs with
      | nil=>rfl
      | cons q r=>
        have:=C9 (s:=[10]) (FR (hb q (by simp)).pg).1 (r.map pL);show (jn [10] (pL q :: r.map pL) == []) = false;exact beq_eq_false_iff_ne.mpr this
    rw [bq] at ne;unfold bF
    cases bs with
    | nil=>rw [tj ne]; rfl
    | cons q r=>
      have s:=vn (z:=je (q :: r)) (c:="\n") (ws:=(q :: r).map pL) (c0:=10) (tl:=[]) (ρ:=[val h, val (.str (je (q :: r))), un, un]) (mo:=λρ=>ah ρ 1) rfl Jy nl (λu hu hc=>by
        obtain ⟨y, hy, rfl⟩:=LM.mp hu;have:=(FR (hb y hy).pg).2 10 hc
        omega) (by simp) (cJ _) (by
        unfold je;rw [gN]
        have:=m3 [10] 2000 ((q :: r).map pL) (λx hx=>by
          obtain ⟨y, hy, rfl⟩:=LM.mp hx;have:=(hb y hy).len;rw [cR] at this
          exact this)
        simp only [LA, LN, List.length_nil] at this hl
        omega)
      rw [tf ne, mG s, Ms]
      have e : ((λu=>PV.str (jL u)) ∘ pL) = λq=>PV.str (mT q):=by
        funext q;show PV.str (jL (mT q).cps.toList) = _;rw [qi]
      rw [e]; rfl
  have st3 : bF 3 (λρ=>((aa (a8 (cC [none, some 0] (λρ=>((λρ=>ah ρ 2) ρ).bind ba) (aX 0) bS (λρ=>((aa (λρ=>ah ρ 1) (aa (λρ=>ah ρ 0) (λ_=>M.ret []))) ρ).bind bU))) (λ_=>M.ret [])) ρ).bind oG) [val h, val (.str (je bs)), val (.lst (bs.map λq=>.str (mT q))), un] = .ret (.nx [val h, val (.str (je bs)), val (.lst (bs.map λq=>.str (mT q))), val (.tup (bs.map PV.tup))]):=by
    have e:=sS (js:=[none, some 0]) (mi:=λρ=>((λρ=>ah ρ 2) ρ).bind ba) (bd:=aX 0) (tt:=bS) (te:=λρ=>((aa (λρ=>ah ρ 1) (aa (λρ=>ah ρ 0) (λ_=>M.ret []))) ρ).bind bU) (ρ:=[val h, val (.str (je bs)), val (.lst (bs.map λq=>.str (mT q))), un]) (l:=bs.map λq=>.str (mT q)) [.un, .val h] rfl (by rw [LA]; omega) rfl;have k:=yc (k:=0) (te:=λρ=>((aa (λρ=>ah ρ 1) (aa (λρ=>ah ρ 0) (λ_=>M.ret []))) ρ).bind bU) (g:=λq=>.str (mT q)) (f:=PV.tup) (ρ:=[.un, .val h]) bs [.un, .val h] (λ_=>rfl) λq hq=>(congrArg (λm : M (List PV)=>m.bind bU) (show aa (λρ=>ah ρ 1) (aa (λρ=>ah ρ 0) (λ_=>M.ret [])) [val (.str (mT q)), val h] = .ret [h, .str (mT q)] from rfl)).trans (vJ U (hb q hq).pg (hb q hq).Dv (hb q hq).ok);unfold bF;exact (congrArg (λm : M PV=>m.bind λy=>M.ret (Fl.nx ([val h, val (.str (je bs)), val (.lst (bs.map λq=>.str (mT q))), un].set 3 (val y)))) (f9 (F:=oG) (mG (e.trans k)))).trans rfl
  have ib:=AL U (y:=.tup (bs.map PV.tup)) ⟨λe=>(by cases e), λl e=>(by
    cases e;refine ⟨by rw [LA]; omega, λz hz=>?_⟩;obtain ⟨q, hq, rfl⟩:=LM.mp hz
    exact (hb q hq).Dv)⟩
  unfold ic fnX;rw [Mk (show [h, PV.str (je bs)].length = 2 from rfl), show br 4 [h, PV.str (je bs)] = [val h, val (.str (je bs)), un, un] from rfl]
  have eA : iy [val h, val (.str (je bs)), un, un] = .ret (.nx [val h, val (.str (je bs)), val (.lst (bs.map λq=>.str (mT q))), val (.tup (bs.map PV.tup))]):=by
    unfold iy;exact BX (gV (lN (x:=true) (jg rfl))) (BX st2 (BX st3 rfl))
  rw [eA]
  have ec : gq [val h, val (.str (je bs)), val (.lst (bs.map λq=>.str (mT q))), val (.tup (bs.map PV.tup))] = .ret (!(o9 ps aB (.tup (bs.map PV.tup)))):=by
    unfold gq;exact lN (jg ib)
  show (gq _).bind _ = _;rw [ec];cases o9 ps aB (.tup (bs.map PV.tup)) <;> rfl
end
def FP {ps : List (Str × List PV)} {aB : Int} {q : List PV} (h : D0 ps aB q) : Pk (.tup q):=Pk.of h.ok
def vo {ps : List (Str × List PV)} {aB : Int} {l : List PV} (hp : ∀ z ∈ l, ∃ q, z = .tup q /\ D0 ps aB q) (nd : (l.map uH).Nodup) : (mv l).Pairwise Ij:=by
  have hk : ∀ z ∈ l, Pk z:=λz hz=>by
    obtain ⟨q, rfl, h⟩:=hp z hz;exact FP h
  have pm:=lZ l;have nd1 : ((mv l).map uH).Nodup:=(pm.map uH).nodup_iff.mpr nd
  have nd' : (l.map pI).Nodup:=by
    unfold List.Nodup at nd ⊢;rw [List.pairwise_map] at nd ⊢;exact nd.imp_of_mem λ{a b} ha hb h=>FJ (hk a ha) (hk b hb) h
  have up:=ql l nd';rw [<- qI nd'] at up;unfold List.Nodup at nd1;rw [List.pairwise_map] at nd1;exact nd1.imp₂ (λa b h1 h2=>⟨h1, h2⟩) up
def Fp {ps : List (Str × List PV)} {aB : Int} {bs : List (List PV)} (hb : ∀ q ∈ bs, D0 ps aB q) (up : (bs.map PV.tup).Pairwise Ij) : o9 ps aB (.tup (bs.map PV.tup)) = true:=by
  show (_ && decide _) = true;rw [Mp up, Bool.and_true, List.all_eq_true];intro z hz;obtain ⟨q, hq, rfl⟩:=LM.mp hz;exact (hb q hq).ok
def xi {ps : List (Str × List PV)} {aB : Int} {a b : List (List PV)} (ha : a ≠ []) (hb : b ≠ []) (up : ((a ++ b).map PV.tup).Pairwise Ij) : o9 ps aB (.tup ((b ++ a).map PV.tup)) = false:=by
  refine Bool.eq_false_iff.mpr λe=>?_;have e : (_ && decide (((b ++ a).map PV.tup).Pairwise Ij)) = true:=e;rw [Mb, decide_eq_true_iff] at e;have h1:=e.2;rw [Mq, List.pairwise_append] at up h1;obtain ⟨x, hx⟩:=List.exists_mem_of_ne_nil a ha;obtain ⟨y, hy⟩:=List.exists_mem_of_ne_nil b hb;have p:=up.2.2 _ (L5 hx) _ (L5 (f:=PV.tup) hy);have q:=h1.2.2 _ (L5 (f:=PV.tup) hy) _ (L5 (f:=PV.tup) hx);have:=p.2;have:=q.2;omega
def KI {ps : List (Str × List PV)} {aB n : Int} {z : PV} (h : pY ps aB n z) : uH z = n:=by cases h <;> rfl
def EN {ps : List (Str × List PV)} {aB : Int} {l : List PV} {ns : List Int} (h : kx ps aB l ns) : l.map uH = ns:=by
  obtain ⟨e, _, _, h4⟩:=h;refine List.ext_getElem (by rw [LA, e]) λi h1 h2=>?_;rw [List.getElem_map];exact KI (h4 i _ _ (Lx h2) (Lx (by simpa using h1)))
def HR {h : PV} {ps : List (Str × List PV)} {aB : Int} {l : List PV} {ns : List Int} (U : lu h ps aB) (hp : kx ps aB l ns) : ∀ z ∈ l, ∃ q, z = .tup q /\ D0 ps aB q:=λz hz=>by
  obtain ⟨i, hi, rfl⟩:=List.getElem_of_mem hz;have hn : i < ns.length:=by rw [hp.1]; exact hi
  have nm:=hp.2.2.1 _ (Mg hn);exact G5 U nm.1 (by omega) (hp.2.2.2 i _ _ (Lx hn) (Lx hi))
def jH (l : List PV) (k : Nat) : lM l (some ((k : Nat) : Int)) none = l.drop k /\ lM l none (some ((k : Nat) : Int)) = l.take k:=by
  unfold lM;rw [HT.ug, HT.ug, HT.qz, HT.qz];refine ⟨?_, ?_⟩
  · have e : l.drop (min k l.length) = l.drop k:=by
      by_cases c : k <= l.length
      · rw [Nat.min_eq_left c]
      · rw [Nat.min_eq_right (by omega), List.drop_eq_nil_of_le (LH _), List.drop_eq_nil_of_le (by omega)]
    rw [e];exact List.take_of_length_le (by rw [List.length_drop]; omega)
  · rw [List.drop_zero, Nat.sub_zero];by_cases c : k <= l.length
    · rw [Nat.min_eq_left c]
    · rw [Nat.min_eq_right (by omega), List.take_of_length_le (LH _), List.take_of_length_le (by omega)]
def HK {a b : ak -> M PV} {ρ : ak} {x y : PV} (ha : a ρ = .ret x) (hb : b ρ = .ret y) : aa a (aa b (λ_=>M.ret [])) ρ = .ret [x, y]:=by
  show (a ρ).bind _ = _;rw [ha];show (aa b _ ρ).bind _ = _;rw [wJ, hb]; rfl
def Dn {y : PV} {e3 e4 e5 e6 e7 e8 e9 : Ent} : Gen (pX [un, val .bH, val y, e3, e4, e5, e6, e7, e8, e9]) 6000 (λf=>∃ e3 e4 e5 e6 e7 e8 e9, f = .nx [un, val .bH, val y, e3, e4, e5, e6, e7, e8, e9]):=by
  unfold pX;refine Gen.le (rj (c:=1000) (d:=5000) (I:=λρ=>∃ h ps aB, lu h ps aB /\ ρ = [un, val .bH, val y, val h, e4, e5, e6, e7, e8, e9]) ?_ ?_) (by decide)
  · simp only [bF, aa, d7, ip, rZ];refine Gen.le (Gen.bind Dm (d:=0) ?_) (by decide);rintro h ⟨ps, aB, U⟩;exact Gen.eq (y:=.nx _) rfl ⟨_, rfl, h, ps, aB, U, rfl⟩
  rintro _ ⟨h, ps, aB, U, rfl⟩;refine Gen.le (rj (c:=3000) (d:=2000) (I:=λρ=>∃ l ns, l.length <= 30 /\ kx ps aB l ns /\ ρ = [un, val .bH, val y, val h, val (.lst l), e5, e6, e7, e8, e9]) ?_ ?_) (by decide)
  · have pg : ∀ k : Int, 0 <= k -> k <= 30 -> Gen ((eD [.bH, h, .int k]).bind λy'=>M.ret (Fl.nx ([un, val .bH, val y, val h, e4, e5, e6, e7, e8, e9].set 4 (.val y')))) 2500 (λf=>∃ ρ, f = Fl.nx ρ /\ ∃ l ns, l.length <= 30 /\ kx ps aB l ns /\ ρ = [un, val .bH, val y, val h, val (.lst l), e5, e6, e7, e8, e9]):=λk k0 k1=>by
      refine Gen.le (Gen.bind (AX U (k:=k) k0 k1) (d:=0) ?_) (by omega);rintro _ ⟨l, ns, rfl, hl, hp⟩;exact Gen.eq (y:=.nx _) rfl ⟨_, rfl, l, ns, by omega, hp, rfl⟩
    simp only [bF, aa, ka, bD, au, d7, ip, rZ, ao, M.bZ];refine Gen.le (Gen.bind (Gen.draw (by omega) (by omega)) (d:=2999) ?_) (by decide);rintro _ ⟨d, rfl, d0, d1⟩
    have eq : f6 false (.int d) (.int 5) = .ret (.bl (decide (d = 5))):=by
      by_cases c : d = 5
      · subst c; rfl
      · rw [LZ c];show (M.dW (some (d == 5))).bind _ = _;rw [show (d == 5) = false from by simp [c]]; rfl
    rw [eq];simp only [rZ];by_cases c : d = 5
    · rw [Mk (Mp c)];simp only [rZ];exact Gen.le (pg 30 (by decide) (by decide)) (by decide)
    · rw [Ml (by simpa using c)];refine Gen.le (Gen.bind (Gen.draw (by omega) (by omega)) (d:=2500) ?_) (by decide);rintro _ ⟨k, rfl, k0, k1⟩;exact pg k k0 (by omega)
  rintro _ ⟨l, ns, hl, hp, rfl⟩;have hz:=HR U hp
  have hc : l.length < 64 /\ ∀ z ∈ l, FU z = true:=⟨by omega, λz hm=>by
    obtain ⟨q, rfl, h⟩:=hz z hm
    exact (FP h).ok⟩
  have nd : (l.map uH).Nodup:=by rw [EN hp]; exact hp.2.1
  have up:=vo hz nd;obtain ⟨bs, eb, hb⟩:=uM (f:=PV.tup) (P:=λq=>D0 ps aB q) (mv l) λz hm=>hz z ((lZ l).mem_iff.mp hm)
  have hbl : bs.length <= 30:=by
    have:=(lZ l).length_eq;rw [eb, LA] at this;omega
  refine gn (ρ':=[un, val .bH, val y, val h, val (.lst l), val (.tup (bs.map PV.tup)), e6, e7, e8, e9]) ?_ ?_
  · rw [<- eb];simp only [bF, aa, a8, d7, ip, rZ, qr, sP, Mk hc, oG];rfl
  rw [eb] at up;have t1 : ((aa (λρ=>ah ρ 5) (λ_=>M.ret [])) [un, val .bH, val y, val h, val (.lst l), val (.tup (bs.map PV.tup)), e6, e7, e8, e9]).bind eE = .ret (.str (je bs)):=(f9 rfl).trans (wQ hb hbl);have t2:=uZ (mi:=λρ=>((λρ=>ah ρ 5) ρ).bind ba) (te:=λρ=>((aa (λρ=>ah ρ 0) (λ_=>M.ret [])) ρ).bind bu) (ρ:=[un, val .bH, val y, val h, val (.lst l), val (.tup (bs.map PV.tup)), e6, e7, e8, e9]) rfl hb hbl λq hq=>(f9 (d7 _ _)).trans (nS (hb q hq).pg);refine gn (ρ':=[un, val .bH, val y, val h, val (.lst l), val (.tup (bs.map PV.tup)), val (.str (je bs)), val (.str (je bs)), e8, e9]) (by unfold ij; rw [HK t1 t2]; rfl) ?_
  have sm : Bc (30 * (7738 + 2) + 3) 4 false (.tup (bs.map PV.tup)):=qe (n:=30) (λz hz=>by
    obtain ⟨q, hq, rfl⟩:=LM.mp hz
    exact (hb q hq).sm) (by rw [LA]; exact hbl)
  obtain ⟨t, et⟩:=Ce sm (by decide) (by decide)
  have rb : df [h, .str (je bs)] = .ret (.tup (bs.map PV.tup)):=by
    unfold df Jm;rw [pH U hb hbl, Mk (Fp hb up)]; rfl
  refine gn (ρ':=[un, val .bH, val y, val h, val (.lst l), val (.tup (bs.map PV.tup)), val (.str (je bs)), val (.str (je bs)), e8, e9]) ?_ ?_
  · have c1 : ((aa (λρ=>ah ρ 3) (aa (λρ=>ah ρ 7) (λ_=>M.ret []))) [un, val .bH, val y, val h, val (.lst l), val (.tup (bs.map PV.tup)), val (.str (je bs)), val (.str (je bs)), e8, e9]).bind df = .ret (.tup (bs.map PV.tup)):=by
      rw [HK (x:=h) (y:=.str (je bs)) rfl rfl]; exact rb
    have a1:=(f9 (F:=pG) (f:=λρ=>((aa (λρ=>ah ρ 3) (aa (λρ=>ah ρ 7) (λ_=>M.ret []))) ρ).bind df) (ρ:=[un, val .bH, val y, val h, val (.lst l), val (.tup (bs.map PV.tup)), val (.str (je bs)), val (.str (je bs)), e8, e9]) c1).trans et;have a2:=(f9 (F:=pG) (f:=λρ=>ah ρ 5) (ρ:=[un, val .bH, val y, val h, val (.lst l), val (.tup (bs.map PV.tup)), val (.str (je bs)), val (.str (je bs)), e8, e9]) (y:=.tup (bs.map PV.tup)) rfl).trans et;have n1 : bD (au (f6 true) (λρ=>ah ρ 6) (λρ=>ah ρ 7)) [un, val .bH, val y, val h, val (.lst l), val (.tup (bs.map PV.tup)), val (.str (je bs)), val (.str (je bs)), e8, e9] = .ret false:=jg ((tN rfl rfl).trans (by rw [Jn, Mv]; rfl));refine gV ((o8 (x:=false) (lN (x:=true) (jg rfl)) ((o8 (x:=false) n1 (jg (x:=false) ((tN a1 a2).trans (by rw [Jn, Mv]; rfl)))).trans rfl)).trans rfl)
  refine Gen.le (rj (c:=1) (d:=0) (I:=λρ=>∃ k : Nat, 1 <= k /\ (1 < bs.length -> k < bs.length) /\ ρ = [un, val .bH, val y, val h, val (.lst l), val (.tup (bs.map PV.tup)), val (.str (je bs)), val (.str (je bs)), val (.int (k : Nat)), e9]) ?_ ?_) (by decide)
  · have em : CW [.int 1, .int ((bs.map PV.tup).length - 1)] = .ret (.int (if ((bs.map PV.tup).length : Int) - 1 > 1 then ((bs.map PV.tup).length : Int) - 1 else 1)):=rfl;have es : eU (.int ((bs.map PV.tup).length : Nat)) (.int 1) = .ret (.int (((bs.map PV.tup).length : Int) - 1)):=rfl;simp only [bF, au, aa, d7, ip, rZ, eV, es, em, ao, M.bZ];rw [LA];refine Gen.le (Gen.bind (Gen.draw (by split <;> omega) (by split <;> omega)) (d:=0) ?_) (by decide);rintro _ ⟨d, rfl, d0, d1⟩;refine Gen.eq (y:=.nx _) rfl ⟨_, rfl, (1 + d).toNat, by omega, λhb=>?_, ?_⟩
    · split at d1 <;> omega
    · have : ((1 + d).toNat : Int) = 1 + d:=by omega
      rw [this]; rfl
  rintro _ ⟨k, k1, kb, rfl⟩
  have hr : ∀ q ∈ bs.drop k ++ bs.take k, D0 ps aB q:=λq hq=>by
    rcases Mj.mp hq with hq | hq
    · exact hb q (List.mem_of_mem_drop hq)
    · exact hb q (List.mem_of_mem_take hq)
  have hrl : (bs.drop k ++ bs.take k).length <= 30:=by
    rw [L0, List.length_drop, List.length_take]; omega
  have mi : (λρ=>((au dq (mO pF (λρ=>ah ρ 5) (λρ=>((λρ=>ah ρ 8) ρ).bind λy=>(jb y).bind λi=>M.ret (some i)) (λ_=>M.ret none)) (mO pF (λρ=>ah ρ 5) (λ_=>M.ret none) (λρ=>((λρ=>ah ρ 8) ρ).bind λy=>(jb y).bind λi=>M.ret (some i)))) ρ).bind ba) [un, val .bH, val y, val h, val (.lst l), val (.tup (bs.map PV.tup)), val (.str (je bs)), val (.str (je bs)), val (.int (k : Nat)), e9] = .ret ((bs.drop k ++ bs.take k).map PV.tup):=by
    show M.bind (au dq _ _ _) ba = _
    rw [tN (x:=.tup ((bs.drop k).map PV.tup)) (y:=.tup ((bs.take k).map PV.tup)) (by
      show M.ret (PV.tup (lM _ _ _)) = _
      rw [(jH _ _).1, List.map_drop]) (by
      show M.ret (PV.tup (lM _ _ _)) = _
      rw [(jH _ _).2, List.map_take])]
    show M.bind (if _ then _ else _) _ = _;rw [Mk (by rw [LA, LA, List.length_drop, List.length_take]; omega), <- Mq];rfl
  have t3:=uZ (mi:=(λρ=>((au dq (mO pF (λρ=>ah ρ 5) (λρ=>((λρ=>ah ρ 8) ρ).bind λy=>(jb y).bind λi=>M.ret (some i)) (λ_=>M.ret none)) (mO pF (λρ=>ah ρ 5) (λ_=>M.ret none) (λρ=>((λρ=>ah ρ 8) ρ).bind λy=>(jb y).bind λi=>M.ret (some i)))) ρ).bind ba)) (ρ:=[un, val .bH, val y, val h, val (.lst l), val (.tup (bs.map PV.tup)), val (.str (je bs)), val (.str (je bs)), val (.int (k : Nat)), e9]) (te:=λρ=>((aa (λρ=>ah ρ 0) (λ_=>M.ret [])) ρ).bind bu) mi hr hrl λq hq=>(f9 (d7 _ _)).trans (nS (hr q hq).pg);refine gn (ρ':=[un, val .bH, val y, val h, val (.lst l), val (.tup (bs.map PV.tup)), val (.str (je bs)), val (.str (je bs)), val (.int (k : Nat)), val (.str (je (bs.drop k ++ bs.take k)))]) (by unfold bF; rw [t3]; rfl) ?_;refine Gen.eq (y:=.nx [un, val .bH, val y, val h, val (.lst l), val (.tup (bs.map PV.tup)), val (.str (je bs)), val (.str (je bs)), val (.int (k : Nat)), val (.str (je (bs.drop k ++ bs.take k)))]) ?_ ⟨_, _, _, _, _, _, _, rfl⟩;have cb : bD (au mH (λρ=>((aa (λρ=>ah ρ 5) (λ_=>M.ret [])) ρ).bind eV) (λ_=>M.ret (.int 1))) [un, val .bH, val y, val h, val (.lst l), val (.tup (bs.map PV.tup)), val (.str (je bs)), val (.str (je bs)), val (.int (k : Nat)), val (.str (je (bs.drop k ++ bs.take k)))] = .ret (decide ((1 : Int) < ((bs.map PV.tup).length : Nat))):=jg ((tN (x:=.int ((bs.map PV.tup).length : Nat)) (y:=.int 1) (f9 (y:=.tup (bs.map PV.tup)) rfl) rfl).trans rfl);refine (gV ((zM cb (y:=false) λhl=>?_).trans (by rw [Bool.and_false]))).trans rfl
  have hl : 1 < bs.length:=by
    have:=My hl;rw [LA] at this;omega
  have kl:=kb hl;refine lN (x:=true) (jg ?_);show M.bind (aa _ _ _) cU = _;rw [HK (x:=h) (y:=.str (je (bs.drop k ++ bs.take k))) rfl rfl];show cU _ = _;have nb:=xi (ps:=ps) (aB:=aB) (a:=bs.take k) (b:=bs.drop k) (by intro z; have:=congrArg List.length z; rw [List.length_take, List.length_nil] at this; omega) (by intro z; have:=congrArg List.length z; rw [List.length_drop, List.length_nil] at this; omega) (by rw [List.take_append_drop]; exact up);unfold cU CL;rw [pH U hr hrl, nb];rfl
def C2 : ∀ c : Nat, (6 : Int) <= c -> (c : Int) <= max 6 12 -> (aG (jG (aX 2) pX (eB 0 c)) vK ((List.replicate 10 un).set 1 (.val .bH))).wp 1000000 λf _=>f = .rt (.bl true):=λc c0 c1=>by
  have hlen : (eB 0 c).length = c:=by simp [eB]
  have g : Gen (aG (jG (aX 2) pX (eB 0 c)) vK ((List.replicate 10 un).set 1 (.val .bH))) 100000 (λf=>f = .rt (.bl true)):=by
    refine Gen.le (rj (c:=(eB 0 c).length * 6000) (d:=0) (I:=λρ=>∃ e2 e3 e4 e5 e6 e7 e8 e9, ρ = [un, val .bH, e2, e3, e4, e5, e6, e7, e8, e9]) ?_ ?_) (by rw [hlen]; omega)
    · refine Gen.JK (c:=6000) (Iv:=λρ=>∃ e2 e3 e4 e5 e6 e7 e8 e9, ρ = [un, val .bH, e2, e3, e4, e5, e6, e7, e8, e9]) _ _ ⟨_, _, _, _, _, _, _, _, rfl⟩ ?_;rintro y hy _ ⟨e2, e3, e4, e5, e6, e7, e8, e9, rfl⟩;exact Gen.mono Dn (LH _) λf ⟨a1, a2, a3, a4, a5, a6, a7, hf⟩=>⟨_, hf, _, _, _, _, _, _, _, _, rfl⟩
    · rintro _ ⟨e2, e3, e4, e5, e6, e7, e8, e9, rfl⟩;exact Gen.eq rfl rfl
  exact M.wp_mono (g.h 1000000 (by decide)) λf n h=>h.2
def all_mk {l : PySem.W.OpenLaw} {w : World} {K : Frag} {h : Heap} {mg : Str -> Option Value} {q : Program} {fa a_is_whole a_is_within a_is_name a_way_named a_is_way_name a_is_slope_name a_is_hours a_begins_with_text a_is_rule a_is_rules a_is_page a_book_of a_is_book a_are_figures a_thing_of a_row_of a_rows_of a_page_of a_read_page a_read_book a_row_text a_rows_text a_page_text a_book_text awbag awdraw awany awlabel awlabels awpace awhill awmoment awrule awrules awslopes awpage awpages awrules_text awpage_text awrefused a_law cb_book_of tb_book_of cb_law tb_law : Addr} {ti0 ti1 ti2 ti3 ti4 ti5 : Tok} (X : K.In h) (G : h.Ns mainGlobals mg) (hfa : mg "law" = some (.ref fa))
    {od0 an0 od1 an1 od2 an2 od3 an3 od4 an4 od5 an5 od6 an6 od7 an7 od8 an8 od9 an9 od10 an10 od11 an11 od12 an12 od13 an13 od14 an14 od15 an15 od16 an16 od17 an17 od18 an18 od19 an19 od20 an20 od21 an21 od22 an22 od23 an23 od24 an24 od25 an25 od26 an26 od27 an27 od28 an28 od29 an29 od30 an30 od31 an31 od32 an32 od33 an33 od34 an34 od35 an35 od36 an36 od37 an37 od38 an38 od39 an39 od40 an40 : Option Addr} {sl0 sl1 sl2 mO sl4 sl5 sl6 sl7 sl8 sl9 sl10 sl11 sl12 sl13 sl14 sl15 sl16 sl17 sl18 sl19 sl20 sl21 sl22 sl23 sl24 sl25 sl26 sl27 sl28 sl29 sl30 sl31 sl32 sl33 sl34 sl35 sl36 sl37 sl38 sl39 sl40 : Array (Option Value)} {oc0 kV0 dc0 pm0 cd0 ct0 oc1 kV1 dc1 pm1 cd1 ct1 oc2 kV2 dc2 pm2 cd2 ct2 oc3 kV3 dc3 pm3 cd3 ct3 oc4 kV4 dc4 pm4 cd4 ct4 oc5 kV5 dc5 pm5 cd5 ct5 oc6 kV6 dc6 pm6 cd6 ct6 oc7 kV7 dc7 pm7 cd7 ct7 oc8 kV8 dc8 pm8 cd8 ct8 oc9 kV9 dc9 pm9 cd9 ct9 oc10 kV10 dc10 pm10 cd10 ct10 oc11 kV11 dc11 pm11 cd11 ct11 oc12 kV12 dc12 pm12 cd12 ct12 oc13 kV13 dc13 pm13 cd13 ct13 oc14 kV14 dc14 pm14 cd14 ct14 oc15 kV15 dc15 pm15 cd15 ct15 oc16 kV16 dc16 pm16 cd16 ct16 oc17 kV17 dc17 pm17 cd17 ct17 oc18 kV18 dc18 pm18 cd18 ct18 oc19 kV19 dc19 pm19 cd19 ct19 oc20 kV20 dc20 pm20 cd20 ct20 oc21 kV21 dc21 pm21 cd21 ct21 oc22 kV22 dc22 pm22 cd22 ct22 oc23 kV23 dc23 pm23 cd23 ct23 oc24 kV24 dc24 pm24 cd24 ct24 oc25 kV25 dc25 pm25 cd25 ct25 oc26 kV26 dc26 pm26 cd26 ct26 oc27 kV27 dc27 pm27 cd27 ct27 oc28 kV28 dc28 pm28 cd28 ct28 oc29 kV29 dc29 pm29 cd29 ct29 oc30 kV30 dc30 pm30 cd30 ct30 oc31 kV31 dc31 pm31 cd31 ct31 oc32 kV32 dc32 pm32 cd32 ct32 oc33 kV33 dc33 pm33 cd33 ct33 oc34 kV34 dc34 pm34 cd34 ct34 oc35 kV35 dc35 pm35 cd35 ct35 oc36 kV36 dc36 pm36 cd36 ct36 oc37 kV37 dc37 pm37 cd37 ct37 oc38 kV38 dc38 pm38 cd38 ct38 oc39 kV39 dc39 pm39 cd39 ct39 oc40 kV40 dc40 pm40 cd40 ct40 : Value}
    (x0 : nsIn K mainGlobals "is_whole" = some (some (.ref a_is_whole))) (l0 : K.lookup a_is_whole = some ⟨oc0, od0, .func (fnOf "is_whole" "is_whole" (aS eM) (ar eM) (ag eM) .none kV0 dc0 pm0 an0 cd0 ct0), sl0⟩) (c0 : codeIn K cd0 "is_whole" = true) (k0 : keepIn K (.ref a_is_whole) = true)
    (x1 : nsIn K mainGlobals "is_within" = some (some (.ref a_is_within))) (l1 : K.lookup a_is_within = some ⟨oc1, od1, .func (fnOf "is_within" "is_within" (aS dG) (ar dG) (ag dG) .none kV1 dc1 pm1 an1 cd1 ct1), sl1⟩) (c1 : codeIn K cd1 "is_within" = true) (k1 : keepIn K (.ref a_is_within) = true)
    (x2 : nsIn K mainGlobals "is_name" = some (some (.ref a_is_name))) (l2 : K.lookup a_is_name = some ⟨oc2, od2, .func (fnOf "is_name" "is_name" (aS eZ) (ar eZ) (ag eZ) .none kV2 dc2 pm2 an2 cd2 ct2), sl2⟩) (c2 : codeIn K cd2 "is_name" = true) (k2 : keepIn K (.ref a_is_name) = true)
    (x3 : nsIn K mainGlobals "way_named" = some (some (.ref a_way_named))) (l3 : K.lookup a_way_named = some ⟨oc3, od3, .func (fnOf "way_named" "way_named" (aS dC) (ar dC) (ag dC) .none kV3 dc3 pm3 an3 cd3 ct3), mO⟩) (c3 : codeIn K cd3 "way_named" = true) (k3 : keepIn K (.ref a_way_named) = true)
    (x4 : nsIn K mainGlobals "is_way_name" = some (some (.ref a_is_way_name))) (l4 : K.lookup a_is_way_name = some ⟨oc4, od4, .func (fnOf "is_way_name" "is_way_name" (aS cx) (ar cx) (ag cx) .none kV4 dc4 pm4 an4 cd4 ct4), sl4⟩) (c4 : codeIn K cd4 "is_way_name" = true) (k4 : keepIn K (.ref a_is_way_name) = true)
    (x5 : nsIn K mainGlobals "is_slope_name" = some (some (.ref a_is_slope_name))) (l5 : K.lookup a_is_slope_name = some ⟨oc5, od5, .func (fnOf "is_slope_name" "is_slope_name" (aS bN) (ar bN) (ag bN) .none kV5 dc5 pm5 an5 cd5 ct5), sl5⟩) (c5 : codeIn K cd5 "is_slope_name" = true) (k5 : keepIn K (.ref a_is_slope_name) = true)
    (x6 : nsIn K mainGlobals "is_hours" = some (some (.ref a_is_hours))) (l6 : K.lookup a_is_hours = some ⟨oc6, od6, .func (fnOf "is_hours" "is_hours" (aS eO) (ar eO) (ag eO) .none kV6 dc6 pm6 an6 cd6 ct6), sl6⟩) (c6 : codeIn K cd6 "is_hours" = true) (k6 : keepIn K (.ref a_is_hours) = true)
    (x7 : nsIn K mainGlobals "begins_with_text" = some (some (.ref a_begins_with_text))) (l7 : K.lookup a_begins_with_text = some ⟨oc7, od7, .func (fnOf "begins_with_text" "begins_with_text" (aS bt) (ar bt) (ag bt) .none kV7 dc7 pm7 an7 cd7 ct7), sl7⟩) (c7 : codeIn K cd7 "begins_with_text" = true) (k7 : keepIn K (.ref a_begins_with_text) = true)
    (x8 : nsIn K mainGlobals "is_rule" = some (some (.ref a_is_rule))) (l8 : K.lookup a_is_rule = some ⟨oc8, od8, .func (fnOf "is_rule" "is_rule" (aS fH) (ar fH) (ag fH) .none kV8 dc8 pm8 an8 cd8 ct8), sl8⟩) (c8 : codeIn K cd8 "is_rule" = true) (k8 : keepIn K (.ref a_is_rule) = true)
    (x9 : nsIn K mainGlobals "is_rules" = some (some (.ref a_is_rules))) (l9 : K.lookup a_is_rules = some ⟨oc9, od9, .func (fnOf "is_rules" "is_rules" (aS dR) (ar dR) (ag dR) .none kV9 dc9 pm9 an9 cd9 ct9), sl9⟩) (c9 : codeIn K cd9 "is_rules" = true) (k9 : keepIn K (.ref a_is_rules) = true)
    (x10 : nsIn K mainGlobals "is_page" = some (some (.ref a_is_page))) (l10 : K.lookup a_is_page = some ⟨oc10, od10, .func (fnOf "is_page" "is_page" (aS fI) (ar fI) (ag fI) .none kV10 dc10 pm10 an10 cd10 ct10), sl10⟩) (c10 : codeIn K cd10 "is_page" = true) (k10 : keepIn K (.ref a_is_page) = true)
    (x11 : nsIn K mainGlobals "book_of" = some (some (.ref a_book_of))) (l11 : K.lookup a_book_of = some ⟨oc11, od11, .func (fnOf "book_of" "book_of" (aS fe) (ar fe) (ag fe) .none kV11 dc11 pm11 an11 cd11 ct11), sl11⟩) (c11 : codeIn K cd11 "book_of" = true) (k11 : keepIn K (.ref a_book_of) = true)
    (x12 : nsIn K mainGlobals "is_book" = some (some (.ref a_is_book))) (l12 : K.lookup a_is_book = some ⟨oc12, od12, .func (fnOf "is_book" "is_book" (aS eh) (ar eh) (ag eh) .none kV12 dc12 pm12 an12 cd12 ct12), sl12⟩) (c12 : codeIn K cd12 "is_book" = true) (k12 : keepIn K (.ref a_is_book) = true)
    (x13 : nsIn K mainGlobals "are_figures" = some (some (.ref a_are_figures))) (l13 : K.lookup a_are_figures = some ⟨oc13, od13, .func (fnOf "are_figures" "are_figures" (aS bX) (ar bX) (ag bX) .none kV13 dc13 pm13 an13 cd13 ct13), sl13⟩) (c13 : codeIn K cd13 "are_figures" = true) (k13 : keepIn K (.ref a_are_figures) = true)
    (x14 : nsIn K mainGlobals "thing_of" = some (some (.ref a_thing_of))) (l14 : K.lookup a_thing_of = some ⟨oc14, od14, .func (fnOf "thing_of" "thing_of" (aS eG) (ar eG) (ag eG) .none kV14 dc14 pm14 an14 cd14 ct14), sl14⟩) (c14 : codeIn K cd14 "thing_of" = true) (k14 : keepIn K (.ref a_thing_of) = true)
    (x15 : nsIn K mainGlobals "row_of" = some (some (.ref a_row_of))) (l15 : K.lookup a_row_of = some ⟨oc15, od15, .func (fnOf "row_of" "row_of" (aS fV) (ar fV) (ag fV) .none kV15 dc15 pm15 an15 cd15 ct15), sl15⟩) (c15 : codeIn K cd15 "row_of" = true) (k15 : keepIn K (.ref a_row_of) = true)
    (x16 : nsIn K mainGlobals "rows_of" = some (some (.ref a_rows_of))) (l16 : K.lookup a_rows_of = some ⟨oc16, od16, .func (fnOf "rows_of" "rows_of" (aS eX) (ar eX) (ag eX) .none kV16 dc16 pm16 an16 cd16 ct16), sl16⟩) (c16 : codeIn K cd16 "rows_of" = true) (k16 : keepIn K (.ref a_rows_of) = true)
    (x17 : nsIn K mainGlobals "page_of" = some (some (.ref a_page_of))) (l17 : K.lookup a_page_of = some ⟨oc17, od17, .func (fnOf "page_of" "page_of" (aS fF) (ar fF) (ag fF) .none kV17 dc17 pm17 an17 cd17 ct17), sl17⟩) (c17 : codeIn K cd17 "page_of" = true) (k17 : keepIn K (.ref a_page_of) = true)
    (x18 : nsIn K mainGlobals "read_page" = some (some (.ref a_read_page))) (l18 : K.lookup a_read_page = some ⟨oc18, od18, .func (fnOf "read_page" "read_page" (aS dD) (ar dD) (ag dD) .none kV18 dc18 pm18 an18 cd18 ct18), sl18⟩) (c18 : codeIn K cd18 "read_page" = true) (k18 : keepIn K (.ref a_read_page) = true)
    (x19 : nsIn K mainGlobals "read_book" = some (some (.ref a_read_book))) (l19 : K.lookup a_read_book = some ⟨oc19, od19, .func (fnOf "read_book" "read_book" (aS cX) (ar cX) (ag cX) .none kV19 dc19 pm19 an19 cd19 ct19), sl19⟩) (c19 : codeIn K cd19 "read_book" = true) (k19 : keepIn K (.ref a_read_book) = true)
    (x20 : nsIn K mainGlobals "row_text" = some (some (.ref a_row_text))) (l20 : K.lookup a_row_text = some ⟨oc20, od20, .func (fnOf "row_text" "row_text" (aS dQ) (ar dQ) (ag dQ) .none kV20 dc20 pm20 an20 cd20 ct20), sl20⟩) (c20 : codeIn K cd20 "row_text" = true) (k20 : keepIn K (.ref a_row_text) = true)
    (x21 : nsIn K mainGlobals "rows_text" = some (some (.ref a_rows_text))) (l21 : K.lookup a_rows_text = some ⟨oc21, od21, .func (fnOf "rows_text" "rows_text" (aS cW) (ar cW) (ag cW) .none kV21 dc21 pm21 an21 cd21 ct21), sl21⟩) (c21 : codeIn K cd21 "rows_text" = true) (k21 : keepIn K (.ref a_rows_text) = true)
    (x22 : nsIn K mainGlobals "page_text" = some (some (.ref a_page_text))) (l22 : K.lookup a_page_text = some ⟨oc22, od22, .func (fnOf "page_text" "page_text" (aS dE) (ar dE) (ag dE) .none kV22 dc22 pm22 an22 cd22 ct22), sl22⟩) (c22 : codeIn K cd22 "page_text" = true) (k22 : keepIn K (.ref a_page_text) = true)
    (x23 : nsIn K mainGlobals "book_text" = some (some (.ref a_book_text))) (l23 : K.lookup a_book_text = some ⟨oc23, od23, .func (fnOf "book_text" "book_text" (aS da) (ar da) (ag da) .none kV23 dc23 pm23 an23 cd23 ct23), sl23⟩) (c23 : codeIn K cd23 "book_text" = true) (k23 : keepIn K (.ref a_book_text) = true)
    (x24 : nsIn K mainGlobals "_law_bag" = some (some (.ref awbag))) (l24 : K.lookup awbag = some ⟨oc24, od24, .func (fnOf "_law_bag" "_law_bag" (aS iG) (ar iG) (ag iG) .none kV24 dc24 pm24 an24 cd24 ct24), sl24⟩) (c24 : codeIn K cd24 "_law_bag" = true) (k24 : keepIn K (.ref awbag) = true)
    (x25 : nsIn K mainGlobals "_law_draw" = some (some (.ref awdraw))) (l25 : K.lookup awdraw = some ⟨oc25, od25, .func (fnOf "_law_draw" "_law_draw" (aS fW) (ar fW) (ag fW) .none kV25 dc25 pm25 an25 cd25 ct25), sl25⟩) (c25 : codeIn K cd25 "_law_draw" = true) (k25 : keepIn K (.ref awdraw) = true)
    (x26 : nsIn K mainGlobals "_law_any" = some (some (.ref awany))) (l26 : K.lookup awany = some ⟨oc26, od26, .func (fnOf "_law_any" "_law_any" (aS fG) (ar fG) (ag fG) .none kV26 dc26 pm26 an26 cd26 ct26), sl26⟩) (c26 : codeIn K cd26 "_law_any" = true) (k26 : keepIn K (.ref awany) = true)
    (x27 : nsIn K mainGlobals "_law_label" = some (some (.ref awlabel))) (l27 : K.lookup awlabel = some ⟨oc27, od27, .func (fnOf "_law_label" "_law_label" (aS cZ) (ar cZ) (ag cZ) .none kV27 dc27 pm27 an27 cd27 ct27), sl27⟩) (c27 : codeIn K cd27 "_law_label" = true) (k27 : keepIn K (.ref awlabel) = true)
    (x28 : nsIn K mainGlobals "_law_labels" = some (some (.ref awlabels))) (l28 : K.lookup awlabels = some ⟨oc28, od28, .func (fnOf "_law_labels" "_law_labels" (aS cP) (ar cP) (ag cP) .none kV28 dc28 pm28 an28 cd28 ct28), sl28⟩) (c28 : codeIn K cd28 "_law_labels" = true) (k28 : keepIn K (.ref awlabels) = true)
    (x29 : nsIn K mainGlobals "_law_pace" = some (some (.ref awpace))) (l29 : K.lookup awpace = some ⟨oc29, od29, .func (fnOf "_law_pace" "_law_pace" (aS eK) (ar eK) (ag eK) .none kV29 dc29 pm29 an29 cd29 ct29), sl29⟩) (c29 : codeIn K cd29 "_law_pace" = true) (k29 : keepIn K (.ref awpace) = true)
    (x30 : nsIn K mainGlobals "_law_hill" = some (some (.ref awhill))) (l30 : K.lookup awhill = some ⟨oc30, od30, .func (fnOf "_law_hill" "_law_hill" (aS eL) (ar eL) (ag eL) .none kV30 dc30 pm30 an30 cd30 ct30), sl30⟩) (c30 : codeIn K cd30 "_law_hill" = true) (k30 : keepIn K (.ref awhill) = true)
    (x31 : nsIn K mainGlobals "_law_moment" = some (some (.ref awmoment))) (l31 : K.lookup awmoment = some ⟨oc31, od31, .func (fnOf "_law_moment" "_law_moment" (aS cO) (ar cO) (ag cO) .none kV31 dc31 pm31 an31 cd31 ct31), sl31⟩) (c31 : codeIn K cd31 "_law_moment" = true) (k31 : keepIn K (.ref awmoment) = true)
    (x32 : nsIn K mainGlobals "_law_rule" = some (some (.ref awrule))) (l32 : K.lookup awrule = some ⟨oc32, od32, .func (fnOf "_law_rule" "_law_rule" (aS eI) (ar eI) (ag eI) .none kV32 dc32 pm32 an32 cd32 ct32), sl32⟩) (c32 : codeIn K cd32 "_law_rule" = true) (k32 : keepIn K (.ref awrule) = true)
    (x33 : nsIn K mainGlobals "_law_rules" = some (some (.ref awrules))) (l33 : K.lookup awrules = some ⟨oc33, od33, .func (fnOf "_law_rules" "_law_rules" (aS cY) (ar cY) (ag cY) .none kV33 dc33 pm33 an33 cd33 ct33), sl33⟩) (c33 : codeIn K cd33 "_law_rules" = true) (k33 : keepIn K (.ref awrules) = true)
    (x34 : nsIn K mainGlobals "_law_slopes" = some (some (.ref awslopes))) (l34 : K.lookup awslopes = some ⟨oc34, od34, .func (fnOf "_law_slopes" "_law_slopes" (aS cz) (ar cz) (ag cz) .none kV34 dc34 pm34 an34 cd34 ct34), sl34⟩) (c34 : codeIn K cd34 "_law_slopes" = true) (k34 : keepIn K (.ref awslopes) = true)
    (x35 : nsIn K mainGlobals "_law_page" = some (some (.ref awpage))) (l35 : K.lookup awpage = some ⟨oc35, od35, .func (fnOf "_law_page" "_law_page" (aS eJ) (ar eJ) (ag eJ) .none kV35 dc35 pm35 an35 cd35 ct35), sl35⟩) (c35 : codeIn K cd35 "_law_page" = true) (k35 : keepIn K (.ref awpage) = true)
    (x36 : nsIn K mainGlobals "_law_pages" = some (some (.ref awpages))) (l36 : K.lookup awpages = some ⟨oc36, od36, .func (fnOf "_law_pages" "_law_pages" (aS dF) (ar dF) (ag dF) .none kV36 dc36 pm36 an36 cd36 ct36), sl36⟩) (c36 : codeIn K cd36 "_law_pages" = true) (k36 : keepIn K (.ref awpages) = true)
    (x37 : nsIn K mainGlobals "_law_rules_text" = some (some (.ref awrules_text))) (l37 : K.lookup awrules_text = some ⟨oc37, od37, .func (fnOf "_law_rules_text" "_law_rules_text" (aS bw) (ar bw) (ag bw) .none kV37 dc37 pm37 an37 cd37 ct37), sl37⟩) (c37 : codeIn K cd37 "_law_rules_text" = true) (k37 : keepIn K (.ref awrules_text) = true)
    (x38 : nsIn K mainGlobals "_law_page_text" = some (some (.ref awpage_text))) (l38 : K.lookup awpage_text = some ⟨oc38, od38, .func (fnOf "_law_page_text" "_law_page_text" (aS bM) (ar bM) (ag bM) .none kV38 dc38 pm38 an38 cd38 ct38), sl38⟩) (c38 : codeIn K cd38 "_law_page_text" = true) (k38 : keepIn K (.ref awpage_text) = true)
    (x39 : nsIn K mainGlobals "_law_refused" = some (some (.ref awrefused))) (l39 : K.lookup awrefused = some ⟨oc39, od39, .func (fnOf "_law_refused" "_law_refused" (aS cw) (ar cw) (ag cw) .none kV39 dc39 pm39 an39 cd39 ct39), sl39⟩) (c39 : codeIn K cd39 "_law_refused" = true) (k39 : keepIn K (.ref awrefused) = true)
    (x40 : nsIn K mainGlobals "law" = some (some (.ref a_law))) (l40 : K.lookup a_law = some ⟨oc40, od40, .func (fnOf "law" "law" (aS jv) (ar jv) (ag jv) .none kV40 dc40 pm40 an40 cd40 ct40), sl40⟩) (c40 : codeIn K cd40 "law" = true) (k40 : keepIn K (.ref a_law) = true)
    {cN cH : Addr} (xN : nsIn K mainGlobals "NoText" = some (some (.ref cN))) (xH : nsIn K mainGlobals "HillError" = some (some (.ref cH))) (eN : PySem.W.excIn K cN [.type "ValueError", .type "Exception", .type "BaseException", .type "object"] "ValueError.__new__" = true) (eH : PySem.W.exmOne K (.ref cN) (.ref cH) = some true)
    (z0 : nsIn K mainGlobals "len" = some none)
    (z1 : nsIn K mainGlobals "abs" = some none)
    (z2 : nsIn K mainGlobals "all" = some none)
    (z3 : nsIn K mainGlobals "isinstance" = some none)
    (z4 : nsIn K mainGlobals "range" = some none)
    (z5 : nsIn K mainGlobals "str" = some none)
    (z6 : nsIn K mainGlobals "bool" = some none)
    (z7 : nsIn K mainGlobals "int" = some none)
    (z8 : nsIn K mainGlobals "tuple" = some none)
    (z9 : nsIn K mainGlobals "max" = some none)
    (z10 : nsIn K mainGlobals "min" = some none)
    (z11 : nsIn K mainGlobals "sorted" = some none)
    (z12 : nsIn K mainGlobals "repr" = some none)
    (y0 : nsIn K mainGlobals "MOST_LETTERS" = some (some (.int 8 ti0)))
    (y1 : nsIn K mainGlobals "MOST_HOUR" = some (some (.int 1000001 ti1)))
    (y2 : nsIn K mainGlobals "MOST_LOOKED" = some (some (.int 1000000 ti2)))
    (y3 : nsIn K mainGlobals "MOST_RULES" = some (some (.int 6 ti3)))
    (y4 : nsIn K mainGlobals "MOST_NUMBER" = some (some (.int 999999 ti4)))
    (y5 : nsIn K mainGlobals "MOST_FIGURES" = some (some (.int 60 ti5)))
    {ov11 : Value} {oo11 : Option Addr} {fv11 : Array Value} {os11 : Array (Option Value)} (tc11 : cd11 = .ref cb_book_of) (tv11 : K.lookup cb_book_of = some ⟨ov11, oo11, .fields fv11, os11⟩) (tw11 : fv11[11]? = some (Value.ref tb_book_of)) (tt11 : PySem.W.tabIn K "book_of" = some (cb_book_of, tb_book_of)) (th11 : PySem.W.codeHdIn K cb_book_of tb_book_of = true) (tn11 : K.lookup tb_book_of = none) (tr11 : ((recsOf q).find? λr=>r.name == ("book_of" : Str)).isSome = true)
    {ov40 : Value} {oo40 : Option Addr} {fv40 : Array Value} {os40 : Array (Option Value)} (tc40 : cd40 = .ref cb_law) (tv40 : K.lookup cb_law = some ⟨ov40, oo40, .fields fv40, os40⟩) (tw40 : fv40[11]? = some (Value.ref tb_law)) (tt40 : PySem.W.tabIn K "law" = some (cb_law, tb_law)) (th40 : PySem.W.codeHdIn K cb_law tb_law = true) (tn40 : K.lookup tb_law = none) (tr40 : ((recsOf q).find? λr=>r.name == ("law" : Str)).isSome = true) (jm : tb_book_of ≠ tb_law) (jl : tb_law ≠ tb_book_of) :
    ∃ (fd : FuncData) (ts : List (Str × Addr × Addr)), (∀ e ∈ ts, PySem.W.tabIn K e.1 = some e.2 /\ K.lookup e.2.2 = none /\ ((recsOf q).find? λr=>r.name == e.1).isSome = true) /\ (∀ (s : Shared) (v : Value), BindsTo s fd ⟨[v], []⟩ [("_law_script", v)]) /\ ∀ base : Heap, K.In base -> base.Ns mainGlobals mg -> D3 base mg -> aI l.prog w K mg base bO 10 fa fd ["_law_script"] (oJ K (ts.map (·.2.2))):=by
  subst tc11;subst tc40;have e:=hfa.symm.trans (Mi X G x40);cases e;have F0:=bz (st:=eM) l0 c0 k0;have b0:=F0.binds (ps:=["thing"]) λ_ _ _ _ _ _ us hl=>match us, hl with | [_], _=>rfl
  have F1:=bz (st:=dG) l1 c1 k1;have b1:=F1.binds (ps:=["thing", "low", "high"]) λ_ _ _ _ _ _ us hl=>match us, hl with | [_, _, _], _=>rfl
  have F2:=bz (st:=eZ) l2 c2 k2;have b2:=F2.binds (ps:=["thing"]) λ_ _ _ _ _ _ us hl=>match us, hl with | [_], _=>rfl
  have F3:=bz (st:=dC) l3 c3 k3;have b3:=F3.binds (ps:=["hill", "name"]) λ_ _ _ _ _ _ us hl=>match us, hl with | [_, _], _=>rfl
  have F4:=bz (st:=cx) l4 c4 k4;have b4:=F4.binds (ps:=["hill", "thing"]) λ_ _ _ _ _ _ us hl=>match us, hl with | [_, _], _=>rfl
  have F5:=bz (st:=bN) l5 c5 k5;have b5:=F5.binds (ps:=["hill", "thing"]) λ_ _ _ _ _ _ us hl=>match us, hl with | [_, _], _=>rfl
  have F6:=bz (st:=eO) l6 c6 k6;have b6:=F6.binds (ps:=["a", "b"]) λ_ _ _ _ _ _ us hl=>match us, hl with | [_, _], _=>rfl
  have F7:=bz (st:=bt) l7 c7 k7;have b7:=F7.binds (ps:=["thing"]) λ_ _ _ _ _ _ us hl=>match us, hl with | [_], _=>rfl
  have F8:=bz (st:=fH) l8 c8 k8;have b8:=F8.binds (ps:=["hill", "thing"]) λ_ _ _ _ _ _ us hl=>match us, hl with | [_, _], _=>rfl
  have F9:=bz (st:=dR) l9 c9 k9;have b9:=F9.binds (ps:=["hill", "thing"]) λ_ _ _ _ _ _ us hl=>match us, hl with | [_, _], _=>rfl
  have F10:=bz (st:=fI) l10 c10 k10;have b10:=F10.binds (ps:=["hill", "thing"]) λ_ _ _ _ _ _ us hl=>match us, hl with | [_, _], _=>rfl
  have F11:=bz (st:=fe) l11 c11 k11;have b11:=F11.binds (ps:=["pages"]) λ_ _ _ _ _ _ us hl=>match us, hl with | [_], _=>rfl
  have F12:=bz (st:=eh) l12 c12 k12;have b12:=F12.binds (ps:=["hill", "thing"]) λ_ _ _ _ _ _ us hl=>match us, hl with | [_, _], _=>rfl
  have F13:=bz (st:=bX) l13 c13 k13;have b13:=F13.binds (ps:=["word"]) λ_ _ _ _ _ _ us hl=>match us, hl with | [_], _=>rfl
  have F14:=bz (st:=eG) l14 c14 k14;have b14:=F14.binds (ps:=["word"]) λ_ _ _ _ _ _ us hl=>match us, hl with | [_], _=>rfl
  have F15:=bz (st:=fV) l15 c15 k15;have b15:=F15.binds (ps:=["text"]) λ_ _ _ _ _ _ us hl=>match us, hl with | [_], _=>rfl
  have F16:=bz (st:=eX) l16 c16 k16;have b16:=F16.binds (ps:=["text"]) λ_ _ _ _ _ _ us hl=>match us, hl with | [_], _=>rfl
  have F17:=bz (st:=fF) l17 c17 k17;have b17:=F17.binds (ps:=["text"]) λ_ _ _ _ _ _ us hl=>match us, hl with | [_], _=>rfl
  have F18:=bz (st:=dD) l18 c18 k18;have b18:=F18.binds (ps:=["hill", "text"]) λ_ _ _ _ _ _ us hl=>match us, hl with | [_, _], _=>rfl
  have F19:=bz (st:=cX) l19 c19 k19;have b19:=F19.binds (ps:=["hill", "text"]) λ_ _ _ _ _ _ us hl=>match us, hl with | [_, _], _=>rfl
  have F20:=bz (st:=dQ) l20 c20 k20;have b20:=F20.binds (ps:=["things"]) λ_ _ _ _ _ _ us hl=>match us, hl with | [_], _=>rfl
  have F21:=bz (st:=cW) l21 c21 k21;have b21:=F21.binds (ps:=["rows"]) λ_ _ _ _ _ _ us hl=>match us, hl with | [_], _=>rfl
  have F22:=bz (st:=dE) l22 c22 k22;have b22:=F22.binds (ps:=["page"]) λ_ _ _ _ _ _ us hl=>match us, hl with | [_], _=>rfl
  have F23:=bz (st:=da) l23 c23 k23;have b23:=F23.binds (ps:=["book"]) λ_ _ _ _ _ _ us hl=>match us, hl with | [_], _=>rfl
  have F24:=bz (st:=iG) l24 c24 k24;have b24:=F24.binds (ps:=["_law_script"]) λ_ _ _ _ _ _ us hl=>match us, hl with | [_], _=>rfl
  have F25:=bz (st:=fW) l25 c25 k25;have b25:=F25.binds (ps:=["_law_bag_here", "_law_many"]) λ_ _ _ _ _ _ us hl=>match us, hl with | [_, _], _=>rfl
  have F26:=bz (st:=fG) l26 c26 k26;have b26:=F26.binds (ps:=["_law_bag_here", "_law_some"]) λ_ _ _ _ _ _ us hl=>match us, hl with | [_, _], _=>rfl
  have F27:=bz (st:=cZ) l27 c27 k27;have b27:=F27.binds (ps:=["_law_bag_here"]) λ_ _ _ _ _ _ us hl=>match us, hl with | [_], _=>rfl
  have F28:=bz (st:=cP) l28 c28 k28;have b28:=F28.binds (ps:=["_law_bag_here", "_law_many"]) λ_ _ _ _ _ _ us hl=>match us, hl with | [_, _], _=>rfl
  have F29:=bz (st:=eK) l29 c29 k29;have b29:=F29.binds (ps:=["_law_bag_here", "_law_scale"]) λ_ _ _ _ _ _ us hl=>match us, hl with | [_, _], _=>rfl
  have F30:=bz (st:=eL) l30 c30 k30;have b30:=F30.binds (ps:=["_law_bag_here"]) λ_ _ _ _ _ _ us hl=>match us, hl with | [_], _=>rfl
  have F31:=bz (st:=cO) l31 c31 k31;have b31:=F31.binds (ps:=["_law_bag_here", "_law_hill_here"]) λ_ _ _ _ _ _ us hl=>match us, hl with | [_, _], _=>rfl
  have F32:=bz (st:=eI) l32 c32 k32;have b32:=F32.binds (ps:=["_law_bag_here", "_law_hill_here"]) λ_ _ _ _ _ _ us hl=>match us, hl with | [_, _], _=>rfl
  have F33:=bz (st:=cY) l33 c33 k33;have b33:=F33.binds (ps:=["_law_bag_here", "_law_hill_here"]) λ_ _ _ _ _ _ us hl=>match us, hl with | [_, _], _=>rfl
  have F34:=bz (st:=cz) l34 c34 k34;have b34:=F34.binds (ps:=["_law_hill_here"]) λ_ _ _ _ _ _ us hl=>match us, hl with | [_], _=>rfl
  have F35:=bz (st:=eJ) l35 c35 k35;have b35:=F35.binds (ps:=["_law_bag_here", "_law_hill_here", "_law_number"]) λ_ _ _ _ _ _ us hl=>match us, hl with | [_, _, _], _=>rfl
  have F36:=bz (st:=dF) l36 c36 k36;have b36:=F36.binds (ps:=["_law_bag_here", "_law_hill_here", "_law_many"]) λ_ _ _ _ _ _ us hl=>match us, hl with | [_, _, _], _=>rfl
  have F37:=bz (st:=bw) l37 c37 k37;have b37:=F37.binds (ps:=["_law_rules_here"]) λ_ _ _ _ _ _ us hl=>match us, hl with | [_], _=>rfl
  have F38:=bz (st:=bM) l38 c38 k38;have b38:=F38.binds (ps:=["_law_page_here"]) λ_ _ _ _ _ _ us hl=>match us, hl with | [_], _=>rfl
  have F39:=bz (st:=cw) l39 c39 k39;have b39:=F39.binds (ps:=["_law_hill_here", "_law_text"]) λ_ _ _ _ _ _ us hl=>match us, hl with | [_, _], _=>rfl
  have F40:=bz (st:=jv) l40 c40 k40;have b40:=F40.binds (ps:=["_law_script"]) λ_ _ _ _ _ _ us hl=>match us, hl with | [_], _=>rfl
  have T : Txt K mg _ _ _ _ _ _ _ _ _ _ _ _ _ _ _ _ _ _ _ _ _ _ _ _ _ _ _ _ _ _ _ _ _ _ _ _ _ _ _ _ _ cb_book_of tb_book_of cb_law tb_law _ _ _ _ _ _ _ _ _ _ _ _ _ _ _ _ _ _ _ _ _ _ _ _ _ _ _ _ _ _ _ _ _ _ _ _ _ _ _ _ _:=⟨F0, Mi X G x0, b0, F1, Mi X G x1, b1, F2, Mi X G x2, b2, F3, Mi X G x3, b3, F4, Mi X G x4, b4, F5, Mi X G x5, b5, F6, Mi X G x6, b6, F7, Mi X G x7, b7, F8, Mi X G x8, b8, F9, Mi X G x9, b9, F10, Mi X G x10, b10, F11, Mi X G x11, b11, F12, Mi X G x12, b12, F13, Mi X G x13, b13, F14, Mi X G x14, b14, F15, Mi X G x15, b15, F16, Mi X G x16, b16, F17, Mi X G x17, b17, F18, Mi X G x18, b18, F19, Mi X G x19, b19, F20, Mi X G x20, b20, F21, Mi X G x21, b21, F22, Mi X G x22, b22, F23, Mi X G x23, b23, F24, Mi X G x24, b24, F25, Mi X G x25, b25, F26, Mi X G x26, b26, F27, Mi X G x27, b27, F28, Mi X G x28, b28, F29, Mi X G x29, b29, F30, Mi X G x30, b30, F31, Mi X G x31, b31, F32, Mi X G x32, b32, F33, Mi X G x33, b33, F34, Mi X G x34, b34, F35, Mi X G x35, b35, F36, Mi X G x36, b36, F37, Mi X G x37, b37, F38, Mi X G x38, b38, F39, Mi X G x39, b39, F40, Mi X G x40, b40, Mh X G z0, Mh X G z1, Mh X G z2, Mh X G z3, Mh X G z4, Mh X G z5, Mh X G z6, Mh X G z7, Mh X G z8, Mh X G z9, Mh X G z10, Mh X G z11, Mh X G z12, ⟨_, Mi X G y0⟩, ⟨_, Mi X G y1⟩, ⟨_, Mi X G y2⟩, ⟨_, Mi X G y3⟩, ⟨_, Mi X G y4⟩, ⟨_, Mi X G y5⟩, ⟨⟨_, _, _, _, _, _, _, _, rfl, l11, c11⟩, th11⟩, ⟨⟨_, _, _, _, _, _, _, _, rfl, l40, c40⟩, th40⟩, jm, jl, ⟨cN, cH, xN, Mi X G xN, Mi X G xH, eN, eH⟩⟩;refine ⟨fnOf "law" "law" (aS jv) (ar jv) (ag jv) .none kV40 dc40 pm40 an40 (.ref cb_law) ct40, [("book_of", cb_book_of, tb_book_of), ("law", cb_law, tb_law)], ?_, λs v=>.of_eq rfl, λbase kb _ hB=>?_⟩
  · intro e he;simp only [LK, LL, or_false] at he;rcases he with rfl | rfl
    · exact ⟨tt11, tn11, tr11⟩
    · exact ⟨tt40, tn40, tr40⟩
  show aI _ _ _ _ _ _ _ _ _ _ (oJ K [tb_book_of, tb_law]);have ay:=A0 (φ:=aZ tb_book_of tb_law K) (EK (P:=l.prog) (w:=w) (base:=base) T);have pq:=Hb (P:=l.prog) (w:=w) (base:=base) T;have fA:=v5 (P:=l.prog) (w:=w) (base:=base) T ;have de:=uF (P:=l.prog) (w:=w) (base:=base) T fA;have gv:=xR (P:=l.prog) (w:=w) (base:=base) T ;have ie:=ux (P:=l.prog) (w:=w) (base:=base) T ;have cT:=qL (P:=l.prog) (w:=w) (base:=base) T gv ie;have ju:=oX (P:=l.prog) (w:=w) (base:=base) T cT ie;have nA:=v8 (P:=l.prog) (w:=w) (base:=base) T de;have cM:=mw (P:=l.prog) (w:=w) (base:=base) T ;have pC:=xP (P:=l.prog) (w:=w) (base:=base) T cM nA gv fA de cT;have nv:=v7 (P:=l.prog) (w:=w) (base:=base) T pC;have jQ:=xQ (P:=l.prog) (w:=w) (base:=base) T cM de gv fA ju cT nv;have pE:=xT (P:=l.prog) (w:=w) (base:=base) T kb hB ;have ig:=xS (P:=l.prog) (w:=w) (base:=base) T pE jQ;have i6:=qM (P:=l.prog) (w:=w) (base:=base) T ;have nh:=vU (P:=l.prog) (w:=w) (base:=base) T i6;have jX:=Av (P:=l.prog) (w:=w) (base:=base) T nh;have pk:=xK (P:=l.prog) (w:=w) (base:=base) T jX;have mn:=xM (P:=l.prog) (w:=w) (base:=base) T jX pk;have fq:=uz (P:=l.prog) (w:=w) (base:=base) T mn jQ;have lQ:=uA (P:=l.prog) (w:=w) (base:=base) T ig fq;have gW:=vV (P:=l.prog) (w:=w) (base:=base) T ;have lP:=uy (P:=l.prog) (w:=w) (base:=base) T gW;have lR:=uB (P:=l.prog) (w:=w) (base:=base) T gW lP;have lU:=uG (P:=l.prog) (w:=w) (base:=base) T lR;have bQ:=xO (P:=l.prog) (w:=w) (base:=base) T ay;have ke:=uE (P:=l.prog) (w:=w) (base:=base) T ay;have jJ:=sg (P:=l.prog) (w:=w) (base:=base) T ay ke;have lq:=vY (P:=l.prog) (w:=w) (base:=base) T ay;have nt:=vZ (P:=l.prog) (w:=w) (base:=base) T jJ ay bQ lq;have gu:=sf (P:=l.prog) (w:=w) (base:=base) T ay;have nk:=vW (P:=l.prog) (w:=w) (base:=base) T ay gu bQ;have lS:=uC (P:=l.prog) (w:=w) (base:=base) T nk ay;have ll:=se (P:=l.prog) (w:=w) (base:=base) T ;have nr:=vX (P:=l.prog) (w:=w) (base:=base) T ay gu ll bQ lS;have lT:=uD (P:=l.prog) (w:=w) (base:=base) T bQ nr ay;have iU:=nW (P:=l.prog) (w:=w) (base:=base) T ;have gQ:=oW (P:=l.prog) (w:=w) (base:=base) T iU;have kz:=qK (P:=l.prog) (w:=w) (base:=base) T ig fq;exact Ha T kb hB pq nt lT lU ay gQ kz lQ C2
def walk {l : PySem.W.OpenLaw} {q : Program} {loose : List Str} {XP : (Str -> Option Value) -> Heap -> Prop} {YP : World -> Heap -> Prop} {d : DefRec} {K : Params -> Frag} (hn : l.most = some 63) (hdf : d.params.defaults = [])
    (hY : ∀ (w : World) (h : Heap), YP w h -> (K w.params).In h)
    (F : ∀ (w : World) (mg : Str -> Option Value) (fa : Addr) (h : Heap), (K w.params).In h -> h.Ns mainGlobals mg -> mg d.name = some (.ref fa) ->
      ∃ (fd : FuncData) (ts : List (Str × Addr × Addr)), (∀ e ∈ ts, PySem.W.tabIn (K w.params) e.1 = some e.2 /\ (K w.params).lookup e.2.2 = none /\ ((recsOf q).find? λr=>r.name == e.1).isSome = true) /\ (∀ (s : Shared) (u : Value), BindsTo s fd ⟨[u], []⟩ [("_law_script", u)]) /\
        ∀ base : Heap, (K w.params).In base -> base.Ns mainGlobals mg -> D3 base mg -> aI l.prog w (K w.params) mg base bO 10 fa fd ["_law_script"] (oJ (K w.params) (ts.map (·.2.2)))) :
    PySem.W.WalkO q loose XP YP l.row.toRowW d [] (λf vs=>PySem.call f vs):=
  L2.zW (n:=63) (k:=10) (x:="_law_script") (CX:=λ_=>bO) (sp:=λw tbs=>oJ (K w.params) tbs) hn (by decide) hdf ⟨rfl, by decide, by decide, rfl⟩ hY F (λ_ _ a ns tbs hl ht hS=>⟨a, ns, rfl, hS, hl, ht, λ_=>rfl⟩) λ_ _ _ _ _ z=>z
end K65
end
namespace PySem.W.Fast
def tw14370117754830489613:=0
def tw14667904156850882158:=0
def tw14335074278260223688:=0
def tw2877471284145167358:=0
def tw5899887923873631702:=0
def tw10768310571704313688:=0
def tw439199577159148786:=0
def tw9201201869752479471:=0
def tw5426789896874410372:=0
def tw15489048371346808697:=0
def tw900024372183300137:=0
def tw8173485892980648333:=0
def tw9418480467478533748:=0
def tw8222532812390751833:=0
def tw13654458393613067288:=0
def tw5749968004209945305:=0
def tw8525961067813361044:=0
def tw8899480168286455069:=0
def tw10837123514498605862:=0
def tw13712757794309265773:=0
def tw14182651225351789072:=0
def tw12839157725786449813:=0
def tw5312941555231776594:=0
def tw17901502170793571135:=0
def tw15167732362099727248:=0
def tw10720661878168790639:=0
def tw639382470264828616:=0
def tw14728917125830266520:=0
def tw12829402321095175407:=0
def tw578078595988276142:=0
def tw11874416123839042260:=0
def tw15019643492812113571:=0
def tw15983075390776214122:=0
def tw2187808017279092094:=0
def tw11084545441300387039:=0
def tw12293018536591574630:=0
def tw4597612756205375111:=0
def tw17641287896303441403:=0
def tw7900084215926133765:=0
def tw8862366602325504178:=0
def tw12815294550648431109:=0
def tw13449497370777849217:=0
def tw212114134781936576:=0
def tw13723499602601749215:=0
def tw1765070622077980446:=0
def tw1804729656857678218:=0
def tw4563841316387140063:=0
def tw547108550475207571:=0
def tw15811528032717294610:=0
def tw11158997876475522726:=0
def tw17319358797439315755:=0
def tw983436914565760150:=0
def tw2214485514664255576:=0
def tw17427549530992837332:=0
def tw10488836587377948866:=0
def tw2227803357846856322:=0
def tw13217932036058967435:=0
def tw1774612809326230796:=0
def tw5703824935301762477:=0
def tw14914583290017926024:=0
def tw3106820018257345664:=0
def tw8177365858039977181:=0
def tw8714599634855469562:=0
def tw6216389183000221961:=0
def tw4158851889639922815:=0
def tw8867892055299088375:=0
def tw6927533947583332102:=0
def tw14076339721614482591:=0
def tw12290795706566069981:=0
def tw13946724278963979930:=0
def tw12172747493088131985:=0
def tw11804318172959837264:=0
def tw6602525516172363897:=0
def tw14244856749589619762:=0
def tw8016311439957545809:=0
def tw17289143904379148119:=0
def tw8206146728894698885:=0
def tw6016253041988455783:=0
def tw14417474419971928080:=0
def tw11495556536589697514:=0
def tw8353516848186545837:=0
def tw13415170532989239111:=0
def tw15853852512363983293:=0
def tw2207561747195108261:=0
def tw13980085952017750113:=0
def tw13456633394609117675:=0
def tw17242646264115746172:=0
def tw5670372313473217329:=0
def tw12683620032360042265:=0
def tw9740804213567067111:=0
def tw1684976194403393164:=0
def tw16133761032354810043:=0
def tw10594741416887787317:=0
def tw6435184377878140707:=0
def tw1826320751672295135:=0
def tw15763406177362376619:=0
def tw9427787201026083938:=0
def tw5577652536467454265:=0
def tw16870569531188288159:=0
def tw7893193818765267099:=0
def tw5744329156848954514:=0
def tw4696572831511638636:=0
def tw1879317476682074585:=0
def tw16338121308494367632:=0
def tw2475409634077307617:=0
def tw333560523212313043:=0
def tw17374258500568617219:=0
def tw9844474682759173350:=0
def tw18158477622747871224:=0
def tw1493985334094542120:=0
def tw17619356356497265276:=0
def tw10829608652385752118:=0
def tw8763654203796825548:=0
def tw11670850124341931468:=0
def tw7745896218125558755:=0
def tw14863099376945006845:=0
def tw10354161077696729793:=0
def tw10401413304629418993:=0
def tw5576936801305021808:=0
def tw17186398127387497481:=0
def tw4771624951797733646:=0
def tw11847327270575847846:=0
def tw4069844018246372555:=0
def tw6638935958099542972:=0
def tw16460377214805422885:=0
def tw5826234279910286380:=0
def tw7475479030216914942:=0
def tw52273431654541286:=0
def tw8338447213955307854:=0
def tw11748402527286277490:=0
def tw8631521578949894954:=0
def tw4665470912582922075:=0
def tw12858587572223031433:=0
def tw1264821148523653569:=0
def tw8904355512915050155:=0
def tw13028542141008098392:=0
def tw782624532796423904:=0
def tw15452843902272174713:=0
def tw8590080117407531914:=0
def tw13161427978873028058:=0
def tw11964224137381335111:=0
def tw8729715716100627965:=0
def tw10869104151468612912:=0
def tw6563637953891428436:=0
def tw5908724671171498965:=0
def tw740301629187404834:=0
def tw14491094835412352649:=0
def tw7238193318709598072:=0
def tw30442051170134775:=0
def tw13281728496035851851:=0
def tw15033050641250524388:=0
def tw8822954224885023683:=0
def tw5929762411953817379:=0
def tw1734849133630661028:=0
def tw6083431914468987613:=0
def tw7274974825695217610:=0
def tw15718974708380283850:=0
def tw11854226525764977754:=0
def tw4176722188361875533:=0
def tw16498513825773554379:=0
def tw12294070446947123669:=0
def tw5843444758914472236:=0
def tw12665144963079757496:=0
def tw5993052831013695829:=0
def tw18281813326757146793:=0
def tw9402100990378921265:=0
def tw13326245833669183783:=0
def tw5293310084990676537:=0
def tw16260208397985278784:=0
def tw11255433995016163535:=0
def tw11598711605355099723:=0
def tw9145840971012559821:=0
def tw8520763380824851114:=0
def tw12179615109349832714:=0
def tw15630551772814225989:=0
def tw17669384717438146790:=0
def tw17866599747186532054:=0
def tw14072657934907314701:=0
def tw10591802834341078167:=0
def tw992959609564967712:=0
def tw11351620924964397016:=0
def tw5443730216176971540:=0
def tw14355660431885043198:=0
def tw9420309261066846471:=0
def tw10605013442459392680:=0
def tw15171310364938661475:=0
def tw5952810480490705539:=0
def tw6883316491864264359:=0
def tw11514911950498907021:=0
def tw17060100850246743045:=0
def tw16845153351880401089:=0
def tw16042990602541382555:=0
def tw7527862874417358447:=0
def tw15429933117204405382:=0
def tw5812582045094102621:=0
def tw7739678112722800785:=0
def tw14484515930505333004:=0
def tw4702597727395772041:=0
def tw18162011102621229526:=0
def tw5839774743526048833:=0
def tw11811879380194270526:=0
def tw276376347280508281:=0
def tw3757913506133976960:=0
def tw5807674296685781151:=0
def tw8393910539543225636:=0
def tw3685937723332898198:=0
def tw16799606153847345190:=0
def tw2463055322072724257:=0
def tw13289436314094860333:=0
def tw11966213618716793551:=0
def tw15099916834203073685:=0
def tw6878317401037397978:=0
def tw10367383466419674232:=0
def tw3232324900448638121:=0
def tw14500292442209558411:=0
def tw15182671276567131512:=0
def tw9287131870931510302:=0
def tw17267563708702392438:=0
def tw13737451421108661043:=0
def tw7998122222814137963:=0
def tw15772936856428283759:=0
def tw1697677158034169120:=0
def tw7508580261680918581:=0
def tw4519693420910282520:=0
def tw14861550964764306717:=0
def tw11496895839790786328:=0
def tw6675988871876463937:=0
def tw2943585387152454377:=0
def tw15689184326242248293:=0
def tw8456690269058498555:=0
def tw901612707729072163:=0
def tw7629993573520214664:=0
def tw1853141231502040314:=0
def tw13227581848699710510:=0
def tw6014343480510213472:=0
def tw9600665016165654961:=0
def tw1616266597848250782:=0
def tw1147174543298316897:=0
def tw12675840465019580518:=0
def tw13009959631345289776:=0
def tw4871326768489903466:=0
def tw10414933191547879042:=0
def tw2966464684084912755:=0
def tw15749316888998935521:=0
def tw907156576911200910:=0
def tw3404181903929034840:=0
def tw14434352137926093350:=0
def tw16937268917563498982:=0
def tw3531692951486254733:=0
def tw10659463642555134013:=0
def tw14586106442521028636:=0
def tw8438205395643739736:=0
def tw15658070960102950937:=0
def tw4190473559898315794:=0
def tw8792469047783022380:=0
def tw18146720764738063352:=0
def tw902405284231008122:=0
def tw4387357179556506018:=0
def tw13806895193257086732:=0
def tw13675392299820351583:=0
def tw2484424905345786230:=0
def tw10065358376074180478:=0
def tw6406570382788849932:=0
def tw12324383098993966915:=0
end PySem.W.Fast
open PySem PySem.W PyProof.Rows
set_option maxRecDepth 100000 in
set_option maxHeartbeats 0 in
theorem PySem.Challenge.cw_homeslopes_k65_books_written_and_read_holds : PySem.Challenge.rw_homeslopes_k65_books_written_and_read.Holds := by
  w_on; o_law; k_head; (case hw => w_witness2)
  k_fill
  refine K65.walk (l := PySem.Challenge.rw_homeslopes_k65_books_written_and_read) rfl rfl (fun w h Y => PySem.W.km_in_of Y) ?F
  case F =>
    intro w mg fa h KX G hmg
    refine' K65.all_mk KX G hmg ?x0 ?l0 ?c0 ?k0 ?x1 ?l1 ?c1 ?k1 ?x2 ?l2 ?c2 ?k2 ?x3 ?l3 ?c3 ?k3 ?x4 ?l4 ?c4 ?k4 ?x5 ?l5 ?c5 ?k5 ?x6 ?l6 ?c6 ?k6 ?x7 ?l7 ?c7 ?k7 ?x8 ?l8 ?c8 ?k8 ?x9 ?l9 ?c9 ?k9 ?x10 ?l10 ?c10 ?k10 ?x11 ?l11 ?c11 ?k11 ?x12 ?l12 ?c12 ?k12 ?x13 ?l13 ?c13 ?k13 ?x14 ?l14 ?c14 ?k14 ?x15 ?l15 ?c15 ?k15 ?x16 ?l16 ?c16 ?k16 ?x17 ?l17 ?c17 ?k17 ?x18 ?l18 ?c18 ?k18 ?x19 ?l19 ?c19 ?k19 ?x20 ?l20 ?c20 ?k20 ?x21 ?l21 ?c21 ?k21 ?x22 ?l22 ?c22 ?k22 ?x23 ?l23 ?c23 ?k23 ?x24 ?l24 ?c24 ?k24 ?x25 ?l25 ?c25 ?k25 ?x26 ?l26 ?c26 ?k26 ?x27 ?l27 ?c27 ?k27 ?x28 ?l28 ?c28 ?k28 ?x29 ?l29 ?c29 ?k29 ?x30 ?l30 ?c30 ?k30 ?x31 ?l31 ?c31 ?k31 ?x32 ?l32 ?c32 ?k32 ?x33 ?l33 ?c33 ?k33 ?x34 ?l34 ?c34 ?k34 ?x35 ?l35 ?c35 ?k35 ?x36 ?l36 ?c36 ?k36 ?x37 ?l37 ?c37 ?k37 ?x38 ?l38 ?c38 ?k38 ?x39 ?l39 ?c39 ?k39 ?x40 ?l40 ?c40 ?k40 ?xN ?xH ?eN ?eH ?z0 ?z1 ?z2 ?z3 ?z4 ?z5 ?z6 ?z7 ?z8 ?z9 ?z10 ?z11 ?z12 ?y0 ?y1 ?y2 ?y3 ?y4 ?y5  ?tc11 ?tv11 ?tw11 ?tt11 ?th11 ?tn11 ?tr11 ?tc40 ?tv40 ?tw40 ?tt40 ?th40 ?tn40 ?tr40 ?jm ?jl
    (case x0 => k_is); (case l0 => k_is); (case c0 => k_is); (case k0 => k_is)
    (case x1 => k_is); (case l1 => k_is); (case c1 => k_is); (case k1 => k_is)
    (case x2 => k_is); (case l2 => k_is); (case c2 => k_is); (case k2 => k_is)
    (case x3 => k_is); (case l3 => k_is); (case c3 => k_is); (case k3 => k_is)
    (case x4 => k_is); (case l4 => k_is); (case c4 => k_is); (case k4 => k_is)
    (case x5 => k_is); (case l5 => k_is); (case c5 => k_is); (case k5 => k_is)
    (case x6 => k_is); (case l6 => k_is); (case c6 => k_is); (case k6 => k_is)
    (case x7 => k_is); (case l7 => k_is); (case c7 => k_is); (case k7 => k_is)
    (case x8 => k_is); (case l8 => k_is); (case c8 => k_is); (case k8 => k_is)
    (case x9 => k_is); (case l9 => k_is); (case c9 => k_is); (case k9 => k_is)
    (case x10 => k_is); (case l10 => k_is); (case c10 => k_is); (case k10 => k_is)
    (case x11 => k_is); (case l11 => k_is); (case c11 => k_is); (case k11 => k_is)
    (case x12 => k_is); (case l12 => k_is); (case c12 => k_is); (case k12 => k_is)
    (case x13 => k_is); (case l13 => k_is); (case c13 => k_is); (case k13 => k_is)
    (case x14 => k_is); (case l14 => k_is); (case c14 => k_is); (case k14 => k_is)
    (case x15 => k_is); (case l15 => k_is); (case c15 => k_is); (case k15 => k_is)
    (case x16 => k_is); (case l16 => k_is); (case c16 => k_is); (case k16 => k_is)
    (case x17 => k_is); (case l17 => k_is); (case c17 => k_is); (case k17 => k_is)
    (case x18 => k_is); (case l18 => k_is); (case c18 => k_is); (case k18 => k_is)
    (case x19 => k_is); (case l19 => k_is); (case c19 => k_is); (case k19 => k_is)
    (case x20 => k_is); (case l20 => k_is); (case c20 => k_is); (case k20 => k_is)
    (case x21 => k_is); (case l21 => k_is); (case c21 => k_is); (case k21 => k_is)
    (case x22 => k_is); (case l22 => k_is); (case c22 => k_is); (case k22 => k_is)
    (case x23 => k_is); (case l23 => k_is); (case c23 => k_is); (case k23 => k_is)
    (case x24 => k_is); (case l24 => k_is); (case c24 => k_is); (case k24 => k_is)
    (case x25 => k_is); (case l25 => k_is); (case c25 => k_is); (case k25 => k_is)
    (case x26 => k_is); (case l26 => k_is); (case c26 => k_is); (case k26 => k_is)
    (case x27 => k_is); (case l27 => k_is); (case c27 => k_is); (case k27 => k_is)
    (case x28 => k_is); (case l28 => k_is); (case c28 => k_is); (case k28 => k_is)
    (case x29 => k_is); (case l29 => k_is); (case c29 => k_is); (case k29 => k_is)
    (case x30 => k_is); (case l30 => k_is); (case c30 => k_is); (case k30 => k_is)
    (case x31 => k_is); (case l31 => k_is); (case c31 => k_is); (case k31 => k_is)
    (case x32 => k_is); (case l32 => k_is); (case c32 => k_is); (case k32 => k_is)
    (case x33 => k_is); (case l33 => k_is); (case c33 => k_is); (case k33 => k_is)
    (case x34 => k_is); (case l34 => k_is); (case c34 => k_is); (case k34 => k_is)
    (case x35 => k_is); (case l35 => k_is); (case c35 => k_is); (case k35 => k_is)
    (case x36 => k_is); (case l36 => k_is); (case c36 => k_is); (case k36 => k_is)
    (case x37 => k_is); (case l37 => k_is); (case c37 => k_is); (case k37 => k_is)
    (case x38 => k_is); (case l38 => k_is); (case c38 => k_is); (case k38 => k_is)
    (case x39 => k_is); (case l39 => k_is); (case c39 => k_is); (case k39 => k_is)
    (case x40 => k_is); (case l40 => k_is); (case c40 => k_is); (case k40 => k_is)
    (case xN => k_is); (case xH => k_is); (case eN => kernel_rfl); (case eH => kernel_rfl)
    (case z0 => k_is)
    (case z1 => k_is)
    (case z2 => k_is)
    (case z3 => k_is)
    (case z4 => k_is)
    (case z5 => k_is)
    (case z6 => k_is)
    (case z7 => k_is)
    (case z8 => k_is)
    (case z9 => k_is)
    (case z10 => k_is)
    (case z11 => k_is)
    (case z12 => k_is)
    (case y0 => k_is)
    (case y1 => k_is)
    (case y2 => k_is)
    (case y3 => k_is)
    (case y4 => k_is)
    (case y5 => k_is)
    (case tc11 => rfl); (case tv11 => k_is); (case tw11 => rfl); (case tt11 => kernel_rfl); (case th11 => kernel_rfl); (case tn11 => kernel_rfl); (case tr11 => rfl)
    (case tc40 => rfl); (case tv40 => k_is); (case tw40 => rfl); (case tt40 => kernel_rfl); (case th40 => kernel_rfl); (case tn40 => kernel_rfl); (case tr40 => rfl)
    (case jm => decide)
    (case jl => decide)
