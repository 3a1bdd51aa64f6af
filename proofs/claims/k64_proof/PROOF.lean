import PyProof.Rows.All
import PyProof.StrLawsIdx
import Wide.All
import OpenK.AllK
import Wide.FinOn
import Lean
import PyProof.EqAt
import PyProof.EqKinds
import PyProof.TupleCall
import PyProof.NeKinds
import PySem.Challenge.RW_homeslopes_k64_pages_written_and_read
set_option Elab.async false
set_option linter.all false
set_option maxRecDepth 100000
set_option maxHeartbeats 4000000
set_option genSizeOf false
set_option genInjectivity false
noncomputable section
open PySem PySem.Spec PyProof.Rows
section
namespace L2
open PySem PySem.Spec PyProof.Rows
abbrev Key := Sum Int Str
noncomputable def keyIs : Key → Value → Bool
  | .inl k, v => Value.isInt k v
  | .inr x, v => Value.isStrOf x v
noncomputable def keyH (w : World) : Key → Int
  | .inl k => hashInt k
  | .inr x => hashStr w x
theorem keyIs_shape : ∀ {k : Key} {v : Value}, keyIs k v = true → (∃ i t, k = Sum.inl i ∧ v = Value.int i t) ∨ (∃ x t, k = Sum.inr x ∧ v = Value.str x t)
  | .inl i, v, h => by
    obtain ⟨t, e⟩ := Value.isInt_shape (k := i) (v := v) h
    exact .inl ⟨i, t, rfl, e⟩
  | .inr x, v, h => by
    obtain ⟨t, e⟩ := Value.isStrOf_shape (x := x) (v := v) h
    exact .inr ⟨x, t, rfl, e⟩
theorem keyIs_int (i : Int) (t : Tok) : keyIs (.inl i) (.int i t) = true := by simp [keyIs, Value.isInt]
theorem keyIs_str (x : Str) (t : Tok) : keyIs (.inr x) (.str x t) = true := by simp [keyIs, Value.isStrOf]
theorem key_ll (a b : Int) : decide ((Sum.inl a : Key) = Sum.inl b) = (a == b) := by
  by_cases e : a = b
  · subst e; simp
  · have h : ¬ (Sum.inl a : Key) = Sum.inl b := fun q => e (Sum.inl.inj q)
    rw [decide_eq_false h]
    exact (beq_eq_false_iff_ne.mpr e).symm
theorem key_rr (a b : Str) : decide ((Sum.inr a : Key) = Sum.inr b) = decide (a = b) := by
  by_cases e : a = b
  · subst e; simp
  · have h : ¬ (Sum.inr a : Key) = Sum.inr b := fun q => e (Sum.inr.inj q)
    rw [decide_eq_false h, decide_eq_false e]
theorem key_lr (a : Int) (b : Str) : decide ((Sum.inl a : Key) = Sum.inr b) = false := decide_eq_false (fun q => nomatch q)
theorem key_rl (a : Str) (b : Int) : decide ((Sum.inr a : Key) = Sum.inl b) = false := decide_eq_false (fun q => nomatch q)
noncomputable def mixKind (prog : Program) (w : World) : PySem.KeyKind prog w Key where
  is := keyIs
  hash := keyH w
  inj := fun v a b ha hb => by
    rcases keyIs_shape ha with ⟨i, t, rfl, rfl⟩ | ⟨x, t, rfl, rfl⟩
    · rcases keyIs_shape hb with ⟨j, u, rfl, e⟩ | ⟨y, u, rfl, e⟩
      · injection e with e1 _; rw [e1]
      · exact nomatch e
    · rcases keyIs_shape hb with ⟨j, u, rfl, e⟩ | ⟨y, u, rfl, e⟩
      · exact nomatch e
      · injection e with e1 _; rw [e1]
  byValue := fun k v h => by
    rcases keyIs_shape h with ⟨i, t, rfl, rfl⟩ | ⟨x, t, rfl, rfl⟩ <;> rfl
  pyHash := fun hv h => by
    rcases keyIs_shape hv with ⟨i, t, rfl, rfl⟩ | ⟨x, t, rfl, rfl⟩
    · exact wpAny_pyHash_int h
    · exact wpAny_pyHash_str h
  eqBool := fun hu hv h => by
    rcases keyIs_shape hu with ⟨i, t, rfl, rfl⟩ | ⟨x, t, rfl, rfl⟩
    · rcases keyIs_shape hv with ⟨j, u, rfl, rfl⟩ | ⟨y, u, rfl, rfl⟩
      · rw [key_ll] at h; exact wpAny_eqBool_int h
      · rw [key_lr] at h; exact SeqAt.EqAt.int_str i t y u _ _ _ _ h
    · rcases keyIs_shape hv with ⟨j, u, rfl, rfl⟩ | ⟨y, u, rfl, rfl⟩
      · rw [key_rl] at h; exact SeqAt.EqAt.str_int x t j u _ _ _ _ h
      · rw [key_rr] at h; exact wpAny_eqBool_str h
  «strs» := fun k x t v h => by
    rcases keyIs_shape h with ⟨i, u, rfl, e⟩ | ⟨y, u, rfl, e⟩
    · exact nomatch e
    · injection e with e1 _
      subst e1
      cases v <;> rfl
theorem mixKind_int (prog : Program) (w : World) (i : Int) (t : Tok) : (mixKind prog w).is (.inl i) (.int i t) = true := keyIs_int i t
theorem mixKind_str (prog : Program) (w : World) (x : Str) (t : Tok) : (mixKind prog w).is (.inr x) (.str x t) = true := keyIs_str x t
end L2
namespace L2
open PySem PySem.Spec PyProof.Rows
set_option genInjectivity true in
inductive V where
  | non | bl (b : Bool) | int (i : Int) | str (x : Str) | byt (b : Array UInt8) | flt (b : UInt64) | ref (a : Addr) | ty (n : String)
  deriving DecidableEq
noncomputable def RelV : V → Value → Prop
  | .non, u => u = Value.none
  | .bl b, u => u = Value.bool b
  | .int i, u => ∃ t, u = Value.int i t
  | .str x, u => ∃ t, u = Value.str x t
  | .byt b, u => ∃ t, u = Value.bytes b t
  | .flt b, u => ∃ t, u = Value.float b t
  | .ref a, u => u = Value.ref a
  | .ty n, u => u = Value.type n
abbrev Vals : List V → List Value → Prop := Paired RelV
theorem Vals.length {xs : List V} {us : List Value} (r : Vals xs us) : xs.length = us.length := Paired.length r
theorem Vals.get : ∀ {xs : List V} {us : List Value} {i : Nat} {x : V}, Vals xs us → xs[i]? = some x → ∃ u, us[i]? = some u ∧ RelV x u
  | _, _, _, _, .nil, e => by simp at e
  | _, _, 0, _, .cons r _, e => by simp at e; subst e; exact ⟨_, rfl, r⟩
  | _, _, i + 1, x, .cons _ t, e => by
    obtain ⟨u, h1, h2⟩ := Vals.get (i := i) (x := x) t (by simpa using e)
    exact ⟨u, by simpa using h1, h2⟩
theorem Vals.set {x : V} {u : Value} (r : RelV x u) : ∀ {xs : List V} {us : List Value} (i : Nat), Vals xs us → Vals (xs.set i x) (us.set i u)
  | _, _, _, .nil => .nil
  | _, _, 0, .cons _ t => .cons r t
  | _, _, i + 1, .cons q t => .cons q (Vals.set r i t)
theorem Vals.append : ∀ {xs ys : List V} {us ws : List Value}, Vals xs us → Vals ys ws → Vals (xs ++ ys) (us ++ ws)
  | _, _, _, _, .nil, s => s
  | _, _, _, _, .cons r t, s => .cons r (Vals.append t s)
theorem Vals.take : ∀ {xs : List V} {us : List Value} (n : Nat), Vals xs us → Vals (xs.take n) (us.take n)
  | _, _, 0, _ => .nil
  | _, _, _ + 1, .nil => .nil
  | _, _, n + 1, .cons r t => .cons r (Vals.take n t)
theorem Vals.drop : ∀ {xs : List V} {us : List Value} (n : Nat), Vals xs us → Vals (xs.drop n) (us.drop n)
  | _, _, 0, r => r
  | _, _, _ + 1, .nil => .nil
  | _, _, n + 1, .cons _ t => Vals.drop n t
noncomputable def RelO : Option V → Option Value → Prop
  | some v, some u => RelV v u
  | none, none => True
  | _, _ => False
noncomputable def KV {κ : Type} : List (κ × V) → List (κ × Value) → Prop := Paired fun (p : κ × V) (q : κ × Value) => p.1 = q.1 ∧ RelV p.2 q.2
noncomputable def kV : Key → V
  | .inl i => .int i
  | .inr x => .str x
inductive HO where
    | lst (xs : List V)
    | tup (xs : List V)
    | dK (kvs : List (Key × V)) | dT (kvs : List (List Key × V))
    | set (S : Int → Bool) (n : Nat)
    | ins (C dx : Addr) (fs : List (Str × V))
    | own (x : Addr)
    | xd (fs : List (Str × V))
    | met (f x : Addr)
    | rng (lo hi : Int)
    | frz (o : Obj) (u : HO)
    | tbl (ps : Array Value)
    | ext (φ : Heap → Prop)
abbrev Hp := Addr → Option HO
noncomputable def upd (H : Hp) (a : Addr) (o : HO) : Hp := fun b => if b = a then some o else H b
theorem upd_same {H : Hp} {a : Addr} {o : HO} : upd H a o a = some o := by unfold upd; rw [if_pos rfl]
theorem upd_ne {H : Hp} {a b : Addr} {o : HO} (h : b ≠ a) : upd H a o b = H b := by unfold upd; rw [if_neg h]
theorem upd_upd {H : Hp} {a : Addr} {o u : HO} : upd (upd H a o) a u = upd H a u := by
  funext b; unfold upd; split <;> rfl
theorem ne_of_none {H : Hp} {a b : Addr} {o : HO} (h : H a = some o) (h' : H b = none) : a ≠ b := by
  intro e; subst e; rw [h] at h'; cases h'
def IsTupP (h : Heap) (a : Addr) (items : Array Value) : Prop := ∃ n, h.get? a = some { cls := .type "tuple", data := .seq items n }
theorem IsTupP.is {h : Heap} {a : Addr} {items : Array Value} (p : IsTupP h a items) : IsTup h a items := by
  obtain ⟨n, e⟩ := p
  exact ⟨_, e, rfl, n, rfl⟩
theorem IsTupP.new (h : Heap) (items : Array Value) : IsTupP (h.push { cls := .type "tuple", data := .seq items }) h.objs.size items := ⟨_, Heap.get?_push_size _ rfl⟩
section
variable (P : Program) (w : World)
noncomputable def ObjOk (H : Hp) (h : Heap) (a : Addr) : HO → Prop
  | .lst xs => xs.length ≤ sizeLine ∧ ∃ (its : List Value) (n : Nat), Vals xs its ∧ h.get? a = some { cls := .type "list", data := .seq its.toArray n }
  | .tup xs => xs.length ≤ sizeLine ∧ ∃ its : List Value, Vals xs its ∧ IsTupP h a its.toArray
  | .dK kvs => kvs.length ≤ sizeLine ∧ (a == sysModules) = false ∧ ∃ vs, KV kvs vs ∧ h.DictOf (mixKind P w) a vs
  | .dT kvs => kvs.length ≤ sizeLine ∧ (a == sysModules) = false ∧ ∃ xs : List (List Key × Addr × Value),
      Paired (fun (p : List Key × V) (q : List Key × Addr × Value) => p.1 = q.1 ∧ H q.2.1 = some (.tup (p.1.map kV)) ∧ RelV p.2 q.2.2) kvs xs ∧
      ∃ o es ep, h.get? a = some o ∧ o.ExactDict ∧ o.data = .dict es ep ∧ es.toList = xs.map (entryOfKey (tupleKind (mixKind P w))) ∧ (xs.map (·.1)).Nodup
  | .set S n => h.SetOf (intKind P w) a S n
  | .ins C dx fs => H dx = some (.own a) ∧ fs.length ≤ 1000 ∧ dx ≠ a ∧ h.get? a = some (PySem.W.instObj C dx) ∧
      ∃ mA, h.Ns1 dx mA ∧ (∀ f, RelO (fs.lookup f) (mA f)) ∧ PySem.Within mA (fs.map (·.1))
  | .own _ => ∃ o, h.get? a = some o
  | .xd fs => ∃ mA, h.Ns1 a mA ∧ ∀ f, RelO (fs.lookup f) (mA f)
  | .rng lo hi => ∃ t u v, h.get? a = some { cls := .type "range", data := .fields #[.int lo t, .int hi u, .int 1 v] }
  | .frz o u => h.get? a = some o ∧ ObjOk H h a u
  | .tbl ps => h.get? a = some { cls := .none, data := .fields ps }
  | .met f x => h.get? a = some (PySem.W.methodObj (.ref f) (.ref x))
  | .ext φ => φ h ∧ (∃ o, h.get? a = some o) ∧ ∀ h1 h2 : Heap, φ h1 → (∀ o, h1.get? a = some o → h2.get? a = some o) → φ h2
def HOk (H : Hp) (h : Heap) : Prop := ∀ a o, H a = some o → ObjOk P w H h a o
end
section
variable {P : Program} {w : World} {H H' : Hp} {h h' : Heap} {a : Addr} {o : HO}
theorem ObjOk.lt (x : ObjOk P w H h a o) : a < h.objs.size := by
  cases o with
  | lst xs => obtain ⟨_, _, _, _, e⟩ := x; exact Heap.lt_size e
  | tup xs => obtain ⟨_, _, _, p⟩ := x; exact p.is.lt
  | dK kvs => obtain ⟨_, _, _, _, o, _, _, e, _⟩ := x; exact Heap.lt_size e
  | dT kvs => obtain ⟨_, _, _, _, o, _, _, e, _⟩ := x; exact Heap.lt_size e
  | set S n => obtain ⟨o, _, _, _, e, _⟩ := x; exact Heap.lt_size e
  | ins C dx fs => obtain ⟨_, _, _, e, _⟩ := x; exact Heap.lt_size e
  | own y => obtain ⟨_, e⟩ := x; exact Heap.lt_size e
  | xd fs => obtain ⟨_, ⟨_, _, _, e, _⟩, _⟩ := x; exact Heap.lt_size e
  | rng lo hi => obtain ⟨_, _, _, e⟩ := x; exact Heap.lt_size e
  | frz ob u => obtain ⟨e, _⟩ := x; exact Heap.lt_size e
  | tbl ps => exact Heap.lt_size (show h.get? a = some _ from x)
  | met f y => exact Heap.lt_size (show h.get? a = some _ from x)
  | ext φ => obtain ⟨_, ⟨_, e⟩, _⟩ := x; exact Heap.lt_size e
theorem Paired.mapP {α β : Type} {F G : α → β → Prop} : ∀ {l₁ : List α} {l₂ : List β}, Paired F l₁ l₂ → (∀ a b, F a b → G a b) → Paired G l₁ l₂
  | _, _, .nil, _ => .nil
  | _, _, .cons r t, f => .cons (f _ _ r) (Paired.mapP t f)
theorem ObjOk.stay (x : ObjOk P w H h a o) (k : ∀ b u, (b = a ∨ H b = some (.own a)) → h.get? b = some u → h'.get? b = some u)
    (ho : ∀ b, H b = some (.own a) → H' b = some (.own a)) (ht : ∀ b xs, H b = some (.tup xs) → H' b = some (.tup xs)) : ObjOk P w H' h' a o := by
  induction o with
  | lst xs => obtain ⟨z, its, n, r, e⟩ := x; exact ⟨z, its, n, r, k _ _ (.inl rfl) e⟩
  | tup xs => obtain ⟨z, its, r, n, e⟩ := x; exact ⟨z, its, r, n, k _ _ (.inl rfl) e⟩
  | dK kvs => obtain ⟨z, y, vs, r, ob, es, ep, e, c⟩ := x; exact ⟨z, y, vs, r, ob, es, ep, k _ _ (.inl rfl) e, c⟩
  | dT kvs =>
    obtain ⟨z, y, xs, r, ob, es, ep, e, c⟩ := x
    exact ⟨z, y, xs, Paired.mapP r fun p q z => ⟨z.1, ht _ _ z.2.1, z.2.2⟩, ob, es, ep, k _ _ (.inl rfl) e, c⟩
  | set S n => obtain ⟨ob, es, ep, t, e, c⟩ := x; exact ⟨ob, es, ep, t, k _ _ (.inl rfl) e, c⟩
  | ins C dx fs =>
    obtain ⟨d, z, ne, e, mA, ⟨od, es, ep, e2, c⟩, r⟩ := x
    exact ⟨ho _ d, z, ne, k _ _ (.inl rfl) e, mA, ⟨od, es, ep, k _ _ (.inr d) e2, c⟩, r⟩
  | own y => obtain ⟨ob, e⟩ := x; exact ⟨ob, k _ _ (.inl rfl) e⟩
  | xd fs => obtain ⟨mA, ⟨od, es, ep, e, c⟩, r⟩ := x; exact ⟨mA, ⟨od, es, ep, k _ _ (.inl rfl) e, c⟩, r⟩
  | rng lo hi => obtain ⟨t, u, v, e⟩ := x; exact ⟨t, u, v, k _ _ (.inl rfl) e⟩
  | frz ob u ih => obtain ⟨e, q⟩ := x; exact ⟨k _ _ (.inl rfl) e, ih q⟩
  | tbl ps =>
    have e : h.get? a = some { cls := .none, data := .fields ps } := x
    show h'.get? a = some { cls := .none, data := .fields ps }
    exact k a _ (.inl rfl) e
  | met f y =>
    have e : h.get? a = some (PySem.W.methodObj (.ref f) (.ref y)) := x
    show h'.get? a = some (PySem.W.methodObj (.ref f) (.ref y))
    exact k a _ (.inl rfl) e
  | ext φ => obtain ⟨p, ⟨o, e⟩, st⟩ := x; exact ⟨st _ _ p fun o q => k _ _ (.inl rfl) q, ⟨o, k _ _ (.inl rfl) e⟩, st⟩
theorem HOk.lt (x : HOk P w H h) (e : H a = some o) : a < h.objs.size := (x a o e).lt
theorem HOk.fresh (x : HOk P w H h) (e : h.objs.size ≤ a) : H a = none := by
  cases q : H a with
  | none => rfl
  | some u => exact absurd (Nat.lt_of_lt_of_le (x.lt q) e) (Nat.lt_irrefl _)
theorem HOk.kept (x : HOk P w H h) (k : ∀ b u, h.get? b = some u → h'.get? b = some u) : HOk P w H h' := fun a o e =>
  (x a o e).stay (fun b u _ q => k b u q) (fun _ q => q) fun _ _ q => q
theorem HOk.laid (x : HOk P w H h) (k : ∀ b u, h.get? b = some u → h'.get? b = some u) (hp : h.objs.size ≤ a) (new : ObjOk P w (upd H a o) h' a o) : HOk P w (upd H a o) h' := fun b u e => by
  have hn := x.fresh hp
  by_cases hb : b = a
  · subst hb; rw [upd_same] at e; cases e; exact new
  · rw [upd_ne hb] at e
    exact (x b u e).stay (fun c v _ q => k c v q) (fun c q => by rw [upd_ne (ne_of_none q hn)]; exact q) fun c xs q => by rw [upd_ne (ne_of_none q hn)]; exact q
end
def Rd (H : Hp) (a : Addr) (u : HO) : Prop := H a = some u ∨ ∃ o, H a = some (.frz o u)
theorem Rd.ok {P : Program} {w : World} {H : Hp} {h : Heap} {a : Addr} {u : HO} (r : Rd H a u) (x : HOk P w H h) : ObjOk P w H h a u := by
  rcases r with r | ⟨o, r⟩
  · exact x a u r
  · obtain ⟨_, q⟩ := x a _ r
    exact q
noncomputable def Mut : Option HO → Prop
  | some (.lst _) => True
  | some (.dK _) => True
  | some (.dT _) => True
  | some (.set _ _) => True
  | some (.ins _ _ _) => True
  | some (.ext _) => True
  | _ => False
section
variable {P : Program} {w : World} {H : Hp} {h h' : Heap} {x e : Addr} {o' : HO}
theorem HOk.write (ok : HOk P w H h) (mu : Mut (H x)) (he : e = x ∨ H e = some (.own x)) (k : ∀ b u, b ≠ e → h.get? b = some u → h'.get? b = some u) (heo : ∃ u, h'.get? e = some u)
    (new : ObjOk P w (upd H x o') h' x o') : HOk P w (upd H x o') h' := fun b u q => by
  have nown : ∀ c y, H c = some (.own y) → c ≠ x := fun c y r z => by subst z; rw [r] at mu; exact mu
  have ntup : ∀ c xs, H c = some (.tup xs) → c ≠ x := fun c xs r z => by subst z; rw [r] at mu; exact mu
  by_cases hb : b = x
  · subst hb; rw [upd_same] at q; cases q; exact new
  · rw [upd_ne hb] at q
    by_cases hbe : b = e
    · have q' : H b = some (.own x) := by
        rcases he with z | z
        · exact absurd (hbe.trans z) hb
        · rw [hbe]; exact z
      rw [q] at q'; cases q'
      obtain ⟨v, hv⟩ := heo
      exact ⟨v, by rw [hbe]; exact hv⟩
    · refine (ok b u q).stay (fun c v hc r => k c v ?_ r) (fun c r => by rw [upd_ne (nown c b r)]; exact r) fun c xs r => by rw [upd_ne (ntup c xs r)]; exact r
      rcases hc with rfl | hc
      · exact hbe
      · rintro rfl
        rcases he with z | z
        · exact nown c b hc z
        · rw [hc] at z; cases z; exact hb rfl
end
structure Un (fs ex : List Addr) (H H' : Hp) (h h' : Heap) : Prop where
  keep : ∀ b o, h.get? b = some o → H b = none → b ∉ fs → b ∉ ex → h'.get? b = some o
  slot : ∀ b o, h.get? b = some o → H b = none → b ∈ fs → b ∉ ex → ∃ sl, h'.get? b = some { o with slots := sl }
  free : ∀ b o, h.get? b = some o → H b = none → b ∉ ex → H' b = none
  there : ∀ b o, h.get? b = some o → b ∉ ex → ∃ o', h'.get? b = some o'
  tups : ∀ b xs, H b = some (.tup xs) → H' b = some (.tup xs)
  frzs : ∀ b o u, H b = some (.frz o u) → H' b = some (.frz o u)
  tbls : ∀ b ps, H b = some (.tbl ps) → ∃ more, H' b = some (.tbl (ps ++ more))
section
variable {fs fs' ex ex' : List Addr} {H H1 H2 : Hp} {h h1 h2 h' : Heap} {a x e : Addr} {o : HO}
theorem Un.any (u : Un fs ex H H1 h h1) {b : Addr} {ob : Obj} (q : h.get? b = some ob) (n : H b = none) (hx : b ∉ ex) : ∃ sl, h1.get? b = some { ob with slots := sl } := by
  by_cases hb : b ∈ fs
  · exact u.slot b ob q n hb hx
  · exact ⟨ob.slots, u.keep b ob q n hb hx⟩
theorem Un.kept (k : ∀ b u, h.get? b = some u → h'.get? b = some u) : Un fs ex H H h h' :=
  ⟨fun b ob q _ _ _ => k b ob q, fun b ob q _ _ _ => ⟨ob.slots, k b ob q⟩, fun _ _ _ n _ => n, fun b ob q _ => ⟨ob, k b ob q⟩, fun _ _ q => q, fun _ _ _ q => q, fun _ ps q => ⟨#[], by rw [q]; simp⟩⟩
theorem Un.refl : Un fs ex H H h h := Un.kept fun _ _ q => q
theorem Un.laid (k : ∀ b u, h.get? b = some u → h'.get? b = some u) (hp : h.objs.size ≤ a) (hn : H a = none) : Un fs ex H (upd H a o) h h' where
  keep := fun b u q _ _ _ => k b u q
  slot := fun b u q _ _ _ => ⟨u.slots, k b u q⟩
  free := fun b u q n _ => by rw [upd_ne (Nat.ne_of_lt (Nat.lt_of_lt_of_le (Heap.lt_size q) hp))]; exact n
  there := fun b u q _ => ⟨u, k b u q⟩
  tups := fun b xs q => by rw [upd_ne (ne_of_none q hn)]; exact q
  frzs := fun b u xs q => by rw [upd_ne (ne_of_none q hn)]; exact q
  tbls := fun b ps q => ⟨#[], by rw [upd_ne (ne_of_none q hn), q]; simp⟩
theorem Un.write (mu : Mut (H x)) (he : e = x ∨ H e = some (.own x)) (k : ∀ b u, b ≠ e → h.get? b = some u → h'.get? b = some u) (heo : ∃ u, h'.get? e = some u) : Un fs ex H (upd H x o) h h' := by
  have hx : ∀ b, H b = none → b ≠ x := fun b n z => by subst z; rw [n] at mu; exact mu
  have hb : ∀ b, H b = none → b ≠ e := fun b n z => by
    subst z
    rcases he with r | r
    · exact hx b n r
    · rw [n] at r; cases r
  have hm : ∀ b u, H b = some u → ¬ Mut (some u) → b ≠ x := fun b u q nm z => by subst z; rw [q] at mu; exact nm mu
  refine ⟨fun b u q n _ _ => k b u (hb b n) q, fun b u q n _ _ => ⟨u.slots, k b u (hb b n) q⟩, fun b u q n _ => by rw [upd_ne (hx b n)]; exact n, fun b u q _ => ?_,
    fun b xs q => by rw [upd_ne (hm b _ q fun z => z)]; exact q, fun b u xs q => by rw [upd_ne (hm b _ q fun z => z)]; exact q, fun b ps q => ⟨#[], by rw [upd_ne (hm b _ q fun z => z), q]; simp⟩⟩
  by_cases hbe : b = e
  · subst hbe; exact heo
  · exact ⟨u, k b u hbe q⟩
end
noncomputable def trk (h : Heap) (H : Hp) : List Addr := (List.range h.objs.size).filter fun a => (H a).isSome
noncomputable def hidT (h : Heap) (H : Hp) : Heap := PySem.W.hideAll h (trk h H)
theorem hidT_size (h : Heap) (H : Hp) : (hidT h H).objs.size = h.objs.size := PySem.W.hideAll_size _ _
theorem hidT_get {h : Heap} {H : Hp} {b : Addr} {o : Obj} (e : h.get? b = some o) (n : H b = none) : (hidT h H).get? b = some o :=
  PySem.W.hideAll_get _ e fun hm => by
    have q : (H b).isSome = true := (List.mem_filter.mp hm).2
    rw [n] at q; simp at q
theorem of_hidT {h : Heap} {H : Hp} {b : Addr} {o : Obj} (e : (hidT h H).get? b = some o) : h.get? b = some o ∧ H b = none := by
  have e' : h.get? b = some o := PySem.W.of_hideAll (trk h H) e
  refine ⟨e', ?_⟩
  cases q : H b with
  | none => rfl
  | some x =>
    have hm : b ∈ trk h H := List.mem_filter.mpr ⟨List.mem_range.mpr (Heap.lt_size e'), by simp [q]⟩
    have z : (hidT h H).get? b = none := PySem.W.hideAll_none (trk h H) hm
    rw [z] at e; cases e
noncomputable def allNews (g h : Heap) (L : Addr) : List (Addr × Obj) := (List.range h.objs.size).filterMap fun a => if a = L ∨ (g.get? a).isSome = true then none else (h.get? a).map fun o => (a, o)
noncomputable def rest (g h : Heap) (L d : Addr) : List (Addr × Obj) := (allNews g h L).filter fun p => decide (p.1 ≠ d)
end L2
namespace L2
open PySem PySem.Spec PyProof.Rows
structure Mod (K : PySem.W.Frag) (mg : Str → Option Value) (base : Heap) : Prop where
  kin : K.In base
  glob : base.Ns mainGlobals mg
  blt : ∃ mb, base.Ns builtinsNs mb ∧ ∀ x : Str, x ≠ "__name__" → mb x = bootBuiltins x
  nolimit : base.NoLimit
structure Cx where
  prog : Program
  w : World
  K : PySem.W.Frag
  mg : Str → Option Value
  base : Heap
  A : Around
  N : List Str
  s₀ : Shared
  H₀ : Hp
  env : Env
  outer : List Env
  stack : List Env
  ex : List Addr
  fn : Str → Bool
  calm : Bool
  pn : List (Addr × Obj)
  xe : Value → Shared → Prop
noncomputable def frs (l : List Env) : List Addr := l.filterMap (·.frame)
abbrev Cx.fs (X : Cx) : List Addr := frs X.outer
def Vis (sc : Scope) (x : Str) : Prop := sc.names.lookup x = some .local ∨ sc.names.lookup x = some .cell ∨ sc.names.lookup x = some .free
def Loc (sc : Scope) (x : Str) : Prop := sc.names.lookup x = some .local ∨ sc.names.lookup x = some .cell
def Look (env : Env) (h : Heap) (m : Str → Option Value) (x : Str) (u : Value) : Prop :=
  (env.kindOf x = some .local ∧ m x = some u) ∨ ((env.kindOf x = some .cell ∨ env.kindOf x = some .free) ∧ ∃ c, env.cells.lookup x = some c ∧ h.IsCell c (some u))
structure Cx.Ok (X : Cx) : Prop where
  mod : Mod X.K X.mg X.base
  kind : X.env.scope.kind = .function
  glob : X.env.globals = mainGlobals
  blt : X.env.builtins = builtinsNs
  above : X.s₀.heap.objs.size ≤ X.env.locals
  inj : ∀ x y c, X.env.cells.lookup x = some c → X.env.cells.lookup y = some c → x = y
  has : ∀ x, (X.env.kindOf x = some .cell ∨ X.env.kindOf x = some .free) → ∃ c, X.env.cells.lookup x = some c
  cab : ∀ x c, X.fn x = true → X.env.cells.lookup x = some c → X.s₀.heap.objs.size ≤ c
  hd : X.calm = true → X.A.handled = none
  frames : X.A.frames = some X.stack
  stk : X.stack = X.outer ∨ (X.stack = X.env :: X.outer ∧ X.env.frame = some X.env.locals)
  exf : ∀ b ∈ X.ex, b ≠ X.env.locals ∧ ∀ x c, X.env.cells.lookup x = some c → c ≠ b
  bs : ∀ b o, X.base.get? b = some o → X.s₀.heap.get? b = some o ∧ X.H₀ b = none
  bsz : X.base.objs.size ≤ X.s₀.heap.objs.size
  noex : ∀ b o, X.base.get? b = some o → b ∉ X.ex
  exfs : ∀ b ∈ X.ex, b ∉ X.fs
  funs : X.s₀.heap.FunFrames X.base X.outer
  frf : ∀ b ∈ X.fs, X.H₀ b = none
structure Inv (X : Cx) (pZ : List (Addr × Obj)) (σ : List (Option V)) (H : Hp) (s : Shared) : Prop where
  ok : X.Ok
  os : s.os = X.s₀.os
  bare : AllBare s.gens
  base : Un X.fs X.ex X.H₀ H X.s₀.heap s.heap
  loc : ∃ m, s.heap.Ns X.env.locals m ∧ ∀ (i : Nat) (x : Str) (v : V), X.N[i]? = some x → σ[i]? = some (some v) → Vis X.env.scope x → ∃ u, RelV v u ∧ Look X.env s.heap m x u
  cell : ∀ x c, X.env.cells.lookup x = some c → ∃ v, s.heap.IsCell c v
  free : H X.env.locals = none
  freeC : ∀ x c, X.env.cells.lookup x = some c → H c = none
  pin : ∀ p ∈ X.pn ++ pZ, s.heap.get? p.1 = some p.2 ∧ H p.1 = none ∧ p.1 ≠ X.env.locals ∧ p.1 ∉ X.fs ∧ ∀ v, p.2.data ≠ .cell v
  hok : HOk X.prog X.w H s.heap
  len : σ.length = X.N.length
section
variable {X : Cx} {pZ : List (Addr × Obj)} {σ : List (Option V)} {H H' : Hp} {s : Shared} {h' : Heap}
theorem Cx.Ok.nofr (ok : X.Ok) {b : Addr} {o : Obj} (e : X.base.get? b = some o) : b ∉ X.fs := fun hb => by
  have := (ok.funs.mem hb).1
  rw [e] at this; cases this
theorem Inv.bs (I : Inv X pZ σ H s) : ∀ b o, X.base.get? b = some o → s.heap.get? b = some o ∧ H b = none := fun b o e =>
  ⟨I.base.keep b o (I.ok.bs b o e).1 (I.ok.bs b o e).2 (I.ok.nofr e) (I.ok.noex b o e), I.base.free b o (I.ok.bs b o e).1 (I.ok.bs b o e).2 (I.ok.noex b o e)⟩
theorem Inv.bk (I : Inv X pZ σ H s) : ∀ b o, X.base.get? b = some o → s.heap.get? b = some o := fun b o e => (I.bs b o e).1
theorem Inv.mod (I : Inv X pZ σ H s) : Mod X.K X.mg X.base := I.ok.mod
theorem Inv.kIn (I : Inv X pZ σ H s) : X.K.In s.heap := I.ok.mod.kin.keeps I.bk
theorem Inv.lt (I : Inv X pZ σ H s) : X.env.locals < s.heap.objs.size := let ⟨_, hn, _⟩ := I.loc; hn.lt
theorem Inv.sz (I : Inv X pZ σ H s) : X.s₀.heap.objs.size ≤ s.heap.objs.size := Nat.le_trans I.ok.above (Nat.le_of_lt I.lt)
theorem Inv.nofs (I : Inv X pZ σ H s) {a : Addr} (h : s.heap.objs.size ≤ a) : a ∉ X.fs := fun hb => by
  obtain ⟨_, o, ho, _⟩ := I.ok.funs.mem hb
  exact absurd (Nat.lt_of_lt_of_le (Heap.lt_size ho) (Nat.le_trans I.sz h)) (Nat.lt_irrefl _)
theorem Inv.cne (I : Inv X pZ σ H s) : ∀ x c, X.env.cells.lookup x = some c → c ≠ X.env.locals := fun x c e z => by
  obtain ⟨v, o, ho, hd⟩ := I.cell x c e
  obtain ⟨m, ⟨o', es, ep, ho', hd', _⟩, _⟩ := I.loc
  rw [z, ho'] at ho; cases ho; rw [hd'] at hd; cases hd
theorem Inv.funs (I : Inv X pZ σ H s) : s.heap.FunFrames X.base X.outer := by
  have all : ∀ (l : List Env), (∀ b ∈ frs l, b ∈ X.fs) → X.s₀.heap.FunFrames X.base l → s.heap.FunFrames X.base l := by
    intro l
    induction l with
    | nil => intro _ _; trivial
    | cons env r ih =>
      intro hs hl
      obtain ⟨hk, ⟨L, o, hf, hn, ho, hd⟩, hr⟩ := hl
      have hL : L ∈ X.fs := hs L (by unfold frs; rw [List.filterMap_cons, hf]; exact List.mem_cons_self)
      obtain ⟨sl, e⟩ := I.base.slot L o ho (I.ok.frf L hL) hL fun z => I.ok.exfs L z hL
      exact ⟨hk, ⟨L, _, hf, hn, e, hd⟩, ih (fun b hb => hs b (by unfold frs; rw [List.filterMap_cons, hf]; exact List.mem_cons_of_mem _ hb)) hr⟩
  exact all X.outer (fun _ hb => hb) I.ok.funs
theorem Inv.stack (I : Inv X pZ σ H s) : s.heap.FunFrames X.base X.stack := by
  rcases I.ok.stk with e | ⟨e, hf⟩
  · rw [e]; exact I.funs
  · rw [e]
    obtain ⟨m, hn, _⟩ := I.loc
    refine .cons (by rw [I.ok.kind]; decide) hf hn ?_ I.funs
    exact Heap.get?_none_of_le (Nat.le_trans I.ok.bsz I.ok.above)
theorem Inv.stkSub (I : Inv X pZ σ H s) : ∀ b ∈ frs X.stack, b ∈ X.env.locals :: X.fs := fun b hb => by
  rcases I.ok.stk with e | ⟨e, hf⟩
  · rw [e] at hb; exact List.mem_cons_of_mem _ hb
  · rw [e] at hb
    unfold frs at hb
    rw [List.filterMap_cons, hf] at hb
    exact hb
theorem Inv.stkFree (I : Inv X pZ σ H s) : ∀ b ∈ frs X.stack, H b = none := fun b hb => by
  rcases List.mem_cons.mp (I.stkSub b hb) with e | hb
  · rw [e]; exact I.free
  · obtain ⟨_, o, ho, _⟩ := I.ok.funs.mem hb
    exact I.base.free b o ho (I.ok.frf b hb) fun z => I.ok.exfs b z hb
theorem Inv.step {g' : Array GenState} {t' : Nat} {d' : Drawn} {ch : List Addr} (I : Inv X pZ σ H s)
    (hch : ∀ b ∈ ch, (b ∈ X.ex ∨ X.s₀.heap.objs.size ≤ b) ∧ b ≠ X.env.locals ∧ (∀ x c, X.env.cells.lookup x = some c → c ≠ b) ∧ ∀ p ∈ X.pn ++ pZ, p.1 ≠ b)
    (keep : ∀ b o, b ≠ X.env.locals → b ∉ X.fs → b ∉ ch → s.heap.get? b = some o → H b = none → h'.get? b = some o)
    (slot : ∀ b o, b ≠ X.env.locals → b ∈ X.fs → b ∉ ch → s.heap.get? b = some o → H b = none → ∃ sl, h'.get? b = some { o with slots := sl }) (free : ∀ b o, b ∉ ch → s.heap.get? b = some o → H b = none → H' b = none)
    (there : ∀ b o, b ∉ ch → s.heap.get? b = some o → ∃ o', h'.get? b = some o')
    (tups : ∀ b xs, H b = some (.tup xs) → H' b = some (.tup xs)) (frzs : ∀ b o u, H b = some (.frz o u) → H' b = some (.frz o u)) (tbls : ∀ b ps, H b = some (.tbl ps) → ∃ more, H' b = some (.tbl (ps ++ more)))
    (ns : ∀ m, s.heap.Ns X.env.locals m → h'.Ns X.env.locals m) (hok : HOk X.prog X.w H' h') (hg : AllBare g') :
    Inv X pZ σ H' { s with heap := h', gens := g', drawn := d', toks := t' } := by
  have neL : ∀ b o, X.s₀.heap.get? b = some o → b ≠ X.env.locals := fun b o e => Nat.ne_of_lt (Nat.lt_of_lt_of_le (Heap.lt_size e) I.ok.above)
  have neC : ∀ b o, X.s₀.heap.get? b = some o → b ∉ X.ex → b ∉ ch := fun b o e hx hb => by
    rcases (hch b hb).1 with z | z
    · exact hx z
    · exact absurd (Nat.lt_of_lt_of_le (Heap.lt_size e) z) (Nat.lt_irrefl _)
  have cellK : ∀ x c, X.env.cells.lookup x = some c → ∀ v, s.heap.IsCell c v → h'.IsCell c v := fun x c e v ⟨o, ho, hd⟩ => by
    have nch : c ∉ ch := fun z => (hch c z).2.2.1 x c e rfl
    by_cases hc : c ∈ X.fs
    · obtain ⟨sl, q⟩ := slot c o (I.cne x c e) hc nch ho (I.freeC x c e)
      exact ⟨_, q, hd⟩
    · exact ⟨o, keep c o (I.cne x c e) hc nch ho (I.freeC x c e), hd⟩
  refine ⟨I.ok, I.os, hg, ⟨fun b o e n hb hx => ?_, fun b o e n hb hx => ?_, fun b o e n hx => ?_, fun b o e hx => ?_, fun b xs e => tups b xs (I.base.tups b xs e), fun b o xs e => frzs b o xs (I.base.frzs b o xs e), fun b ps e => ?_⟩, ?_, fun x c e => ?_, ?_, fun x c e => ?_, fun p hp => ?_, hok, I.len⟩
  · exact keep b o (neL b o e) hb (neC b o e hx) (I.base.keep b o e n hb hx) (I.base.free b o e n hx)
  · obtain ⟨sl, e1⟩ := I.base.slot b o e n hb hx
    obtain ⟨sl', e2⟩ := slot b _ (neL b o e) hb (neC b o e hx) e1 (I.base.free b o e n hx)
    exact ⟨sl', e2⟩
  · obtain ⟨o', e1⟩ := I.base.there b o e hx
    exact free b o' (neC b o e hx) e1 (I.base.free b o e n hx)
  · obtain ⟨o', e1⟩ := I.base.there b o e hx
    exact there b o' (neC b o e hx) e1
  · obtain ⟨m1, e1⟩ := I.base.tbls b ps e
    obtain ⟨m2, e2⟩ := tbls b _ e1
    exact ⟨m1 ++ m2, by rw [e2, Array.append_assoc]⟩
  · obtain ⟨m, hn, hl⟩ := I.loc
    refine ⟨m, ns m hn, fun i x v e1 e2 e3 => ?_⟩
    obtain ⟨u, r, l⟩ := hl i x v e1 e2 e3
    refine ⟨u, r, ?_⟩
    rcases l with l | ⟨k, c, e, z⟩
    · exact .inl l
    · exact .inr ⟨k, c, e, cellK x c e _ z⟩
  · obtain ⟨v, z⟩ := I.cell x c e
    exact ⟨v, cellK x c e v z⟩
  · obtain ⟨m, ⟨o, _, _, ho, _⟩, _⟩ := I.loc
    exact free _ o (fun z => (hch _ z).2.1 rfl) ho I.free
  · obtain ⟨v, o, ho, hd⟩ := I.cell x c e
    exact free c o (fun z => (hch c z).2.2.1 x c e rfl) ho (I.freeC x c e)
  · obtain ⟨e, n, ne, nf, d⟩ := I.pin p hp
    have nch : p.1 ∉ ch := fun z => (hch p.1 z).2.2.2 p hp rfl
    exact ⟨keep p.1 p.2 ne nf nch e n, free p.1 p.2 nch e n, ne, nf, d⟩
theorem Inv.un {t' : Nat} (I : Inv X pZ σ H s) (u : Un X.fs [] H H' s.heap h') (hok : HOk X.prog X.w H' h') : Inv X pZ σ H' { s with heap := h', toks := t' } := by
  obtain ⟨m, ⟨o, es, ep, ho, r⟩, _⟩ := id I.loc
  obtain ⟨sl, hL⟩ := u.any ho I.free (by simp)
  exact I.step (g' := s.gens) (d' := s.drawn) (ch := []) (fun _ z => nomatch z) (fun b o _ hb _ e n => u.keep b o e n hb (by simp)) (fun b o _ hb _ e n => u.slot b o e n hb (by simp)) (fun b o _ e n => u.free b o e n (by simp)) (fun b o _ e => u.there b o e (by simp)) u.tups u.frzs u.tbls (fun m' hm => by
    obtain ⟨o', es', ep', ho', r'⟩ := hm
    rw [ho] at ho'; cases ho'
    exact ⟨_, es', ep', hL, r'⟩) hok I.bare
theorem Inv.call {g' : Array GenState} {t' : Nat} {d' : Drawn} {ch : List Addr} (I : Inv X pZ σ H s) (u : Un (frs X.stack) ch H H' s.heap h') (hok : HOk X.prog X.w H' h') (hg : AllBare g')
    (hch : ∀ b ∈ ch, (b ∈ X.ex ∨ X.s₀.heap.objs.size ≤ b) ∧ b ≠ X.env.locals ∧ (∀ x c, X.env.cells.lookup x = some c → c ≠ b) ∧ ∀ p ∈ X.pn ++ pZ, p.1 ≠ b) :
    Inv X pZ σ H' { s with heap := h', gens := g', drawn := d', toks := t' } := by
  obtain ⟨m, ⟨o, es, ep, ho, r⟩, _⟩ := id I.loc
  obtain ⟨sl, hL⟩ := u.any ho I.free fun z => (hch _ z).2.1 rfl
  exact I.step (ch := ch) hch (fun b o hL hb hc e n => u.keep b o e n (fun z => (List.mem_cons.mp (I.stkSub b z)).elim hL hb) hc) (fun b o _ _ hc e n => u.any e n hc) (fun b o hc e n => u.free b o e n hc) (fun b o hc e => u.there b o e hc) u.tups u.frzs u.tbls (fun m' hm => by
    obtain ⟨o', es', ep', ho', r'⟩ := hm
    rw [ho] at ho'; cases ho'
    exact ⟨_, es', ep', hL, r'⟩) hok hg
theorem Inv.turned {t' : Nat} {it : Addr} (I : Inv X pZ σ H s) (k : ∀ b o, b ≠ it → s.heap.get? b = some o → h'.get? b = some o) (hn : H it = none) (hL : it ≠ X.env.locals)
    (h1 : it ∈ X.ex ∨ X.s₀.heap.objs.size ≤ it) (h2 : ∀ x c, X.env.cells.lookup x = some c → c ≠ it) (h3 : ∀ p ∈ X.pn ++ pZ, p.1 ≠ it) : Inv X pZ σ H { s with heap := h', toks := t' } := by
  have nit : ∀ b u, H b = some u → b ≠ it := fun b u e z => by rw [z, hn] at e; cases e
  refine I.step (g' := s.gens) (d' := s.drawn) (ch := [it]) (fun b hb => ?_) (fun b o _ _ hc e _ => k b o (fun z => hc (by simp [z])) e) (fun b o _ _ hc e _ => ⟨o.slots, k b o (fun z => hc (by simp [z])) e⟩) (fun _ _ _ _ n => n)
    (fun b o hc e => ⟨o, k b o (fun z => hc (by simp [z])) e⟩) (fun _ _ e => e) (fun _ _ _ e => e) (fun b ps e => ⟨#[], by rw [e]; simp⟩) (fun m hm => ?_) (fun b u e => ?_) I.bare
  · have e : b = it := by simpa using hb
    subst e
    exact ⟨h1, hL, h2, h3⟩
  · obtain ⟨o, es, ep, ho, r⟩ := hm
    exact ⟨o, es, ep, k _ o (Ne.symm hL) ho, r⟩
  · refine (I.hok b u e).stay (fun c v hc q => k c v ?_ q) (fun _ q => q) fun _ _ q => q
    rcases hc with z | z
    · rw [z]; exact nit b u e
    · exact nit c _ z
theorem Inv.tok (I : Inv X pZ σ H s) (t : Nat) : Inv X pZ σ H { s with toks := t } := I.un (h' := s.heap) (t' := t) Un.refl I.hok
theorem Inv.kept {t' : Nat} (I : Inv X pZ σ H s) (k : ∀ b u, s.heap.get? b = some u → h'.get? b = some u) : Inv X pZ σ H { s with heap := h', toks := t' } := I.un (Un.kept k) (I.hok.kept k)
theorem Inv.laid {a : Addr} {o : HO} {t' : Nat} (I : Inv X pZ σ H s) (k : ∀ b u, s.heap.get? b = some u → h'.get? b = some u) (hp : s.heap.objs.size ≤ a) (new : ObjOk X.prog X.w (upd H a o) h' a o) :
    Inv X pZ σ (upd H a o) { s with heap := h', toks := t' } := I.un (Un.laid k hp (I.hok.fresh hp)) (I.hok.laid k hp new)
theorem Inv.write {x e : Addr} {o : HO} {t' : Nat} (I : Inv X pZ σ H s) (mu : Mut (H x)) (he : e = x ∨ H e = some (.own x)) (k : ∀ b u, b ≠ e → s.heap.get? b = some u → h'.get? b = some u) (heo : ∃ u, h'.get? e = some u)
    (new : ObjOk X.prog X.w (upd H x o) h' x o) : Inv X pZ σ (upd H x o) { s with heap := h', toks := t' } := I.un (Un.write mu he k heo) (I.hok.write mu he k heo new)
theorem Inv.pins_of {pins' : List (Addr × Obj)} (I : Inv X pZ σ H s) (h : ∀ p ∈ pins', s.heap.get? p.1 = some p.2 ∧ H p.1 = none ∧ p.1 ≠ X.env.locals ∧ p.1 ∉ X.fs ∧ ∀ v, p.2.data ≠ .cell v) : Inv X pins' σ H s :=
  ⟨I.ok, I.os, I.bare, I.base, I.loc, I.cell, I.free, I.freeC, fun p hp => (List.mem_append.mp hp).elim (fun z => I.pin p (List.mem_append_left _ z)) (h p), I.hok, I.len⟩
theorem nodup_ix {N : List Str} (hN : N.Nodup) {i j : Nat} {x : Str} (a : N[i]? = some x) (b : N[j]? = some x) : i = j := by
  obtain ⟨h1, e1⟩ := List.getElem?_eq_some_iff.mp a
  obtain ⟨h2, e2⟩ := List.getElem?_eq_some_iff.mp b
  exact (List.getElem_inj hN).mp (e1.trans e2.symm)
theorem store_ok2 {M : Model} {A : Around} {E : Value → Shared → Prop} {i : Nat} {x : Str} {v : V} {u : Value} {Q : Unit → Shared → Prop} (I : Inv X pZ σ H s) (hN : X.N.Nodup) (hi : X.N[i]? = some x) (hx : Loc X.env.scope x) (r : RelV v u)
    (h : ∀ s', Inv X pZ (σ.set i (some v)) H s' → (∃ a, Heap.SameBut a s.heap s'.heap ∧ (a = X.env.locals ∨ X.env.cells.lookup x = some a)) → Q () s') (hf : X.fn x = true ∨ X.env.scope.names.lookup x = some .local := by first | exact .inl rfl | exact .inr rfl | assumption) : wpAny M A (storeName X.env x u) Q E s := by
  obtain ⟨m, hn, hl⟩ := id I.loc
  have hcls : (X.env.scope.kind == .class || (X.env.scope.kind == .module && X.env.locals != X.env.globals)) = false := by rw [I.ok.kind]; rfl
  have hiσ : i < σ.length := by rw [I.len]; exact (List.getElem?_eq_some_iff.mp hi).1
  have cne := I.cne
  have tracked : ∀ {a : Addr} {h' : Heap}, (∃ o, s.heap.get? a = some o ∧ H a = none) → Heap.SameBut a s.heap h' → HOk X.prog X.w H h' := fun {a h'} ha hs b ob e => by
    obtain ⟨_, _, hfree⟩ := ha
    refine (I.hok b ob e).stay (fun c w' hc q => (hs.2 c ?_).trans q) (fun _ q => q) fun _ _ q => q
    rintro rfl
    rcases hc with rfl | hc
    · rw [hfree] at e; cases e
    · rw [hfree] at hc; cases hc
  rcases hx with hk | hk
  · refine wpAny_storeName_local hk hn (fun h' hn' hs => ?_) hcls
    obtain ⟨oL, _, _, hoL, _⟩ := id hn
    refine h _ ⟨I.ok, I.os, I.bare, ⟨fun b o e n hb hx => ?_, fun b o e n hb hx => ?_, I.base.free, fun b o e hx => ?_, I.base.tups, I.base.frzs, I.base.tbls⟩, ⟨_, hn', fun j y v' e1 e2 e3 => ?_⟩, fun y c e => ?_, I.free, I.freeC, fun p hp => ?_, tracked ⟨oL, hoL, I.free⟩ hs, by simpa using I.len⟩ ⟨_, hs, .inl rfl⟩
    · exact (hs.2 b (Nat.ne_of_lt (Nat.lt_of_lt_of_le (Heap.lt_size e) I.ok.above))).trans (I.base.keep b o e n hb hx)
    · obtain ⟨sl, e1⟩ := I.base.slot b o e n hb hx
      exact ⟨sl, (hs.2 b (Nat.ne_of_lt (Nat.lt_of_lt_of_le (Heap.lt_size e) I.ok.above))).trans e1⟩
    · obtain ⟨o', e1⟩ := I.base.there b o e hx
      exact ⟨o', (hs.2 b (Nat.ne_of_lt (Nat.lt_of_lt_of_le (Heap.lt_size e) I.ok.above))).trans e1⟩
    · by_cases hj : j = i
      · subst hj
        rw [hi] at e1; cases e1
        rw [List.getElem?_set_self hiσ] at e2
        cases e2
        exact ⟨u, r, .inl ⟨hk, by simp⟩⟩
      · rw [List.getElem?_set_ne (Ne.symm hj)] at e2
        obtain ⟨u', r', q⟩ := hl j y v' e1 e2 e3
        refine ⟨u', r', ?_⟩
        rcases q with ⟨k, e⟩ | ⟨k, c, e, z⟩
        · refine .inl ⟨k, ?_⟩
          have : y ≠ x := fun e => hj (nodup_ix hN e1 (e ▸ hi))
          simp [this, e]
        · exact .inr ⟨k, c, e, z.sameBut hs (cne y c e)⟩
    · obtain ⟨w', z⟩ := I.cell y c e
      exact ⟨w', z.sameBut hs (cne y c e)⟩
    · obtain ⟨e, n, ne, nf, d⟩ := I.pin p hp
      exact ⟨(hs.2 p.1 ne).trans e, n, ne, nf, d⟩
  · have hfn : X.fn x = true := by
      rcases hf with z | z
      · exact z
      · rw [z] at hk; cases hk
    obtain ⟨c, hc⟩ := I.ok.has x (.inl hk)
    obtain ⟨w', z⟩ := I.cell x c hc
    refine wpAny_storeName_cell I.ok.kind hk hc z (fun h' hc' hs => ?_)
    obtain ⟨oc, hoc, hocd⟩ := id z
    refine h { s with heap := h' } ⟨I.ok, I.os, I.bare, ⟨fun b o e n hb hx => ?_, fun b o e n hb hx => ?_, I.base.free, fun b o e hx => ?_, I.base.tups, I.base.frzs, I.base.tbls⟩, ⟨m, hn.sameBut hs (Ne.symm (cne x c hc)), fun j y v' e1 e2 e3 => ?_⟩, fun y c' e => ?_, I.free, I.freeC, fun p hp => ?_, tracked ⟨oc, hoc, I.freeC x c hc⟩ hs, by simpa using I.len⟩ ⟨c, hs, .inr hc⟩
    · exact (hs.2 b (Nat.ne_of_lt (Nat.lt_of_lt_of_le (Heap.lt_size e) (I.ok.cab x c hfn hc)))).trans (I.base.keep b o e n hb hx)
    · obtain ⟨sl, e1⟩ := I.base.slot b o e n hb hx
      exact ⟨sl, (hs.2 b (Nat.ne_of_lt (Nat.lt_of_lt_of_le (Heap.lt_size e) (I.ok.cab x c hfn hc)))).trans e1⟩
    · obtain ⟨o', e1⟩ := I.base.there b o e hx
      exact ⟨o', (hs.2 b (Nat.ne_of_lt (Nat.lt_of_lt_of_le (Heap.lt_size e) (I.ok.cab x c hfn hc)))).trans e1⟩
    · by_cases hj : j = i
      · subst hj
        rw [hi] at e1; cases e1
        rw [List.getElem?_set_self hiσ] at e2
        cases e2
        exact ⟨u, r, .inr ⟨.inl hk, c, hc, hc'⟩⟩
      · rw [List.getElem?_set_ne (Ne.symm hj)] at e2
        obtain ⟨u', r', q⟩ := hl j y v' e1 e2 e3
        refine ⟨u', r', ?_⟩
        rcases q with q | ⟨k, c', e, z'⟩
        · exact .inl q
        · refine .inr ⟨k, c', e, z'.sameBut hs ?_⟩
          rintro rfl
          exact hj (nodup_ix hN e1 (I.ok.inj _ _ _ e hc ▸ hi))
    · by_cases hcc : c' = c
      · subst hcc; exact ⟨_, hc'⟩
      · obtain ⟨w2, z2⟩ := I.cell y c' e
        exact ⟨w2, z2.sameBut hs hcc⟩
    · obtain ⟨e, n, ne, nf, d⟩ := I.pin p hp
      refine ⟨(hs.2 p.1 ?_).trans e, n, ne, nf, d⟩
      intro q
      rw [q, hoc] at e
      have q' : oc = p.2 := Option.some.inj e
      exact d w' (by rw [← q']; exact hocd)
theorem store_ok {M : Model} {A : Around} {E : Value → Shared → Prop} {i : Nat} {x : Str} {v : V} {u : Value} {Q : Unit → Shared → Prop} (I : Inv X pZ σ H s) (hN : X.N.Nodup) (hi : X.N[i]? = some x) (hx : Loc X.env.scope x) (r : RelV v u)
    (h : ∀ s', Inv X pZ (σ.set i (some v)) H s' → Q () s') (hf : X.fn x = true ∨ X.env.scope.names.lookup x = some .local := by first | exact .inl rfl | exact .inr rfl | assumption) : wpAny M A (storeName X.env x u) Q E s :=
  store_ok2 I hN hi hx r (fun s' I' _ => h s' I') hf
theorem Inv.call' {s' : Shared} {ch : List Addr} (I : Inv X pZ σ H s) (ho : s'.os = s.os) (u : Un (frs X.stack) ch H H' s.heap s'.heap) (hok : HOk X.prog X.w H' s'.heap) (hg : AllBare s'.gens)
    (hch : ∀ b ∈ ch, (b ∈ X.ex ∨ X.s₀.heap.objs.size ≤ b) ∧ b ≠ X.env.locals ∧ (∀ x c, X.env.cells.lookup x = some c → c ≠ b) ∧ ∀ p ∈ X.pn ++ pZ, p.1 ≠ b) : Inv X pZ σ H' s' := by
  obtain ⟨h', g', d', t', o'⟩ := s'
  have e : o' = s.os := ho
  subst e
  exact I.call (g' := g') (t' := t') (d' := d') u hok hg hch
end
abbrev XK := Value → Option Addr → Hp → Prop
abbrev St := List (Option V)
abbrev VK := V → Hp → Prop
abbrev TE := St → Hp → VK → Prop
abbrev TT := St → Hp → (Bool → Hp → Prop) → Prop
abbrev TA := St → Hp → (List V → Hp → Prop) → Prop
structure Ends where
  nx : St → Hp → Prop
  rt : VK
  bk : St → Hp → Prop := fun _ _ => False
  ct : St → Hp → Prop := fun _ _ => False
abbrev TS := Ends → St → Hp → Prop
def EP (X : Cx) (pZ : List (Addr × Obj)) (σ : St) (Q : VK) (u : Value) (s' : Shared) : Prop := ∃ v H', Inv X pZ σ H' s' ∧ RelV v u ∧ Q v H'
def TP (X : Cx) (pZ : List (Addr × Obj)) (σ : St) (Q : Bool → Hp → Prop) (b : Bool) (s' : Shared) : Prop := ∃ H', Inv X pZ σ H' s' ∧ Q b H'
def AP (X : Cx) (pZ : List (Addr × Obj)) (σ : St) (Q : List V → Hp → Prop) (us : List Value) (s' : Shared) : Prop := ∃ vs H', Inv X pZ σ H' s' ∧ Vals vs us ∧ Q vs H'
def SP (X : Cx) (pZ : List (Addr × Obj)) (D : Ends) (f : Flow) (s' : Shared) : Prop :=
  match f with
  | .next => ∃ σ' H', Inv X pZ σ' H' s' ∧ D.nx σ' H'
  | .brk => ∃ σ' H', Inv X pZ σ' H' s' ∧ D.bk σ' H'
  | .cont => ∃ σ' H', Inv X pZ σ' H' s' ∧ D.ct σ' H'
  | .ret u => ∃ v σ' H', Inv X pZ σ' H' s' ∧ RelV v u ∧ D.rt v H'
def PE (X : Cx) (e : Expr) (t : TE) : Prop :=
  ∀ (pZ : List (Addr × Obj)) (s : Shared) (σ : St) (H : Hp) (Q : VK), Inv X pZ σ H s → t σ H Q → wpAny (model X.prog X.w) X.A (eval e X.env) (EP X pZ σ Q) X.xe s
def PT (X : Cx) (e : Expr) (t : TT) : Prop :=
  ∀ (pZ : List (Addr × Obj)) (s : Shared) (σ : St) (H : Hp) (Q : Bool → Hp → Prop), Inv X pZ σ H s → t σ H Q → wpAny (model X.prog X.w) X.A (isTrue e X.env (eval e X.env)) (TP X pZ σ Q) X.xe s
def PW (X : Cx) (e : Expr) (t : TT) : Prop :=
  ∀ (whole : Sem Value) (pZ : List (Addr × Obj)) (s : Shared) (σ : St) (H : Hp) (Q : Bool → Hp → Prop), Inv X pZ σ H s → t σ H Q → wpAny (model X.prog X.w) X.A (isTrue e X.env whole) (TP X pZ σ Q) X.xe s
theorem PW.pt {X : Cx} {e : Expr} {t : TT} (h : PW X e t) : PT X e t := h _
def PA (X : Cx) (es : List Expr) (t : TA) : Prop :=
  ∀ (pos : Pos) (pZ : List (Addr × Obj)) (s : Shared) (σ : St) (H : Hp) (Q : List V → Hp → Prop), Inv X pZ σ H s → t σ H Q → wpAny (model X.prog X.w) X.A (spliced (backTo pos (starEach es X.env))) (AP X pZ σ Q) X.xe s
def PS (X : Cx) (st : Stmt) (t : TS) : Prop :=
  ∀ (pZ : List (Addr × Obj)) (s : Shared) (σ : St) (H : Hp) (D : Ends), Inv X pZ σ H s → t D σ H → wpAny (model X.prog X.w) X.A (exec st X.env) (SP X pZ D) X.xe s
def PSs (X : Cx) (st : List Stmt) (t : TS) : Prop :=
  ∀ (pZ : List (Addr × Obj)) (s : Shared) (σ : St) (H : Hp) (D : Ends), Inv X pZ σ H s → t D σ H → wpAny (model X.prog X.w) X.A (execs st X.env) (SP X pZ D) X.xe s
theorem thn {α : Type} {t : Sem α} {Q Q' : α → Shared → Prop} {M : Model} {A : Around} {E : Value → Shared → Prop} {s : Shared} (h : wpAny M A t Q E s) (hQ : ∀ a s, Q a s → Q' a s) : wpAny M A t Q' E s := wpAny_mono h hQ fun _ _ x => x
end L2
namespace L2
open PySem PySem.Spec PyProof.Rows
section
variable {X : Cx}
noncomputable def tVar (i : Nat) : TE := fun σ H Q => ∃ v, σ[i]? = some (some v) ∧ Q v H
noncomputable def tC (v : V) : TE := fun _ H Q => Q v H
theorem pe_var {i : Nat} {x : Str} {pos : Pos} (hN : X.N[i]? = some x) (hv : Vis X.env.scope x) (hd : (x == ("__debug__" : Str)) = false := by decide) (hcd : (x == ("__classdict__" : Str)) = false := by decide) : PE X (.Name x pos) (tVar i) := by
  intro pZ s σ H Q I h
  obtain ⟨v, e, h⟩ := h
  obtain ⟨m, hn, hl⟩ := I.loc
  obtain ⟨u, r, l⟩ := hl i x v hN e hv
  have fin : EP X pZ σ Q u s := ⟨v, H, I, r, h⟩
  rcases l with ⟨hk, hm⟩ | ⟨hk, c, hc, hcell⟩
  · exact wpAny_Name (wpAny_loadName_local I.ok.kind hk hn hm fin) hd
  · rcases hk with hk | hk
    · exact wpAny_Name (wpAny_loadName_cell I.ok.kind hk hc hcell fin) hd
    · exact wpAny_Name (wpAny_loadName_free I.ok.kind hk hc hcell fin hcd) hd
theorem pe_int {i j pos} : PE X (.Constant (.int i) j pos) (tC (.int i)) := fun _ _ _ H _ I h => wpAny_Constant_int ⟨.int i, H, I.tok _, ⟨_, rfl⟩, h⟩
theorem pe_bl {b j pos} : PE X (.Constant (.bool b) j pos) (tC (.bl b)) := fun _ _ _ H _ I h => Constant_bool ⟨.bl b, H, I, rfl, h⟩
theorem pe_non {j pos} : PE X (.Constant .none j pos) (tC .non) := fun _ _ _ H _ I h => Constant_none ⟨.non, H, I, rfl, h⟩
theorem pe_str {x j pos} : PE X (.Constant (.str x) j pos) (tC (.str x)) := fun _ _ _ H _ I h => Calls.Constant_str ⟨.str x, H, I.tok _, ⟨_, rfl⟩, h⟩
def Gl (X : Cx) (x : Str) : Prop := X.env.kindOf x = some .globalImplicit
theorem ld_glob {E : Value → Shared → Prop} {pZ : List (Addr × Obj)} {s : Shared} {σ : St} {H : Hp} {x : Str} {u : Value} {pos : Pos} {Q : Value → Shared → Prop} (I : Inv X pZ σ H s) (hg : Gl X x) (hm : X.mg x = some u) (h : Q u s)
    (hd : (x == ("__debug__" : Str)) = false := by decide) : wpAny (model X.prog X.w) X.A (eval (.Name x pos) X.env) Q E s :=
  Calls.Name_function_global I.ok.kind hg (Calls.loadGlobal_global (by rw [I.ok.glob]; exact I.mod.glob.keeps I.bk) hm h) hd
theorem ld_blt {E : Value → Shared → Prop} {pZ : List (Addr × Obj)} {s : Shared} {σ : St} {H : Hp} {x : Str} {u : Value} {pos : Pos} {Q : Value → Shared → Prop} (I : Inv X pZ σ H s) (hg : Gl X x) (hm : X.mg x = none) (hv : bootBuiltins x = some u) (h : Q u s)
    (hn : x ≠ "__name__" := by decide) (hd : (x == ("__debug__" : Str)) = false := by decide) : wpAny (model X.prog X.w) X.A (eval (.Name x pos) X.env) Q E s := by
  obtain ⟨mb, h1, h2⟩ := I.mod.blt
  exact Calls.Name_function_global I.ok.kind hg (Calls.loadGlobal_builtin (by rw [I.ok.glob]; exact I.mod.glob.keeps I.bk) hm (by rw [I.ok.blt]; exact h1.keeps I.bk) ((h2 x hn).trans hv) h) hd
theorem pe_glob {x : Str} {v : V} {u : Value} {pos : Pos} (hg : Gl X x) (hm : X.mg x = some u) (r : RelV v u) (hd : (x == ("__debug__" : Str)) = false := by decide) : PE X (.Name x pos) (tC v) :=
  fun _ _ _ H _ I h => ld_glob I hg hm ⟨v, H, I, r, h⟩ hd
theorem pe_bltn {x : Str} {v : V} {u : Value} {pos : Pos} (hg : Gl X x) (hm : X.mg x = none) (hv : bootBuiltins x = some u) (r : RelV v u) (hn : x ≠ "__name__" := by decide) (hd : (x == ("__debug__" : Str)) = false := by decide) : PE X (.Name x pos) (tC v) :=
  fun _ _ _ H _ I h => ld_blt I hg hm hv ⟨v, H, I, r, h⟩ hn hd
variable {a b : Expr} {ta tb : TE} {pos : Pos}
noncomputable def tB (t : TE) : TT := fun σ H Q => t σ H fun x H1 => ∃ c, x = .bl c ∧ Q c H1
theorem pt_val {e : Expr} {t : TE} (h : PE X e t) (he : ∀ whole, isTrue e X.env whole = (do let v ← whole; standAt e.pos; holding [v] (truthy v)) := by intro _; rfl) : PT X e (tB t) := by
  intro pZ s σ H Q I hw
  refine isTrue_plain (thn (h pZ s σ H _ I hw) fun v s1 ⟨x, H1, I1, r1, q1⟩ => ?_) (he _)
  obtain ⟨d, rfl, q⟩ := q1
  cases r1
  exact wpAny_truthy_bool ⟨H1, I1, q⟩
variable {tA tB' : TT} {rest : List Expr}
noncomputable def tAnd (t u : TT) : TT := fun σ H Q => t σ H fun c H1 => if c = true then u σ H1 Q else Q false H1
noncomputable def tOr (t u : TT) : TT := fun σ H Q => t σ H fun c H1 => if c = true then Q true H1 else u σ H1 Q
noncomputable def tNot (t : TT) : TT := fun σ H Q => t σ H fun c H1 => Q (!c) H1
theorem pw_and1 (ha : PT X a tA) : PW X (.BoolOp .And [a] pos) tA := by
  intro wh pZ s σ H Q I h
  refine isTrue_and (thn (ha pZ s σ H Q I h) fun c s1 e => ?_)
  cases c with
  | true => exact isTrue_and_nil e
  | false => exact e
theorem pw_or1 (ha : PT X a tA) : PW X (.BoolOp .Or [a] pos) tA := by
  intro wh pZ s σ H Q I h
  refine isTrue_or (thn (ha pZ s σ H Q I h) fun c s1 e => ?_)
  cases c with
  | false => exact isTrue_or_nil e
  | true => exact e
theorem pw_and (ha : PT X a tA) (hb : PW X (.BoolOp .And (b :: rest) pos) tB') : PW X (.BoolOp .And (a :: b :: rest) pos) (tAnd tA tB') := by
  intro wh pZ s σ H Q I h
  refine isTrue_and (thn (ha pZ s σ H _ I h) fun c s1 ⟨H1, I1, q1⟩ => ?_)
  cases c with
  | true => exact hb wh pZ s1 σ H1 Q I1 q1
  | false => exact ⟨H1, I1, q1⟩
theorem pw_or (ha : PT X a tA) (hb : PW X (.BoolOp .Or (b :: rest) pos) tB') : PW X (.BoolOp .Or (a :: b :: rest) pos) (tOr tA tB') := by
  intro wh pZ s σ H Q I h
  refine isTrue_or (thn (ha pZ s σ H _ I h) fun c s1 ⟨H1, I1, q1⟩ => ?_)
  cases c with
  | true => exact ⟨H1, I1, q1⟩
  | false => exact hb wh pZ s1 σ H1 Q I1 q1
theorem pt_not (ha : PT X a tA) : PT X (.UnaryOp .Not a pos) (tNot tA) := by
  intro pZ s σ H Q I h
  exact isTrue_not (ha pZ s σ H (fun c H1 => Q (!c) H1) I h)
noncomputable def tAndV (ta tb : TE) : TE := fun σ H Q => ta σ H fun x H1 => ∃ c, x = .bl c ∧ if c = true then tb σ H1 Q else Q (.bl false) H1
noncomputable def tOrV (ta tb : TE) : TE := fun σ H Q => ta σ H fun x H1 => ∃ c, x = .bl c ∧ if c = true then Q (.bl true) H1 else tb σ H1 Q
noncomputable def tNotV (ta : TE) : TE := fun σ H Q => ta σ H fun x H1 => ∃ c, x = .bl c ∧ Q (.bl (!c)) H1
theorem pe_one {op} {t : TE} (h : PE X a t) : PE X (.BoolOp op [a] pos) t := fun pZ s σ H Q I hw => BoolOp_one (h pZ s σ H Q I hw)
theorem pe_and (ha : PE X a ta) (hb : PE X (.BoolOp .And (b :: rest) pos) tb) : PE X (.BoolOp .And (a :: b :: rest) pos) (tAndV ta tb) := by
  intro pZ s σ H Q I h
  refine BoolOp_and (thn (ha pZ s σ H _ I h) fun v s1 ⟨x, H1, I1, r1, q1⟩ => ?_)
  obtain ⟨c, rfl, q1⟩ := q1
  cases r1
  refine wpAny_truthy_bool ?_
  cases c with
  | true => exact hb pZ s1 σ H1 Q I1 q1
  | false => exact ⟨.bl false, H1, I1, rfl, q1⟩
theorem pe_or (ha : PE X a ta) (hb : PE X (.BoolOp .Or (b :: rest) pos) tb) : PE X (.BoolOp .Or (a :: b :: rest) pos) (tOrV ta tb) := by
  intro pZ s σ H Q I h
  refine BoolOp_or (thn (ha pZ s σ H _ I h) fun v s1 ⟨x, H1, I1, r1, q1⟩ => ?_)
  obtain ⟨c, rfl, q1⟩ := q1
  cases r1
  refine wpAny_truthy_bool ?_
  cases c with
  | false => exact hb pZ s1 σ H1 Q I1 q1
  | true => exact ⟨.bl true, H1, I1, rfl, q1⟩
theorem pe_not (ha : PE X a ta) : PE X (.UnaryOp .Not a pos) (tNotV ta) := by
  intro pZ s σ H Q I h
  refine UnaryOp_ (thn (ha pZ s σ H _ I h) fun v s1 ⟨x, H1, I1, r1, q1⟩ => ?_)
  obtain ⟨c, rfl, q1⟩ := q1
  cases r1
  exact not_of (wpAny_truthy_bool ⟨.bl (!c), H1, I1, rfl, q1⟩)
noncomputable def tIf (t : TT) (ta tb : TE) : TE := fun σ H Q => t σ H fun c H1 => if c = true then ta σ H1 Q else tb σ H1 Q
theorem pe_ifExp {c : Expr} (hc : PT X c tA) (ha : PE X a ta) (hb : PE X b tb) : PE X (.IfExp c a b pos) (tIf tA ta tb) := by
  intro pZ s σ H Q I h
  refine wpAny_IfExp (thn (hc pZ s σ H _ I h) fun d s1 ⟨H1, I1, q1⟩ => ?_)
  cases d with
  | true => exact ha pZ s1 σ H1 Q I1 q1
  | false => exact hb pZ s1 σ H1 Q I1 q1
end
end L2
namespace L2
open PySem PySem.Spec PyProof.Rows
def SqL (K : PySem.W.Frag) (H : Hp) (a : Addr) (xs : List V) : Prop :=
  Rd H a (.lst xs) ∨
    ∃ (o : Obj) (its : Array Value) (n : Nat), K.lookup a = some o ∧ o.cls = .type "list" ∧ o.dict = none ∧ o.data = .seq its n ∧ its.size ≤ sizeLine ∧ Vals xs its.toList
def SqT (K : PySem.W.Frag) (H : Hp) (a : Addr) (xs : List V) : Prop :=
  Rd H a (.tup xs) ∨
    ∃ (o : Obj) (its : Array Value) (n : Nat), K.lookup a = some o ∧ o.cls = .type "tuple" ∧ o.data = .seq its n ∧ its.size ≤ sizeLine ∧ Vals xs its.toList
noncomputable def absV : Value → Option V
  | .none => some .non
  | .bool b => some (.bl b)
  | .int i _ => some (.int i)
  | .str x _ => some (.str x)
  | .bytes b _ => some (.byt b)
  | .float b _ => some (.flt b)
  | .ref a => some (.ref a)
  | .type n => some (.ty n)
  | _ => none
theorem RelV.abs {x : V} {u : Value} (r : RelV x u) : absV u = some x := by
  cases x with
  | non => cases r; rfl
  | bl _ => cases r; rfl
  | int _ => obtain ⟨t, rfl⟩ := r; rfl
  | str _ => obtain ⟨t, rfl⟩ := r; rfl
  | byt _ => obtain ⟨t, rfl⟩ := r; rfl
  | flt _ => obtain ⟨t, rfl⟩ := r; rfl
  | ref _ => cases r; rfl
  | ty _ => cases r; rfl
theorem RelV.inj {x y : V} {u : Value} (r : RelV x u) (q : RelV y u) : x = y := Option.some.inj (r.abs.symm.trans q.abs)
theorem Vals.inj : ∀ {xs ys : List V} {us : List Value}, Vals xs us → Vals ys us → xs = ys
  | _, _, _, .nil, .nil => rfl
  | _, _, _, .cons r t, .cons r' t' => by rw [r.inj r', Vals.inj t t']
section
variable {X : Cx} {pZ : List (Addr × Obj)} {σ : St} {H : Hp} {s : Shared} {a : Addr} {xs ys : List V}
theorem SqL.of {K : PySem.W.Frag} (h : H a = some (.lst xs)) : SqL K H a xs := .inl (.inl h)
theorem SqT.of {K : PySem.W.Frag} (h : H a = some (.tup xs)) : SqT K H a xs := .inl (.inl h)
theorem Inv.list (I : Inv X pZ σ H s) (h : SqL X.K H a xs) : ∃ its : List Value, Vals xs its ∧ PlainL s.heap a its.toArray ∧ xs.length ≤ sizeLine := by
  rcases h with h | ⟨o, its, n, hk, hc, hd, hs, hz, r⟩
  · obtain ⟨z, its, n, r, e⟩ := h.ok I.hok
    exact ⟨its, r, ⟨_, n, e, rfl, rfl, rfl⟩, z⟩
  · refine ⟨its.toList, r, ⟨o, n, I.kIn a o hk, hc, hd, by simpa using hs⟩, ?_⟩
    have e := r.length
    simp only [Array.length_toList] at e
    omega
theorem Inv.tuple (I : Inv X pZ σ H s) (h : SqT X.K H a xs) : ∃ its : List Value, Vals xs its ∧ IsTup s.heap a its.toArray ∧ xs.length ≤ sizeLine := by
  rcases h with h | ⟨o, its, n, hk, hc, hs, hz, r⟩
  · obtain ⟨z, its, r, p⟩ := h.ok I.hok
    exact ⟨its, r, p.is, z⟩
  · refine ⟨its.toList, r, ⟨o, I.kIn a o hk, hc, n, by simpa using hs⟩, ?_⟩
    have e := r.length
    simp only [Array.length_toList] at e
    omega
theorem Inv.list_inj (I : Inv X pZ σ H s) (h : SqL X.K H a xs) (h' : SqL X.K H a ys) : xs = ys := by
  obtain ⟨its, r, ⟨o, n, e, _, _, d⟩, _⟩ := I.list h
  obtain ⟨its', r', ⟨o', n', e', _, _, d'⟩, _⟩ := I.list h'
  rw [e] at e'; cases e'
  rw [d] at d'
  injection d' with d1 _
  have : its = its' := by simpa using congrArg Array.toList d1
  subst this
  exact r.inj r'
theorem Inv.tuple_inj (I : Inv X pZ σ H s) (h : SqT X.K H a xs) (h' : SqT X.K H a ys) : xs = ys := by
  obtain ⟨its, r, ⟨o, e, _, n, d⟩, _⟩ := I.tuple h
  obtain ⟨its', r', ⟨o', e', _, n', d'⟩, _⟩ := I.tuple h'
  rw [e] at e'; cases e'
  rw [d] at d'
  injection d' with d1 _
  have : its = its' := by simpa using congrArg Array.toList d1
  subst this
  exact r.inj r'
end
abbrev Cx.wish (X : Cx) (E : Value → Shared → Prop) : Cx := { X with xe := E }
abbrev Cx.nox (X : Cx) : Cx := X.wish fun _ _ => False
theorem Cx.Ok.wish {X : Cx} (ok : X.Ok) (E : Value → Shared → Prop) : (X.wish E).Ok :=
  ⟨ok.mod, ok.kind, ok.glob, ok.blt, ok.above, ok.inj, ok.has, ok.cab, ok.hd, ok.frames, ok.stk, ok.exf, ok.bs, ok.bsz, ok.noex, ok.exfs, ok.funs, ok.frf⟩
theorem Cx.Ok.unwish {X : Cx} {E : Value → Shared → Prop} (ok : (X.wish E).Ok) : X.Ok :=
  ⟨ok.mod, ok.kind, ok.glob, ok.blt, ok.above, ok.inj, ok.has, ok.cab, ok.hd, ok.frames, ok.stk, ok.exf, ok.bs, ok.bsz, ok.noex, ok.exfs, ok.funs, ok.frf⟩
section
variable {X : Cx} {pZ : List (Addr × Obj)} {σ : St} {H : Hp} {s : Shared} {E : Value → Shared → Prop}
theorem Inv.wish (I : Inv X pZ σ H s) (E : Value → Shared → Prop) : Inv (X.wish E) pZ σ H s := ⟨I.ok.wish E, I.os, I.bare, I.base, I.loc, I.cell, I.free, I.freeC, I.pin, I.hok, I.len⟩
theorem Inv.unwish (I : Inv (X.wish E) pZ σ H s) : Inv X pZ σ H s := ⟨I.ok.unwish, I.os, I.bare, I.base, I.loc, I.cell, I.free, I.freeC, I.pin, I.hok, I.len⟩
theorem SP.unwish {D : Ends} {f : Flow} {s' : Shared} (h : SP (X.wish E) pZ D f s') : SP X pZ D f s' := by
  cases f with
  | next => obtain ⟨σ', H', I, q⟩ := h; exact ⟨σ', H', I.unwish, q⟩
  | brk => obtain ⟨σ', H', I, q⟩ := h; exact ⟨σ', H', I.unwish, q⟩
  | cont => obtain ⟨σ', H', I, q⟩ := h; exact ⟨σ', H', I.unwish, q⟩
  | ret u => obtain ⟨v, σ', H', I, r, q⟩ := h; exact ⟨v, σ', H', I.unwish, r, q⟩
theorem PSs.nox {st : List Stmt} {t : TS} (h : PSs X.nox st t) : PSs X st t := fun pZ s σ H D I hw =>
  wpAny_mono (h pZ s σ H D (I.wish _) hw) (fun _ _ q => q.unwish) fun _ _ z => False.elim z
end
section
variable {X : Cx} {st : Stmt} {rest : List Stmt} {t u : TS} {e : Expr} {te : TE} {pos : Pos}
def tNext : TS := fun D σ H => D.nx σ H
noncomputable def tSeq (t u : TS) : TS := fun D σ H => t { D with nx := u D } σ H
theorem pss_nil : PSs X [] tNext := fun _ _ σ H _ I h => wpAny_execs_nil ⟨σ, H, I, h⟩
theorem pss_cons (h1 : PS X st t) (h2 : PSs X rest u) : PSs X (st :: rest) (tSeq t u) := by
  intro pZ s σ H D I h
  refine wpAny_execs_cons (thn (h1 pZ s σ H { D with nx := u D } I h) fun f s1 q => ?_)
  cases f with
  | next =>
    obtain ⟨σ', H', I', q⟩ := q
    exact h2 pZ s1 σ' H' D I' q
  | ret v => exact q
  | brk => exact q
  | cont => exact q
theorem pss_one (h1 : PS X st t) : PSs X [st] t := by
  intro pZ s σ H D I h
  refine wpAny_execs_cons (thn (h1 pZ s σ H D I h) fun f s1 q => ?_)
  cases f with
  | next => exact wpAny_execs_nil q
  | ret v => exact q
  | brk => exact q
  | cont => exact q
theorem Inv.quiet {pZ : List (Addr × Obj)} {σ : St} {H : Hp} {s : Shared} (I : Inv X pZ σ H s) : interactive X.env = false := by simp [interactive, I.ok.kind]
noncomputable def tDrop (te : TE) : TS := fun D σ H => te σ H fun _ H1 => D.nx σ H1
theorem ps_expr (he : PE X e te) (hs : swapsWith e none pos.line X.env = pure false := by rfl) : PS X (.Expr e pos) (tDrop te) := by
  intro pZ s σ H D I h
  exact wpAny_Expr_any (thn (he pZ s σ H _ I h) fun v s1 ⟨x, H1, I1, r1, q1⟩ => ⟨σ, H1, I1, q1⟩) I.quiet hs
noncomputable def tRet (te : TE) : TS := fun D σ H => te σ H D.rt
theorem ps_ret (he : PE X e te) : PS X (.Return (some e) pos) (tRet te) := by
  intro pZ s σ H D I h
  exact wpAny_Return_some (thn (he pZ s σ H _ I h) fun v s1 ⟨x, H1, I1, r1, q1⟩ => ⟨x, σ, H1, I1, r1, q1⟩)
noncomputable def tIfS (c : TT) (t u : TS) : TS := fun D σ H => c σ H fun b H1 => if b = true then t D σ H1 else u D σ H1
theorem ps_if {c : Expr} {a b : List Stmt} {tc : TT} (hc : PT X c tc) (ha : PSs X a t) (hb : PSs X b u) : PS X (.If c a b pos) (tIfS tc t u) := by
  intro pZ s σ H D I h
  refine wpAny_If (thn (hc pZ s σ H _ I h) fun d s1 ⟨H1, I1, q1⟩ => ?_)
  cases d with
  | true => exact ha pZ s1 σ H1 D I1 q1
  | false => exact hb pZ s1 σ H1 D I1 q1
end
abbrev TG := V → St → Hp → (St → Hp → Prop) → Prop
abbrev TGs := List V → St → Hp → (St → Hp → Prop) → Prop
def PG (X : Cx) (target : Expr) (t : TG) : Prop :=
  ∀ (pZ : List (Addr × Obj)) (s : Shared) (σ : St) (H : Hp) (v : V) (u : Value) (Q : St → Hp → Prop), Inv X pZ σ H s → RelV v u → t v σ H Q →
    wpAny (model X.prog X.w) X.A (assign target X.env u) (fun _ s' => ∃ σ' H', Inv X pZ σ' H' s' ∧ Q σ' H') X.xe s
def PGs (X : Cx) (ts : List Expr) (t : TGs) : Prop :=
  ∀ (pZ : List (Addr × Obj)) (s : Shared) (σ : St) (H : Hp) (vs : List V) (us : List Value) (Q : St → Hp → Prop), Inv X pZ σ H s → Vals vs us → t vs σ H Q →
    wpAny (model X.prog X.w) X.A (assignInOrder ((assignEach ts X.env).map (·.2)) us) (fun _ s' => ∃ σ' H', Inv X pZ σ' H' s' ∧ Q σ' H') X.xe s
abbrev TSet := V → V → V → Hp → (Hp → Prop) → Prop
def PSet (X : Cx) (t : TSet) : Prop :=
  ∀ (pZ : List (Addr × Obj)) (s : Shared) (σ : St) (H : Hp) (o i v : V) (ov iv u : Value) (Q : Hp → Prop), Inv X pZ σ H s → RelV o ov → RelV i iv → RelV v u → t o i v H Q →
    wpAny (model X.prog X.w) X.A (setItem ov iv u) (fun _ s' => ∃ H', Inv X pZ σ H' s' ∧ Q H') X.xe s
section
variable {X : Cx} {pos : Pos}
noncomputable def gName (i : Nat) : TG := fun v σ H Q => Q (σ.set i (some v)) H
theorem pg_name {i : Nat} {x : Str} (hN : X.N.Nodup) (hi : X.N[i]? = some x) (hx : Loc X.env.scope x) (hf : X.fn x = true ∨ X.env.scope.names.lookup x = some .local := by first | exact .inl rfl | exact .inr rfl | assumption) : PG X (.Name x pos) (gName i) := by
  intro pZ s σ H v u Q I r h
  exact wpAny_assign_Name (store_ok I hN hi hx r (fun s' I' => ⟨_, H, I', h⟩) hf)
noncomputable def gNil : TGs := fun vs σ H Q => vs = [] ∧ Q σ H
noncomputable def gCons (t : TG) (u : TGs) : TGs := fun vs σ H Q => ∃ v r, vs = v :: r ∧ t v σ H fun σ' H' => u r σ' H' Q
theorem pgs_nil : PGs X [] gNil := by
  intro pZ s σ H vs us Q I r h
  obtain ⟨e, h⟩ := h
  subst e
  cases r
  exact assignInOrder_nil ⟨σ, H, I, h⟩
theorem pgs_cons {e : Expr} {es : List Expr} {t : TG} {u : TGs} (h1 : PG X e t) (h2 : PGs X es u)
    (hs : (assignEach (e :: es) X.env).map (·.2) = assign e X.env :: (assignEach es X.env).map (·.2) := by rfl) : PGs X (e :: es) (gCons t u) := by
  intro pZ s σ H vs us Q I r h
  obtain ⟨v, vr, e1, h⟩ := h
  subst e1
  cases r with
  | cons r rr =>
    rw [hs]
    refine assignInOrder_cons (thn (h1 pZ s σ H _ _ _ I r h) fun _ s1 ⟨σ1, H1, I1, q1⟩ => ?_)
    exact h2 pZ s1 σ1 H1 _ _ Q I1 rr q1
noncomputable def gTup (K : PySem.W.Frag) (n : Nat) (t : TGs) : TG := fun v σ H Q => ∃ a xs, v = .ref a ∧ SqT K H a xs ∧ xs.length = n ∧ t xs σ H Q
theorem pg_tup {es : List Expr} {k : Nat} {t : TGs} {n : Nat} (hc : X.calm = true) (h : PGs X es t)
    (hn : (assignEach es X.env).length = n := by rfl) (hst : (assignEach es X.env).findIdx? (·.1) = none := by rfl) : PG X (.Tuple es k pos) (gTup X.K n t) := by
  intro pZ s σ H v u Q I r hw
  obtain ⟨a, xs, e1, hq, hl, hw⟩ := hw
  subst e1
  cases r
  obtain ⟨its, rv, ht, hz⟩ := I.tuple hq
  refine assign_Tuple_tuple (I.ok.hd hc) ht (by simp [hn, ← hl, rv.length]) hst fun h' hx => ?_
  have I1 : Inv X pZ σ H { s with heap := h' } := I.kept (t' := s.toks) fun b o e => hx b o (Nat.ne_of_lt (Heap.lt_size e)) e
  exact h pZ _ σ H xs _ Q I1 (by simpa using rv) hw
noncomputable def gSub (to ti : TE) (t : TSet) : TG := fun v σ H Q => to σ H fun o H1 => ti σ H1 fun i H2 => t o i v H2 fun H3 => Q σ H3
theorem pg_sub {o i : Expr} {to ti : TE} {t : TSet} (ho : PE X o to) (hi : PE X i ti) (hs : PSet X t)
    (ha : ∀ v, assign (.Subscript o i pos) X.env v = (do
      let ov ← holding [v] (eval o X.env)
      let iv ← holding [v, ov] (eval i X.env)
      standAt pos
      holding [v, ov, iv] (setItem ov iv v)
      release [v, ov, iv] []) := by intro _; rfl) : PG X (.Subscript o i pos) (gSub to ti t) := by
  intro pZ s σ H v u Q I r h
  rw [ha]
  refine wpAny_bind (wpAny_holding (thn (ho pZ s σ H _ I h) fun ov s1 ⟨x, H1, I1, r1, q1⟩ => ?_))
  refine wpAny_bind (wpAny_holding (thn (hi pZ s1 σ H1 _ I1 q1) fun iv s2 ⟨y, H2, I2, r2, q2⟩ => ?_))
  refine wpAny_bind (wpAny_standAt (wpAny_bind (wpAny_holding (thn (hs pZ s2 σ H2 x y v ov iv u _ I2 r1 r2 r q2) fun _ s3 ⟨H3, I3, q3⟩ => ?_))))
  exact wpAny_release ⟨σ, H3, I3, q3⟩
noncomputable def tAsg (te : TE) (g : TG) : TS := fun D σ H => te σ H fun x H1 => g x σ H1 D.nx
theorem ps_asg {tg e : Expr} {te : TE} {g : TG} (he : PE X e te) (hg : PG X tg g) (hs : swapsWithSole [tg] e pos.line X.env = pure false := by rfl) (hw : swappedStores [tg] e X.env = pure none := by rfl)
    (h1 : (assignEach [tg] X.env).map (·.2) = [assign tg X.env] := by rfl) : PS X (.Assign [tg] e pos) (tAsg te g) := by
  intro pZ s σ H D I h
  refine wpAny_Assign_stores (thn (he pZ s σ H _ I h) fun v s1 ⟨x, H1, I1, r1, q1⟩ => ?_) hs hw
  rw [h1]
  exact thn (hg pZ s1 σ H1 x v _ I1 r1 q1) fun _ s2 q => q
theorem ps_set {i : Nat} {x : Str} {e : Expr} {te : TE} {pos' : Pos} (hN : X.N.Nodup) (hi : X.N[i]? = some x) (hx : Loc X.env.scope x) (he : PE X e te) (hs : swapsWith e (some (.Name x pos')) pos.line X.env = pure false := by rfl) (hf : X.fn x = true ∨ X.env.scope.names.lookup x = some .local := by first | exact .inl rfl | exact .inr rfl | assumption) :
    PS X (.Assign [.Name x pos'] e pos) (tAsg te (gName i)) := by
  intro pZ s σ H D I h
  refine wpAny_Assign_Name (thn (he pZ s σ H _ I h) fun v s1 ⟨y, H1, I1, r1, q1⟩ => ?_) hs
  exact store_ok I1 hN hi hx r1 (fun s2 I2 => ⟨_, H1, I2, q1⟩) hf
noncomputable def tPar (i j : Nat) (ta : TA) : TS := fun D σ H => ta σ H fun vs H1 => ∃ v w, vs = [v, w] ∧ D.nx ((σ.set i (some v)).set j (some w)) H1
theorem ps_par {i j : Nat} {x y : Str} {a b : Expr} {ta : TA} {px py pt : Pos} {kt k2 pt2} (hc : X.calm = true) (hN : X.N.Nodup) (hi : X.N[i]? = some x) (hj : X.N[j]? = some y) (hij : i ≠ j)
    (hx : X.env.scope.names.lookup x = some .local) (hy : X.env.scope.names.lookup y = some .local) (ha : PA X [a, b] ta)
    (hw : swappedStores [.Tuple [.Name x px, .Name y py] kt pt] (.Tuple [a, b] k2 pt2) X.env = pure (some [x, y]))
    (hs : swapsWithSole [.Tuple [.Name x px, .Name y py] kt pt] (.Tuple [a, b] k2 pt2) pos.line X.env = pure false := by rfl) :
    PS X (.Assign [.Tuple [.Name x px, .Name y py] kt pt] (.Tuple [a, b] k2 pt2) pos) (tPar i j ta) := by
  intro pZ s σ H D I h
  rw [exec_Assign_arm]
  refine wpAny_bind (wpAny_standAt ?_)
  rw [hs]
  refine wpAny_bind (wpAny_pure ?_)
  rw [if_neg (by decide)]
  refine wpAny_bind (Tuple_ (thn (ha _ pZ s σ H _ I h) fun us s1 ⟨vs, H1, I1, r1, q1⟩ => ?_))
  obtain ⟨v, w, e1, q1⟩ := q1
  subst e1
  obtain ⟨u1, u2, rfl, rv, rw'⟩ : ∃ u1 u2, us = [u1, u2] ∧ RelV v u1 ∧ RelV w u2 := by
    cases r1 with
    | cons p q =>
      cases q with
      | cons p' q' =>
        cases q'
        exact ⟨_, _, rfl, p, p'⟩
  refine wpAny_newObj_type ?_ (by show 2 ≤ sizeLine; decide)
  have I2 : Inv X pZ σ H1 { s1 with heap := s1.heap.push { cls := .type "tuple", data := .seq [u1, u2].toArray } } := I1.kept (t' := s1.toks) fun b o e => Heap.get?_push_of_some _ e
  rw [hw]
  refine wpAny_bind (wpAny_pure ?_)
  show wpAny (model X.prog X.w) X.A (do rule "assign.swapped-stores"; let items ← unpackItems (.ref s1.heap.objs.size) 2 none; assignInOrder [fun v => bindName X.env y v, fun v => bindName X.env x v] items.reverse; pure Flow.next) _ _ _
  refine wpAny_bind (wpAny_rule (wpAny_bind (unpackItems_tuple (items := #[u1, u2]) (I.ok.hd hc) (IsTup.new s1.heap _) fun h' hx' => ?_)))
  have I3 := I2.kept (h' := h') (t' := s1.toks) fun b o e => hx' b o (Nat.ne_of_lt (Heap.lt_size e)) e
  show wpAny _ _ (assignInOrder [fun v => bindName X.env y v, fun v => bindName X.env x v] [u2, u1] >>= fun _ => pure Flow.next) _ _ _
  refine wpAny_bind (assignInOrder_cons (wpAny_bindName (store_ok I3 hN hj (.inl hy) rw' (fun s2 I4 => ?_) (.inr hy))))
  refine assignInOrder_cons (wpAny_bindName (store_ok I4 hN hi (.inl hx) rv (fun s3 I5 => assignInOrder_nil (wpAny_pure ?_)) (.inr hx)))
  rw [List.set_comm _ _ (Ne.symm hij)] at I5
  exact ⟨_, H1, I5, q1⟩
end
structure It where
  go : Nat → Hp → Prop
  yld : Nat → Hp → V → Hp → Prop
  stop : Nat → Hp → Prop
def FpOk (X : Cx) (pZ : List (Addr × Obj)) (H : Hp) (b : Addr) : Prop :=
  H b = none ∧ b ≠ X.env.locals ∧ b ∉ X.fs ∧ (b ∈ X.ex ∨ X.s₀.heap.objs.size ≤ b) ∧ (∀ x c, X.env.cells.lookup x = some c → c ≠ b) ∧ ∀ p ∈ X.pn ++ pZ, p.1 ≠ b
theorem Inv.fpOk {X : Cx} {pZ : List (Addr × Obj)} {σ : St} {H H' : Hp} {s : Shared} {b : Addr} (I : Inv X pZ σ H s) (hb : s.heap.objs.size ≤ b) (hn : H' b = none) : FpOk X pZ H' b := by
  refine ⟨hn, Nat.ne_of_gt (Nat.lt_of_lt_of_le I.lt hb), I.nofs hb, .inr (Nat.le_trans I.sz hb), fun x c e z => ?_, fun p hp z => ?_⟩
  · obtain ⟨v, q⟩ := I.cell x c e
    exact absurd (Nat.lt_of_lt_of_le q.lt (by rw [z]; exact hb)) (Nat.lt_irrefl _)
  · exact absurd (Nat.lt_of_lt_of_le (Heap.lt_size (I.pin p hp).1) (by rw [z]; exact hb)) (Nat.lt_irrefl _)
structure Turn (P : Program) (w : World) (K : PySem.W.Frag) (tg : Expr) (J : It) (fp : List Addr) (it : Addr) (tn : Nat → Heap → Prop) : Prop where
  mem : it ∈ fp
  obj : ∀ i h, tn i h → ∀ b ∈ fp, ∃ o, h.get? b = some o ∧ ∀ v, o.data ≠ .cell v
  keep : ∀ i h h', tn i h → (∀ b ∈ fp, ∀ o, h.get? b = some o → h'.get? b = some o) → tn i h'
  item : ∀ (X : Cx), X.prog = P → X.w = w → X.K = K → X.calm = true → ∀ (i : Nat) (pZ : List (Addr × Obj)) (s : Shared) (σ : St) (H : Hp) (E : Value → Shared → Prop), Inv X pZ σ H s → (∀ b ∈ fp, FpOk X pZ H b) → tn i s.heap → J.go i H →
    wpAny (model P w) X.A (pyNext (.ref it)) (fun r s1 => ∃ u, r = some u ∧
      wpAny (model P w) X.A (letOwnedTupleGo tg (.ref it) u) (fun _ s2 => ∃ x H', Inv X pZ σ H' s2 ∧ RelV x u ∧ J.yld i H x H' ∧ tn (i + 1) s2.heap ∧ ∀ b ∈ fp, H' b = none) E s1) E s
  done : ∀ (X : Cx), X.prog = P → X.w = w → X.K = K → X.calm = true → ∀ (i : Nat) (pZ : List (Addr × Obj)) (s : Shared) (σ : St) (H : Hp) (E : Value → Shared → Prop), Inv X pZ σ H s → (∀ b ∈ fp, FpOk X pZ H b) → tn i s.heap → J.stop i H →
    wpAny (model P w) X.A (pyNext (.ref it)) (fun r s1 => r = none ∧ Inv X pZ σ H s1) E s
  self : ∀ (A : Around) (i : Nat) (s : Shared) (Q : Value → Shared → Prop) (E : Value → Shared → Prop), tn i s.heap → Q (.ref it) s → wpAny (model P w) A (pyIter (.ref it)) Q E s
abbrev TI := St → Hp → (It → Hp → Prop) → Prop
def PIE (X : Cx) (pZ : List (Addr × Obj)) (σ : St) (tg : Expr) (R : It → Hp → Prop) (itv : Value) (s2 : Shared) : Prop :=
  ∃ (it : Addr) (fp : List Addr) (tn : Nat → Heap → Prop) (J : It) (H' : Hp), itv = .ref it ∧ Inv X pZ σ H' s2 ∧ Turn X.prog X.w X.K tg J fp it tn ∧ tn 0 s2.heap ∧ (∀ b ∈ fp, FpOk X pZ H' b) ∧ R J H'
def PI (X : Cx) (tg iter : Expr) (wi : TI) : Prop :=
  ∀ (pZ : List (Addr × Obj)) (s : Shared) (σ : St) (H : Hp) (R : It → Hp → Prop), Inv X pZ σ H s → wi σ H R →
    wpAny (model X.prog X.w) X.A (eval iter X.env) (fun v s1 => wpAny (model X.prog X.w) X.A (pyIter v) (PIE X pZ σ tg R) X.xe s1) X.xe s
theorem go_of {M : Model} {A : Around} {E : Value → Shared → Prop} {s : Shared} {tg : Expr} {it : Addr} {u : Value} {o : Obj} {n : String} {vs : Array Value} {Q : Unit → Shared → Prop} (ho : s.heap.get? it = some o) (hc : o.cls = .type n) (hd : o.data = .fields vs)
    (hn : ["enumerate", "zip", "dict_itemiterator", "dict_reverseitemiterator", "odict_iterator", "itertools.zip_longest", "itertools.pairwise"].contains n = false) (hQ : Q () s) : wpAny M A (letOwnedTupleGo tg (.ref it) u) Q E s := by
  unfold letOwnedTupleGo
  cases tg <;> first
    | exact wpAny_pure hQ
    | (cases u <;> first
        | exact wpAny_pure hQ
        | (refine wpAny_bind (wpAny_load ho ?_)
           rw [hc, hd]
           show wpAny M A (if (["enumerate", "zip", "dict_itemiterator", "dict_reverseitemiterator", "odict_iterator", "itertools.zip_longest", "itertools.pairwise"].contains n && vs[0]? == some (rawInt _)) = true then _ else _) Q E s
           rw [if_neg (by intro h; rw [hn, Bool.false_and] at h; cases h)]
           exact wpAny_pure hQ))
noncomputable def Itl (K : PySem.W.Frag) (a : Addr) : It :=
  ⟨fun i H => ∃ xs x, SqL K H a xs ∧ xs[i]? = some x, fun i H x H' => H' = H ∧ ∀ xs, SqL K H a xs → xs[i]? = some x, fun i H => ∃ xs, SqL K H a xs ∧ xs.length ≤ i⟩
noncomputable def Itt (K : PySem.W.Frag) (a : Addr) : It :=
  ⟨fun i H => ∃ xs x, SqT K H a xs ∧ xs[i]? = some x, fun i H x H' => H' = H ∧ ∀ xs, SqT K H a xs → xs[i]? = some x, fun i H => ∃ xs, SqT K H a xs ∧ xs.length ≤ i⟩
noncomputable def Itr (lo : Int) (n : Nat) : It := ⟨fun i _ => i < n, fun i H x H' => H' = H ∧ x = .int (lo + i), fun i _ => n ≤ i⟩
theorem turn_list {P : Program} {w : World} {K : PySem.W.Frag} {tg : Expr} (a it : Addr) : Turn P w K tg (Itl K a) [it] it (fun i h => h.IsListIter it a i) where
  mem := by simp
  obj := fun i h st b hb => by
    have e : b = it := by simpa using hb
    subst e
    obtain ⟨o, e, c, d⟩ := st
    exact ⟨o, e, fun v z => by rw [d] at z; cases z⟩
  keep := fun i h h' st k => st.at fun o e => k it (by simp) o e
  item := by
    intro X hP hw hK hc i pZ s σ H E I hf st hg
    subst hP hw hK
    obtain ⟨xs, x, hq, hx⟩ := hg
    obtain ⟨its, rv, p, hz⟩ := I.list hq
    obtain ⟨u, hu, ru⟩ := rv.get hx
    obtain ⟨f0, f1, f2, f3, f4, f5⟩ := hf it (by simp)
    refine wpAny_pyNext_list_item st p.isList (x := u) (by simpa using hu) fun h' st' sb => ?_
    have I1 : Inv X pZ σ H { s with heap := h' } := I.turned (t' := s.toks) (fun b o hb e => (sb.2 b hb).trans e) f0 f1 f3 f4 f5
    obtain ⟨o, e, c, d⟩ := id st'
    exact ⟨u, rfl, go_of (s := { s with heap := h' }) e c d (by decide) ⟨x, H, I1, ru, ⟨rfl, fun ys hy => by rw [I.list_inj hy hq]; exact hx⟩, st', fun b hb => (hf b hb).1⟩⟩
  done := by
    intro X hP hw hK hc i pZ s σ H E I hf st hg
    subst hP hw hK
    obtain ⟨xs, hq, hx⟩ := hg
    obtain ⟨its, rv, p, hz⟩ := I.list hq
    obtain ⟨f0, f1, f2, f3, f4, f5⟩ := hf it (by simp)
    have hl := rv.length
    exact wpAny_pyNext_list_end (I.ok.hd hc) st p.isList (by simp; omega) fun h' eb => ⟨rfl, I.turned (t' := s.toks) (fun b o hb e => eb b o hb e) f0 f1 f3 f4 f5⟩
  self := fun _ _ _ _ _ st h => wpAny_pyIter_listiter st h
theorem turn_tuple {P : Program} {w : World} {K : PySem.W.Frag} {tg : Expr} (a it : Addr) : Turn P w K tg (Itt K a) [it] it (fun i h => h.IsTupleIter it a i) where
  mem := by simp
  obj := fun i h st b hb => by
    have e : b = it := by simpa using hb
    subst e
    obtain ⟨o, e, c, d⟩ := st
    exact ⟨o, e, fun v z => by rw [d] at z; cases z⟩
  keep := fun i h h' st k => st.at fun o e => k it (by simp) o e
  item := by
    intro X hP hw hK hc i pZ s σ H E I hf st hg
    subst hP hw hK
    obtain ⟨xs, x, hq, hx⟩ := hg
    obtain ⟨its, rv, p, hz⟩ := I.tuple hq
    obtain ⟨u, hu, ru⟩ := rv.get hx
    obtain ⟨f0, f1, f2, f3, f4, f5⟩ := hf it (by simp)
    refine wpAny_pyNext_tuple_item st (show s.heap.IsTuple a its.toArray from p) (x := u) (by simpa using hu) fun h' st' sb => ?_
    have I1 : Inv X pZ σ H { s with heap := h' } := I.turned (t' := s.toks) (fun b o hb e => (sb.2 b hb).trans e) f0 f1 f3 f4 f5
    obtain ⟨o, e, c, d⟩ := id st'
    exact ⟨u, rfl, go_of (s := { s with heap := h' }) e c d (by decide) ⟨x, H, I1, ru, ⟨rfl, fun ys hy => by rw [I.tuple_inj hy hq]; exact hx⟩, st', fun b hb => (hf b hb).1⟩⟩
  done := by
    intro X hP hw hK hc i pZ s σ H E I hf st hg
    subst hP hw hK
    obtain ⟨xs, hq, hx⟩ := hg
    obtain ⟨its, rv, p, hz⟩ := I.tuple hq
    obtain ⟨f0, f1, f2, f3, f4, f5⟩ := hf it (by simp)
    have hl := rv.length
    exact wpAny_pyNext_tuple_end (I.ok.hd hc) st (show s.heap.IsTuple a its.toArray from p) (by simp; omega) fun h' eb => ⟨rfl, I.turned (t' := s.toks) (fun b o hb e => eb b o hb e) f0 f1 f3 f4 f5⟩
  self := fun _ _ _ _ _ st h => wpAny_pyIter_tupleiter st h
theorem turn_range {P : Program} {w : World} {K : PySem.W.Frag} {tg : Expr} (it : Addr) (lo : Int) (n : Nat) : Turn P w K tg (Itr lo n) [it] it (fun i h => IsRangeIter h it (lo + (i : Nat) * 1) ((n : Int) - (i : Nat)) 1) where
  mem := by simp
  obj := fun i h st b hb => by
    have e : b = it := by simpa using hb
    subst e
    exact ⟨_, st, fun v z => by
      have z' : Data.fields _ = Data.cell v := z
      cases z'⟩
  keep := fun i h h' st k => k it (by simp) _ st
  item := by
    intro X hP hw hK hc i pZ s σ H E I hf st hg
    subst hP hw hK
    obtain ⟨f0, f1, f2, f3, f4, f5⟩ := hf it (by simp)
    have W := Walks.range (prog := X.prog) (w := X.w) (I.ok.hd hc) it lo 1 n
    refine W.item i s _ _ hg st fun v h' tk hv st' kk => ?_
    obtain ⟨t, rfl⟩ := hv
    have I1 : Inv X pZ σ H { s with heap := h', toks := tk } := I.turned (fun b o hb e => kk b o (by simpa using hb) e) f0 f1 f3 f4 f5
    refine ⟨_, rfl, go_of (s := { s with heap := h', toks := tk }) (n := "range_iterator") st' rfl rfl (by decide) ⟨.int (lo + i), H, I1, ⟨t, ?_⟩, ⟨rfl, rfl⟩, st', fun b hb => (hf b hb).1⟩⟩
    rw [Int.mul_one]
  done := by
    intro X hP hw hK hc i pZ s σ H E I hf st hg
    subst hP hw hK
    obtain ⟨f0, f1, f2, f3, f4, f5⟩ := hf it (by simp)
    exact wpAny_pyNext_range_end (I.ok.hd hc) st (by have : n ≤ i := hg; omega) fun h' eb => ⟨rfl, I.turned (t' := s.toks) (fun b o hb e => eb b o hb e) f0 f1 f3 f4 f5⟩
  self := fun _ _ _ _ _ st h => wpAny_pyIter_rangeiter st h
end L2
namespace L2
open PySem PySem.Spec PyProof.Rows
section
variable {X : Cx} {tg : Expr}
noncomputable def iList (K : PySem.W.Frag) (tl : TE) : TI := fun σ H R => tl σ H fun x H1 => ∃ a, x = .ref a ∧ (∃ xs, SqL K H1 a xs) ∧ R (Itl K a) H1
theorem pi_list {l : Expr} {tl : TE} (hl : PE X l tl) : PI X tg l (iList X.K tl) := by
  intro pZ s σ H R I h
  refine thn (hl pZ s σ H _ I h) fun v s1 ⟨x, H1, I1, r1, q1⟩ => ?_
  obtain ⟨a, e, ⟨xs, hq⟩, q⟩ := q1
  subst e
  cases r1
  obtain ⟨its, rv, p, hz⟩ := I1.list hq
  refine wpAny_pyIter_list p.isList ?_
  refine ⟨s1.heap.objs.size, [s1.heap.objs.size], _, _, H1, rfl, I1.kept (t' := s1.toks) fun b o e => Heap.get?_push_of_some _ e, turn_list a _, ⟨_, Heap.get?_push_size _ rfl, rfl, rfl⟩, fun b hb => ?_, q⟩
  have e : b = s1.heap.objs.size := by simpa using hb
  subst e
  exact I1.fpOk (Nat.le_refl _) (I1.hok.fresh (Nat.le_refl _))
theorem range_it {pZ : List (Addr × Obj)} {σ : St} {H : Hp} {s : Shared} {R : It → Hp → Prop} {E : Value → Shared → Prop} {lo hi : Int} {t u v : Tok} {tk : Nat} (I : Inv X pZ σ H s) (h1 : -(2 ^ 62) ≤ lo) (h2 : lo < 2 ^ 62) (h3 : -(2 ^ 62) ≤ hi) (h4 : hi < 2 ^ 62)
    (q : R (Itr lo (hi - lo).toNat) H) : wpAny (model X.prog X.w) X.A (pyIter (.ref s.heap.objs.size)) (PIE X pZ σ tg R) E { s with heap := s.heap.push { cls := .type "range", data := .fields #[.int lo t, .int hi u, .int 1 v] }, toks := tk } := by
  refine wpAny_pyIter_range (IsRange.new ..) (small_one h1 h2 h3 h4) ?_
  have I1 : Inv X pZ σ H { s with heap := s.heap.push { cls := .type "range", data := .fields #[.int lo t, .int hi u, .int 1 v] }, toks := tk } := I.kept fun b o e => Heap.get?_push_of_some _ e
  refine ⟨(s.heap.push { cls := .type "range", data := .fields #[.int lo t, .int hi u, .int 1 v] }).objs.size, [(s.heap.push { cls := .type "range", data := .fields #[.int lo t, .int hi u, .int 1 v] }).objs.size], _, _, H, rfl,
    I1.kept (t' := tk) fun b o e => Heap.get?_push_of_some _ e, turn_range _ lo (hi - lo).toNat, ?_, fun b hb => ?_, q⟩
  · have e1 : lo + ((0 : Nat) : Int) * 1 = lo := by simp
    have e2 : (((hi - lo).toNat : Nat) : Int) - ((0 : Nat) : Int) = Builtin.Range.rangeSize lo hi 1 := by rw [rangeSize_one]; split <;> omega
    show IsRangeIter _ _ (lo + ((0 : Nat) : Int) * 1) ((((hi - lo).toNat : Nat) : Int) - ((0 : Nat) : Int)) 1
    rw [e1, e2]
    exact Heap.get?_push_size _ rfl
  · have e : b = (s.heap.push { cls := .type "range", data := .fields #[.int lo t, .int hi u, .int 1 v] }).objs.size := by simpa using hb
    subst e
    exact I1.fpOk (Nat.le_refl _) (I1.hok.fresh (Nat.le_refl _))
noncomputable def iRng1 (ta : TA) : TI := fun σ H R => ta σ H fun vs H1 => ∃ j : Int, vs = [.int j] ∧ -(2 ^ 62) ≤ j ∧ j < 2 ^ 62 ∧ R (Itr 0 j.toNat) H1
theorem pi_range1 {a : Expr} {ta : TA} {p pos : Pos} (hg : Gl X "range") (hm : X.mg "range" = none) (ha : PA X [a] ta) (hs : starEach [a] X.env = [(false, eval a X.env)] := by rfl) : PI X tg (.Call (.Name "range" p) [a] [] pos) (iRng1 ta) := by
  intro pZ s σ H R I h
  refine Call_ (ld_blt I hg hm boot_range (PyProof.Rows.callWith_type1 (thn (ha pos pZ s σ H _ I h) fun us s1 ⟨vs, H1, I1, r1, q1⟩ => ?_) hs rfl))
  obtain ⟨j, e, q1, q2, q⟩ := q1
  subst e
  cases r1 with
  | cons r rr =>
    cases rr
    obtain ⟨t, rfl⟩ := r
    exact call_range_1 (range_it I1 (by omega) (by omega) q1 q2 (by simpa using q))
noncomputable def tFor (wi : TI) (g : TG) (tb : TS) : TS := fun D σ H => wi σ H fun J H1 => ∃ W : Nat → Nat → St → Hp → Prop, (∃ m, W 0 m σ H1) ∧ ∀ i m σ H, W i m σ H →
  (J.stop i H ∧ D.nx σ H) ∨ (J.go i H ∧ ∃ N : St → Hp → Prop, (∀ σ' H', N σ' H' → ∃ m', m' < m ∧ W (i + 1) m' σ' H') ∧ ∀ x H', J.yld i H x H' → g x σ H' fun σ2 H2 => tb { D with nx := N, ct := N, bk := D.nx } σ2 H2)
noncomputable def pinsAt (fp : List Addr) (h : Heap) : List (Addr × Obj) := fp.filterMap fun b => (h.get? b).map fun o => (b, o)
theorem mem_pinsAt {fp : List Addr} {h : Heap} {b : Addr} {o : Obj} (hb : b ∈ fp) (e : h.get? b = some o) : (b, o) ∈ pinsAt fp h := List.mem_filterMap.mpr ⟨b, hb, by rw [e]; rfl⟩
theorem of_pinsAt {fp : List Addr} {h : Heap} {p : Addr × Obj} (hp : p ∈ pinsAt fp h) : p.1 ∈ fp ∧ h.get? p.1 = some p.2 := by
  obtain ⟨b, hb, e⟩ := List.mem_filterMap.mp hp
  cases q : h.get? b with
  | none => rw [q] at e; cases e
  | some o =>
    rw [q] at e
    have e' : (b, o) = p := Option.some.inj e
    subst e'
    exact ⟨hb, q⟩
theorem Inv.pinned {pZ : List (Addr × Obj)} {σ : St} {H : Hp} {s : Shared} {fp : List Addr} (I : Inv X pZ σ H s) (hf : ∀ b ∈ fp, FpOk X pZ H b) (ho : ∀ b ∈ fp, ∃ o, s.heap.get? b = some o ∧ ∀ v, o.data ≠ .cell v) : Inv X (pZ ++ pinsAt fp s.heap) σ H s :=
  I.pins_of fun p hp => (List.mem_append.mp hp).elim (fun z => I.pin p (List.mem_append_right _ z)) fun z => by
    obtain ⟨hb, e⟩ := of_pinsAt z
    obtain ⟨f0, f1, f2, _⟩ := hf p.1 hb
    obtain ⟨o, e', d⟩ := ho p.1 hb
    rw [e] at e'; cases e'
    exact ⟨e, f0, f1, f2, d⟩
theorem Inv.unpinned {pZ pl : List (Addr × Obj)} {σ : St} {H : Hp} {s : Shared} (I : Inv X (pZ ++ pl) σ H s) : Inv X pZ σ H s := I.pins_of fun p hp => I.pin p (List.mem_append_right _ (List.mem_append_left _ hp))
theorem ps_for {iter : Expr} {body : List Stmt} {wi : TI} {g : TG} {tb : TS} {pos : Pos} (hp : PassesOwn (model X.prog X.w) X.A X.env X.xe) (hc : X.calm = true) (hi : PI X tg iter wi) (hg : PG X tg g) (hb : PSs X body tb)
    (hs : ∀ x, foldedSetIterable iter X.env x = pure x := by intro _; rfl) : PS X (.For tg iter body [] pos) (tFor wi g tb) := by
  intro pZ s σ H D I h
  refine wpAny_For (thn (hi pZ s σ H _ I h) fun v s1 h1 => thn h1 fun itv s2 h2 => ?_) hs
  obtain ⟨it, fp, tn, J, H2, e, I2, T, st2, f2, W, ⟨m0, w0⟩, turn⟩ := h2
  subst e
  have stat : ∀ {H' : Hp}, (∀ b ∈ fp, H' b = none) → ∀ b ∈ fp, FpOk X pZ H' b := fun hn b hb => ⟨hn b hb, (f2 b hb).2⟩
  refine codeAny_forLoop_any (fun n s' => ∃ i σ' H', Inv X pZ σ' H' s' ∧ tn i s'.heap ∧ (∀ b ∈ fp, H' b = none) ∧ W i n σ' H') ?_ m0 ⟨0, σ, H2, I2, st2, fun b hb => (f2 b hb).1, w0⟩
  rintro n s3 ⟨i, σ3, H3, I3, st3, fr3, w3⟩
  rcases turn i n σ3 H3 w3 with ⟨stop, qn⟩ | ⟨go, N, hN, step⟩
  · refine wpAny_passesOwn hp (thn (T.done X rfl rfl rfl hc i pZ s3 σ3 H3 X.xe I3 (stat fr3) st3 stop) fun r s4 ⟨hr, I4⟩ => ?_)
    subst hr
    exact wpAny_execs_nil ⟨σ3, H3, I4, qn⟩
  · refine wpAny_passesOwn hp (thn (T.item X rfl rfl rfl hc i pZ s3 σ3 H3 X.xe I3 (stat fr3) st3 go) fun r s4 ⟨u, hr, h4⟩ => ?_)
    subst hr
    refine wpAny_passesOwn hp (thn h4 fun _ s5 ⟨x, H5, I5, r5, y5, st5, fr5⟩ => ?_)
    have I5' := I5.pinned (stat fr5) (T.obj _ _ st5)
    refine wpAny_passesOwn hp (thn (hg _ s5 σ3 H5 x u _ I5' r5 (step x H5 y5)) fun _ s6 ⟨σ6, H6, I6, q6⟩ => ?_)
    refine wpAny_passesOwn hp (thn (hb _ s6 σ6 H6 _ I6 q6) fun f s7 q7 => ?_)
    have again : ∀ {σ7 : St} {H7 : Hp}, Inv X (pZ ++ pinsAt fp s5.heap) σ7 H7 s7 → N σ7 H7 → ∃ m, m < n ∧ ∃ i σ' H', Inv X pZ σ' H' s7 ∧ tn i s7.heap ∧ (∀ b ∈ fp, H' b = none) ∧ W i m σ' H' := fun {σ7 H7} I7 n7 => by
      obtain ⟨m', hm, w7⟩ := hN σ7 H7 n7
      refine ⟨m', hm, i + 1, σ7, H7, I7.unpinned, T.keep _ _ _ st5 fun b hb o e => (I7.pin (b, o) (List.mem_append_right _ (List.mem_append_right _ (mem_pinsAt hb e)))).1, fun b hb => ?_, w7⟩
      obtain ⟨o, e, d⟩ := T.obj _ _ st5 b hb
      exact (I7.pin (b, o) (List.mem_append_right _ (List.mem_append_right _ (mem_pinsAt hb e)))).2.1
    cases f with
    | next => obtain ⟨σ7, H7, I7, n7⟩ := q7; exact again I7 n7
    | cont => obtain ⟨σ7, H7, I7, n7⟩ := q7; exact again I7 n7
    | brk => obtain ⟨σ7, H7, I7, q7⟩ := q7; exact ⟨σ7, H7, I7.unpinned, q7⟩
    | ret v => obtain ⟨x7, σ7, H7, I7, r7, q7⟩ := q7; exact ⟨x7, σ7, H7, I7.unpinned, r7, q7⟩
end
theorem for_list {K : PySem.W.Frag} {a : Addr} {xs : List V} {g : TG} {tb : TS} {D : Ends} {σ : St} {H : Hp} (Pv : Nat → St → Hp → Prop) (h0 : Pv 0 σ H) (hl : ∀ i σ H, i ≤ xs.length → Pv i σ H → SqL K H a xs)
    (hs : ∀ i x σ H, xs[i]? = some x → Pv i σ H → g x σ H fun σ2 H2 => tb { D with nx := Pv (i + 1), ct := Pv (i + 1), bk := D.nx } σ2 H2) (hd : ∀ σ H, Pv xs.length σ H → D.nx σ H) :
    ∃ W : Nat → Nat → St → Hp → Prop, (∃ m, W 0 m σ H) ∧ ∀ i m σ H, W i m σ H →
      ((Itl K a).stop i H ∧ D.nx σ H) ∨ ((Itl K a).go i H ∧ ∃ N : St → Hp → Prop, (∀ σ' H', N σ' H' → ∃ m', m' < m ∧ W (i + 1) m' σ' H') ∧ ∀ x H', (Itl K a).yld i H x H' → g x σ H' fun σ2 H2 => tb { D with nx := N, ct := N, bk := D.nx } σ2 H2) := by
  refine ⟨fun i m σ H => m = xs.length - i ∧ i ≤ xs.length ∧ Pv i σ H, ⟨xs.length, by simp, Nat.zero_le _, h0⟩, ?_⟩
  rintro i m σ H ⟨rfl, hi, p⟩
  have q := hl i σ H hi p
  by_cases hlt : i < xs.length
  · refine .inr ⟨⟨xs, xs[i], q, by simp [hlt]⟩, Pv (i + 1), fun σ' H' p' => ⟨xs.length - (i + 1), by omega, rfl, hlt, p'⟩, fun x H' y => ?_⟩
    obtain ⟨e, y⟩ := y
    subst e
    exact hs i x σ _ (y xs q) p
  · have e : i = xs.length := by omega
    subst e
    exact .inl ⟨⟨xs, q, Nat.le_refl _⟩, hd σ H p⟩
end L2
namespace L2
open PySem PySem.Spec PyProof.Rows
abbrev R2 := V → V → Hp → VK → Prop
def OpR (X : Cx) (f : Value → Value → Sem Value) (r : R2) : Prop :=
  ∀ (pZ : List (Addr × Obj)) (s : Shared) (σ : St) (H : Hp) (x y : V) (v u : Value) (Q : VK), Inv X pZ σ H s → RelV x v → RelV y u → r x y H Q →
    wpAny (model X.prog X.w) X.A (f v u) (EP X pZ σ Q) X.xe s
def UnR (X : Cx) (f : Value → Sem Value) (r : V → Hp → VK → Prop) : Prop :=
  ∀ (pZ : List (Addr × Obj)) (s : Shared) (σ : St) (H : Hp) (x : V) (v : Value) (Q : VK), Inv X pZ σ H s → RelV x v → r x H Q →
    wpAny (model X.prog X.w) X.A (f v) (EP X pZ σ Q) X.xe s
def CallR (X : Cx) (f : Value) (r : List V → Hp → VK → Prop) : Prop :=
  ∀ (pZ : List (Addr × Obj)) (s : Shared) (σ : St) (H : Hp) (xs : List V) (us : List Value) (Q : VK), Inv X pZ σ H s → Vals xs us → r xs H Q →
    wpAny (model X.prog X.w) X.A (call f us) (EP X pZ σ Q) X.xe s
noncomputable def tOp (r : R2) (ta tb : TE) : TE := fun σ H Q => ta σ H fun x H1 => tb σ H1 fun y H2 => r x y H2 Q
noncomputable def tUn (r : V → Hp → VK → Prop) (ta : TE) : TE := fun σ H Q => ta σ H fun x H1 => r x H1 Q
noncomputable def rI (C : Int → Int → Prop) (g : Int → Int → V) : R2 := fun x y H Q => ∃ i j, x = .int i ∧ y = .int j ∧ C i j ∧ Q (g i j) H
noncomputable def rI0 (g : Int → Int → V) : R2 := fun x y H Q => ∃ i j, x = .int i ∧ y = .int j ∧ Q (g i j) H
noncomputable def rU (g : Int → V) : V → Hp → VK → Prop := fun x H Q => ∃ i, x = .int i ∧ Q (g i) H
section
variable {X : Cx} {a b c : Expr} {ta tb tc : TE} {pos : Pos}
theorem binT (ha : PE X a ta) (hb : PE X b tb) {pZ : List (Addr × Obj)} {s : Shared} {σ : St} {H : Hp} {R : V → V → Hp → Prop} (I : Inv X pZ σ H s)
    (h : ta σ H fun x H1 => tb σ H1 fun y H2 => R x y H2) {Q : Value → Shared → Prop} {f : Value → Value → Sem Value}
    (hf : ∀ v u s2 x y H2, Inv X pZ σ H2 s2 → RelV x v → RelV y u → R x y H2 → wpAny (model X.prog X.w) X.A (f v u) Q X.xe s2) :
    wpAny (model X.prog X.w) X.A (eval a X.env) (fun v s₁ => wpAny (model X.prog X.w) X.A (eval b X.env) (fun u s₂ => wpAny (model X.prog X.w) X.A (f v u) Q X.xe s₂) X.xe s₁) X.xe s := by
  refine thn (ha pZ s σ H _ I h) fun v s1 ⟨x, H1, I1, r1, q1⟩ => ?_
  refine thn (hb pZ s1 σ H1 _ I1 q1) fun u s2 ⟨y, H2, I2, r2, q2⟩ => ?_
  exact hf v u s2 x y H2 I2 r1 r2 q2
theorem pe_op {op : Operator} {r : R2} (ho : OpR X (binaryOp op) r) (ha : PE X a ta) (hb : PE X b tb) : PE X (.BinOp a op b pos) (tOp r ta tb) := by
  intro pZ s σ H Q I h
  exact wpAny_BinOp (binT ha hb I h fun v u s2 x y H2 I2 rx ry q => ho pZ s2 σ H2 x y v u Q I2 rx ry q)
theorem pe_un {op : UnaryOp} {r : V → Hp → VK → Prop} (ho : UnR X (unaryOp op) r) (ha : PE X a ta) : PE X (.UnaryOp op a pos) (tUn r ta) := by
  intro pZ s σ H Q I h
  exact UnaryOp_ (thn (ha pZ s σ H _ I h) fun v s1 ⟨x, H1, I1, r1, q1⟩ => ho pZ s1 σ H1 x v Q I1 r1 q1)
theorem opI {f : Value → Value → Sem Value} {C : Int → Int → Prop} {g : Int → Int → Int}
    (rule : ∀ (i j : Int) (t u : Tok) (s : Shared) (Q : Value → Shared → Prop) (E : Value → Shared → Prop), C i j → Q (.int (g i j) s.toks) { s with toks := s.toks + 1 } → wpAny (model X.prog X.w) X.A (f (.int i t) (.int j u)) Q E s) :
    OpR X f (rI C fun i j => .int (g i j)) := by
  intro pZ s σ H x y v u Q I rx ry h
  obtain ⟨i, j, rfl, rfl, hc, q⟩ := h
  obtain ⟨t, rfl⟩ := rx
  obtain ⟨t', rfl⟩ := ry
  exact rule i j t t' s _ _ hc ⟨.int (g i j), H, I.tok _, ⟨_, rfl⟩, q⟩
theorem opI0 {f : Value → Value → Sem Value} {g : Int → Int → Int}
    (rule : ∀ (i j : Int) (t u : Tok) (s : Shared) (Q : Value → Shared → Prop) (E : Value → Shared → Prop), Q (.int (g i j) s.toks) { s with toks := s.toks + 1 } → wpAny (model X.prog X.w) X.A (f (.int i t) (.int j u)) Q E s) :
    OpR X f (rI0 fun i j => .int (g i j)) := by
  intro pZ s σ H x y v u Q I rx ry h
  obtain ⟨i, j, rfl, rfl, q⟩ := h
  obtain ⟨t, rfl⟩ := rx
  obtain ⟨t', rfl⟩ := ry
  exact rule i j t t' s _ _ ⟨.int (g i j), H, I.tok _, ⟨_, rfl⟩, q⟩
theorem opB0 {f : Value → Value → Sem Value} {g : Int → Int → Bool}
    (rule : ∀ (i j : Int) (t u : Tok) (s : Shared) (Q : Value → Shared → Prop) (E : Value → Shared → Prop), Q (.bool (g i j)) s → wpAny (model X.prog X.w) X.A (f (.int i t) (.int j u)) Q E s) :
    OpR X f (rI0 fun i j => .bl (g i j)) := by
  intro pZ s σ H x y v u Q I rx ry h
  obtain ⟨i, j, rfl, rfl, q⟩ := h
  obtain ⟨t, rfl⟩ := rx
  obtain ⟨t', rfl⟩ := ry
  exact rule i j t t' s _ _ ⟨.bl (g i j), H, I, rfl, q⟩
def CDiv (i j : Int) : Prop := 0 < j ∧ j < 1073741824
def CPow (i j : Int) : Prop := 0 ≤ j ∧ j ≤ 1000000 ∧ i.natAbs < 2 ^ 64
def CMul (i j : Int) : Prop := (-(2 ^ 64) < i ∧ i < 2 ^ 64) ∨ (-(2 ^ 64) < j ∧ j < 2 ^ 64)
theorem CMul.ok {i j : Int} (h : CMul i j) : IntMulOk i j := by
  rcases h with ⟨h1, h2⟩ | ⟨h1, h2⟩
  · exact .of_left (intBits_le_64 h1 h2)
  · exact .of_right (intBits_le_64 h1 h2)
theorem op_add : OpR X (binaryOp .Add) (rI0 fun i j => .int (i + j)) := opI0 fun _ _ _ _ _ _ _ q => add_int q
theorem op_sub : OpR X (binaryOp .Sub) (rI0 fun i j => .int (i - j)) := opI0 fun _ _ _ _ _ _ _ q => sub_int q
theorem op_mul : OpR X (binaryOp .Mult) (rI CMul fun i j => .int (i * j)) := opI fun _ _ _ _ _ _ _ hc q => mul_int q hc.ok
theorem op_fdiv : OpR X (binaryOp .FloorDiv) (rI CDiv fun i j => .int (i / j)) := opI fun i j _ _ _ _ _ hc q => by
  have h1 : (0 : Int) < j := hc.1
  have h2 : j < 1073741824 := hc.2
  exact floordiv_int (by omega) (by rw [Int.fdiv_eq_ediv_of_nonneg i (by omega)]; exact q) (.inl (PyProof.noPylong_small (by omega)))
theorem op_mod : OpR X (binaryOp .Mod) (rI (fun _ j => 0 < j) fun i j => .int (i % j)) := opI fun i j _ _ _ _ _ hc q => by
  have h1 : (0 : Int) < j := hc
  exact mod_int' (by omega) (by rw [Int.fmod_eq_emod_of_nonneg i (by omega)]; exact q)
theorem op_pow : OpR X (binaryOp .Pow) (rI CPow fun i j => .int (i ^ j.toNat)) := opI fun _ _ _ _ _ _ _ hc q => pow_int_small hc.1 hc.2.1 hc.2.2 q
theorem unI {f : Value → Sem Value} {g : Int → Int}
    (rule : ∀ (i : Int) (t : Tok) (s : Shared) (Q : Value → Shared → Prop) (E : Value → Shared → Prop), Q (.int (g i) s.toks) { s with toks := s.toks + 1 } → wpAny (model X.prog X.w) X.A (f (.int i t)) Q E s) :
    UnR X f (rU fun i => .int (g i)) := by
  intro pZ s σ H x v Q I rx h
  obtain ⟨i, rfl, q⟩ := h
  obtain ⟨t, rfl⟩ := rx
  exact rule i t s _ _ ⟨.int (g i), H, I.tok _, ⟨_, rfl⟩, q⟩
theorem un_neg : UnR X (unaryOp .USub) (rU fun i => .int (-i)) := unI fun _ _ _ _ _ q => neg_int q
end
noncomputable def scal : V → V → Bool
  | .non, .non => true | .non, .int _ => true | .int _, .non => true | .non, .bl _ => true | .bl _, .non => true | .non, .str _ => true | .str _, .non => true
  | .int _, .int _ => true | .bl _, .bl _ => true | .str _, .str _ => true | .byt _, .byt _ => true
  | .int _, .str _ => true | .str _, .int _ => true | .bl _, .str _ => true | .str _, .bl _ => true
  | _, _ => false
noncomputable def rEq : R2 := fun x y H Q => scal x y = true ∧ Q (.bl (decide (x = y))) H
theorem dec_int {i j : Int} : decide (V.int i = V.int j) = (i == j) := by
  rw [Bool.eq_iff_iff]
  simp
theorem dec_bl {i j : Bool} : decide (V.bl i = V.bl j) = (i == j) := by
  rw [Bool.eq_iff_iff]
  simp
theorem dec_str {i j : Str} : decide (V.str i = V.str j) = (i == j) := by
  rw [Bool.eq_iff_iff]
  simp
theorem dec_byt {i j : Array UInt8} : decide (V.byt i = V.byt j) = (i.toList == j.toList) := by
  rw [Bool.eq_iff_iff]
  cases i
  cases j
  simp
section
variable {X : Cx} {a b c : Expr} {ta tb tc : TE} {pos : Pos}
theorem fin_bl {pZ : List (Addr × Obj)} {σ : St} {H : Hp} {s : Shared} {Q : VK} {k k' : Bool} (I : Inv X pZ σ H s) (q : Q (.bl k) H) (e : k = k') : EP X pZ σ Q (.bool k') s := by
  subst e
  exact ⟨.bl k, H, I, rfl, q⟩
theorem op_eq : OpR X (compareOp .Eq) rEq := by
  intro pZ s σ H x y v u Q I rx ry h
  obtain ⟨hs, q⟩ := h
  cases x with
  | non =>
    cases rx
    cases y with
    | non => cases ry; exact PySem.EqNone.eq_none_none (fin_bl I q (by simp))
    | bl j => cases ry; exact PySem.EqNone.eq_none_bool (fin_bl I q (by simp))
    | int j => obtain ⟨t', rfl⟩ := ry; exact PySem.EqNone.eq_none_int (fin_bl I q (by simp))
    | str j => obtain ⟨t', rfl⟩ := ry; exact PySem.EqNone.eq_none_str (fin_bl I q (by simp))
    | _ => exact absurd (show false = true from hs) Bool.false_ne_true
  | bl i =>
    cases rx
    cases y with
    | non => cases ry; exact PySem.EqNone.eq_bool_none (fin_bl I q (by simp))
    | bl j => cases ry; exact eq_bool (fin_bl I q dec_bl)
    | str j => obtain ⟨t', rfl⟩ := ry; exact PySem.EqMixed.eq_bool_str (fin_bl I q (by simp))
    | _ => exact absurd (show false = true from hs) Bool.false_ne_true
  | int i =>
    obtain ⟨t, rfl⟩ := rx
    cases y with
    | non => cases ry; exact PySem.EqNone.eq_int_none (fin_bl I q (by simp))
    | int j => obtain ⟨t', rfl⟩ := ry; exact eq_int (fin_bl I q dec_int)
    | str j => obtain ⟨t', rfl⟩ := ry; exact PySem.EqMixed.eq_int_str (fin_bl I q (by simp))
    | _ => exact absurd (show false = true from hs) Bool.false_ne_true
  | str i =>
    obtain ⟨t, rfl⟩ := rx
    cases y with
    | non => cases ry; exact PySem.EqNone.eq_str_none (fin_bl I q (by simp))
    | bl j => cases ry; exact PySem.EqMixed.eq_str_bool (fin_bl I q (by simp))
    | int j => obtain ⟨t', rfl⟩ := ry; exact PySem.EqMixed.eq_str_int (fin_bl I q (by simp))
    | str j => obtain ⟨t', rfl⟩ := ry; exact eq_str (fin_bl I q dec_str)
    | _ => exact absurd (show false = true from hs) Bool.false_ne_true
  | byt i =>
    obtain ⟨t, rfl⟩ := rx
    cases y with
    | byt j => obtain ⟨t', rfl⟩ := ry; exact PySem.W.eq_bytes (fin_bl I q dec_byt)
    | _ => exact absurd (show false = true from hs) Bool.false_ne_true
  | _ => cases y <;> exact absurd (show false = true from hs) Bool.false_ne_true
theorem op_lt : OpR X (compareOp .Lt) (rI0 fun i j => .bl (decide (i < j))) := opB0 fun _ _ _ _ _ _ _ q => lt_int q
theorem op_le : OpR X (compareOp .LtE) (rI0 fun i j => .bl (decide (i ≤ j))) := opB0 fun _ _ _ _ _ _ _ q => le_int q
theorem op_gt : OpR X (compareOp .Gt) (rI0 fun i j => .bl (decide (j < i))) := opB0 fun _ _ _ _ _ _ _ q => gt_int q
theorem op_ge : OpR X (compareOp .GtE) (rI0 fun i j => .bl (decide (j ≤ i))) := opB0 fun _ _ _ _ _ _ _ q => ge_int q
theorem op_in_str : OpR X (compareOp .In) (fun x y H Q => ∃ i j, x = .str i ∧ y = .str j ∧ Q (.bl (!(Builtin.Str.occurrences j i 0 j.length 1).isEmpty)) H) := by
  intro pZ s σ H x y v u Q I rx ry h
  obtain ⟨i, j, rfl, rfl, q⟩ := h
  obtain ⟨t, rfl⟩ := rx
  obtain ⟨t', rfl⟩ := ry
  exact in_str (fin_bl I q rfl)
theorem op_notN : OpR X (compareOp .IsNot) (fun x y H Q => y = .non ∧ Q (.bl (!decide (x = .non))) H) := by
  intro pZ s σ H x y v u Q I rx ry h
  obtain ⟨rfl, q⟩ := h
  cases ry
  refine isnot_none_gen (fin_bl I q ?_)
  cases x <;> first
    | (cases rx; rfl)
    | (obtain ⟨t, rfl⟩ := rx; rfl)
theorem OpR.or {f : Value → Value → Sem Value} {r r' : R2} (h : OpR X f r) (h' : OpR X f r') : OpR X f (fun x y H Q => r x y H Q ∨ r' x y H Q) := by
  intro pZ s σ H x y v u Q I rx ry q
  rcases q with q | q
  · exact h pZ s σ H x y v u Q I rx ry q
  · exact h' pZ s σ H x y v u Q I rx ry q
theorem nomark (b : Expr) {op : CmpOp} (h : op ≠ .In := by decide) (h2 : op ≠ .NotIn := by decide) : behindInMarks op b = false := by
  have e1 : (op == CmpOp.In) = false := by cases op <;> first | rfl | exact absurd rfl h
  have e2 : (op == CmpOp.NotIn) = false := by cases op <;> first | rfl | exact absurd rfl h2
  cases b <;> simp [behindInMarks, e1, e2]
theorem pe_cmpR {op : CmpOp} {r : R2} (ho : OpR X (compareOp op) r) (ha : PE X a ta) (hb : PE X b tb) (hm : behindInMarks op b = false) : PE X (.Compare a [op] [b] pos) (tOp r ta tb) := by
  intro pZ s σ H Q I h
  exact wpAny_Compare1 (binT ha hb I h fun v u s2 x y H2 I2 rx ry q => ho pZ s2 σ H2 x y v u Q I2 rx ry q) hm
noncomputable def tTest (t : TE) : TT := fun σ H Q => t σ H fun x H' => ∃ k, x = .bl k ∧ Q k H'
theorem pt_cmpR {op : CmpOp} {r : R2} (ho : OpR X (compareOp op) r) (ha : PE X a ta) (hb : PE X b tb) (hm : behindInMarks op b = false) : PT X (.Compare a [op] [b] pos) (tTest (tOp r ta tb)) := by
  intro pZ s σ H Q I h
  refine wpAny_isTrue_Compare1 (thn (ha pZ s σ H _ I h) fun v s1 ⟨x, H1, I1, r1, q1⟩ => thn (hb pZ s1 σ H1 _ I1 q1) fun u s2 ⟨y, H2, I2, r2, q2⟩ =>
    thn (ho pZ s2 σ H2 x y v u _ I2 r1 r2 q2) fun c s3 ⟨z, H3, I3, r3, k, e, q3⟩ => ?_) hm
  subst e
  cases r3
  exact wpAny_truthy_bool ⟨H3, I3, q3⟩
noncomputable def tChain (r r' : R2) (ta tb tc : TE) : TE := fun σ H Q => ta σ H fun x H1 => tb σ H1 fun y H2 => r x y H2 fun z H3 => ∃ k, z = .bl k ∧
  (if k = true then tc σ H3 fun w' H4 => r' y w' H4 Q else Q (.bl false) H3)
theorem pe_chain {op op' : CmpOp} {r r' : R2} (ho : OpR X (compareOp op) r) (ho' : OpR X (compareOp op') r') (ha : PE X a ta) (hb : PE X b tb) (hc : PE X c tc)
    (hm : lastMarks [op, op'] [b, c] = false := by with_unfolding_all rfl) : PE X (.Compare a [op, op'] [b, c] pos) (tChain r r' ta tb tc) := by
  intro pZ s σ H Q I h
  refine Compare_chain (thn (ha pZ s σ H _ I h) fun v s1 ⟨x, H1, I1, r1, q1⟩ => chain_link (thn (hb pZ s1 σ H1 _ I1 q1) fun u s2 ⟨y, H2, I2, r2, q2⟩ =>
    thn (ho pZ s2 σ H2 x y v u _ I2 r1 r2 q2) fun d s3 ⟨z, H3, I3, r3, k, e, q3⟩ => ?_)) hm
  subst e
  cases r3
  refine wpAny_truthy_bool ?_
  cases k with
  | false => exact ite_ff ⟨.bl false, H3, I3, rfl, q3⟩
  | true => exact ite_tt (chain_last (thn (hc pZ s3 σ H3 _ I3 q3) fun w' s4 ⟨z', H4, I4, r4, q4⟩ => ho' pZ s4 σ H4 y z' u w' Q I4 r2 r4 q4))
theorem pt_chain {op op' : CmpOp} {r r' : R2} (ho : OpR X (compareOp op) r) (ho' : OpR X (compareOp op') r') (ha : PE X a ta) (hb : PE X b tb) (hc : PE X c tc)
    (hm : lastMarks [op, op'] [b, c] = false := by with_unfolding_all rfl) : PT X (.Compare a [op, op'] [b, c] pos) (tTest (tChain r r' ta tb tc)) := by
  intro pZ s σ H Q I h
  refine isTrue_chain (thn (ha pZ s σ H _ I h) fun v s1 ⟨x, H1, I1, r1, q1⟩ => test_link (thn (hb pZ s1 σ H1 _ I1 q1) fun u s2 ⟨y, H2, I2, r2, q2⟩ =>
    thn (ho pZ s2 σ H2 x y v u _ I2 r1 r2 q2) fun d s3 ⟨z, H3, I3, r3, k, e, q3⟩ => ?_)) hm
  subst e
  cases r3
  refine wpAny_truthy_bool ?_
  cases k with
  | false =>
    obtain ⟨k', e', q'⟩ := q3
    cases e'
    exact ite_ff ⟨H3, I3, q'⟩
  | true =>
    refine ite_tt (test_last (thn (hc pZ s3 σ H3 _ I3 q3) fun w' s4 ⟨z', H4, I4, r4, q4⟩ => thn (ho' pZ s4 σ H4 y z' u w' _ I4 r2 r4 q4) fun d' s5 ⟨z2, H5, I5, r5, k2, e2, q5⟩ => ?_))
    subst e2
    cases r5
    exact wpAny_truthy_bool ⟨H5, I5, q5⟩
theorem line63 : (sizeLine : Nat) < 2 ^ 63 := by rw [sizeLine_eq]; decide
theorem op_add_str : OpR X (binaryOp .Add) (fun x y H Q => ∃ i j, x = .str i ∧ y = .str j ∧ i.length + j.length ≤ sizeLine ∧ Q (.str (i ++ j)) H) := by
  intro pZ s σ H x y v u Q I rx ry h
  obtain ⟨i, j, rfl, rfl, hz, q⟩ := h
  obtain ⟨t, rfl⟩ := rx
  obtain ⟨t', rfl⟩ := ry
  exact add_str (fun t' tk => ⟨.str (i ++ j), H, I.tok _, ⟨_, rfl⟩, q⟩) hz
theorem vals1 {x : V} {us : List Value} (r : Vals [x] us) : ∃ u, us = [u] ∧ RelV x u := by
  cases r with
  | cons r1 r2 => cases r2; exact ⟨_, rfl, r1⟩
theorem vals2 {x y : V} {us : List Value} (r : Vals [x, y] us) : ∃ u w', us = [u, w'] ∧ RelV x u ∧ RelV y w' := by
  cases r with
  | cons r1 r2 =>
    cases r2 with
    | cons r3 r4 => cases r4; exact ⟨_, _, rfl, r1, r3⟩
theorem call_abs : CallR X (.builtin "abs") (fun xs H Q => ∃ i, xs = [.int i] ∧ Q (.int (if i < 0 then -i else i)) H) := by
  intro pZ s σ H xs us Q I r h
  obtain ⟨i, rfl, q⟩ := h
  obtain ⟨u, rfl, t, rfl⟩ := vals1 r
  exact call_abs_int fun u tk => ⟨.int (if i < 0 then -i else i), H, I.tok _, ⟨_, rfl⟩, q⟩
theorem call_max2 (hc : X.calm = true) : CallR X (.builtin "max") (fun xs H Q => ∃ i j, xs = [.int i, .int j] ∧ Q (.int (if j > i then j else i)) H) := by
  intro pZ s σ H xs us Q I r h
  obtain ⟨i, j, rfl, q⟩ := h
  obtain ⟨u, w', rfl, ⟨t, rfl⟩, ⟨t', rfl⟩⟩ := vals2 r
  refine max_two_ints (I.ok.hd hc) fun h' tk k => ⟨_, H, I.kept k, ?_, q⟩
  by_cases hj : j > i
  · rw [if_pos hj, if_pos hj]; exact ⟨_, rfl⟩
  · rw [if_neg hj, if_neg hj]; exact ⟨_, rfl⟩
theorem call_min2 (hc : X.calm = true) : CallR X (.builtin "min") (fun xs H Q => ∃ i j, xs = [.int i, .int j] ∧ Q (.int (if j < i then j else i)) H) := by
  intro pZ s σ H xs us Q I r h
  obtain ⟨i, j, rfl, q⟩ := h
  obtain ⟨u, w', rfl, ⟨t, rfl⟩, ⟨t', rfl⟩⟩ := vals2 r
  refine min_two_ints (I.ok.hd hc) fun h' tk k => ⟨_, H, I.kept k, ?_, q⟩
  by_cases hj : j < i
  · rw [if_pos hj, if_pos hj]; exact ⟨_, rfl⟩
  · rw [if_neg hj, if_neg hj]; exact ⟨_, rfl⟩
def LenV (K : PySem.W.Frag) (x : V) (H : Hp) (n : Nat) : Prop :=
  match x with
  | .str y => y.length ≤ sizeLine ∧ n = y.length
  | .byt y => y.size ≤ sizeLine ∧ n = y.size
  | .ref p => (∃ xs, SqL K H p xs ∧ n = xs.length) ∨ ∃ xs, SqT K H p xs ∧ n = xs.length
  | _ => False
theorem call_len : CallR X (.builtin "len") (fun xs H Q => ∃ x n, xs = [x] ∧ LenV X.K x H n ∧ Q (.int n) H) := by
  intro pZ s σ H xs us Q I r h
  obtain ⟨x, n, rfl, e, q⟩ := h
  obtain ⟨u, rfl, rx⟩ := vals1 r
  have hl := line63
  have hs : sizeLine = 16777216 := sizeLine_eq
  cases x with
  | str y =>
    obtain ⟨t, rfl⟩ := rx
    obtain ⟨hy, e'⟩ : y.length ≤ sizeLine ∧ n = y.length := e
    subst e'
    exact len_str (by omega) ⟨.int _, H, I.tok _, ⟨_, rfl⟩, q⟩
  | byt y =>
    obtain ⟨t, rfl⟩ := rx
    obtain ⟨hy, e'⟩ : y.size ≤ sizeLine ∧ n = y.size := e
    subst e'
    exact PySem.W.len_bytes (by omega) ⟨.int _, H, I.tok _, ⟨_, rfl⟩, q⟩
  | ref p =>
    cases rx
    have e' : (∃ xs, SqL X.K H p xs ∧ n = xs.length) ∨ ∃ xs, SqT X.K H p xs ∧ n = xs.length := e
    rcases e' with ⟨xs, hx, e'⟩ | ⟨xs, hx, e'⟩
    · subst e'
      obtain ⟨its, r', pl, hz⟩ := I.list hx
      have hlen := r'.length
      exact Calls.call_len_list pl.isList (by simp only [List.size_toArray]; omega) ⟨.int xs.length, H, I.tok _, ⟨_, by simp only [List.size_toArray]; rw [hlen]⟩, q⟩
    · subst e'
      obtain ⟨its, r', pl, hz⟩ := I.tuple hx
      have hlen := r'.length
      exact len_tuple pl (by simp only [List.size_toArray]; omega) ⟨.int xs.length, H, I.tok _, ⟨_, by simp only [List.size_toArray]; rw [hlen]⟩, q⟩
  | _ => exact (show False from e).elim
end
end L2
namespace L2
open PySem PySem.Spec PyProof.Rows
structure ObjM (h : Heap) (x dx C : Addr) (mA : Str → Option Value) : Prop where
  obj : h.get? x = some (PySem.W.instObj C dx)
  ns : h.Ns1 dx mA
  ne : dx ≠ x
theorem lookIn_ns {h : Heap} {dx : Addr} {mA : Str → Option Value} (n : h.Ns1 dx mA) : ∃ od, h.get? dx = some od ∧ ∀ name, PySem.W.lookIn name od = some (mA name) := by
  obtain ⟨o, es, ep, ho, hd, hk, _, hm⟩ := n
  refine ⟨o, ho, fun name => ?_⟩
  have e := hm name
  unfold nsFind findBy at e
  rw [← Array.find?_toList] at e
  unfold PySem.W.lookIn
  rw [hd]
  dsimp only
  split
  · rename_i y q
    rw [q] at e
    exact congrArg some e
  · rename_i q
    rw [q] at e
    have a : es.toList.any (·.refKey) = false := by
      rw [List.any_eq_false]
      intro y hy
      obtain ⟨z, t, hkey⟩ := hk y (Array.mem_toList_iff.mp hy)
      simp [DictEntry.refKey, hkey]
    have a' : ¬ es.toList.any (·.refKey) = true := by rw [a]; exact Bool.false_ne_true
    rw [if_neg a']
    exact congrArg some e
theorem ObjM.look {h : Heap} {x dx C : Addr} {mA : Str → Option Value} (I : ObjM h x dx C mA) : ∃ od, PySem.W.InstAt h x (PySem.W.instObj C dx) C (some od) ∧ ∀ name, PySem.W.lookIn name od = some (mA name) :=
  let ⟨od, ho, hl⟩ := lookIn_ns I.ns
  ⟨od, ⟨I.obj, rfl, rfl, ho⟩, hl⟩
section
variable {P : Program} {w : World} {H H' : Hp} {h h' : Heap} {a C dx : Addr} {fs fs' : List (Str × V)}
theorem ins_get (hok : HOk P w H h) (e : H a = some (.ins C dx fs)) : ∃ mA, ObjM h a dx C mA ∧ (∀ f, RelO (fs.lookup f) (mA f)) ∧ PySem.Within mA (fs.map (·.1)) ∧ fs.length ≤ 1000 ∧ H dx = some (.own a) := by
  obtain ⟨d, z, ne, ob, mA, n, r, q⟩ := (show ObjOk P w H h a (.ins C dx fs) from hok a _ e)
  exact ⟨mA, ⟨ob, n, ne⟩, r, q, z, d⟩
end
structure Cls (K : PySem.W.Frag) (C : Addr) : Prop where
  pg : PySem.W.plainGet K C Str.empty = true
  hd : PySem.W.hasDictIn K C = true
  po : PySem.W.plainOver K C = true
  sa : PySem.W.findIn K (.ref C) "__setattr__" = some (some (.builtin "object.__setattr__"))
theorem Cls.get {K : PySem.W.Frag} {C : Addr} (c : Cls K C) (f : Str) : PySem.W.plainGet K C f = true := c.pg
section
variable {X : Cx} {pZ : List (Addr × Obj)} {σ : St} {H : Hp} {s : Shared} {A : Around} {E : Value → Shared → Prop} {Q : Value → Shared → Prop} {c : Value} {b : Bool}
inductive TyOf (K : PySem.W.Frag) (H : Hp) : V → Value → Prop where
  | non : TyOf K H .non (.type "NoneType")
  | bl (x : Bool) : TyOf K H (.bl x) (.type "bool")
  | int (i : Int) : TyOf K H (.int i) (.type "int")
  | str (x : Str) : TyOf K H (.str x) (.type "str")
  | flt (x : UInt64) : TyOf K H (.flt x) (.type "float")
  | lst {a : Addr} {xs : List V} (e : H a = some (.lst xs)) : TyOf K H (.ref a) (.type "list")
  | frz {a : Addr} {o : Obj} {xs : List V} (e : H a = some (.frz o (.lst xs))) : TyOf K H (.ref a) (.type "list")
  | tup {a : Addr} {xs : List V} (e : H a = some (.tup xs)) : TyOf K H (.ref a) (.type "tuple")
  | dK {a : Addr} {kvs : List (Key × V)} (e : Rd H a (.dK kvs)) : TyOf K H (.ref a) (.type "dict")
  | dT {a : Addr} {kvs : List (List Key × V)} (e : H a = some (.dT kvs)) : TyOf K H (.ref a) (.type "dict")
  | ins {a C dx : Addr} {fs : List (Str × V)} (e : H a = some (.ins C dx fs)) (cl : Cls K C) (ha : PySem.W.findIn K (.ref C) "__class__" = some (some (.builtin "object.__class__")))
      (hn : PySem.W.specialIn K (.builtin "object.__class__") "__get__" = some (some (.builtin "getset_descriptor.__get__"))) (htk : PySem.W.takesIn K (.builtin "object.__class__") = some true)
      (hm : PySem.W.mroIn K C (.type "object") = some true) : TyOf K H (.ref a) (.ref C)
theorem isinst_ok {x : V} {u t : Value} (I : Inv X pZ σ H s) (rx : RelV x u) (ty : TyOf X.K H x t) (e : PySem.W.kitOne X.K t c = some b) (h : ∀ tk, Q (.bool b) { s with toks := tk }) :
    wpAny (model X.prog X.w) A (call (.builtin "isinstance") [u, c]) Q E s := by
  cases ty with
  | non => cases (show u = Value.none from rx); exact PySem.W.kia_one PySem.W.kitx_none I.kIn True.intro e (fun z => nomatch z) h
  | bl y => cases (show u = Value.bool y from rx); exact PySem.W.kia_one PySem.W.kitx_bool I.kIn True.intro e (fun z => nomatch z) h
  | int i => obtain ⟨t, q⟩ := (show ∃ t, u = Value.int i t from rx); cases q; exact PySem.W.kia_one PySem.W.kitx_int I.kIn True.intro e (fun z => nomatch z) h
  | str y => obtain ⟨t, q⟩ := (show ∃ t, u = Value.str y t from rx); cases q; exact PySem.W.kia_one PySem.W.kitx_str I.kIn True.intro e (fun z => nomatch z) h
  | flt y => obtain ⟨t, q⟩ := (show ∃ t, u = Value.float y t from rx); cases q; exact PySem.W.kia_one PySem.W.kitx_float I.kIn True.intro e (fun z => nomatch z) h
  | @lst a xs ea =>
    cases (show u = Value.ref a from rx)
    obtain ⟨_, _, n, _, h1⟩ := (show ObjOk X.prog X.w H s.heap a (.lst xs) from I.hok a _ ea)
    exact PySem.W.kia_one PySem.W.kitx_list I.kIn ⟨_, h1, rfl⟩ e (fun z => nomatch z) h
  | @frz a ob xs ea =>
    cases (show u = Value.ref a from rx)
    obtain ⟨_, _, _, n, _, h1⟩ := (show ObjOk X.prog X.w H s.heap a (.frz ob (.lst xs)) from I.hok a _ ea)
    exact PySem.W.kia_one PySem.W.kitx_list I.kIn ⟨_, h1, rfl⟩ e (fun z => nomatch z) h
  | @tup a xs ea =>
    cases (show u = Value.ref a from rx)
    obtain ⟨_, _, _, p⟩ := (show ObjOk X.prog X.w H s.heap a (.tup xs) from I.hok a _ ea)
    obtain ⟨o, h1, h2, _⟩ := p.is
    exact PySem.W.kia_one PySem.W.kitx_tuple I.kIn ⟨o, h1, h2⟩ e (fun z => nomatch z) h
  | @dK a kvs ea =>
    cases (show u = Value.ref a from rx)
    obtain ⟨_, _, vs, _, p⟩ := (show ObjOk X.prog X.w H s.heap a (.dK kvs) from ea.ok I.hok)
    obtain ⟨o, es, ep, h1, h2, _⟩ := p
    exact PySem.W.kia_one PySem.W.kitx_dict I.kIn ⟨o, h1, h2.1⟩ e (fun z => nomatch z) h
  | @dT a kvs ea =>
    cases (show u = Value.ref a from rx)
    obtain ⟨_, _, xs, _, o, es, ep, h1, h2, _⟩ := (show ObjOk X.prog X.w H s.heap a (.dT kvs) from I.hok a _ ea)
    exact PySem.W.kia_one PySem.W.kitx_dict I.kIn ⟨o, h1, h2.1⟩ e (fun z => nomatch z) h
  | @ins a C dx fs ea cl ha hn htk hm =>
    cases (show u = Value.ref a from rx)
    obtain ⟨mA, O, _⟩ := ins_get I.hok ea
    obtain ⟨od, J, _⟩ := O.look
    exact PySem.W.kia_one (PySem.W.kitx_own (cl.get _) cl.hd ha hn htk hm) I.kIn J e (fun z => nomatch z) h
end
end L2
namespace L2
open PySem PySem.Spec PyProof.Rows
structure Room (k : Nat) (A : Around) : Prop where
  hd : A.handled = none
  dp : A.depth + 3 * k + 5 < recursionLimit
  un : A.units + 16 * k + 200 < cLine
  gd : A.guards = some []
theorem Room.mono {j k : Nat} {A : Around} (r : Room k A) (h : j ≤ k) : Room j A := ⟨r.hd, by have := r.dp; omega, by have := r.un; omega, r.gd⟩
theorem Room.deeper {k : Nat} {A : Around} (r : Room (k + 1) A) (env : Env) : Room k (A.deeper env) :=
  ⟨r.hd, by have := r.dp; show A.depth + 1 + 3 * k + 5 < _; omega, by have := r.un; show A.units + 3 + 16 * k + 200 < _; omega, r.gd⟩
theorem Room.depth {k : Nat} {A : Around} (r : Room k A) : A.depth < recursionLimit := by have := r.dp; omega
theorem Room.units {k : Nat} {A : Around} (r : Room k A) : A.units + 64 < cLine := by have := r.un; omega
def tNil : TA := fun _ H Q => Q [] H
noncomputable def tCons (ta : TE) (tr : TA) : TA := fun σ H Q => ta σ H fun x H1 => tr σ H1 fun xs H2 => Q (x :: xs) H2
section
variable {X : Cx} {e : Expr} {es : List Expr} {te : TE} {t : TA} {pos : Pos}
theorem pa_nil : PA X [] tNil := fun _ _ _ _ H Q I h => Calls.spliced_nil ⟨[], H, I, .nil, h⟩
theorem pa_cons (ha : PE X e te) (hr : PA X es t) (hs : starEach (e :: es) X.env = (false, eval e X.env) :: starEach es X.env := by rfl) : PA X (e :: es) (tCons te t) := by
  intro pos pZ s σ H Q I h
  rw [hs]
  show wpAny _ _ (spliced ((false, eval e X.env) :: backTo pos (starEach es X.env))) _ _ s
  refine Calls.spliced_cons (thn (ha pZ s σ H _ I h) fun u s1 ⟨x, H1, I1, r1, q1⟩ => ?_)
  exact thn (hr pos pZ s1 σ H1 _ I1 q1) fun us s2 ⟨xs, H2, I2, r2, q2⟩ => ⟨x :: xs, H2, I2, .cons r1 r2, q2⟩
noncomputable def tTup (t : TA) : TE := fun σ H Q => t σ H fun xs H1 => xs.length ≤ sizeLine ∧ ∀ p, H1 p = none → Q (.ref p) (upd H1 p (.tup xs))
noncomputable def tLst (t : TA) : TE := fun σ H Q => t σ H fun xs H1 => xs.length ≤ sizeLine ∧ ∀ p, H1 p = none → Q (.ref p) (upd H1 p (.lst xs))
theorem pe_tup {x1} (h : PA X es t) : PE X (.Tuple es x1 pos) (tTup t) := by
  intro pZ s σ H Q I hq
  refine wpAny_Tuple_spliced (thn (h pos pZ s σ H _ I hq) fun us s1 ⟨xs, H1, I1, r, z, q⟩ => ⟨by rw [← r.length]; exact z, ?_⟩)
  have hf : H1 s1.heap.objs.size = none := I1.hok.fresh (Nat.le_refl _)
  refine ⟨.ref s1.heap.objs.size, upd H1 s1.heap.objs.size (.tup xs), I1.laid (t' := s1.toks) (fun b u e => Heap.get?_push_of_some _ e) (Nat.le_refl _) ?_, rfl, q _ hf⟩
  exact ⟨z, us, r, ⟨_, Heap.get?_push_size _ rfl⟩⟩
theorem pe_lst (h : PA X es t) : PE X (.List es pos) (tLst t) := by
  intro pZ s σ H Q I hq
  refine wpAny_List_spliced (thn (h pos pZ s σ H _ I hq) fun us s1 ⟨xs, H1, I1, r, z, q⟩ => ⟨by rw [← r.length]; exact z, ?_⟩)
  have hf : H1 s1.heap.objs.size = none := I1.hok.fresh (Nat.le_refl _)
  refine ⟨.ref s1.heap.objs.size, upd H1 s1.heap.objs.size (.lst xs), I1.laid (t' := s1.toks) (fun b u e => Heap.get?_push_of_some _ e) (Nat.le_refl _) ?_, rfl, q _ hf⟩
  exact ⟨z, us, 0, r, Heap.get?_push_size _ rfl⟩
end
abbrev Sp := List V → Hp → VK → XK → Prop
abbrev CXT := List Env → Hp → Shared → XK → Value → Shared → Prop
structure Env0 (P : Program) (w : World) (K : PySem.W.Frag) (mg : Str → Option Value) (base : Heap) (A : Around) (outer : List Env) (s : Shared) (H : Hp) : Prop where
  frames : A.frames = some outer
  mod : Mod K mg base
  bs : ∀ b o, base.get? b = some o → s.heap.get? b = some o ∧ H b = none
  bsz : base.objs.size ≤ s.heap.objs.size
  funs : s.heap.FunFrames base outer
  frf : ∀ b ∈ frs outer, H b = none
  hok : HOk P w H s.heap
  bare : AllBare s.gens
def CE (outer : List Env) (P : Program) (w : World) (H : Hp) (s : Shared) (Q : VK) (u : Value) (s' : Shared) : Prop :=
  ∃ v H', s'.os = s.os ∧ AllBare s'.gens ∧ Un (frs outer) [] H H' s.heap s'.heap ∧ HOk P w H' s'.heap ∧ RelV v u ∧ Q v H'
def CR (CX : CXT) (outer : List Env) (P : Program) (w : World) (H : Hp) (s : Shared) (Q : VK) (E : XK) (r : Result) (s' : Shared) : Prop :=
  match r with
  | .ok (.ret u) => CE outer P w H s Q u s'
  | .ok _ => False
  | .error e => CX outer H s E e s'
structure FnOk (P : Program) (w : World) (K : PySem.W.Frag) (mg : Str → Option Value) (base : Heap) (CX : CXT) (k : Nat) (f : Addr) (fd : FuncData) (ps : List Str) (sp : Sp) : Prop where
  len : ∀ vs H Q E, sp vs H Q E → vs.length = ps.length
  run : ∀ (A : Around) (outer : List Env) (s : Shared) (H : Hp) (args : Args) (us : List Value) (vs : List V) (Q : VK) (E : XK), Room k A → Env0 P w K mg base A outer s H → BindsTo s fd args (ps.zip us) → Vals vs us → sp vs H Q E →
    codeAny (model P w) A (.call (.ref f) args) (CR CX outer P w H s Q E) s
theorem FnOk.imp {P : Program} {w : World} {K : PySem.W.Frag} {mg : Str → Option Value} {base : Heap} {CX : CXT} {k : Nat} {f : Addr} {fd : FuncData} {ps : List Str} {sp sp' : Sp} (F : FnOk P w K mg base CX k f fd ps sp)
    (h : ∀ vs H Q E, sp' vs H Q E → sp vs H Q E) : FnOk P w K mg base CX k f fd ps sp' :=
  ⟨fun vs H Q E q => F.len vs H Q E (h _ _ _ _ q), fun A outer s H args us vs Q E hr he hb hv hs => F.run A outer s H args us vs Q E hr he hb hv (h _ _ _ _ hs)⟩
section
variable {X : Cx} {pZ : List (Addr × Obj)} {σ : St} {H : Hp} {s s' : Shared}
theorem Inv.env0 (I : Inv X pZ σ H s) : Env0 X.prog X.w X.K X.mg X.base X.A X.stack s H :=
  ⟨I.ok.frames, I.ok.mod, I.bs, Nat.le_trans I.ok.bsz I.sz, I.stack, I.stkFree, I.hok, I.bare⟩
theorem Inv.after {Q : VK} {u : Value} (I : Inv X pZ σ H s) (h : CE X.stack X.prog X.w H s Q u s') : EP X pZ σ Q u s' := by
  obtain ⟨v, H', os, bare, un, hok, r, q⟩ := h
  obtain ⟨hh, g, d, t, os'⟩ := s'
  obtain rfl : os' = s.os := os
  exact ⟨v, H', I.call (h' := hh) (g' := g) (d' := d) (t' := t) (ch := []) un hok bare (fun b z => absurd z (by simp)), r, q⟩
end
noncomputable def tCall (sp : Sp) (dvs : List V) (E : XK) (t : TA) : TE := fun σ H Q => t σ H fun vs H1 => sp (vs ++ dvs) H1 Q E
def Binds (K : PySem.W.Frag) (fd : FuncData) (ps : List Str) (ds : List Value) : Prop :=
  ∀ (s : Shared) (us : List Value), K.In s.heap → (us ++ ds).length = ps.length → BindsTo s fd ⟨us, []⟩ (ps.zip (us ++ ds))
theorem Binds.all {K : PySem.W.Frag} {fd : FuncData} {ps : List Str} (h : ∀ us : List Value, us.length = ps.length → bindArgs fd ⟨us, []⟩ = pure (ps.zip us)) : Binds K fd ps [] := fun s us _ hl => by
  rw [List.append_nil] at hl ⊢
  exact .of_eq (h us hl)
def Passes (CX : CXT) (X : Cx) (E : XK) : Prop := ∀ (pZ : List (Addr × Obj)) (σ : St) (H : Hp) (s : Shared) (e : Value) (s' : Shared), Inv X pZ σ H s → CX X.stack H s E e s' → X.xe e s'
section
variable {X : Cx} {CX : CXT} {k : Nat} {f C : Addr} {fd : FuncData} {ps : List Str} {sp : Sp} {dvs : List V} {ds : List Value} {E : XK} {x m : Str} {p pos apos : Pos} {e o : Expr} {es : List Expr} {ta : TE} {t : TA}
theorem run_fn {pZ : List (Addr × Obj)} {σ : St} {H : Hp} {s : Shared} {Q : VK} {us : List Value} {vs : List V} (F : FnOk X.prog X.w X.K X.mg X.base CX k f fd ps sp) (hr : Room k X.A) (hb : Binds X.K fd ps ds) (hd : Vals dvs ds) (hx : Passes CX X E)
    (I : Inv X pZ σ H s) (r : Vals vs us) (h : sp (vs ++ dvs) H Q E) : wpAny (model X.prog X.w) X.A (call (.ref f) us) (EP X pZ σ Q) X.xe s := by
  have r2 : Vals (vs ++ dvs) (us ++ ds) := r.append hd
  have hl : (us ++ ds).length = ps.length := by rw [← r2.length]; exact F.len _ _ _ _ h
  refine wpAny_call (codeAny_mono (F.run X.A X.stack s H ⟨us, []⟩ (us ++ ds) (vs ++ dvs) Q E hr I.env0 (hb s us I.kIn hl) r2 h) fun r s' hq => ?_)
  cases r with
  | error e => exact hx pZ σ H s e s' I hq
  | ok fl =>
    cases fl with
    | ret u => exact I.after hq
    | next => exact False.elim hq
    | brk => exact False.elim hq
    | cont => exact False.elim hq
theorem pe_call (F : FnOk X.prog X.w X.K X.mg X.base CX k f fd ps sp) (hr : Room k X.A) (hg : Gl X x) (hm : X.mg x = some (.ref f)) (hk : PySem.W.keepIn X.K (.ref f) = true) (hb : Binds X.K fd ps ds) (hd : Vals dvs ds) (hx : Passes CX X E)
    (ha : PA X (e :: es) t) (hdb : (x == ("__debug__" : Str)) = false := by decide) (he : starEach (e :: es) X.env = (false, eval e X.env) :: starEach es X.env := by rfl) (hpl : (backTo pos (starEach es X.env)).any (·.1) = false := by rfl) :
    PE X (.Call (.Name x p) (e :: es) [] pos) (tCall sp dvs E t) := by
  intro pZ s σ H Q I h
  refine wpAny_Call_Name_kw (ld_glob I hg hm ?_ hdb)
  refine PySem.W.callWith_K (h₀ := X.base) I.ok.mod.kin hk (thn (ha pos pZ s σ H _ I h) fun us s1 ⟨vs, H1, I1, r, q⟩ => ⟨I1.kIn, ?_⟩) he hpl
  exact run_fn F hr hb hd hx I1 r q
end
structure FnScope (N P : List Str) (sc : Scope) : Prop where
  kind : sc.kind = .function
  co : sc.isCoroutine = false
  gen : sc.isGenerator = false
  nd : N.Nodup
  pre : N.take P.length = P
  par : ∀ x ∈ P, sc.names.lookup x = some .local ∨ sc.names.lookup x = some .cell
  nofree : ∀ y ∈ sc.names, y.2 ≠ .free
theorem bindL_out {kindOf : Str → Option NameKind} {x : Str} : ∀ {binds : List (Str × Value)} {m : Str → Option Value}, (∀ v, (x, v) ∉ binds) → bindL kindOf binds m x = m x
  | [], _, _ => rfl
  | (n, v) :: r, m, h => by
    unfold bindL
    rw [bindL_out fun w hw => h w (List.mem_cons_of_mem _ hw)]
    split
    · have : x ≠ n := by rintro rfl; exact h v List.mem_cons_self
      simp [this]
    · rfl
theorem bindC_out {kindOf : Str → Option NameKind} {x : Str} : ∀ {binds : List (Str × Value)} {m : Str → Option Value}, (∀ v, (x, v) ∉ binds) → bindC kindOf binds m x = m x
  | [], _, _ => rfl
  | (n, v) :: r, m, h => by
    unfold bindC
    rw [bindC_out fun w hw => h w (List.mem_cons_of_mem _ hw)]
    split
    · rfl
    · have : x ≠ n := by rintro rfl; exact h v List.mem_cons_self
      simp [this]
theorem bindL_get {kindOf : Str → Option NameKind} {x : Str} {v : Value} : ∀ {P : List Str} {vs : List Value} {i : Nat} {m : Str → Option Value}, P.Nodup → P[i]? = some x → vs[i]? = some v → kindOf x = some .local →
    bindL kindOf (P.zip vs) m x = some v
  | [], _, _, _, _, h, _, _ => by simp at h
  | _ :: _, [], _, _, _, _, h, _ => by simp at h
  | p :: P, w :: vs, 0, m, nd, h1, h2, hk => by
    simp at h1 h2; subst h1; subst h2
    show bindL kindOf ((p, w) :: P.zip vs) m p = _
    unfold bindL
    rw [bindL_out fun v hv => (List.nodup_cons.mp nd).1 (List.of_mem_zip hv).1, if_pos hk]
    simp
  | p :: P, w :: vs, i + 1, m, nd, h1, h2, hk => by
    show bindL kindOf ((p, w) :: P.zip vs) m x = _
    unfold bindL
    exact bindL_get (i := i) (List.nodup_cons.mp nd).2 (by simpa using h1) (by simpa using h2) hk
theorem bindC_get {kindOf : Str → Option NameKind} {x : Str} {v : Value} : ∀ {P : List Str} {vs : List Value} {i : Nat} {m : Str → Option Value}, P.Nodup → P[i]? = some x → vs[i]? = some v → kindOf x ≠ some .local →
    bindC kindOf (P.zip vs) m x = some v
  | [], _, _, _, _, h, _, _ => by simp at h
  | _ :: _, [], _, _, _, _, h, _ => by simp at h
  | p :: P, w :: vs, 0, m, nd, h1, h2, hk => by
    simp at h1 h2; subst h1; subst h2
    show bindC kindOf ((p, w) :: P.zip vs) m p = _
    unfold bindC
    rw [bindC_out fun v hv => (List.nodup_cons.mp nd).1 (List.of_mem_zip hv).1, if_neg hk]
    simp
  | p :: P, w :: vs, i + 1, m, nd, h1, h2, hk => by
    show bindC kindOf ((p, w) :: P.zip vs) m x = _
    unfold bindC
    exact bindC_get (i := i) (List.nodup_cons.mp nd).2 (by simpa using h1) (by simpa using h2) hk
noncomputable def start (N : List Str) (vs : List V) : St := vs.map some ++ List.replicate (N.length - vs.length) none
noncomputable def cxOf (CX : CXT) (P : Program) (w : World) (K : PySem.W.Frag) (mg : Str → Option Value) (base : Heap) (N : List Str) (qual : Str) (scope : Scope) (f : Addr) (cd : Value) (A : Around) (outer : List Env) (s : Shared) (H : Hp) (E : XK) : Cx where
  prog := P
  w := w
  K := K
  mg := mg
  base := base
  A := A.deeper (envOfC qual scope s.heap.objs.size f cd)
  N := N
  s₀ := s
  H₀ := H
  env := envOfC qual scope s.heap.objs.size f cd
  outer := outer
  stack := envOfC qual scope s.heap.objs.size f cd :: outer
  ex := []
  calm := true
  fn := fun _ => true
  pn := []
  xe := fun e s' => wpAny (model P w) (A.deeper (envOfC qual scope s.heap.objs.size f cd)) (leaving (envOfC qual scope s.heap.objs.size f cd) e) (fun _ s'' => CX outer H s E e s'') (fun e' s'' => CX outer H s E e' s'') s'
theorem cell_has {sc : Scope} {n : Nat} {x : Str} (h : sc.names.lookup x = some .cell) : ∃ c, (cellsFrom n sc.names []).lookup x = some c := by
  have q := PySem.W.cellsFrom_some sc.names n [] (.inl h)
  exact Option.isSome_iff_exists.mp q
theorem inv_start {CX : CXT} {P : Program} {w : World} {K : PySem.W.Frag} {mg : Str → Option Value} {base : Heap} {N ps : List Str} {qual : Str} {scope : Scope} {f : Addr} {cd : Value} {A : Around} {outer : List Env} {s s1 : Shared} {H : Hp} {E : XK} {us : List Value} {vs : List V}
    (S : FnScope N ps scope) (hd : A.handled = none) (e0 : Env0 P w K mg base A outer s H) (hl : vs.length = ps.length) (r : Vals vs us)
    (x : InCallC s s.heap.objs.size (bindL (envOfC qual scope s.heap.objs.size f cd).kindOf (ps.zip us) fun _ => none) (cellsFrom (s.heap.objs.size + 1) scope.names []) (bindC (envOfC qual scope s.heap.objs.size f cd).kindOf (ps.zip us) fun _ => none) s1) :
    Inv (cxOf CX P w K mg base N qual scope f cd A outer s H E) [] (start N vs) H s1 := by
  have hpl : ps.length ≤ N.length := by have := congrArg List.length S.pre; rw [List.length_take] at this; omega
  obtain ⟨h1, tk, rfl, hk⟩ := x.done
  have noA : ∀ b : Addr, b ∉ (cxOf CX P w K mg base N qual scope f cd A outer s H E).ex := fun b z => absurd (show b ∈ ([] : List Addr) from z) (by simp)
  refine ⟨⟨e0.mod, S.kind, rfl, rfl, Nat.le_refl _, fun y z c h1 h2 => ?_, fun y hy => ?_, fun y c _ h => ?_, fun _ => hd, Around.frames_deeper e0.frames, .inr ⟨rfl, rfl⟩, fun b z => absurd z (noA b), e0.bs, e0.bsz, fun b _ _ => noA b, fun b z => absurd z (noA b), e0.funs, e0.frf⟩,
    rfl, e0.bare, Un.kept hk, ⟨_, x.toInCall.ns, fun i y v h1 h2 h3 => ?_⟩, fun y c h => ⟨_, x.cell y c h⟩, e0.hok.fresh (Nat.le_refl _), fun y c h => ?_, fun p hp => absurd (show p ∈ ([] : List (Addr × Obj)) from hp) (by simp), e0.hok.kept hk, ?_⟩
  · exact name_of_addr x.apart (PySem.mem_of_lookup h1) (PySem.mem_of_lookup h2)
  · have hy : scope.names.lookup y = some .cell ∨ scope.names.lookup y = some .free := hy
    rcases hy with hy | hy
    · exact cell_has hy
    · exact absurd rfl (S.nofree _ (PySem.mem_of_lookup hy))
  · exact Nat.le_of_lt (x.above y c (PySem.mem_of_lookup h))
  · have hi : i < vs.length := by
      unfold start at h2
      by_cases hi : i < vs.length
      · exact hi
      · rw [List.getElem?_append_right (by simpa using hi)] at h2
        rw [List.getElem?_replicate] at h2
        split at h2 <;> cases h2
    have ha : vs[i]? = some v := by
      unfold start at h2
      rw [List.getElem?_append_left (by simpa using hi), List.getElem?_map] at h2
      cases e : vs[i]? with
      | none => rw [e] at h2; cases h2
      | some a => rw [e] at h2; cases h2; rfl
    obtain ⟨u, hu, rv⟩ := r.get ha
    have hp : ps[i]? = some y := by
      rw [← S.pre, List.getElem?_take_of_lt (by omega)]; exact h1
    have ndP : ps.Nodup := by rw [← S.pre]; exact S.nd.sublist (List.take_sublist _ _)
    refine ⟨u, rv, ?_⟩
    rcases S.par y (List.mem_of_getElem? hp) with k | k
    · exact .inl ⟨k, bindL_get ndP hp hu k⟩
    · obtain ⟨c, e⟩ := cell_has (n := s.heap.objs.size + 1) k
      refine .inr ⟨.inl k, c, e, ?_⟩
      have q := x.cell y c e
      rw [bindC_get ndP hp hu (by show scope.names.lookup y ≠ _; rw [k]; decide)] at q
      exact q
  · exact e0.hok.fresh (Nat.le_of_lt (x.above y c (PySem.mem_of_lookup h)))
  · unfold start
    show _ = N.length
    rw [List.length_append, List.length_map, List.length_replicate]
    omega
theorem fn_of {CX : CXT} {P : Program} {w : World} {K : PySem.W.Frag} {mg : Str → Option Value} {base : Heap} {k : Nat} {f : Addr} {name qual : Str} {params : Arguments} {body : List Stmt} {scope : Scope} {dV kV doc pm cdv ct oc : Value} {an od : Option Addr}
    {osl : Array (Option Value)} {N ps : List Str} {sp : Sp} (lk : K.lookup f = some ⟨oc, od, .func (PySem.W.fnOf name qual params body scope dV kV doc pm an cdv ct), osl⟩) (hcd : PySem.W.codeIn K cdv qual = true) (S : FnScope N ps scope)
    (len : ∀ vs H Q E, sp vs H Q E → vs.length = ps.length)
    (hbody : ∀ (A : Around) (outer : List Env) (s : Shared) (H : Hp) (vs : List V) (Q : VK) (E : XK), Room k (A.deeper (envOfC qual scope s.heap.objs.size f cdv)) → sp vs H Q E →
      ∃ t, PSs (cxOf CX P w K mg base N qual scope f cdv A outer s H E) body t ∧ t { nx := fun _ H' => Q .non H', rt := Q } (start N vs) H) :
    FnOk P w K mg base CX (k + 1) f (PySem.W.fnOf name qual params body scope dV kV doc pm an cdv ct) ps sp := by
  refine ⟨len, fun A outer s H args us vs Q E hr e0 hb r hsp => ?_⟩
  have hl := len _ _ _ _ hsp
  have KX : K.In s.heap := e0.mod.kin.keeps fun b o e => (e0.bs b o e).1
  have lim : s.heap.NoLimit := e0.mod.nolimit.keeps fun b o e => (e0.bs b o e).1
  have hkind : ∀ y ∈ ps.zip us, scope.names.lookup y.1 = some .local ∨ (scope.names.lookup y.1 = some .cell ∧ ((cellsFrom (s.heap.objs.size + 1) scope.names []).lookup y.1).isSome = true) := fun ⟨n, v⟩ hy => by
    rcases S.par n (List.of_mem_zip hy).1 with q | q
    · exact .inl q
    · exact .inr ⟨q, PySem.W.cellsFrom_some _ _ _ (.inl q)⟩
  refine codeAny_call_function hr.depth (KX _ _ lk) rfl S.co S.gen rfl (PySem.W.codeRec_of KX hcd) (hb _ _ _ _ ?_)
  refine wpAny_newFunctionEnv_cells S.kind hkind fun env he s1 x => ?_
  subst he
  refine ⟨lim.keeps x.toInCall.keep, codeAny_func ?_⟩
  obtain ⟨t, ht, hq⟩ := hbody A outer s H vs Q E (hr.deeper _) hsp
  have I : Inv (cxOf CX P w K mg base N qual scope f cdv A outer s H E) [] (start N vs) H s1 := inv_start S hr.hd e0 hl r x
  refine wpAny_mono (ht [] s1 (start N vs) H _ I hq) (fun fl s' hs => ?_) fun e s' hs => hs
  have fin : ∀ {σ' : St} {H' : Hp} {v : V} {u : Value}, Inv (cxOf CX P w K mg base N qual scope f cdv A outer s H E) [] σ' H' s' → RelV v u → Q v H' → CE outer P w H s Q u s' :=
    fun {σ' H' v u} J rv q => ⟨v, H', J.os, J.bare, J.base, J.hok, rv, q⟩
  cases fl with
  | ret u =>
    obtain ⟨v, σ', H', J, rv, q⟩ := hs
    exact fin J rv q
  | next =>
    obtain ⟨σ', H', J, q⟩ := hs
    exact fin (v := V.non) (u := Value.none) J rfl q
  | brk =>
    obtain ⟨_, _, _, q⟩ := hs
    exact False.elim q
  | cont =>
    obtain ⟨_, _, _, q⟩ := hs
    exact False.elim q
end L2
namespace L2
open PySem PySem.Spec PyProof.Rows
section
variable {X : Cx} {x : Str} {p pos : Pos} {e : Expr} {es : List Expr} {t : TA} {id T : String} {r : List V → Hp → VK → Prop}
noncomputable def tCB (r : List V → Hp → VK → Prop) (t : TA) : TE := fun σ H Q => t σ H fun vs H1 => r vs H1 Q
theorem pe_callB (hc : CallR X (.builtin id) r) (hg : Gl X x) (hm : X.mg x = none) (hv : bootBuiltins x = some (.builtin id)) (ha : PA X (e :: es) t) (hn : x ≠ "__name__" := by decide) (hdb : (x == ("__debug__" : Str)) = false := by decide)
    (he : starEach (e :: es) X.env = (false, eval e X.env) :: starEach es X.env := by rfl) (hpl : (backTo pos (starEach es X.env)).any (·.1) = false := by rfl) : PE X (.Call (.Name x p) (e :: es) [] pos) (tCB r t) := by
  intro pZ s σ H Q I h
  refine wpAny_Call_Name_kw (ld_blt I hg hm hv ?_ hn hdb)
  exact PyProof.Rows.callWith_builtin1 (thn (ha pos pZ s σ H _ I h) fun us s1 ⟨vs, H1, I1, r1, q1⟩ => hc pZ s1 σ H1 vs us Q I1 r1 q1) he hpl
theorem pe_callTy (hc : CallR X (.type T) r) (hg : Gl X x) (hm : X.mg x = none) (hv : bootBuiltins x = some (.type T)) (ha : PA X (e :: es) t) (hn : x ≠ "__name__" := by decide) (hdb : (x == ("__debug__" : Str)) = false := by decide)
    (he : starEach (e :: es) X.env = (false, eval e X.env) :: starEach es X.env := by rfl) (hpl : (backTo pos (starEach es X.env)).any (·.1) = false := by rfl) : PE X (.Call (.Name x p) (e :: es) [] pos) (tCB r t) := by
  intro pZ s σ H Q I h
  refine wpAny_Call_Name_kw (ld_blt I hg hm hv ?_ hn hdb)
  exact PyProof.Rows.callWith_type1 (thn (ha pos pZ s σ H _ I h) fun us s1 ⟨vs, H1, I1, r1, q1⟩ => hc pZ s1 σ H1 vs us Q I1 r1 q1) he hpl
end
end L2
namespace HT
open PySem PyProof.Rows
section
variable {prog : Program} {w : World} {A : Around} {E : Value → Shared → Prop} {s : Shared}
theorem cat_tup {t b : Addr} {vs ws : List Value} {Q : Value → Shared → Prop} (ht : IsTup s.heap t vs.toArray) (hb : IsTup s.heap b ws.toArray) (hv : vs ≠ [])
    (h1 : ws = [] → Q (.ref t) s) (h2 : ws ≠ [] → Q (.ref s.heap.objs.size) { s with heap := s.heap.push { cls := .type "tuple", data := .seq (vs ++ ws).toArray } })
    (hsz : vs.length + ws.length ≤ sizeLine) : wpAny (model prog w) A (binaryOp .Add (.ref t) (.ref b)) Q E s := by
  obtain ⟨⟨cls, dd, data, sl⟩, ho, hc, n, hd⟩ := id ht
  obtain ⟨⟨cls2, dd2, data2, sl2⟩, ho2, hc2, n2, hd2⟩ := id hb
  simp only at hc hd hc2 hd2
  subst hc hd hc2 hd2
  have e : vs.toArray ++ ws.toArray = (vs ++ ws).toArray := by simp
  by_cases hw : ws = []
  · exact concat_meets ⟨_, ho, rfl⟩ ⟨_, ho2, rfl⟩ noFill_tuple_add seq_tuple_add PySem.F.slot_tuple_add PySem.F.entry_tuple_add (PySem.F.args_tuple_add_2 _ _)
      (tuple_addW1 t b vs.toArray ws.toArray n n2 dd dd2 sl sl2 (by simpa using hv) (by simp [hw])) ⟨ho, ho2, h1 hw⟩
  · refine concat_meets ⟨_, ho, rfl⟩ ⟨_, ho2, rfl⟩ noFill_tuple_add seq_tuple_add PySem.F.slot_tuple_add PySem.F.entry_tuple_add (PySem.F.args_tuple_add_2 _ _)
      (tuple_addW2 t b vs.toArray ws.toArray n n2 dd dd2 sl sl2 (by simpa using hv) (by simpa using hw) (by rw [List.size_toArray, List.size_toArray]; exact hsz)) ⟨ho, ho2, ?_⟩
    rw [e]
    exact h2 hw
noncomputable def sIx (n d : Nat) : Option Int → Nat
  | none => d
  | some v => if v < 0 then (v + (n : Int)).toNat else min v.toNat n
theorem sIx_none (n d : Nat) : sIx n d none = d := rfl
theorem sIx_nat (n d k : Nat) : sIx n d (some (k : Int)) = min k n := by
  show (if (k : Int) < 0 then ((k : Int) + (n : Int)).toNat else min (k : Int).toNat n) = min k n
  rw [if_neg (by omega), Int.toNat_natCast]
theorem sIx_le (n d : Nat) (hd : d ≤ n) (o : Option Int) : sIx n d o ≤ n := by
  cases o with
  | none => exact hd
  | some v =>
    show (if v < 0 then (v + (n : Int)).toNat else min v.toNat n) ≤ n
    by_cases hv : v < 0
    · rw [if_pos hv]; omega
    · rw [if_neg hv]; exact Nat.min_le_right _ _
theorem clip_eq (v : Int) (n d : Nat) : (if v < 0 then max (v + (n : Int)) 0 else min v (n : Int)) = ((sIx n d (some v) : Nat) : Int) := by
  show (if v < 0 then max (v + (n : Int)) 0 else min v (n : Int)) = (((if v < 0 then (v + (n : Int)).toNat else min v.toNat n) : Nat) : Int)
  by_cases hv : v < 0
  · simp only [if_pos hv]; omega
  · simp only [if_neg hv]; omega
theorem adjust_gen (lo hi : Option Int) (n : Nat) : Builtin.Slice.sliceAdjust lo hi 1 (n : Int) = (((sIx n 0 lo : Nat) : Int), ((sIx n n hi : Nat) : Int)) := by
  have h1 : ¬ ((1 : Int) < 0) := by omega
  unfold Builtin.Slice.sliceAdjust
  simp only [h1, if_false]
  refine Prod.ext ?_ ?_
  · cases lo with
    | none => rfl
    | some v => exact clip_eq v n 0
  · cases hi with
    | none => rfl
    | some v => exact clip_eq v n n
theorem places_gen (i j : Nat) : Builtin.Slice.slicePlaces (i : Int) (j : Int) 1 = j - i := by
  unfold Builtin.Slice.slicePlaces
  have h1 : (1 : Int) > 0 := by omega
  simp only [h1, if_true, Int.ediv_one]
  split <;> omega
theorem slicePart_ {v : Value} {o : Option Int} {Q : Option Int → Shared → Prop} (p : IsPart v o) (h : Q o s) : wpAny (model prog w) A (Builtin.Slice.slicePartIndex v) Q E s := by
  cases p with
  | none => exact slicePart_none h
  | int i t => exact slicePart_int h
theorem sliceApplied_gen {sl : Addr} {vl vu : Value} {lo hi : Option Int} {n : Nat} {Q : Int × Int × Nat → Shared → Prop} (hs : s.heap.IsSliceOf sl vl vu .none) (pl : IsPart vl lo) (pu : IsPart vu hi)
    (h : Q (((sIx n 0 lo : Nat) : Int), 1, sIx n n hi - sIx n 0 lo) s) : wpAny (model prog w) A (Builtin.Slice.sliceApplied (.ref sl) (pure (n : Int))) Q E s := by
  obtain ⟨os, hos, hcs, hds⟩ := id hs
  unfold Builtin.Slice.sliceApplied Builtin.Slice.sliceFields
  refine wpAny_bind (wpAny_bind (wpAny_field hos hds (x := vl) rfl (wpAny_bind (wpAny_field hos hds (x := vu) rfl (wpAny_bind (wpAny_field hos hds (x := .none) rfl (wpAny_pure ?_)))))))
  refine wpAny_bind (slicePart_none ?_)
  show wpAny _ _ (if ((1 : Int) == 0) = true then _ else _) _ _ s
  rw [if_neg (by decide)]
  refine wpAny_bind (slicePart_ pl (wpAny_bind (slicePart_ pu (wpAny_bind (wpAny_pure ?_)))))
  show wpAny _ _ (match Builtin.Slice.sliceAdjust lo hi 1 (n : Int) with | (lo, hi) => pure (lo, (1 : Int), Builtin.Slice.slicePlaces lo hi 1)) _ _ s
  rw [adjust_gen lo hi n]
  show wpAny _ _ (pure (((sIx n 0 lo : Nat) : Int), (1 : Int), Builtin.Slice.slicePlaces ((sIx n 0 lo : Nat) : Int) ((sIx n n hi : Nat) : Int) 1)) _ _ s
  rw [places_gen]
  exact wpAny_pure h
theorem pick_gen (xs : Array Value) (i k : Nat) : ((List.range k).filterMap fun (m : Nat) => xs[((i : Int) + (m : Int) * 1).toNat]?).toArray = ((xs.toList.drop i).take k).toArray := by
  have e : (fun (m : Nat) => xs[((i : Int) + (m : Int) * 1).toNat]?) = fun m => xs[i + m]? := by
    funext m
    have : ((i : Int) + (m : Int) * 1).toNat = i + m := by omega
    rw [this]
  rw [e]
  have := pick_run xs i k
  rw [List.filterMap_map] at this
  have e2 : ((fun x => xs[x]?) ∘ fun x => i + x) = fun m => xs[i + m]? := rfl
  rw [e2] at this
  rw [this]
theorem getItem_tuple_cut {t sl : Addr} {items : Array Value} {vl vu : Value} {lo hi : Option Int} {Q : Value → Shared → Prop} (ht : IsTup s.heap t items) (hs : s.heap.IsSliceOf sl vl vu .none) (pl : IsPart vl lo) (pu : IsPart vu hi)
    (hw : ¬ (sIx items.size 0 lo = 0 ∧ sIx items.size items.size hi = items.size))
    (h : Q (.ref s.heap.objs.size) { s with heap := s.heap.push { cls := .type "tuple", data := .seq ((items.toList.drop (sIx items.size 0 lo)).take (sIx items.size items.size hi - sIx items.size 0 lo)).toArray } })
    (hsz : items.size ≤ sizeLine) : wpAny (model prog w) A (getItem (.ref t) (.ref sl)) Q E s := by
  have htake : sizeOk (.seq ((items.toList.drop (sIx items.size 0 lo)).take (sIx items.size items.size hi - sIx items.size 0 lo)).toArray) := by
    show ((items.toList.drop (sIx items.size 0 lo)).take (sIx items.size items.size hi - sIx items.size 0 lo)).toArray.size ≤ sizeLine
    rw [List.size_toArray, List.length_take, List.length_drop, Array.length_toList]
    omega
  have hj : sIx items.size items.size hi ≤ items.size := sIx_le _ _ (Nat.le_refl _) hi
  obtain ⟨os, hos, hcs, hds⟩ := id hs
  have hTs : s.TypeIs (.ref sl) "slice" := ⟨os, hos, hcs⟩
  unfold getItem
  try with_reducible refine wpAny_holding ?_
  first | refine wpAny_bind (wpAny_pure ?_) | skip
  refine wpAny_bind (wpAny_sequenceKey ht.typeIs (by decide) ?_)
  refine wpAny_bind (wpAny_callSpecial?_slot (name := Str.ofString "__getitem__") ht.typeIs PyProof.Rows.slot_tuple_getitem
    (wpAny_call_entry PyProof.Rows.slot_tuple_getitem ht.typeIs entry_tuple_getitem ?_ (args_tuple_getitem _ _)))
  show wpAny _ _ (Builtin.Tuple.tupleItemsOf (.ref t) >>= _) _ _ s
  refine wpAny_bind (tupleItemsOf_ ht ?_)
  refine wpAny_bind (wpAny_typeOf hTs ?_)
  rw [if_pos (by decide)]
  refine wpAny_bind (sliceApplied_gen hs pl pu ?_)
  have hno : ¬ ((((sIx items.size 0 lo : Nat) : Int) == 0 && (1 : Int) == 1 && (sIx items.size items.size hi - sIx items.size 0 lo) == items.size) = true) := by
    intro q
    rw [Bool.and_eq_true, Bool.and_eq_true] at q
    have q1 : ((sIx items.size 0 lo : Nat) : Int) = 0 := eq_of_beq q.1.1
    have q2 : sIx items.size items.size hi - sIx items.size 0 lo = items.size := eq_of_beq q.2
    exact hw ⟨by omega, by omega⟩
  show wpAny _ _ (if (((sIx items.size 0 lo : Nat) : Int) == 0 && (1 : Int) == 1 && (sIx items.size items.size hi - sIx items.size 0 lo) == items.size) = true then _ else _) _ _ s
  rw [if_neg hno, pick_gen]
  first
    | exact wpAny_bind (m := Builtin.Tuple.tupleExact _) (wpAny_newObj_type (wpAny_pure ⟨_, rfl, wpAny_pure h⟩) htake)
    | exact wpAny_bind (m := Builtin.Tuple.tupleExact _) (wpAny_newObj_type (wpAny_bind (wpAny_pure (wpAny_pure ⟨_, rfl, wpAny_pure h⟩))) htake)
    | exact wpAny_bind (wpAny_bind (m := Builtin.Tuple.tupleExact _) (wpAny_newObj_type (wpAny_pure (wpAny_pure ⟨_, rfl, wpAny_pure h⟩)) htake))
    | exact wpAny_bind (wpAny_bind (m := Builtin.Tuple.tupleExact _) (wpAny_newObj_type (wpAny_pure ⟨_, rfl, wpAny_pure h⟩) htake))
end
end HT
namespace L2
open PySem PySem.Spec PyProof.Rows
abbrev TO := St → Hp → (Option Int → Hp → Prop) → Prop
def PO (X : Cx) (e : Option Expr) (t : TO) : Prop :=
  ∀ (pZ : List (Addr × Obj)) (s : Shared) (σ : St) (H : Hp) (Q : Option Int → Hp → Prop), Inv X pZ σ H s → t σ H Q →
    wpAny (model X.prog X.w) X.A (evalPart e X.env) (fun u s' => ∃ o H', Inv X pZ σ H' s' ∧ IsPart u o ∧ Q o H') X.xe s
noncomputable def tNoPart : TO := fun _ H Q => Q none H
noncomputable def tPart (t : TE) : TO := fun σ H Q => t σ H fun x H1 => ∃ i, x = .int i ∧ Q (some i) H1
section
variable {X : Cx} {e : Expr} {te : TE} {lo hi : Option Expr} {tl th : TO} {pos p2 : Pos}
theorem po_none : PO X none tNoPart := by
  intro pZ s σ H Q I h
  rw [evalPart_none]
  exact wpAny_pure ⟨none, H, I, .none, h⟩
theorem po_some (h : PE X e te) : PO X (some e) (tPart te) := by
  intro pZ s σ H Q I hw
  rw [evalPart_some]
  refine thn (h pZ s σ H _ I hw) fun u s1 ⟨x, H1, I1, r1, q1⟩ => ?_
  obtain ⟨i, rfl, q⟩ := q1
  obtain ⟨t, rfl⟩ := r1
  exact ⟨some i, H1, I1, .int i t, q⟩
def SlR (X : Cx) (r : V → Option Int → Option Int → Hp → VK → Prop) : Prop :=
  ∀ (pZ : List (Addr × Obj)) (s : Shared) (σ : St) (H : Hp) (x : V) (v vl vu : Value) (lo hi : Option Int) (sl : Addr) (Q : VK), Inv X pZ σ H s → RelV x v → s.heap.IsSliceOf sl vl vu .none → IsPart vl lo → IsPart vu hi → r x lo hi H Q →
    ∃ T id, typeLookup (.type T) "__getitem__" = pure (some (.builtin id)) ∧ s.TypeIs v T ∧ wpAny (model X.prog X.w) X.A (getItem v (.ref sl)) (EP X pZ σ Q) X.xe s
theorem SlR.or {r r' : V → Option Int → Option Int → Hp → VK → Prop} (h : SlR X r) (h' : SlR X r') : SlR X (fun x lo hi H Q => r x lo hi H Q ∨ r' x lo hi H Q) := by
  intro pZ s σ H x v vl vu lo hi sl Q I rx hs pl pu q
  rcases q with q | q
  · exact h pZ s σ H x v vl vu lo hi sl Q I rx hs pl pu q
  · exact h' pZ s σ H x v vl vu lo hi sl Q I rx hs pl pu q
noncomputable def tSl (r : V → Option Int → Option Int → Hp → VK → Prop) (te : TE) (tl th : TO) : TE := fun σ H Q => te σ H fun x H1 => tl σ H1 fun l H2 => th σ H2 fun u H3 => r x l u H3 Q
theorem pe_slice {r : V → Option Int → Option Int → Hp → VK → Prop} (hr : SlR X r) (he : PE X e te) (hl : PO X lo tl) (hu : PO X hi th) : PE X (.Subscript e (.Slice lo hi none p2) pos) (tSl r te tl th) := by
  intro pZ s σ H Q I h
  refine Subscript_ (thn (he pZ s σ H _ I h) fun v s1 ⟨x, H1, I1, r1, q1⟩ => ?_)
  refine wpAny_Slice (thn (hl pZ s1 σ H1 _ I1 q1) fun vl s2 ⟨l, H2, I2, pl, q2⟩ => thn (hu pZ s2 σ H2 _ I2 q2) fun vu s3 ⟨u, H3, I3, pu, q3⟩ => ?_)
  rw [evalPart_none]
  refine wpAny_pure ?_
  have I4 : Inv X pZ σ H3 { s3 with heap := s3.heap.push { cls := .type "slice", data := .fields #[vl, vu, .none] } } := I3.kept (t' := s3.toks) fun b ob q => Heap.get?_push_of_some _ q
  obtain ⟨T, id, hT, ht, hg⟩ := hr pZ { s3 with heap := s3.heap.push { cls := .type "slice", data := .fields #[vl, vu, .none] } } σ H3 x v vl vu l u s3.heap.objs.size Q I4 r1 (Heap.IsSliceOf.new ..) pl pu q3
  show wpAny (model X.prog X.w) X.A (subscriptTail e (.Slice lo hi none p2) v (.ref s3.heap.objs.size)) (EP X pZ σ Q) X.xe { s3 with heap := s3.heap.push { cls := .type "slice", data := .fields #[vl, vu, .none] } }
  exact tail_any (ops := [.ref s3.heap.objs.size, v]) ht hT hg (by with_unfolding_all rfl)
noncomputable def cutV (xs : List V) (lo hi : Option Int) : List V := (xs.drop (HT.sIx xs.length 0 lo)).take (HT.sIx xs.length xs.length hi - HT.sIx xs.length 0 lo)
theorem cutV_length (xs : List V) (lo hi : Option Int) : (cutV xs lo hi).length ≤ xs.length := by
  unfold cutV
  rw [List.length_take, List.length_drop]
  omega
noncomputable def rSlT (K : PySem.W.Frag) : V → Option Int → Option Int → Hp → VK → Prop := fun x lo hi H Q => ∃ a xs, x = .ref a ∧ SqT K H a xs ∧
  ¬ (HT.sIx xs.length 0 lo = 0 ∧ HT.sIx xs.length xs.length hi = xs.length) ∧ ∀ p, H p = none → Q (.ref p) (upd H p (.tup (cutV xs lo hi)))
theorem sl_tup : SlR X (rSlT X.K) := by
  intro pZ s σ H x v vl vu lo hi sl Q I rx hs pl pu h
  obtain ⟨a, xs, rfl, hx, hw, q⟩ := h
  cases rx
  obtain ⟨its, r, ht, hz⟩ := I.tuple hx
  have hlen : its.toArray.size = xs.length := by rw [List.size_toArray]; exact r.length.symm
  refine ⟨"tuple", _, PyProof.Rows.slot_tuple_getitem.lookup, ht.typeIs, ?_⟩
  refine HT.getItem_tuple_cut ht hs pl pu (by rw [hlen]; exact hw) ?_ (by rw [hlen]; exact hz)
  rw [hlen]
  refine ⟨.ref s.heap.objs.size, _, I.laid (t' := s.toks) (o := .tup (cutV xs lo hi)) (fun b ob q => Heap.get?_push_of_some _ q) (Nat.le_refl _) ?_, rfl, q _ (I.hok.fresh (Nat.le_refl _))⟩
  exact ⟨Nat.le_trans (cutV_length xs lo hi) hz, _, (r.drop (HT.sIx xs.length 0 lo)).take (HT.sIx xs.length xs.length hi - HT.sIx xs.length 0 lo), IsTupP.new _ _⟩
noncomputable def rCatT (K : PySem.W.Frag) : R2 := fun x y H Q => ∃ a b xs ys, x = .ref a ∧ y = .ref b ∧ SqT K H a xs ∧ SqT K H b ys ∧ xs ≠ [] ∧ xs.length + ys.length ≤ sizeLine ∧
  (ys = [] → Q (.ref a) H) ∧ (ys ≠ [] → ∀ p, H p = none → Q (.ref p) (upd H p (.tup (xs ++ ys))))
theorem Vals.nil_iff {xs : List V} {us : List Value} (r : Vals xs us) : us = [] ↔ xs = [] := by
  cases r with
  | nil => simp
  | cons _ _ => simp
theorem op_catT : OpR X (binaryOp .Add) (rCatT X.K) := by
  intro pZ s σ H x y v u Q I rx ry h
  obtain ⟨a, b, xs, ys, rfl, rfl, ha, hb, hx, hz, q1, q2⟩ := h
  cases rx
  cases ry
  obtain ⟨its, r1, p1, _⟩ := I.tuple ha
  obtain ⟨its2, r2, p2, _⟩ := I.tuple hb
  refine HT.cat_tup p1 p2 (fun z => hx (r1.nil_iff.mp z)) (fun z => ⟨.ref a, H, I, rfl, q1 (r2.nil_iff.mp z)⟩) (fun z => ?_) (by rw [← r1.length, ← r2.length]; exact hz)
  refine ⟨.ref s.heap.objs.size, _, I.laid (t' := s.toks) (o := .tup (xs ++ ys)) (fun b ob q => Heap.get?_push_of_some _ q) (Nat.le_refl _) ?_, rfl, q2 (fun w => z (r2.nil_iff.mpr w)) _ (I.hok.fresh (Nat.le_refl _))⟩
  exact ⟨by rw [List.length_append]; exact hz, _, r1.append r2, IsTupP.new _ _⟩
end
end L2
namespace L2
open PySem PySem.Spec PyProof.Rows
noncomputable def ixN (n : Nat) (i : Int) : Option Nat := if 0 ≤ i then (if i < n then some i.toNat else none) else if -(n : Int) ≤ i then some (i + n).toNat else none
noncomputable def atI {α : Type} (xs : List α) (i : Int) : Option α := (ixN xs.length i).bind fun j => xs[j]?
theorem ixN_seq {n : Nat} {i : Int} {j : Nat} (h : ixN n i = some j) : seqIndex? i n = some j ∧ j < n ∧ -(n : Int) ≤ i ∧ i < n := by
  unfold ixN at h
  by_cases h0 : 0 ≤ i
  · rw [if_pos h0] at h
    by_cases h1 : i < n
    · rw [if_pos h1] at h
      have e : i.toNat = j := Option.some.inj h
      exact ⟨by rw [seqIndex_of h0 h1, e], by omega, by omega, h1⟩
    · rw [if_neg h1] at h; cases h
  · rw [if_neg h0] at h
    by_cases h1 : -(n : Int) ≤ i
    · rw [if_pos h1] at h
      have e : (i + n).toNat = j := Option.some.inj h
      exact ⟨by rw [seqIndex_neg (by omega) h1, e], by omega, h1, by omega⟩
    · rw [if_neg h1] at h; cases h
theorem atI_get {α : Type} {xs : List α} {i : Int} {v : α} (h : atI xs i = some v) : ∃ j, seqIndex? i xs.length = some j ∧ xs[j]? = some v ∧ j < xs.length ∧ -(xs.length : Int) ≤ i ∧ i < xs.length := by
  unfold atI at h
  cases e : ixN xs.length i with
  | none => rw [e] at h; cases h
  | some j =>
    rw [e] at h
    obtain ⟨h1, h2, h3, h4⟩ := ixN_seq e
    exact ⟨j, h1, h, h2, h3, h4⟩
theorem atI_nat {α : Type} {xs : List α} {j : Nat} {v : α} (h : xs[j]? = some v) : atI xs (j : Int) = some v := by
  have hj : j < xs.length := (List.getElem?_eq_some_iff.mp h).1
  have e : ixN xs.length (j : Int) = some j := by
    unfold ixN
    rw [if_pos (by omega), if_pos (by omega)]; simp
  unfold atI; rw [e]; exact h
def PlainIx (b : Expr) : Prop := ∀ o i, subscripted b false o i = operate [o, i] (getItem o i)
def IxR (X : Cx) (r : R2) : Prop :=
  ∀ (value slice : Expr) (pZ : List (Addr × Obj)) (s : Shared) (σ : St) (H : Hp) (x y : V) (v u : Value) (Q : VK), Inv X pZ σ H s → RelV x v → RelV y u → r x y H Q →
    subscripted slice false v u = operate [v, u] (getItem v u) → wpAny (model X.prog X.w) X.A (subscriptTail value slice v u) (EP X pZ σ Q) X.xe s
def MtR (X : Cx) (id : String) (r : V → List V → Hp → VK → Prop) : Prop :=
  ∀ (pZ : List (Addr × Obj)) (s : Shared) (σ : St) (H : Hp) (x : V) (xs : List V) (v : Value) (us : List Value) (Q : VK), Inv X pZ σ H s → RelV x v → Vals xs us → r x xs H Q →
    wpAny (model X.prog X.w) X.A (call (.builtin id) (v :: us)) (EP X pZ σ Q) X.xe s
section
variable {X : Cx} {a b : Expr} {ta tb : TE} {pos : Pos}
theorem IxR.or {r r' : R2} (h : IxR X r) (h' : IxR X r') : IxR X (fun x y H Q => r x y H Q ∨ r' x y H Q) := by
  intro value slice pZ s σ H x y v u Q I rx ry q hs
  rcases q with q | q
  · exact h value slice pZ s σ H x y v u Q I rx ry q hs
  · exact h' value slice pZ s σ H x y v u Q I rx ry q hs
theorem pe_ix {r : R2} (hr : IxR X r) (ha : PE X a ta) (hb : PE X b tb) (hs : PlainIx b) : PE X (.Subscript a b pos) (tOp r ta tb) := by
  intro pZ s σ H Q I h
  exact Subscript_ (binT ha hb I h fun v u s2 x y H2 I2 rx ry q => hr a b pZ s2 σ H2 x y v u Q I2 rx ry q (hs _ _))
noncomputable def rIxL (K : PySem.W.Frag) : R2 := fun x y H Q => ∃ p xs i v, x = .ref p ∧ y = .int i ∧ SqL K H p xs ∧ atI xs i = some v ∧ Q v H
noncomputable def rIxT (K : PySem.W.Frag) : R2 := fun x y H Q => ∃ p xs i v, x = .ref p ∧ y = .int i ∧ SqT K H p xs ∧ atI xs i = some v ∧ Q v H
noncomputable def rIxS : R2 := fun x y H Q => ∃ z i c, x = .str z ∧ y = .int i ∧ z.length ≤ sizeLine ∧ atI z.cps.toList i = some c ∧ Q (.str ⟨#[c]⟩) H
theorem ix_list : IxR X (rIxL X.K) := by
  intro value slice pZ s σ H x y v u Q I rx ry h hs
  obtain ⟨p, xs, i, z, rfl, rfl, hq, he, q⟩ := h
  cases rx
  obtain ⟨t, rfl⟩ := ry
  obtain ⟨its, r, pl, hz⟩ := I.list hq
  obtain ⟨j, h1, h2, h3, h4, h5⟩ := atI_get he
  obtain ⟨w, ew, rw'⟩ := r.get h2
  have hl := r.length
  have hn := line63
  have fin : EP X pZ σ Q w s := ⟨z, H, I, rw', q⟩
  by_cases h0 : 0 ≤ i
  · have hj : i.toNat = j := by
      rw [seqIndex_of h0 h5] at h1
      exact Option.some.inj h1
    exact item_listR pl.isList h0 (by omega) (by rw [hj]; simpa using ew) fin hs
  · have hj : (i + (its.toArray.size : Int)).toNat = j := by
      rw [seqIndex_neg (by omega) h4] at h1
      rw [List.size_toArray, ← hl]
      exact Option.some.inj h1
    exact subscriptTail_builtinR (x := w) pl.isList.typeIs slot_list_getitem.lookup
      (wpAny_getItem_list_neg (Q := fun r s' => r = w ∧ EP X pZ σ Q r s') pl.isList (by omega) (by rw [List.size_toArray] <;> omega) (by omega) (by rw [hj]; simpa using ew) ⟨rfl, fin⟩) hs
theorem ix_tup : IxR X (rIxT X.K) := by
  intro value slice pZ s σ H x y v u Q I rx ry h hs
  obtain ⟨p, xs, i, z, rfl, rfl, hq, he, q⟩ := h
  cases rx
  obtain ⟨t, rfl⟩ := ry
  obtain ⟨its, r, pl, hz⟩ := I.tuple hq
  obtain ⟨j, h1, h2, h3, h4, h5⟩ := atI_get he
  obtain ⟨w, ew, rw'⟩ := r.get h2
  have hl := r.length
  have hn := line63
  have fin : EP X pZ σ Q w s := ⟨z, H, I, rw', q⟩
  exact subscriptTail_builtinR (x := w) pl.typeIs slot_tuple_getitem.lookup
    (getItem_tuple (j := j) (Q := fun r s' => r = w ∧ EP X pZ σ Q r s') pl (by omega) (by omega) (by rw [List.size_toArray, ← hl]; exact h1) (by simpa using ew) ⟨rfl, fin⟩) hs
theorem ix_str : IxR X rIxS := by
  intro value slice pZ s σ H x y v u Q I rx ry h hs
  obtain ⟨z, i, c, rfl, rfl, hz, he, q⟩ := h
  obtain ⟨t, rfl⟩ := rx
  obtain ⟨t', rfl⟩ := ry
  obtain ⟨j, h1, h2, h3, h4, h5⟩ := atI_get he
  have hl : z.cps.toList.length = z.length := by simp [Str.length]
  rw [hl] at h1 h4 h5
  have hn := line63
  exact tail_any (typeIs_str s z t) slot_str_getitem.lookup (getItem_str (c := c) (by
    have e1 : decide (i < -(2 ^ 63 : Int)) = false := decide_eq_false (by omega)
    have e2 : decide (i ≥ 2 ^ 63) = false := decide_eq_false (by omega)
    rw [e1, e2, Bool.or_false]) (by rw [h1]; simpa using h2) ⟨.str ⟨#[c]⟩, H, I.tok _, ⟨_, rfl⟩, q⟩) hs
noncomputable def rIx (K : PySem.W.Frag) : R2 := fun x y H Q => rIxL K x y H Q ∨ rIxT K x y H Q ∨ rIxS x y H Q
theorem ix_seq : IxR X (rIx X.K) := ix_list.or (ix_tup.or ix_str)
theorem mapSeq_set (its : List Value) (n j : Nat) (u : Value) : Obj.mapSeq (·.setIfInBounds j u) { cls := .type "list", data := .seq its.toArray n } = { cls := .type "list", data := .seq (its.set j u).toArray n } := by
  simp [Obj.mapSeq]
theorem Inv.lst {pZ : List (Addr × Obj)} {σ : St} {H : Hp} {s : Shared} {p : Addr} {xs : List V} (I : Inv X pZ σ H s) (h : H p = some (.lst xs)) :
    ∃ (its : List Value) (n : Nat), Vals xs its ∧ s.heap.get? p = some { cls := .type "list", data := .seq its.toArray n } ∧ xs.length ≤ sizeLine := by
  obtain ⟨z, its, n, r, e⟩ := I.hok p _ h
  exact ⟨its, n, r, e, z⟩
theorem Inv.lstUpd {pZ : List (Addr × Obj)} {σ : St} {H : Hp} {s : Shared} {p : Addr} {xs ys : List V} {its its' : List Value} {n n' : Nat} {f : Obj → Obj} (I : Inv X pZ σ H s) (h : H p = some (.lst xs))
    (ho : s.heap.get? p = some { cls := .type "list", data := .seq its.toArray n }) (hf : f { cls := .type "list", data := .seq its.toArray n } = { cls := .type "list", data := .seq its'.toArray n' }) (r : Vals ys its') (hz : ys.length ≤ sizeLine) (t : Nat) :
    Inv X pZ σ (upd H p (.lst ys)) { s with heap := s.heap.update p f, toks := t } := by
  have e : (s.heap.update p f).get? p = some { cls := .type "list", data := .seq its'.toArray n' } := by
    rw [Heap.get?_update_self f ho (by rw [hf] <;> rfl), hf]
  refine I.write (x := p) (e := p) (by rw [h]; trivial) (.inl rfl) (fun b u hb q => (Heap.get?_update_other _ _ (Ne.symm hb)).trans q) ⟨_, e⟩ ?_
  exact ⟨hz, its', n', r, e⟩
noncomputable def rSetL : V → V → V → Hp → (Hp → Prop) → Prop := fun o i v H Q => ∃ p xs k j, o = .ref p ∧ i = .int k ∧ H p = some (.lst xs) ∧ ixN xs.length k = some j ∧ Q (upd H p (.lst (xs.set j v)))
theorem set_list : PSet X rSetL := by
  intro pZ s σ H o i v ov iv u Q I ro ri rv h
  obtain ⟨p, xs, k, j, rfl, rfl, hp, hj, q⟩ := h
  cases ro
  obtain ⟨t, rfl⟩ := ri
  obtain ⟨its, n, r, ho, hz⟩ := I.lst hp
  obtain ⟨h1, h2, h3, h4⟩ := ixN_seq hj
  have hl := r.length
  have hn := line63
  have I' : Inv X pZ σ (upd H p (.lst (xs.set j v))) { s with heap := s.heap.update p (Obj.mapSeq (·.setIfInBounds j u)) } :=
    I.lstUpd hp ho (mapSeq_set its n j u) (r.set rv j) (by rw [List.length_set]; exact hz) s.toks
  by_cases h0 : 0 ≤ k
  · have hk : k.toNat = j := by
      rw [seqIndex_of h0 h4] at h1
      exact Option.some.inj h1
    exact PySem.W.ki_setAt ho h0 (by omega) (by rw [List.size_toArray, ← hl]; exact h4) (by rw [hk]; exact ⟨_, I', q⟩)
  · have hk : (k + (its.toArray.size : Int)).toNat = j := by
      rw [seqIndex_neg (by omega) h3] at h1
      rw [List.size_toArray, ← hl]
      exact Option.some.inj h1
    exact PySem.W.ki_setBack ho (by omega) (by rw [List.size_toArray, ← hl]; exact h3) (by omega) (by rw [hk]; exact ⟨_, I', q⟩)
theorem slice_bounds (lo hi : Option Int) (n : Nat) : (sliceBounds lo hi none n).1 = ((HT.sIx n 0 lo : Nat) : Int) ∧ (sliceBounds lo hi none n).2.1 = ((HT.sIx n n hi : Nat) : Int) ∧ (sliceBounds lo hi none n).2.2 = 1 := by
  refine ⟨?_, ?_, rfl⟩
  · cases lo with
    | none => simp [sliceBounds, HT.sIx]
    | some i =>
      simp only [sliceBounds, HT.sIx, Option.getD_none, show (1 : Int) > 0 by decide, if_true]
      by_cases h : i < 0
      · simp only [h, if_true] <;> omega
      · simp only [h, if_false] <;> omega
  · cases hi with
    | none => simp [sliceBounds, HT.sIx]
    | some i =>
      simp only [sliceBounds, HT.sIx, Option.getD_none, show (1 : Int) > 0 by decide, if_true]
      by_cases h : i < 0
      · simp only [h, if_true] <;> omega
      · simp only [h, if_false] <;> omega
theorem slicePick_cut (its : List Value) (lo hi : Option Int) : slicePick its.toArray lo hi none = ((its.drop (HT.sIx its.length 0 lo)).take (HT.sIx its.length its.length hi - HT.sIx its.length 0 lo)).toArray := by
  obtain ⟨h1, h2, h3⟩ := slice_bounds lo hi its.toArray.size
  unfold slicePick
  rw [h1, h2, h3]
  simp only [sliceRange_one, pick_run, List.size_toArray] <;> rfl
noncomputable def rSlL (K : PySem.W.Frag) : V → Option Int → Option Int → Hp → VK → Prop := fun x lo hi H Q => ∃ a xs, x = .ref a ∧ SqL K H a xs ∧ ∀ p, H p = none → Q (.ref p) (upd H p (.lst (cutV xs lo hi)))
theorem sl_list : SlR X (rSlL X.K) := by
  intro pZ s σ H x v vl vu lo hi sl Q I rx hs pl pu h
  obtain ⟨a, xs, rfl, hx, q⟩ := h
  cases rx
  obtain ⟨its, r, ht, hz⟩ := I.list hx
  have hlen := r.length
  refine ⟨"list", _, slot_list_getitem.lookup, ht.isList.typeIs, ?_⟩
  refine wpAny_getItem_list_slice ht.isList hs pl pu .none (by simp) ?_ (by rw [List.size_toArray] <;> omega)
  rw [slicePick_cut, ← hlen]
  refine ⟨.ref s.heap.objs.size, _, I.laid (t' := s.toks) (o := .lst (cutV xs lo hi)) (fun b ob q => Heap.get?_push_of_some _ q) (Nat.le_refl _) ?_, rfl, q _ (I.hok.fresh (Nat.le_refl _))⟩
  exact ⟨Nat.le_trans (cutV_length xs lo hi) hz, _, 0, (r.drop (HT.sIx xs.length 0 lo)).take (HT.sIx xs.length xs.length hi - HT.sIx xs.length 0 lo), Heap.get?_push_size _ rfl⟩
noncomputable def flatV : V → Bool
  | .non => true
  | .bl _ => true
  | .int _ => true
  | .str _ => true
  | _ => false
noncomputable def eqV : V → V → Bool
  | .non, .non => true
  | .bl a, .bl b => a == b
  | .bl a, .int b => (if a then 1 else 0) == b
  | .int a, .bl b => a == (if b then 1 else 0)
  | .int a, .int b => a == b
  | .str a, .str b => a == b
  | _, _ => false
theorem eqAt_V {A : Around} {s : Shared} {y x : V} {u v : Value} (ry : RelV y u) (rx : RelV x v) (fy : flatV y = true) (fx : flatV x = true) : SeqAt.EqAt A s u v (eqV y x) := by
  cases y with
  | non =>
    cases ry
    cases x with
    | non => cases rx; exact SeqAt.EqAt.same _
    | bl b => cases rx; exact SeqAt.EqAt.none_bool b
    | int b => obtain ⟨t, rfl⟩ := rx; exact SeqAt.EqAt.none_int b t
    | str b => obtain ⟨t, rfl⟩ := rx; exact SeqAt.EqAt.none_str b t
    | _ => exact absurd (show false = true from fx) Bool.false_ne_true
  | bl a =>
    cases ry
    cases x with
    | non => cases rx; exact SeqAt.EqAt.bool_none a
    | bl b => cases rx; exact SeqAt.EqAt.bool_bool a b
    | int b => obtain ⟨t, rfl⟩ := rx; exact SeqAt.EqAt.bool_int a b t
    | str b => obtain ⟨t, rfl⟩ := rx; exact SeqAt.EqAt.bool_str a b t
    | _ => exact absurd (show false = true from fx) Bool.false_ne_true
  | int a =>
    obtain ⟨t', rfl⟩ := ry
    cases x with
    | non => cases rx; exact SeqAt.EqAt.int_none a t'
    | bl b => cases rx; exact SeqAt.EqAt.int_bool a t' b
    | int b => obtain ⟨t, rfl⟩ := rx; exact SeqAt.EqAt.int_int a t' b t
    | str b => obtain ⟨t, rfl⟩ := rx; exact SeqAt.EqAt.int_str a t' b t
    | _ => exact absurd (show false = true from fx) Bool.false_ne_true
  | str a =>
    obtain ⟨t', rfl⟩ := ry
    cases x with
    | non => cases rx; exact SeqAt.EqAt.str_none a t'
    | bl b => cases rx; exact SeqAt.EqAt.str_bool a t' b
    | int b => obtain ⟨t, rfl⟩ := rx; exact SeqAt.EqAt.str_int a t' b t
    | str b => obtain ⟨t, rfl⟩ := rx; exact SeqAt.EqAt.str_str a t' b t
    | _ => exact absurd (show false = true from fx) Bool.false_ne_true
  | _ => exact absurd (show false = true from fy) Bool.false_ne_true
noncomputable def eqU (x : V) (u : Value) : Bool := match u with
  | .none => eqV .non x
  | .bool b => eqV (.bl b) x
  | .int i _ => eqV (.int i) x
  | .str z _ => eqV (.str z) x
  | _ => false
theorem eqU_of {x y : V} {u : Value} (r : RelV y u) (f : flatV y = true) : eqU x u = eqV y x := by
  cases y with
  | non => cases r; rfl
  | bl b => cases r; rfl
  | int i => obtain ⟨t, rfl⟩ := r; rfl
  | str z => obtain ⟨t, rfl⟩ := r; rfl
  | _ => exact absurd (show false = true from f) Bool.false_ne_true
theorem any_eqU {x : V} : ∀ {xs : List V} {us : List Value}, Vals xs us → xs.all flatV = true → us.any (eqU x) = xs.any fun y => eqV y x
  | _, _, .nil, _ => rfl
  | y :: xs, u :: us, .cons r t, f => by
    rw [List.all_cons, Bool.and_eq_true] at f
    rw [List.any_cons, List.any_cons, eqU_of r f.1, any_eqU t f.2]
theorem mem_eqAt {A : Around} {s : Shared} {x : V} {v : Value} (rx : RelV x v) (fx : flatV x = true) : ∀ {xs : List V} {us : List Value}, Vals xs us → xs.all flatV = true → ∀ u ∈ us, SeqAt.EqAt A s u v (eqU x u)
  | _, _, .nil, _ => fun u hu => by cases hu
  | y :: xs, u :: us, .cons r t, f => fun u' hu => by
    rw [List.all_cons, Bool.and_eq_true] at f
    rcases List.mem_cons.mp hu with rfl | hu
    · rw [eqU_of r f.1]; exact eqAt_V r rx f.1 fx
    · exact mem_eqAt rx fx t f.2 u' hu
noncomputable def inV (x : V) (xs : List V) : Bool := xs.any fun y => eqV y x
noncomputable def rIn (K : PySem.W.Frag) (neg : Bool) : R2 := fun x y H Q => ∃ p xs, y = .ref p ∧ (SqL K H p xs ∨ SqT K H p xs) ∧ flatV x = true ∧ xs.all flatV = true ∧ Q (.bl (if neg then !inV x xs else inV x xs)) H
theorem op_in_seq : OpR X (compareOp .In) (rIn X.K false) := by
  intro pZ s σ H x y v u Q I rx ry h
  obtain ⟨p, xs, rfl, hq, fx, fs, q⟩ := h
  cases ry
  rcases hq with hq | hq
  · obtain ⟨its, r, pl, hz⟩ := I.list hq
    refine SeqAt.in_listAt (eqU x) pl.isList (fun w hw => mem_eqAt rx fx r fs w (by simpa using hw)) ⟨.bl _, H, I, rfl, ?_⟩
    rw [show its.toArray.any (eqU x) = its.any (eqU x) by simp, any_eqU r fs]
    exact q
  · obtain ⟨its, r, pl, hz⟩ := I.tuple hq
    refine SeqAt.in_tupleAt (eqU x) pl (fun w hw => mem_eqAt rx fx r fs w (by simpa using hw)) ⟨.bl _, H, I, rfl, ?_⟩
    rw [show its.toArray.any (eqU x) = its.any (eqU x) by simp, any_eqU r fs]
    exact q
theorem call_tuple_of : CallR X (.type "tuple") (fun xs H Q => ∃ p ys, xs = [.ref p] ∧ ((SqL X.K H p ys ∧ ∀ l, H l = none → Q (.ref l) (upd H l (.tup ys))) ∨ (SqT X.K H p ys ∧ Q (.ref p) H))) := by
  intro pZ s σ H xs us Q I r h
  obtain ⟨p, ys, rfl, h⟩ := h
  obtain ⟨u, rfl, rx⟩ := vals1 r
  cases rx
  rcases h with ⟨hq, q⟩ | ⟨hq, q⟩
  · obtain ⟨its, r', pl, hz⟩ := I.list hq
    have hlen := r'.length
    refine call_tuple_list pl.isList (fun h' kp => ?_) (by simp only [List.size_toArray] <;> omega)
    have I1 : Inv X pZ σ H { s with heap := h' } := I.kept (t' := s.toks) kp
    have I2 : Inv X pZ σ (upd H h'.objs.size (.tup ys)) { s with heap := h'.push { cls := .type "tuple", data := .seq its.toArray } } :=
      I1.laid (t' := s.toks) (fun b o e => Heap.get?_push_of_some _ e) (Nat.le_refl _) (show ObjOk X.prog X.w _ _ _ (.tup ys) from ⟨hz, its, r', IsTupP.new _ _⟩)
    exact ⟨.ref h'.objs.size, _, I2, rfl, q _ (I1.hok.fresh (Nat.le_refl _))⟩
  · obtain ⟨its, r', pl, hz⟩ := I.tuple hq
    exact call_tuple_same pl ⟨.ref p, H, I, rfl, q⟩
def tyV (K : PySem.W.Frag) (T : String) (x : V) (H : Hp) : Prop := match x with
  | .str _ => T = "str"
  | .int _ => T = "int"
  | .ref p => (T = "list" ∧ ∃ xs, SqL K H p xs) ∨ (T = "tuple" ∧ ∃ o, K.lookup p = some o ∧ o.cls = .type "tuple" ∧ o.dict = none) ∨
      (T = "dict" ∧ ((∃ kvs, Rd H p (.dK kvs)) ∨ ∃ kvs, H p = some (.dT kvs))) ∨ (T = "set" ∧ ∃ S n, H p = some (.set S n))
  | _ => False
theorem tyV_is {pZ : List (Addr × Obj)} {σ : St} {H : Hp} {s : Shared} {T : String} {x : V} {v : Value} (I : Inv X pZ σ H s) (r : RelV x v) (ty : tyV X.K T x H) :
    s.TypeIs v T ∧ ∀ a, v = .ref a → ∃ ob, s.heap.get? a = some ob ∧ ob.dict = none := by
  cases x with
  | str z =>
    obtain ⟨t, rfl⟩ := r
    cases (show T = "str" from ty)
    exact ⟨typeIs_str s z t, fun _ e => nomatch e⟩
  | int i =>
    obtain ⟨t, rfl⟩ := r
    cases (show T = "int" from ty)
    exact ⟨typeIs_int s i t, fun _ e => nomatch e⟩
  | ref p =>
    cases r
    rcases ty with ⟨rfl, xs, hq⟩ | ⟨rfl, o, hk, hc, hd⟩ | ⟨rfl, hk⟩ | ⟨rfl, S, n, hk⟩
    · obtain ⟨its, _, pl, _⟩ := I.list hq
      refine ⟨pl.isList.typeIs, fun a e => ?_⟩
      cases e
      obtain ⟨o, n, e, c, hd, _⟩ := pl
      exact ⟨o, e, hd⟩
    · refine ⟨⟨o, I.kIn p o hk, hc⟩, fun a e => ?_⟩
      cases e
      exact ⟨o, I.kIn _ o hk, hd⟩
    · have z : ∃ o, s.heap.get? p = some o ∧ o.ExactDict := by
        rcases hk with ⟨kvs, hk⟩ | ⟨kvs, hk⟩
        · obtain ⟨_, _, _, _, o, _, _, e, ex, _⟩ := hk.ok I.hok
          exact ⟨o, e, ex⟩
        · obtain ⟨_, _, _, _, o, _, _, e, ex, _⟩ := I.hok p _ hk
          exact ⟨o, e, ex⟩
      obtain ⟨o, e, ex⟩ := z
      refine ⟨⟨o, e, ex.1⟩, fun a e2 => ?_⟩
      cases e2
      exact ⟨o, e, ex.2.1⟩
    · obtain ⟨o, _, _, _, e, ex, _⟩ := I.hok p _ hk
      refine ⟨⟨o, e, ex.1⟩, fun a e2 => ?_⟩
      cases e2
      exact ⟨o, e, ex.2.1⟩
  | _ => exact False.elim ty
noncomputable def tBM (K : PySem.W.Frag) (T : String) (r : V → List V → Hp → VK → Prop) (to : TE) (t : TA) : TE := fun σ H Q => to σ H fun x H1 => tyV K T x H1 ∧ t σ H1 fun xs H2 => r x xs H2 Q
variable {o e : Expr} {es : List Expr} {to : TE} {t : TA} {name : Str} {apos cpos : Pos} {T id : String} {r : V → List V → Hp → VK → Prop}
theorem pe_bm (pa : PlainAttrs T) (slot : Slot T name id) (hty : typeOf (.builtin id) = pure (.type "method_descriptor")) (hm : MtR X id r) (ho : PE X o to) (ha : PA X (e :: es) t)
    (hbase : attributeBase o name X.env (eval o X.env) = eval o X.env := by rfl)
    (hfew : ((backTo cpos (starEach (e :: es) X.env)).all (fun x => !x.1) && (backToKw cpos (keywordEach [] X.env)).all (fun x => x.1.isSome)
      && decide ((e :: es).length + ([] : List Keyword).length + (if ([] : List Keyword).isEmpty then 0 else 1) < 30)) = true := by rfl)
    (hline : (apos.endLine == cpos.line) = true := by rfl) (hs : starEach (e :: es) X.env = (false, eval e X.env) :: starEach es X.env := by rfl) (hplain : (backTo cpos (starEach es X.env)).any (·.1) = false := by rfl) :
    PE X (.Call (.Attribute o name apos) (e :: es) [] cpos) (tBM X.K T r to t) := by
  intro pZ s σ H Q I h
  refine wpAny_Call_method_late hbase hfew hline rfl (thn (ho pZ s σ H _ I h) fun v s1 ⟨x, H1, I1, r1, ty, q1⟩ => ?_)
  obtain ⟨h1, h2⟩ := tyV_is I1 r1 ty
  refine ⟨T, id, pa, slot, hty, h1, h2, ?_⟩
  have hA := ha cpos pZ s1 σ H1 _ I1 q1
  rw [hs] at hA ⊢
  refine Calls.callWith_builtin (by show (false || (backTo cpos (starEach es X.env)).any (·.1)) = false; rw [hplain] <;> rfl) (Calls.evalArgs_plain ?_)
  exact thn hA fun us s2 ⟨vs, H2, I2, r2, q2⟩ => hm pZ s2 σ H2 x vs v us Q I2 r1 r2 q2
end
end L2
namespace L2
open PySem PySem.Spec PyProof.Rows
def MtM (X : Cx) (id : String) (r : V → List V → Hp → VK → Prop) : Prop :=
  ∀ (pZ : List (Addr × Obj)) (s : Shared) (σ : St) (H : Hp) (x : V) (xs : List V) (v : Value) (us : List Value) (Q : VK), Inv X pZ σ H s → RelV x v → Vals xs us → r x xs H Q →
    wpAny (model X.prog X.w) X.A (call (.builtin id) (v :: us)) (EP X pZ σ Q) X.xe s
theorem Vals.one : ∀ {x : V} {us : List Value}, Vals [x] us → ∃ u, us = [u] ∧ RelV x u
  | _, _, .cons r .nil => ⟨_, rfl, r⟩
theorem Vals.rep {xs : List V} {us : List Value} (h : Vals xs us) : ∀ k : Nat, Vals (List.replicate k xs).flatten (List.replicate k us).flatten
  | 0 => .nil
  | k + 1 => by
    rw [List.replicate_succ, List.replicate_succ, List.flatten_cons, List.flatten_cons]
    exact Vals.append h (Vals.rep h k)
theorem foldl_rep (its : List Value) : ∀ (k : Nat) (acc : List Value),
    List.foldl (fun x1 x2 => x1 ++ x2) acc.toArray (List.replicate k its.toArray) = (acc ++ (List.replicate k its).flatten).toArray
  | 0, acc => by simp
  | k + 1, acc => by
    have e : acc.toArray ++ its.toArray = (acc ++ its).toArray := by simp
    have e2 : (acc ++ its) ++ (List.replicate k its).flatten = acc ++ (List.replicate (k + 1) its).flatten := by
      rw [List.replicate_succ, List.flatten_cons, List.append_assoc]
    rw [← e2, ← foldl_rep its k (acc ++ its), ← e, List.replicate_succ, List.foldl_cons]
section
variable {X : Cx} {pZ : List (Addr × Obj)} {σ : St} {H : Hp} {s : Shared} {l b : Addr} {xs ys zs : List V}
theorem Inv.lset {its its' : List Value} {n : Nat} {f : Array Value → Array Value} {t' : Nat} (I : Inv X pZ σ H s) (hH : H l = some (.lst xs))
    (e : s.heap.get? l = some { cls := .type "list", data := .seq its.toArray n }) (hf : f its.toArray = its'.toArray) (hv : Vals ys its') (hz : ys.length ≤ sizeLine) :
    Inv X pZ σ (upd H l (.lst ys)) { s with heap := s.heap.update l (Obj.mapSeq f), toks := t' } := by
  have q := PySem.IsL.update e f
  rw [hf] at q
  refine I.write (x := l) (e := l) (by rw [hH]; exact trivial) (.inl rfl) (fun b' u hb hu => (Heap.get?_update_other s.heap (Obj.mapSeq f) (Ne.symm hb)).trans hu) ⟨_, q⟩ ?_
  exact ⟨hz, its', _, hv, q⟩
theorem Inv.lnew {its : List Value} {t' : Nat} (I : Inv X pZ σ H s) (hv : Vals ys its) (hz : ys.length ≤ sizeLine) :
    Inv X pZ σ (upd H s.heap.objs.size (.lst ys)) { s with heap := s.heap.push { cls := .type "list", data := .seq its.toArray }, toks := t' } :=
  I.laid (fun _ _ q => Heap.get?_push_of_some _ q) (Nat.le_refl _) ⟨hz, its, 0, hv, Heap.get?_push_size _ rfl⟩
theorem Inv.fresh (I : Inv X pZ σ H s) : H s.heap.objs.size = none := I.hok.fresh (Nat.le_refl _)
theorem Inv.lstM (I : Inv X pZ σ H s) (hH : H l = some (.lst xs)) : xs.length ≤ sizeLine ∧ ∃ (its : List Value) (n : Nat), Vals xs its ∧ xs.length = its.length ∧ s.heap.get? l = some { cls := .type "list", data := .seq its.toArray n } := by
  obtain ⟨z, its, n, r, e⟩ := I.hok l _ hH
  exact ⟨z, its, n, r, r.length, e⟩
theorem notLongL {n : Nat} (h : n ≤ sizeLine) : Builtin.List.listTooLong n = false := by
  unfold Builtin.List.listTooLong
  exact decide_eq_false (by omega)
end
section
variable {X : Cx}
noncomputable def rAppend : V → List V → Hp → VK → Prop := fun x vs H Q => ∃ l xs y, x = .ref l ∧ vs = [y] ∧ H l = some (.lst xs) ∧ xs.length < sizeLine ∧ Q .non (upd H l (.lst (xs ++ [y])))
theorem mt_append : MtM X "list.append" rAppend := by
  intro pZ s σ H x vs v us Q I rx rv h
  obtain ⟨l, xs, y, rfl, rfl, hH, hz, q⟩ := h
  cases rx
  obtain ⟨u, rfl, ru⟩ := rv.one
  obtain ⟨z, its, n, r, hl, e⟩ := I.lstM hH
  refine call_meets F.slot_list_append ⟨_, e, rfl⟩ F.entry_list_append (F.args_list_append_2 _ _) (PySem.list_append l its.toArray n u (by rw [List.size_toArray]; omega)) ⟨e, ?_⟩
  refine ⟨.non, _, I.lset (its' := its ++ [u]) hH e (by simp) (r.append (.cons ru .nil)) ?_, rfl, q⟩
  rw [List.length_append, List.length_singleton]
  omega
noncomputable def rCat : R2 := fun x y H Q => ∃ l b xs zs, x = .ref l ∧ y = .ref b ∧ H l = some (.lst xs) ∧ H b = some (.lst zs) ∧ xs.length + zs.length ≤ sizeLine ∧ ∀ p, H p = none → Q (.ref p) (upd H p (.lst (xs ++ zs)))
theorem op_cat : OpR X (binaryOp .Add) rCat := by
  intro pZ s σ H x y v u Q I rx ry h
  obtain ⟨l, b, xs, zs, rfl, rfl, hH, hB, hz, q⟩ := h
  cases rx
  cases ry
  obtain ⟨z, its, n, r, hl, e⟩ := I.lstM hH
  obtain ⟨z2, its2, n2, r2, hl2, e2⟩ := I.lstM hB
  refine PySem.P.add_list e e2 ?_ (by rw [List.size_toArray, List.size_toArray]; omega)
  have ea : its.toArray ++ its2.toArray = (its ++ its2).toArray := by simp
  rw [ea]
  exact ⟨.ref _, _, I.lnew (t' := s.toks) (r.append r2) (by rw [List.length_append]; omega), rfl, q _ I.fresh⟩
noncomputable def rRep : R2 := fun x y H Q => ∃ l k xs, x = .ref l ∧ y = .int k ∧ H l = some (.lst xs) ∧ -(2 ^ 63) ≤ k ∧ k < 2 ^ 63 ∧ xs.length * k.toNat ≤ sizeLine ∧
  ∀ p, H p = none → Q (.ref p) (upd H p (.lst (List.replicate k.toNat xs).flatten))
theorem len_rep {α : Type} (xs : List α) (k : Nat) : (List.replicate k xs).flatten.length = k * xs.length := by
  induction k with
  | zero => simp
  | succ k ih => rw [List.replicate_succ, List.flatten_cons, List.length_append, ih, Nat.succ_mul, Nat.add_comm]
theorem op_rep : OpR X (binaryOp .Mult) rRep := by
  intro pZ s σ H x y v u Q I rx ry h
  obtain ⟨l, k, xs, rfl, rfl, hH, h1, h2, hz, q⟩ := h
  cases rx
  obtain ⟨t, rfl⟩ := ry
  obtain ⟨z, its, n, r, hl, e⟩ := I.lstM hH
  have hlen : its.toArray.size * k.toNat ≤ sizeLine := by rw [List.size_toArray, ← hl]; exact hz
  have hcap : ¬ its.toArray.size * k.toNat > (2 ^ 63 - 1) / 8 := by
    have : (sizeLine : Nat) ≤ (2 ^ 63 - 1) / 8 := by decide
    omega
  have hfit : ¬ (!Builtin.List.listFitsIndex k) = true := by
    rw [fitsIndex_both h1 h2]
    exact Bool.false_ne_true
  have hlong : ¬ Builtin.List.listTooLong (its.toArray.size * k.toNat) = true := by
    rw [notLongL hlen]
    exact Bool.false_ne_true
  have hnew : List.foldl (fun x1 x2 => x1 ++ x2) #[] (List.replicate (if its.toArray.isEmpty = true then 0 else k.toNat) its.toArray) = (List.replicate k.toNat its).flatten.toArray := by
    have f0 : ∀ m : Nat, List.foldl (fun x1 x2 => x1 ++ x2) #[] (List.replicate m its.toArray) = (List.replicate m its).flatten.toArray := fun m => by
      have := foldl_rep its m []
      rw [List.nil_append] at this
      exact this
    rw [f0]
    cases its with
    | nil => simp
    | cons a r' => rw [if_neg (by simp)]
  refine wpAny_binaryOp_repeat_ref (T := "list") (U := "int") (by decide) ⟨_, e, rfl⟩ (fun s' => typeIs_int s' k t) noFill_list_mul F.fills_int_mul F.slot_int_rmul repeat_list F.slot_int_index.lookup
    (call_meets F.slot_int_rmul (typeIs_int s k t) F.entry_int_rmul (F.args_int_rmul_2 _ _) (int___rmul___int_list k t l its.toArray n)
      ⟨e, rfl, ⟨_, e, rfl⟩, call_meets F.slot_list_mul ⟨_, e, rfl⟩ F.entry_list_mul (F.args_list_mul_2 _ _) (AutoListH.list___mul___list_int_3 l its.toArray n k t hfit hcap hlong) ⟨e, ?_⟩⟩)
  rw [hnew]
  exact ⟨.ref _, _, I.lnew (t' := s.toks) (r.rep k.toNat) (by rw [len_rep, Nat.mul_comm]; exact hz), rfl, q _ I.fresh⟩
end
end L2
namespace Att
open PySem PySem.W PySem.Calls PyProof.Rows
theorem ints_of_wellAll {P : Params} {h : Heap} : ∀ (ns : List Int) (vs : List Value), WellAll P h vs (ns.map WData.int) → IntsAre vs ns := by
  intro ns
  induction ns with
  | nil =>
    intro vs w
    rw [List.map_nil] at w
    cases w
    exact .nil
  | cons n ns ih =>
    intro vs w
    rw [List.map_cons] at w
    cases w with
    | cons a b =>
      cases a
      exact .cons _ _ (ih _ b)
theorem script_of {l : OpenLaw} {n : Nat} (hn : l.most = some n) {P : Params} {h : Heap} {args : List WData} {vals : List Value}
    (hpre : l.row.toRowW.claim.pre args = true) (hwl : WellAll P h vals args) :
    ∃ a vs ns, vals = [Value.ref a] ∧ args = [WData.list (ns.map WData.int)] ∧ h.get? a = some { cls := .type "list", data := .seq vs.toArray } ∧ IntsAre vs ns ∧ ns.length ≤ n := by
  have hsh : WShape.hasAll [] args [.list .int] = true := (pre_splitW hpre).1
  have hc : l.pre.holds [] { args := args } = true := (pre_splitW hpre).2
  obtain ⟨d, r, rfl, h1, h2⟩ := hasAllW_cons hsh
  obtain rfl := hasAllW_nil h2
  obtain ⟨xs, rfl, h3⟩ := hasW_list h1
  obtain ⟨ns, rfl⟩ := items_int h3
  have hlen : ns.length ≤ n := by
    unfold OpenLaw.pre at hc
    have h4 : (WTm.not (.lt (.lit (.int (n : Int))) (.len (.arg 0)))).holds [] { args := [.list (ns.map .int)] } = true := by
      have h4 := (holds_andW hc).1
      rw [hn] at h4
      exact h4
    have h5 := condW_of h4 (w_not (w_lt w_lit (w_len_list (w_arg rfl))))
    rw [List.length_map] at h5
    refine Nat.le_of_not_lt fun q => ?_
    have q' : (n : Int) < ((ns.length : Nat) : Int) := by omega
    first
      | (rw [decide_eq_true q'] at h5; exact absurd h5 (by decide))
      | (simp at h5; omega)
  cases hwl with
  | cons w1 w2 =>
    cases w2
    cases w1 with
    | list ho hall => exact ⟨_, _, ns, rfl, rfl, ho, ints_of_wellAll ns _ hall, hlen⟩
theorem post_true (l : OpenLaw) (args : List WData) : l.row.toRowW.claim.post args (.bool true) args = true :=
  postW_of (r := l.row.toRowW) (X := (true == true))
    (show WShape.has [] (.bool true) .bool = true by first | rfl | decide | simp [WShape.has, WShape.arms, WShape.armsAll])
    (show (WTm.eq .res (.lit (.bool true))).value [] { args := args, res := some (.bool true), after := args } = some (.bool (true == true)) from w_eq_bool (w_res rfl) w_lit) rfl
theorem attach_call {l : OpenLaw} {n : Nat} {q : Program} {loose : List Str} {XP : (Str → Option Value) → Heap → Prop} {YP : World → Heap → Prop} {d : DefRec}
    (hn : l.most = some n) (hdf : d.params.defaults = [])
    (call : ∀ (w : World) (s₀ s₁ : Shared) (mg mb : Str → Option Value) (fa : Addr) (o : Obj) (pm cd doc : Value) (a : Addr) (vs : List Value) (ns : List Int),
      Ground q loose [] XP w s₀ mg mb s₁.heap → YP w s₁.heap →
      s₁.heap.get? fa = some o → o.data = .func (docDef d.name d.params d.body d.scope pm cd doc) → s₁.heap.CodeRec cd d.name → mg d.name = some (.ref fa) →
      s₁.heap.get? a = some { cls := .type "list", data := .seq vs.toArray } → IntsAre vs ns → ns.length ≤ n → s₁.gens = #[] →
      codeAny (model l.prog w) callerA (.call (.ref fa) ⟨[.ref a], []⟩) (fun r s' => r = .ok (.ret (.bool true)) ∧ OldK s₁.heap s'.heap ∧ s'.os = s₁.os ∧ AllBare s'.gens) s₁) :
    WalkO q loose XP YP l.row.toRowW d [] (fun f vs => PySem.call f vs) := by
  intro w s₀ s₁ mg mb G Y fa o pm cd doc dV kV ho hd hcd hD hmg hg args vals as hpre hlay hrd hwl hlo
  obtain rfl : dV = .none := Dflts.none hD hdf
  obtain rfl : kV = .none := Dflts.noKw hD
  obtain ⟨a, vs, ns, rfl, rfl, hobj, hints, hlen⟩ := script_of hn hpre hwl
  refine enter_call (codeAny_mono (call w s₀ s₁ mg mb fa o pm cd doc a vs ns G Y ho (fd_plain hd) hcd hmg hobj hints hlen hg) fun r s' hq => ?_)
  obtain ⟨rfl, h2, h3, h4⟩ := hq
  exact ⟨.inl ⟨.bool true, .bool true, [], rfl, fun _ => rfl, .bool true, post_true l _, fun _ => ⟨List.Pairwise.nil, fun _ hm => (nomatch hm)⟩⟩, h2, h3, h4⟩
end Att
namespace L2
open PySem PySem.Spec PyProof.Rows
theorem vals_ints : ∀ {vs : List Value} {ns : List Int}, IntsAre vs ns → Vals (ns.map V.int) vs
  | _, _, .nil => .nil
  | _, _, .cons n t h => .cons ⟨t, rfl⟩ (vals_ints h)
def Only (H : Hp) : Prop := ∀ b, H b = none ∨ ∃ o xs, H b = some (.frz o (.lst xs))
theorem law_call {P : Program} {w : World} {K : PySem.W.Frag} {mg mb : Str → Option Value} {CX : CXT} {k : Nat} {fa a : Addr} {fd : FuncData} {x : Str} {sp : Sp} {s₁ : Shared} {vs : List Value} {ns : List Int}
    (KX : K.In s₁.heap) (hns : s₁.heap.Ns mainGlobals mg) (hb : s₁.heap.Ns builtinsNs mb) (hbb : ∀ x : Str, x ≠ "__name__" → mb x = bootBuiltins x) (hlim : s₁.heap.NoLimit) (hg : s₁.gens = #[])
    (ha : s₁.heap.get? a = some { cls := .type "list", data := .seq vs.toArray }) (hi : IntsAre vs ns) (hl : ns.length ≤ sizeLine) (hr : Room k callerA)
    (F : ∀ base : Heap, K.In base → base.Ns mainGlobals mg → FnOk P w K mg base CX k fa fd [x] sp) (hbind : ∀ (s : Shared) (u : Value), BindsTo s fd ⟨[u], []⟩ [(x, u)])
    (hsp : ∀ H : Hp, Only H → SqL K H a (ns.map V.int) → sp [.ref a] H (fun v _ => v = .bl true) fun _ _ _ => False)
    (hCX : ∀ H e s', CX [] H s₁ (fun _ _ _ => False) e s' → False) :
    codeAny (model P w) callerA (.call (.ref fa) ⟨[.ref a], []⟩) (fun r s' => r = .ok (.ret (.bool true)) ∧ OldK s₁.heap s'.heap ∧ s'.os = s₁.os ∧ AllBare s'.gens) s₁ := by
  have rv := vals_ints hi
  have lenV := hi.length
  have core : ∀ H : Hp, Only H → SqL K H a (ns.map V.int) → HOk P w H s₁.heap → (∀ b, H b ≠ none → b = a) → (H a ≠ none → K.lookup a = none) →
      codeAny (model P w) callerA (.call (.ref fa) ⟨[.ref a], []⟩) (fun r s' => r = .ok (.ret (.bool true)) ∧ OldK s₁.heap s'.heap ∧ s'.os = s₁.os ∧ AllBare s'.gens) s₁ := by
    intro H hO hS hok hA hK
    have base_of : ∀ {b : Addr} {o : Obj}, s₁.heap.get? b = some o → H b = none → (hidT s₁.heap H).get? b = some o := fun e n => hidT_get e n
    have noA : ∀ {b : Addr} {o : Obj} {es : Array DictEntry} {ep : Nat}, s₁.heap.get? b = some o → o.data = .dict es ep → H b = none := fun {b o es ep} e d => by
      cases q : H b with
      | none => rfl
      | some u =>
        have e' : b = a := hA b (by rw [q]; simp)
        subst e'
        rw [ha] at e; cases e
        have d' : Data.seq vs.toArray _ = Data.dict es ep := d
        cases d'
    have nsK : ∀ {b : Addr} {m : Str → Option Value}, s₁.heap.Ns b m → (hidT s₁.heap H).Ns b m := fun {b m} ⟨o, es, ep, e, d, r⟩ => ⟨o, es, ep, base_of e (noA e d), d, r⟩
    have hKb : K.In (hidT s₁.heap H) := fun b o e => base_of (KX b o e) (by
      cases q : H b with
      | none => rfl
      | some u =>
        have e' : b = a := hA b (by rw [q]; simp)
        subst e'
        rw [hK (by rw [q]; simp)] at e; cases e)
    have hM : Mod K mg (hidT s₁.heap H) := ⟨hKb, nsK hns, ⟨mb, nsK hb, hbb⟩, let ⟨mc, h1, h2⟩ := hlim; ⟨mc, nsK h1, h2⟩⟩
    have e0 : Env0 P w K mg (hidT s₁.heap H) callerA [] s₁ H := ⟨rfl, hM, fun b o e => of_hidT e, Nat.le_of_eq (hidT_size _ _), trivial, fun b hb => absurd (show b ∈ ([] : List Addr) from hb) (by simp), hok, .of_eq hg⟩
    refine codeAny_mono ((F _ hKb (nsK hns)).run callerA [] s₁ H ⟨[.ref a], []⟩ [.ref a] [.ref a] _ _ hr e0 (hbind s₁ (.ref a)) (.cons rfl .nil) (hsp H hO hS)) fun r s' h => ?_
    cases r with
    | error e => exact (hCX H e s' h).elim
    | ok fl =>
      cases fl with
      | next => exact False.elim h
      | brk => exact False.elim h
      | cont => exact False.elim h
      | ret u =>
        obtain ⟨v, H', os, bare, un, hok', r', q⟩ := h
        have q' : v = .bl true := q
        subst q'
        obtain rfl : u = Value.bool true := r'
        refine ⟨rfl, OldK.of_keep fun b o e => ?_, os, bare⟩
        cases q : H b with
        | none => exact un.keep b o e q (by intro z; exact absurd (show b ∈ ([] : List Addr) from z) (by simp)) (by simp)
        | some u =>
          rcases hO b with z | ⟨ob, xs, z⟩
          · rw [q] at z; cases z
          · have z2 := un.frzs b ob _ z
            obtain ⟨e1, _⟩ := hok b _ z
            obtain ⟨e2, _⟩ := hok' b _ z2
            rw [e] at e1; cases e1
            exact e2
  cases hk : K.lookup a with
  | some o =>
    have e := KX a o hk
    rw [ha] at e
    cases e
    refine core (fun _ => none) (fun _ => .inl rfl) (.inr ⟨_, vs.toArray, _, hk, rfl, rfl, rfl, by rw [List.size_toArray, lenV]; exact hl, by simpa using rv⟩) (fun b u z => by have z' : (none : Option HO) = some u := z; cases z') (fun b z => absurd rfl z) fun z => absurd rfl z
  | none =>
    refine core (fun b => if b = a then some (.frz { cls := .type "list", data := .seq vs.toArray } (.lst (ns.map V.int))) else none) (fun b => ?_) (.inl (.inr ⟨{ cls := .type "list", data := .seq vs.toArray }, if_pos rfl⟩)) (fun b u z => ?_) (fun b z => ?_) fun _ => hk
    · by_cases hb : b = a
      · exact .inr ⟨_, _, if_pos hb⟩
      · exact .inl (if_neg hb)
    · by_cases hb : b = a
      · have z' := (if_pos hb).symm.trans z
        cases z'
        subst hb
        exact ⟨ha, by rw [List.length_map]; exact hl, vs, _, rv, ha⟩
      · have z' := (if_neg hb).symm.trans z
        cases z'
    · by_cases hb : b = a
      · exact hb
      · exact absurd (if_neg hb) z
end L2
namespace L2
open PySem PySem.Spec PyProof.Rows
theorem walk_of {l : PySem.W.OpenLaw} {n k : Nat} {q : Program} {loose : List Str} {XP : (Str → Option Value) → Heap → Prop} {YP : World → Heap → Prop} {d : DefRec} {K : Params → PySem.W.Frag} {CX : World → CXT} {sp : World → Sp} {x : Str}
    (hn : l.most = some n) (hn2 : n ≤ sizeLine) (hdf : d.params.defaults = []) (hr : Room k callerA)
    (hY : ∀ (w : World) (h : Heap), YP w h → (K w.params).In h)
    (F : ∀ (w : World) (mg : Str → Option Value) (fa : Addr) (h : Heap), (K w.params).In h → h.Ns mainGlobals mg → mg d.name = some (.ref fa) →
      ∃ fd : FuncData, (∀ (s : Shared) (u : Value), BindsTo s fd ⟨[u], []⟩ [(x, u)]) ∧
        ∀ base : Heap, (K w.params).In base → base.Ns mainGlobals mg → FnOk l.prog w (K w.params) mg base (CX w) k fa fd [x] (sp w))
    (hsp : ∀ (w : World) (H : Hp) (a : Addr) (ns : List Int), ns.length ≤ n → Only H → SqL (K w.params) H a (ns.map V.int) → sp w [.ref a] H (fun v _ => v = .bl true) fun _ _ _ => False)
    (hCX : ∀ (w : World) (H : Hp) (s : Shared) (e : Value) (s' : Shared), CX w [] H s (fun _ _ _ => False) e s' → False) :
    PySem.W.WalkO q loose XP YP l.row.toRowW d [] (fun f vs => PySem.call f vs) := by
  refine Att.attach_call hn hdf fun w s₀ s₁ mg mb fa o pm cd doc a vs ns G Y ho hd hcd hmg hobj hints hlen hg => ?_
  have KX := hY w _ Y
  obtain ⟨fd, hb, hF⟩ := F w mg fa _ KX G.T.g hmg
  exact law_call KX G.T.g G.T.b G.T.builtins G.T.nolimit hg hobj hints (Nat.le_trans hlen hn2) hr hF hb (fun H hO hS => hsp w H a ns hlen hO hS) fun H e s' => hCX w H s₁ e s'
end L2
namespace L2
open PySem PySem.Spec PyProof.Rows
noncomputable def defArgs (s : Stmt) : Arguments := match s with
  | .FunctionDef _ a _ _ _ _ _ _ _ _ => a
  | _ => { posonlyargs := [], args := [], vararg := none, kwonlyargs := [], kw_defaults := [], kwarg := none, defaults := [] }
noncomputable def defBody (s : Stmt) : List Stmt := match s with
  | .FunctionDef _ _ b _ _ _ _ _ _ _ => b
  | _ => []
noncomputable def defScope (s : Stmt) : Scope := match s with
  | .FunctionDef _ _ _ _ _ _ sc _ _ _ => sc
  | _ => { kind := .function, names := [], isGenerator := false, isCoroutine := false }
abbrev CX0 : CXT := fun _ _ _ _ _ _ => False
abbrev E0 : XK := fun _ _ _ => False
theorem pass0 {X : Cx} : Passes CX0 X E0 := fun _ _ _ _ _ _ _ h => h.elim
structure Fun (K : PySem.W.Frag) (x qual : Str) (st : Stmt) (f : Addr) (fd : FuncData) : Prop where
  ex : ∃ (oc : Value) (od : Option Addr) (kV doc pm : Value) (an : Option Addr) (cdv ct : Value) (osl : Array (Option Value)),
    fd = PySem.W.fnOf x qual (defArgs st) (defBody st) (defScope st) .none kV doc pm an cdv ct ∧ K.lookup f = some ⟨oc, od, .func fd, osl⟩ ∧ PySem.W.codeIn K cdv qual = true
  kp : PySem.W.keepIn K (.ref f) = true
section
variable {P : Program} {w : World} {K : PySem.W.Frag} {mg : Str → Option Value} {base : Heap}
theorem Fun.ok {x qual : Str} {st : Stmt} {f : Addr} {fd : FuncData} {N ps : List Str} {k : Nat} {sp : Sp} (F : Fun K x qual st f fd) (S : FnScope N ps (defScope st)) (len : ∀ vs H Q E, sp vs H Q E → vs.length = ps.length)
    (hbody : ∀ (cdv : Value) (A : Around) (outer : List Env) (s : Shared) (H : Hp) (vs : List V) (Q : VK) (E : XK), Room k (A.deeper (envOfC qual (defScope st) s.heap.objs.size f cdv)) → sp vs H Q E →
      ∃ t, PSs (cxOf CX0 P w K mg base N qual (defScope st) f cdv A outer s H E).nox (defBody st) t ∧ t { nx := fun _ H' => Q .non H', rt := Q } (start N vs) H) : FnOk P w K mg base CX0 (k + 1) f fd ps sp := by
  obtain ⟨oc, od, kV, doc, pm, an, cdv, ct, osl, rfl, lk, hcd⟩ := F.ex
  refine fn_of lk hcd S len fun A outer s H vs Q E hr hsp => ?_
  obtain ⟨t, h, q⟩ := hbody cdv A outer s H vs Q E hr hsp
  exact ⟨t, h.nox, q⟩
theorem Fun.binds {x qual : Str} {st : Stmt} {f : Addr} {fd : FuncData} {ps : List Str} (F : Fun K x qual st f fd)
    (h : ∀ (kV doc pm : Value) (an : Option Addr) (cdv ct : Value) (us : List Value), us.length = ps.length → bindArgs (PySem.W.fnOf x qual (defArgs st) (defBody st) (defScope st) .none kV doc pm an cdv ct) ⟨us, []⟩ = pure (ps.zip us)) : Binds K fd ps [] := by
  obtain ⟨oc, od, kV, doc, pm, an, cdv, ct, osl, rfl, lk, hcd⟩ := F.ex
  exact .all (h kV doc pm an cdv ct)
theorem fun_mk {x qual : Str} {st : Stmt} {f : Addr} {oc : Value} {od an : Option Addr} {osl : Array (Option Value)} {kV doc pm cdv ct : Value} (l : K.lookup f = some ⟨oc, od, .func (PySem.W.fnOf x qual (defArgs st) (defBody st) (defScope st) .none kV doc pm an cdv ct), osl⟩)
    (c : PySem.W.codeIn K cdv qual = true) (k : PySem.W.keepIn K (.ref f) = true) : Fun K x qual st f (PySem.W.fnOf x qual (defArgs st) (defBody st) (defScope st) .none kV doc pm an cdv ct) := ⟨⟨oc, od, kV, doc, pm, an, cdv, ct, osl, rfl, l, c⟩, k⟩
end
theorem hu_of {A : Around} {k : Nat} (hr : Room k A) : A.units + 1 < cLine := Nat.lt_of_le_of_lt (Nat.add_le_add_left (by decide : 1 ≤ 64) _) hr.units
section
variable {X : Cx}
theorem pv (i : Nat) {x : Str} {pos : Pos} (hN : X.N[i]? = some x := by rfl) (hv : Vis X.env.scope x := by first | exact Or.inl rfl | exact Or.inr (Or.inl rfl) | exact Or.inr (Or.inr rfl)) (hd : (x == ("__debug__" : Str)) = false := by decide)
    (hcd : (x == ("__classdict__" : Str)) = false := by decide) : PE X (.Name x pos) (tVar i) := pe_var hN hv hd hcd
end
theorem ite2 {c A B : Prop} [Decidable c] (h1 : c → A) (h2 : ¬ c → B) : if c then A else B := by
  by_cases h : c
  · rw [if_pos h]
    exact h1 h
  · rw [if_neg h]
    exact h2 h
def Same (H H' : Hp) : Prop := ∀ b o, H b = some o → H' b = some o
theorem Same.trans {H H1 H2 : Hp} (a : Same H H1) (b : Same H1 H2) : Same H H2 := fun c o h => b c o (a c o h)
theorem Same.seq {K : PySem.W.Frag} {H H' : Hp} {a : Addr} {xs : List V} (e : Same H H') (h : SqL K H a xs) : SqL K H' a xs := by
  rcases h with (h | ⟨o, h⟩) | h
  · exact .inl (.inl (e _ _ h))
  · exact .inl (.inr ⟨o, e _ _ h⟩)
  · exact .inr h
end L2
end
namespace L2
section
variable {κ : Type} [DecidableEq κ]
theorem KV.length {kvs : List (κ × V)} {vs : List (κ × Value)} (r : KV kvs vs) : kvs.length = vs.length := Paired.length r
end
section
variable {P : Program} {w : World} {H : Hp} {h : Heap} {a : Addr}
theorem rd_of {u : HO} (ok : HOk P w H h) (e : Rd H a u) : ObjOk P w H h a u := e.ok ok
theorem dk_rd {kvs : List (Key × V)} (ok : HOk P w H h) (e : Rd H a (.dK kvs)) : kvs.length ≤ sizeLine ∧ (a == sysModules) = false ∧ ∃ vs, KV kvs vs ∧ h.DictOf (mixKind P w) a vs :=
  show ObjOk P w H h a (.dK kvs) from rd_of ok e
end
section
variable {X : Cx} {pZ : List (Addr × Obj)} {σ : St} {H : Hp} {s : Shared} {a : Addr} {kvs : List (Key × V)} {k : Key} {u : Value} {A : Around} {E : Value → Shared → Prop}
theorem d_len {Q : Value → Shared → Prop} (I : Inv X pZ σ H s) (e : Rd H a (.dK kvs)) (h : ∀ t s', Inv X pZ σ H s' → Q (.int kvs.length t) s') : wpAny (model X.prog X.w) A (call (.builtin "len") [.ref a]) Q E s := by
  obtain ⟨z, hd, vs, rel, dd⟩ := dk_rd I.hok e
  refine call_len_dict hd dd (by rw [← rel.length]; rw [sizeLine_eq] at z; omega) ?_
  rw [← rel.length]
  exact h _ _ (I.tok _)
end
noncomputable def clStep (cells : List (Str × Addr)) (cs : List (Str × Addr)) (p : Str × NameKind) : List (Str × Addr) :=
  if p.2 == .free then (match cells.lookup p.1 with | some c => (p.1, c) :: cs | none => cs) else cs
noncomputable def clOf (names : List (Str × NameKind)) (cells : List (Str × Addr)) : List (Str × Addr) := names.foldl (clStep cells) []
theorem closure_fold (env : Env) : ∀ (names : List (Str × NameKind)) (cs : List (Str × Addr)), (∀ p ∈ names, p.2 = .free → ∃ c, env.cells.lookup p.1 = some c) →
    (forIn names cs fun (p : Str × NameKind) r => (if (p.2 == .free) = true then do let a ← cellOf env p.1; pure (ForInStep.yield ((p.1, a) :: r)) else pure (ForInStep.yield r) : Sem (ForInStep (List (Str × Addr))))) = pure (names.foldl (clStep env.cells) cs)
  | [], cs, _ => rfl
  | p :: r, cs, h => by
    have ih := fun cs' => closure_fold env r cs' fun q hq => h q (List.mem_cons_of_mem _ hq)
    rw [List.forIn_cons]
    by_cases hp : (p.2 == .free) = true
    · obtain ⟨c, hc⟩ := h p List.mem_cons_self (by simpa using hp)
      have e : clStep env.cells cs p = (p.1, c) :: cs := by unfold clStep; rw [if_pos hp, hc]
      have e2 : cellOf env p.1 = pure c := by unfold cellOf; rw [hc]
      rw [if_pos hp, e2, List.foldl_cons, e]
      exact ih _
    · have e : clStep env.cells cs p = cs := by unfold clStep; rw [if_neg hp]
      rw [if_neg hp, List.foldl_cons, e]
      exact ih _
theorem closure_is {scope : Scope} {env : Env} (h : ∀ p ∈ scope.names, p.2 = .free → ∃ c, env.cells.lookup p.1 = some c) : closureFor scope env = pure (clOf scope.names env.cells) := by
  have q := closure_fold env scope.names [] h
  unfold closureFor
  show (forIn scope.names [] _ >>= fun cs => pure cs) = _
  have e : ∀ m : Sem (List (Str × Addr)), (m >>= fun cs => pure cs) = m := fun m => bind_pure m
  rw [e]
  exact q
theorem cl_sound (cells : List (Str × Addr)) : ∀ (names : List (Str × NameKind)) (cs : List (Str × Addr)), (∀ x c, cs.lookup x = some c → cells.lookup x = some c) → ∀ x c, (names.foldl (clStep cells) cs).lookup x = some c → cells.lookup x = some c
  | [], _, h => h
  | p :: r, cs, h => cl_sound cells r _ (fun x c e => by
    unfold clStep at e
    split at e
    · split at e
      · rename_i c' hc'
        rw [List.lookup_cons] at e
        split at e
        · rename_i hx
          have hx' : x = p.1 := by simpa using hx
          cases e; rw [hx']; exact hc'
        · exact h x c e
      · exact h x c e
    · exact h x c e)
theorem cl_keeps (cells : List (Str × Addr)) : ∀ (names : List (Str × NameKind)) (cs : List (Str × Addr)) (x : Str), (∃ c, cs.lookup x = some c) → ∃ c, (names.foldl (clStep cells) cs).lookup x = some c
  | [], _, _, h => h
  | p :: r, cs, x, h => cl_keeps cells r _ x (by
    unfold clStep
    split
    · split
      · rw [List.lookup_cons]
        split
        · exact ⟨_, rfl⟩
        · exact h
      · exact h
    · exact h)
theorem cl_has (cells : List (Str × Addr)) : ∀ (names : List (Str × NameKind)) (cs : List (Str × Addr)) (x : Str), (x, NameKind.free) ∈ names → (∃ c, cells.lookup x = some c) → ∃ c, (names.foldl (clStep cells) cs).lookup x = some c
  | [], _, _, h, _ => by simp at h
  | p :: r, cs, x, h, hc => by
    rcases List.mem_cons.mp h with e | e
    · subst e
      refine cl_keeps cells r _ x ?_
      obtain ⟨c, hc⟩ := hc
      unfold clStep
      rw [if_pos (by rfl), hc]
      exact ⟨c, by rw [List.lookup_cons]; simp⟩
    · exact cl_has cells r _ x e hc
noncomputable def cxC (X : Cx) (scope : Scope) (N : List Str) (s₀ : Shared) (H₀ : Hp) (ex : List Addr) (pn : List (Addr × Obj)) : Cx :=
  { prog := X.prog, w := X.w, K := X.K, mg := X.mg, base := X.base, A := X.A, N := N, s₀ := s₀, H₀ := H₀, env := compEnvC scope (clOf scope.names X.env.cells) s₀.heap.objs.size X.env, outer := X.stack, stack := X.stack, ex := ex, fn := fun _ => false, calm := true, pn := pn, xe := fun _ _ => False }
noncomputable def capSt (js : List (Option Nat)) (σ : St) : St := js.map fun o => match o with | some j => (σ[j]?).getD none | none => none
def PTs (X : Cx) (ifs : List Expr) (t : TT) : Prop :=
  ∀ (pZ : List (Addr × Obj)) (s : Shared) (σ : St) (H : Hp) (Q : Bool → Hp → Prop), Inv X pZ σ H s → t σ H Q →
    wpAny (model X.prog X.w) X.A (forIn ifs true fun c r => if r = true then do let ok ← isTrue c X.env (eval c X.env); pure (ForInStep.yield ok) else pure (ForInStep.yield r)) (TP X pZ σ Q) X.xe s
def tNoIf : TT := fun _ H Q => Q true H
theorem pts_nil {X : Cx} : PTs X [] tNoIf := fun pZ s σ H Q I h => wpAny_tests_nil ⟨H, I, h⟩
theorem pts_one {X : Cx} {c : Expr} {t : TT} (h : PT X c t) : PTs X [c] t := fun pZ s σ H Q I hw => wpAny_tests_one (h pZ s σ H Q I hw)
theorem comp_loop {prog : Program} {w : World} {A : Around} {R : Result → Shared → Prop} {s : Shared} {elt target iter : Expr} {ifs : List Expr} {scope : Scope} {pos : Pos} {it acc : Value} {env : Env} (I : Nat → Shared → Prop)
    (turn : ∀ n s, I n s → wpAny (model prog w) A (pyNext it) (fun r s₁ => match r with
      | none => R (.ok .next) s₁
      | some v => wpAny (model prog w) A (letOwnedTupleGo target it v) (fun _ s₁' => wpAny (model prog w) A (assign target env v) (fun _ s₂ =>
          wpAny (model prog w) A (forIn ifs true fun c r => if r = true then do let ok ← isTrue c env (eval c env); pure (ForInStep.yield ok) else pure (ForInStep.yield r)) (fun ok s₃ =>
            if ok = true then wpAny (model prog w) A (eval elt env) (fun x s₄ =>
              wpAny (model prog w) A (call (.builtin "list.append") [acc, x]) (fun _ s₅ => ∃ m, m < n ∧ I m s₅) (fun _ _ => False) s₄) (fun _ _ => False) s₃
            else ∃ m, m < n ∧ I m s₃) (fun _ _ => False) s₂) (fun _ _ => False) s₁') (fun _ _ => False) s₁) (fun _ _ => False) s)
    (n : Nat) (h : I n s) :
    codeAny (model prog w) A (.compLoop (.ListComp elt [⟨target, iter, ifs, 0⟩] scope pos) 0 it acc env) R s := by
  refine codeAny_loop rfl I (fun n s hI => ?_) n h
  show wpAny _ A ((compTurn (.ListComp elt [⟨target, iter, ifs, 0⟩] scope pos) 0 it acc env).onRaise (fun x => do noteFrame x env; theTreesLotGoes x)) _ _ s
  refine wpAny_noted ?_
  refine wpAny_mono (E := fun _ _ => False) ?_ (fun _ _ q => q) fun _ _ q => q.elim
  rw [compTurn_list]
  refine wpAny_bind (wpAny_standAt (wpAny_bind (thn (turn n s hI) fun r s₁ h₁ => ?_)))
  cases r with
  | none => exact wpAny_pure h₁
  | some v =>
    refine wpAny_bind (thn h₁ fun _ s₁' h₁' => ?_)
    refine wpAny_bind (thn h₁' fun _ s₂ h₂ => wpAny_bind (thn h₂ fun ok s₃ h₃ => ?_))
    cases ok with
    | false => exact wpAny_pure ⟨rfl, h₃⟩
    | true => exact wpAny_bind (wpAny_bind (thn h₃ fun x s₄ h₄ => wpAny_bind (thn h₄ fun _ s₅ h₅ => wpAny_pure (wpAny_pure ⟨rfl, h₅⟩))))
def LcW (J : It) (D : Addr) (g : TG) (tt : TT) (te : TE) (Q : VK) (σ0 : St) (H1 : Hp) : Prop :=
  ∃ W : Nat → Nat → St → Hp → Prop, (∃ m, W 0 m σ0 (upd H1 D (.lst []))) ∧ ∀ i m σ' H', W i m σ' H' →
    (J.stop i H' ∧ Q (.ref D) H') ∨ (J.go i H' ∧ ∀ x H2, J.yld i H' x H2 → g x σ' H2 fun σ2 H3 => tt σ2 H3 fun ok H4 =>
      if ok = true then te σ2 H4 fun y H5 => ∃ ys, H5 D = some (.lst ys) ∧ ys.length < sizeLine ∧ ∃ m', m' < m ∧ W (i + 1) m' σ2 (upd H5 D (.lst (ys ++ [y])))
      else ∃ m', m' < m ∧ W (i + 1) m' σ2 H4)
noncomputable def tLC (js : List (Option Nat)) (wi : TI) (g : TG) (tt : TT) (te : TE) : TE := fun σ H Q => wi σ H fun J H1 => ∀ D, H1 D = none → LcW J D g tt te Q (capSt js σ) H1
structure LcScope (X : Cx) (scope : Scope) (N : List Str) (js : List (Option Nat)) : Prop where
  kind : scope.kind = .function
  nocell : ∀ y ∈ scope.names, y.2 ≠ .cell
  names : ∀ y ∈ scope.names, y.2 = .local → scope.names.lookup y.1 = some .local
  free : ∀ y ∈ scope.names, y.2 = .free → X.env.scope.names.lookup y.1 = some .cell ∨ X.env.scope.names.lookup y.1 = some .free
  len : js.length = N.length
  cap : ∀ (i : Nat) (y : Str) (j : Nat), N[i]? = some y → js[i]? = some (some j) → X.N[j]? = some y ∧ scope.names.lookup y = some .free
noncomputable def relF (env : Env) (p : Str × NameKind) : Str × NameKind := if (p.2 == NameKind.free && env.scope.kind == .function && env.kindOf p.1 == some .cell) then (p.1, NameKind.cell) else (p.1, p.2)
theorem relF_fst (env : Env) (p : Str × NameKind) : (relF env p).1 = p.1 := by unfold relF; split <;> rfl
theorem rel_free {env : Env} : ∀ {names : List (Str × NameKind)} {x : Str}, names.lookup x = some .free → (names.map (relF env)).lookup x = some .cell ∨ (names.map (relF env)).lookup x = some .free
  | [], _, h => by simp at h
  | p :: r, x, h => by
    rw [List.map_cons, List.lookup_cons, relF_fst]
    rw [List.lookup_cons] at h
    cases hx : x == p.1 with
    | true =>
      rw [hx] at h
      have h' : p.2 = .free := by simpa using h
      have e : (relF env p).2 = .cell ∨ (relF env p).2 = .free := by
        unfold relF
        split
        · exact .inl rfl
        · exact .inr h'
      rcases e with e | e
      · exact .inl (congrArg some e)
      · exact .inr (congrArg some e)
    | false =>
      rw [hx] at h
      exact rel_free (env := env) h
theorem rel_back {env : Env} : ∀ {names : List (Str × NameKind)} {x : Str}, ((names.map (relF env)).lookup x = some .cell ∨ (names.map (relF env)).lookup x = some .free) → (x, NameKind.free) ∈ names ∨ (x, NameKind.cell) ∈ names
  | [], _, h => by simp at h
  | p :: r, x, h => by
    rw [List.map_cons, List.lookup_cons, relF_fst] at h
    cases hx : x == p.1 with
    | true =>
      rw [hx] at h
      have hx' : x = p.1 := by simpa using hx
      have h2 : (relF env p).2 = .cell ∨ (relF env p).2 = .free := h.elim (fun z => .inl (Option.some.inj z)) fun z => .inr (Option.some.inj z)
      have e : p.2 = .free ∨ p.2 = .cell := by
        by_cases hc : (p.2 == NameKind.free && env.scope.kind == .function && env.kindOf p.1 == some .cell) = true
        · simp only [Bool.and_eq_true] at hc
          exact .inl (by simpa using hc.1.1)
        · have e2 : relF env p = (p.1, p.2) := by unfold relF; rw [if_neg hc]
          rw [e2] at h2
          exact h2.symm
      rcases e with e | e
      · exact .inl (by rw [hx', ← e]; exact List.mem_cons_self)
      · exact .inr (by rw [hx', ← e]; exact List.mem_cons_self)
    | false =>
      rw [hx] at h
      rcases rel_back h with q | q
      · exact .inl (List.mem_cons_of_mem _ q)
      · exact .inr (List.mem_cons_of_mem _ q)
section
variable {X : Cx} {pZ : List (Addr × Obj)} {σ : St} {H : Hp} {s : Shared} {scope : Scope} {N : List Str} {js : List (Option Nat)} {fp : List Addr}
theorem LcScope.clos (L : LcScope X scope N js) (ok : X.Ok) : ∀ p ∈ scope.names, p.2 = .free → ∃ c, X.env.cells.lookup p.1 = some c := fun p hp hf => ok.has p.1 (L.free p hp hf)
theorem LcScope.ok (L : LcScope X scope N js) (I : Inv X pZ σ H s) (hc : X.calm = true) (hf : ∀ b ∈ fp, FpOk X pZ H b) (ho : ∀ b ∈ fp, ∃ o, s.heap.get? b = some o) : (cxC X scope N s H fp (X.pn ++ pZ)).Ok where
  mod := I.ok.mod
  kind := L.kind
  glob := I.ok.glob
  blt := I.ok.blt
  above := Nat.le_refl _
  inj := fun x y c h1 h2 => I.ok.inj x y c (cl_sound _ _ _ (fun _ _ e => by simp at e) x c h1) (cl_sound _ _ _ (fun _ _ e => by simp at e) y c h2)
  has := fun x hx => by
    have hx' : (scope.names.map (relF X.env)).lookup x = some .cell ∨ (scope.names.map (relF X.env)).lookup x = some .free := hx
    rcases rel_back hx' with q | q
    · exact cl_has _ _ _ x q (L.clos I.ok _ q rfl)
    · exact absurd rfl (L.nocell _ q)
  cab := fun x c h _ => by cases h
  hd := fun _ => I.ok.hd hc
  frames := I.ok.frames
  stk := .inl rfl
  exf := fun b hb => by
    obtain ⟨o, e⟩ := ho b hb
    refine ⟨Nat.ne_of_lt (Heap.lt_size e), fun x c h => (hf b hb).2.2.2.2.1 x c (cl_sound _ _ _ (fun _ _ e => by simp at e) x c h)⟩
  bs := I.bs
  bsz := Nat.le_trans I.ok.bsz I.sz
  noex := fun b o e hb => by
    rcases (hf b hb).2.2.2.1 with z | z
    · exact I.ok.noex b o e z
    · exact absurd (Nat.lt_of_lt_of_le (Heap.lt_size e) (Nat.le_trans I.ok.bsz z)) (Nat.lt_irrefl _)
  exfs := fun b hb z => by
    rcases List.mem_cons.mp (I.stkSub b z) with e | e
    · exact (hf b hb).2.1 e
    · exact (hf b hb).2.2.1 e
  funs := I.stack
  frf := I.stkFree
theorem LcScope.start (L : LcScope X scope N js) (I : Inv X pZ σ H s) (hc : X.calm = true) (hf : ∀ b ∈ fp, FpOk X pZ H b) (ho : ∀ b ∈ fp, ∃ o, s.heap.get? b = some o) {h' : Heap} {tk : Nat}
    (hn : h'.Ns s.heap.objs.size (fun _ => none)) (hk : ∀ b o, s.heap.get? b = some o → h'.get? b = some o) :
    Inv (cxC X scope N s H fp (X.pn ++ pZ)) [] (capSt js σ) H { s with heap := h', toks := tk } := by
  refine ⟨L.ok I hc hf ho, rfl, I.bare, Un.kept hk, ⟨_, hn, fun i y v e1 e2 e3 => ?_⟩, fun x c e => ?_, I.hok.fresh (Nat.le_refl _), fun x c e => ?_, fun p hp => ?_, I.hok.kept hk, ?_⟩
  · unfold capSt at e2
    rw [List.getElem?_map] at e2
    cases ej : js[i]? with
    | none => rw [ej] at e2; cases e2
    | some o =>
      rw [ej] at e2
      cases o with
      | none => simp at e2
      | some j =>
        simp only [Option.map_some, Option.some.injEq] at e2
        have es : σ[j]? = some (some v) := by
          cases q : σ[j]? with
          | none => rw [q] at e2; simp at e2
          | some z => rw [q] at e2; simp at e2; rw [e2]
        obtain ⟨en, ef⟩ := L.cap i y j e1 ej
        have em : (y, NameKind.free) ∈ scope.names := PySem.mem_of_lookup ef
        have ek := L.free _ em rfl
        obtain ⟨m, _, hl⟩ := I.loc
        obtain ⟨u, r, l⟩ := hl j y v en es (ek.elim (fun z => .inr (.inl z)) fun z => .inr (.inr z))
        refine ⟨u, r, .inr ⟨rel_free ef, ?_⟩⟩
        rcases l with ⟨l, _⟩ | ⟨_, c, ec, z⟩
        · have l' : X.env.scope.names.lookup y = some .local := l
          rcases ek with ek | ek <;> (rw [ek] at l'; cases l')
        · obtain ⟨c', hc'⟩ := cl_has X.env.cells scope.names [] y em ⟨c, ec⟩
          have e' := cl_sound X.env.cells scope.names [] (fun _ _ e => by simp at e) y c' hc'
          rw [ec] at e'; cases e'
          obtain ⟨o, ho, hd⟩ := z
          exact ⟨c, hc', ⟨o, hk c o ho, hd⟩⟩
  · obtain ⟨v, o, ho, hd⟩ := I.cell x c (cl_sound _ _ _ (fun _ _ e => by simp at e) x c e)
    exact ⟨v, o, hk c o ho, hd⟩
  · exact I.freeC x c (cl_sound _ _ _ (fun _ _ e => by simp at e) x c e)
  · have hp' : p ∈ X.pn ++ pZ := by simpa [cxC] using hp
    obtain ⟨e, n, ne, nf, d⟩ := I.pin p hp'
    refine ⟨hk _ _ e, n, Nat.ne_of_lt (Heap.lt_size e), fun z => ?_, d⟩
    rcases List.mem_cons.mp (I.stkSub _ z) with q | q
    · exact ne q
    · exact nf q
  · unfold capSt
    rw [List.length_map]
    exact L.len
theorem lc_end {σ' : St} {H' : Hp} {s' : Shared} {ps : List (Addr × Obj)} (I : Inv X pZ σ H s) (hf : ∀ b ∈ fp, FpOk X pZ H b) (J : Inv (cxC X scope N s H fp (X.pn ++ pZ)) ps σ' H' s') :
    Inv X pZ σ H' s' ∧ FpOk X pZ H' s.heap.objs.size ∧ ∃ m, s'.heap.Ns s.heap.objs.size m := by
  refine ⟨I.call' (ch := fp) J.os J.base J.hok J.bare fun b hb => ⟨(hf b hb).2.2.2.1, (hf b hb).2.1, (hf b hb).2.2.2.2.1, (hf b hb).2.2.2.2.2⟩, I.fpOk (Nat.le_refl _) J.free, ?_⟩
  obtain ⟨m, hn, _⟩ := J.loc
  exact ⟨m, hn⟩
theorem Inv.gone {H' : Hp} {s' : Shared} {C : Addr} {h' : Heap} {m : Str → Option Value} (I : Inv X pZ σ H' s') (f : FpOk X pZ H' C) (hs : Heap.SameBut C s'.heap h') : Inv X pZ σ H' { s' with heap := h' } :=
  I.turned (t' := s'.toks) (it := C) (fun b o hb e => (hs.2 b hb).trans e) f.1 f.2.1 f.2.2.2.1 f.2.2.2.2.1 f.2.2.2.2.2
theorem lc_loop {elt target iter : Expr} {ifs : List Expr} {pos : Pos} {g : TG} {tt : TT} {te : TE} {it : Addr} {tn : Nat → Heap → Prop} {J : It} {Q : VK} {R : Value → Addr → Result → Shared → Prop}
    (L : LcScope X scope N js) (hc : X.calm = true)
    (hg : ∀ s₀ H₀ ex pn, PG (cxC X scope N s₀ H₀ ex pn) target g) (ht : ∀ s₀ H₀ ex pn, PTs (cxC X scope N s₀ H₀ ex pn) ifs tt) (he : ∀ s₀ H₀ ex pn, PE (cxC X scope N s₀ H₀ ex pn) elt te)
    (I : Inv X pZ σ H s) (T : Turn X.prog X.w X.K target J fp it tn) (st : tn 0 s.heap) (hf : ∀ b ∈ fp, FpOk X pZ H b)
    {D : Addr} {s3 : Shared} {h₁ : Heap} {tk : Nat} (I3 : Inv X pZ σ (upd H D (.lst [])) s3) (hDl : ∀ b o, s.heap.get? b = some o → b ≠ D) (k3 : ∀ b o, s.heap.get? b = some o → s3.heap.get? b = some o)
    (hns₁ : h₁.Ns s3.heap.objs.size (fun _ => none)) (kk : ∀ b o, s3.heap.get? b = some o → h₁.get? b = some o)
    (w : ∃ W : Nat → Nat → St → Hp → Prop, (∃ m, W 0 m (capSt js σ) (upd H D (.lst []))) ∧ ∀ i m σ' H', W i m σ' H' →
      (J.stop i H' ∧ Q (.ref D) H') ∨ (J.go i H' ∧ ∀ x H2, J.yld i H' x H2 → g x σ' H2 fun σ2 H3 => tt σ2 H3 fun ok H4 =>
        if ok = true then te σ2 H4 fun y H5 => ∃ ys, H5 D = some (.lst ys) ∧ ys.length < sizeLine ∧ ∃ m', m' < m ∧ W (i + 1) m' σ2 (upd H5 D (.lst (ys ++ [y])))
        else ∃ m', m' < m ∧ W (i + 1) m' σ2 H4))
    (hR : ∀ C s' H', Inv X pZ σ H' s' → FpOk X pZ H' C → (∃ m, s'.heap.Ns C m) → Q (.ref D) H' → R (.ref D) C (.ok .next) s') :
    codeAny (model X.prog X.w) X.A (.compStart (.ListComp elt [⟨target, iter, ifs, 0⟩] scope pos) 0 (.ref it) (.ref D) { newEnv scope s3.heap.objs.size X.env.globals (clOf scope.names X.env.cells) X.env.qual none .none (some X.env) builtinsNs with scope := relabel scope X.env }) (R (.ref D) s3.heap.objs.size) { s3 with heap := h₁, toks := tk } := by
  have obj := T.obj 0 s.heap st
  have ho3 : ∀ b ∈ fp, ∃ o, s3.heap.get? b = some o := fun b hb => by obtain ⟨o, e, _⟩ := obj b hb; exact ⟨o, k3 b o e⟩
  have hf3 : ∀ b ∈ fp, FpOk X pZ (upd H D (.lst [])) b := fun b hb => by
    refine ⟨?_, (hf b hb).2⟩
    obtain ⟨o, e, _⟩ := obj b hb
    rw [upd_ne (hDl b o e)]
    exact (hf b hb).1
  have I4 : Inv (cxC X scope N s3 (upd H D (.lst [])) fp (X.pn ++ pZ)) [] (capSt js σ) (upd H D (.lst [])) { s3 with heap := h₁, toks := tk } :=
    L.start I3 hc hf3 ho3 hns₁ kk
  obtain ⟨W, ⟨m0, w0⟩, turn⟩ := w
  have st4 : tn 0 h₁ := T.keep 0 _ _ st fun b _ o e => kk b o (k3 b o e)
  generalize hX : cxC X scope N s3 (upd H D (.lst [])) fp (X.pn ++ pZ) = Y at I4
  have fpY : ∀ b ∈ fp, b ≠ Y.env.locals ∧ b ∉ Y.fs ∧ (b ∈ Y.ex ∨ Y.s₀.heap.objs.size ≤ b) ∧ (∀ x c, Y.env.cells.lookup x = some c → c ≠ b) ∧ ∀ p ∈ Y.pn ++ [], p.1 ≠ b := fun b hb => by
    rw [← hX]
    obtain ⟨o, e⟩ := ho3 b hb
    refine ⟨Nat.ne_of_lt (Heap.lt_size e), fun z => ?_, .inl hb, fun x c h => (hf b hb).2.2.2.2.1 x c (cl_sound _ _ _ (fun _ _ e => by simp at e) x c h), fun p hp => (hf b hb).2.2.2.2.2 p (by simpa [cxC] using hp)⟩
    rcases List.mem_cons.mp (I3.stkSub b z) with q | q
    · exact (hf b hb).2.1 q
    · exact (hf b hb).2.2.1 q
  have loop : codeAny (model X.prog X.w) X.A (.compLoop (.ListComp elt [⟨target, iter, ifs, 0⟩] scope pos) 0 (.ref it) (.ref D) Y.env) (R (.ref D) s3.heap.objs.size) { s3 with heap := h₁, toks := tk } := by
    have pr : Y.prog = X.prog := by rw [← hX]; rfl
    have pw : Y.w = X.w := by rw [← hX]; rfl
    have pK : Y.K = X.K := by rw [← hX]; rfl
    have pA : Y.A = X.A := by rw [← hX]; rfl
    have pc : Y.calm = true := by rw [← hX]; rfl
    have px : Y.xe = fun _ _ => False := by rw [← hX]; rfl
    have stat : ∀ {H' : Hp}, (∀ b ∈ fp, H' b = none) → ∀ b ∈ fp, FpOk Y [] H' b := fun hn b hb => ⟨hn b hb, fpY b hb⟩
    refine comp_loop (fun n s' => ∃ i σ' H', Inv Y [] σ' H' s' ∧ tn i s'.heap ∧ (∀ b ∈ fp, H' b = none) ∧ W i n σ' H') ?_ m0 ⟨0, _, _, I4, st4, fun b hb => (hf3 b hb).1, w0⟩
    rintro n s5 ⟨i, σ5, H5, I5, st5, fr5, w5⟩
    have gY : PG Y target g := by rw [← hX]; exact hg _ _ _ _
    have tY : PTs Y ifs tt := by rw [← hX]; exact ht _ _ _ _
    have eY : PE Y elt te := by rw [← hX]; exact he _ _ _ _
    unfold PG at gY; unfold PTs at tY; unfold PE at eY
    rw [pr, pw, pA, px] at gY tY eY
    have ap := mt_append (X := Y)
    unfold MtM at ap
    rw [pr, pw, pA, px] at ap
    rcases turn i n σ5 H5 w5 with ⟨stop, q⟩ | ⟨go, step⟩
    · have d := T.done Y pr pw pK pc i [] s5 σ5 H5 (fun _ _ => False) I5 (stat fr5) st5 stop
      rw [pA] at d
      refine thn d fun r s6 ⟨hr, I6⟩ => ?_
      subst hr
      have I6' : Inv (cxC X scope N s3 (upd H D (.lst [])) fp (X.pn ++ pZ)) [] σ5 H5 s6 := by rw [hX]; exact I6
      obtain ⟨a1, a2, a3⟩ := lc_end I3 hf3 I6'
      exact hR _ s6 H5 a1 a2 a3 q
    · have d := T.item Y pr pw pK pc i [] s5 σ5 H5 (fun _ _ => False) I5 (stat fr5) st5 go
      rw [pA] at d
      refine thn d fun r s6 ⟨u, hr, h6⟩ => ?_
      subst hr
      refine thn h6 fun _ s7 ⟨x, H7, I7, r7, y7, st7, fr7⟩ => ?_
      have I7' := I7.pinned (stat fr7) (T.obj _ _ st7)
      refine thn (gY _ s7 σ5 H7 x u _ I7' r7 (step x H7 y7)) fun _ s8 ⟨σ8, H8, I8, q8⟩ => ?_
      have again : ∀ {σ9 : St} {H9 : Hp} {s9 : Shared}, Inv Y ([] ++ pinsAt fp s7.heap) σ9 H9 s9 → (∃ m', m' < n ∧ W (i + 1) m' σ9 H9) → ∃ m, m < n ∧ ∃ i σ' H', Inv Y [] σ' H' s9 ∧ tn i s9.heap ∧ (∀ b ∈ fp, H' b = none) ∧ W i m σ' H' := fun {σ9 H9 s9} I9 ⟨m', hm, w9⟩ => by
        refine ⟨m', hm, i + 1, σ9, H9, I9.unpinned, T.keep _ _ _ st7 fun b hb o e => (I9.pin (b, o) (List.mem_append_right _ (List.mem_append_right _ (mem_pinsAt hb e)))).1, fun b hb => ?_, w9⟩
        obtain ⟨o, e, d⟩ := T.obj _ _ st7 b hb
        exact (I9.pin (b, o) (List.mem_append_right _ (List.mem_append_right _ (mem_pinsAt hb e)))).2.1
      refine thn (tY _ s8 σ8 H8 _ I8 q8) fun ok s9 ⟨H9, I9, q9⟩ => ?_
      cases ok with
      | false =>
        rw [if_neg (by decide)] at q9
        rw [if_neg (by decide)]
        exact again I9 q9
      | true =>
        rw [if_pos rfl] at q9
        rw [if_pos rfl]
        refine thn (eY _ s9 σ8 H9 _ I9 q9) fun v s10 ⟨y, H10, I10, r10, ys, eys, lys, q10⟩ => ?_
        refine thn (ap _ s10 σ8 H10 (.ref D) [y] (.ref D) [v] (fun _ H' => ∃ m', m' < n ∧ W (i + 1) m' σ8 H') I10 rfl (.cons r10 .nil) ⟨D, ys, y, rfl, rfl, eys, lys, q10⟩) fun v2 s11 ⟨y2, H11, I11, _, q11⟩ => ?_
        exact again I11 q11
  have ee : ({ newEnv scope s3.heap.objs.size X.env.globals (clOf scope.names X.env.cells) X.env.qual none .none (some X.env) builtinsNs with scope := relabel scope X.env } : Env) = Y.env := by rw [← hX]; rfl
  rw [ee]
  exact codeAny_compStart_list loop (T.self _ 0 _ _ _ st4 loop)
theorem lc_block {elt target iter : Expr} {ifs : List Expr} {pos : Pos} {g : TG} {tt : TT} {te : TE} {it : Addr} {tn : Nat → Heap → Prop} {J : It} {Q : VK} {E : Value → Shared → Prop} {R : Value → Addr → Result → Shared → Prop}
    (L : LcScope X scope N js) (hc : X.calm = true)
    (hg : ∀ s₀ H₀ ex pn, PG (cxC X scope N s₀ H₀ ex pn) target g) (ht : ∀ s₀ H₀ ex pn, PTs (cxC X scope N s₀ H₀ ex pn) ifs tt) (he : ∀ s₀ H₀ ex pn, PE (cxC X scope N s₀ H₀ ex pn) elt te)
    (I : Inv X pZ σ H s) (T : Turn X.prog X.w X.K target J fp it tn) (st : tn 0 s.heap) (hf : ∀ b ∈ fp, FpOk X pZ H b)
    (w : ∀ D, H D = none → ∃ W : Nat → Nat → St → Hp → Prop, (∃ m, W 0 m (capSt js σ) (upd H D (.lst []))) ∧ ∀ i m σ' H', W i m σ' H' →
      (J.stop i H' ∧ Q (.ref D) H') ∨ (J.go i H' ∧ ∀ x H2, J.yld i H' x H2 → g x σ' H2 fun σ2 H3 => tt σ2 H3 fun ok H4 =>
        if ok = true then te σ2 H4 fun y H5 => ∃ ys, H5 D = some (.lst ys) ∧ ys.length < sizeLine ∧ ∃ m', m' < m ∧ W (i + 1) m' σ2 (upd H5 D (.lst (ys ++ [y])))
        else ∃ m', m' < m ∧ W (i + 1) m' σ2 H4))
    (hR : ∀ D C s' H', Inv X pZ σ H' s' → FpOk X pZ H' C → (∃ m, s'.heap.Ns C m) → Q (.ref D) H' → R (.ref D) C (.ok .next) s') :
    wpAny (model X.prog X.w) X.A (newList []) (fun acc s₃ => wpAny (model X.prog X.w) X.A (newFunctionEnv scope X.env.globals (clOf scope.names X.env.cells) [] X.env.qual none .none (some X.env)) (fun cenv s₄ =>
      codeAny (model X.prog X.w) X.A (.compStart (.ListComp elt [⟨target, iter, ifs, 0⟩] scope pos) 0 (.ref it) acc { cenv with scope := relabel scope X.env }) (R acc cenv.locals) s₄) E s₃) E s := by
  have I3 := I.lnew (t' := s.toks) (ys := []) (its := []) .nil (Nat.zero_le _)
  have hD := I.fresh
  refine wpAny_newObj_type (wpAny_newFunctionEnv L.nocell (by intro y hy; simp at hy) (fun h₁ hns₁ hsb₁ => ?_) L.kind)
  dsimp only at hns₁ hsb₁
  exact lc_loop (Q := Q) (R := R) (s3 := { s with heap := s.heap.push { cls := .type "list", data := .seq ([] : List Value).toArray }, toks := s.toks }) L hc hg ht he I T st hf I3 (fun b o e => Nat.ne_of_lt (Heap.lt_size e)) (fun b o e => Heap.get?_push_of_some _ e) hns₁
    (fun b o e => hsb₁.extBut b o (Nat.ne_of_lt (Heap.lt_size e)) (Heap.get?_push_of_some _ e)) (w _ hD) (fun C => hR _ C)
theorem pe_lc {elt target iter : Expr} {ifs : List Expr} {pos : Pos} {wi : TI} {g : TG} {tt : TT} {te : TE} (L : LcScope X scope N js) (hc : X.calm = true) (hi : PI X target iter wi)
    (hg : ∀ s₀ H₀ ex pn, PG (cxC X scope N s₀ H₀ ex pn) target g) (ht : ∀ s₀ H₀ ex pn, PTs (cxC X scope N s₀ H₀ ex pn) ifs tt) (he : ∀ s₀ H₀ ex pn, PE (cxC X scope N s₀ H₀ ex pn) elt te)
    (hs : ∀ x, foldedSetIterable iter X.env x = pure x := by intro _; rfl) : PE X (.ListComp elt [⟨target, iter, ifs, 0⟩] scope pos) (tLC js wi g tt te) := by
  intro pZ s σ H Q I h
  rw [eval_ListComp]
  refine wpAny_comprehension_free (use := none) rfl hs (closure_is (L.clos I.ok)) L.kind L.names (thn (hi pZ s σ H _ I h) fun v s1 h1 => thn h1 fun itv s2 h2 => ?_)
  obtain ⟨it, fp, tn, J, H2, e, I2, T, st2, f2, w⟩ := h2
  subst e
  refine lc_block (Q := Q) (R := fun acc C => compPost (model X.prog X.w) X.A X.xe none (EP X pZ σ Q) acc C) L hc hg ht he I2 T st2 f2 w ?_
  intro D C s' H' I' f' ⟨m, hn⟩ q
  exact ⟨m, hn, fun h' hs' => ⟨.ref D, H', I'.gone (m := m) f' hs', rfl, q⟩⟩
theorem ps_lc {elt target iter : Expr} {ifs : List Expr} {pos spos py : Pos} {y : Str} {k : Nat} {wi : TI} {g : TG} {tt : TT} {te : TE} (hN : X.N.Nodup) (hk : X.N[k]? = some y) (hy : Loc X.env.scope y) (L : LcScope X scope N js) (hc : X.calm = true) (hi : PI X target iter wi)
    (hg : ∀ s₀ H₀ ex pn, PG (cxC X scope N s₀ H₀ ex pn) target g) (ht : ∀ s₀ H₀ ex pn, PTs (cxC X scope N s₀ H₀ ex pn) ifs tt) (he : ∀ s₀ H₀ ex pn, PE (cxC X scope N s₀ H₀ ex pn) elt te)
    (hsw : swapsWith (.ListComp elt [⟨target, iter, ifs, 0⟩] scope pos) (some (.Name y py)) spos.line X.env = pure true := by rfl)
    (hs : ∀ x, foldedSetIterable iter X.env x = pure x := by intro _; rfl) (hf : X.fn y = true ∨ X.env.scope.names.lookup y = some .local := by first | exact .inl rfl | exact .inr rfl | assumption) :
    PS X (.Assign [.Name y py] (.ListComp elt [⟨target, iter, ifs, 0⟩] scope pos) spos) (tAsg (tLC js wi g tt te) (gName k)) := by
  intro pZ s σ H D I h
  rw [exec_Assign_Name_used _ _ _ _ hsw]
  refine wpAny_bind (wpAny_standAt (wpAny_bind ?_))
  show wpAny _ X.A (do let _ ← comprehension (.ListComp elt [⟨target, iter, ifs, 0⟩] scope pos) scope X.env _ (newList []) false (eval iter X.env) (some (assign (.Name y py) X.env))) _ _ s
  refine wpAny_bind (thn (wpAny_comprehension_free (Q := fun _ s' => SP X pZ D .next s') rfl hs (closure_is (L.clos I.ok)) L.kind L.names (thn (hi pZ s σ H _ I h) fun v s1 h1 => thn h1 fun itv s2 h2 => ?_)) fun _ s' hq => wpAny_pure (wpAny_pure hq))
  obtain ⟨it, fp, tn, J, H2, e, I2, T, st2, f2, w⟩ := h2
  subst e
  refine lc_block (Q := fun v H1 => D.nx (σ.set k (some v)) H1) (R := fun acc C => compPost (model X.prog X.w) X.A X.xe (some (assign (.Name y py) X.env)) (fun _ s' => SP X pZ D .next s') acc C) L hc hg ht he I2 T st2 f2 w ?_
  intro A C s' H' I' f' ⟨m, hn⟩ q
  show wpAny _ _ (assign (.Name y py) X.env (.ref A)) _ _ s'
  refine wpAny_assign_Name (store_ok2 (v := V.ref A) I' hN hk hy rfl (fun s2 I3 ⟨a, hsb, ha⟩ => ?_) hf)
  have hca : C ≠ a := by
    rintro rfl
    rcases ha with z | z
    · exact f'.2.1 z
    · exact f'.2.2.2.2.1 y _ z rfl
  exact ⟨m, hn.sameBut hsb hca, fun h' hs' => ⟨_, H', I3.gone (m := m) f' hs', q⟩⟩
end
noncomputable def Itx (x : Str) : It := ⟨fun i _ => i < x.cps.size, fun i H v H' => H' = H ∧ ∃ c, x.cps[i]? = some c ∧ v = .str ⟨#[c]⟩, fun i _ => i = x.cps.size⟩
theorem turn_text {P : Program} {w : World} {K : PySem.W.Frag} {tg : Expr} (it : Addr) (x : Str) (t : Tok) {ty : String}
    (hn : ["enumerate", "zip", "dict_itemiterator", "dict_reverseitemiterator", "odict_iterator", "itertools.zip_longest", "itertools.pairwise"].contains ty = false)
    (Wk : ∀ A : Around, A.handled = none → Walks P w A it [it] [it] x.cps.size (SignAt x) (fun i h => h.IsStrIter it ty x t i))
    (Sf : ∀ (A : Around) i (s : Shared) (Q : Value → Shared → Prop) (E : Value → Shared → Prop), s.heap.IsStrIter it ty x t i → Q (.ref it) s → wpAny (model P w) A (pyIter (.ref it)) Q E s) : Turn P w K tg (Itx x) [it] it (fun i h => h.IsStrIter it ty x t i) where
  mem := by simp
  obj := fun i h st b hb => by
    have e : b = it := by simpa using hb
    subst e
    obtain ⟨o, e, c, d⟩ := st
    exact ⟨o, e, fun v z => by rw [d] at z; cases z⟩
  keep := fun i h h' st k => by
    obtain ⟨o, e, c, d⟩ := st
    exact ⟨o, k it (by simp) o e, c, d⟩
  item := by
    intro X hP hw hK hc i pZ s σ H E I hf st hg
    subst hP hw hK
    obtain ⟨f0, f1, f2, f3, f4, f5⟩ := hf it (by simp)
    refine (Wk X.A (I.ok.hd hc)).item i s _ _ hg st fun v h' tk hv st' kk => ?_
    obtain ⟨c, u, hcx, rfl⟩ := hv
    have I1 : Inv X pZ σ H { s with heap := h', toks := tk } := I.turned (fun b o hb e => kk b o (by simpa using hb) e) f0 f1 f3 f4 f5
    obtain ⟨o, e, oc, d⟩ := id st'
    exact ⟨_, rfl, go_of (s := { s with heap := h', toks := tk }) e oc d hn ⟨.str ⟨#[c]⟩, H, I1, ⟨u, rfl⟩, ⟨rfl, c, hcx, rfl⟩, st', fun b hb => (hf b hb).1⟩⟩
  done := by
    intro X hP hw hK hc i pZ s σ H E I hf st hg
    subst hP hw hK
    have hg' : i = x.cps.size := hg
    subst hg'
    obtain ⟨f0, f1, f2, f3, f4, f5⟩ := hf it (by simp)
    exact (Wk X.A (I.ok.hd hc)).done s _ _ st fun h' tk kk => ⟨rfl, I.turned (fun b o hb e => kk b o (by simpa using hb) e) f0 f1 f3 f4 f5⟩
  self := fun A i s Q E st h => Sf A i s Q E st h
section
variable {X : Cx} {tg : Expr}
theorem op_le_str : OpR X (compareOp .LtE) (fun x y H Q => ∃ i j, x = .str i ∧ y = .str j ∧ Q (.bl (!decide (j.cps.toList < i.cps.toList))) H) := by
  intro pZ s σ H x y v u Q I rx ry h
  obtain ⟨i, j, rfl, rfl, q⟩ := h
  obtain ⟨t, rfl⟩ := rx
  obtain ⟨t', rfl⟩ := ry
  exact PySem.P.le_str (fin_bl I q rfl)
theorem op_mulB : OpR X (binaryOp .Mult) (rI IntMulOk fun i j => .int (i * j)) := opI fun _ _ _ _ _ _ _ hc q => mul_int q hc
theorem op_powB : OpR X (binaryOp .Pow) (rI (fun i j => 0 ≤ j ∧ (Builtin.Int.intBits i : Int) * j ≤ 2 ^ 27) fun i j => .int (i ^ j.toNat)) := opI fun _ _ _ _ _ _ _ hc q => pow_int hc.1 hc.2 q
theorem bl_at {bs : List Bool} {its : List Value} (r : Vals (bs.map V.bl) its) (i : Nat) (v : Value) (e : its[i]? = some v) : ∃ b, bs[i]? = some b ∧ v = .bool b := by
  have hl := r.length
  rw [List.length_map] at hl
  have hi : i < bs.length := by rw [hl]; exact (List.getElem?_eq_some_iff.mp e).1
  obtain ⟨u, h1, h2⟩ := r.get (x := V.bl bs[i]) (by rw [List.getElem?_map, List.getElem?_eq_getElem hi]; rfl)
  rw [e] at h1; cases h1
  exact ⟨bs[i], List.getElem?_eq_getElem hi, h2⟩
theorem range_all' (bs : List Bool) : ((List.range bs.length).all fun i => (bs[i]?).getD true) = bs.all id := by
  rw [Bool.eq_iff_iff, List.all_eq_true, List.all_eq_true]
  constructor
  · intro h b hb
    obtain ⟨i, hi, e⟩ := List.getElem_of_mem hb
    have := h i (List.mem_range.mpr hi)
    rw [List.getElem?_eq_getElem hi, e] at this
    exact this
  · intro h i hi
    have hi' := List.mem_range.mp hi
    rw [List.getElem?_eq_getElem hi']
    exact h _ (List.getElem_mem hi')
theorem call_all (hc : X.calm = true) : CallR X (.builtin "all") (fun xs H Q => ∃ (p : Addr) (bs : List Bool), xs = [.ref p] ∧ SqL X.K H p (bs.map V.bl) ∧ Q (.bl (bs.all id)) H) := by
  intro pZ s σ H xs us Q I r h
  obtain ⟨p, bs, rfl, hq, q⟩ := h
  obtain ⟨u, rfl, rx⟩ := vals1 r
  cases rx
  obtain ⟨its, r', pl, hz⟩ := I.list hq
  have hl := pl.isList
  have hlt : p < s.heap.objs.size := by obtain ⟨_, e, _⟩ := hl; exact Heap.lt_size e
  have hlen := r'.length
  rw [List.length_map] at hlen
  refine call_all_walk (wpAny_pyIter_list hl ?_)
  refine ⟨s.heap.objs.size, [s.heap.objs.size, p], [s.heap.objs.size], its.toArray.size, _, _, fun i => (bs[i]?).getD true, rfl, Walks.list (A := X.A.in1) (I.ok.hd hc) _ p (Nat.ne_of_lt hlt) its.toArray,
    ⟨⟨_, Heap.get?_push_size _ rfl, rfl, rfl⟩, hl.push _⟩, fun i v s' Q' E' hP hQ => ?_, fun h' tk hk => ?_⟩
  · obtain ⟨b, e, rfl⟩ := bl_at r' i v (by simpa using hP)
    simp only [e, Option.getD_some] at hQ
    exact wpAny_truthy_bool hQ
  · refine ⟨.bl (bs.all id), H, I.kept (fun b o e => hk b o (fun hm => ?_) (Heap.get?_push_of_some _ e)), ?_, q⟩
    · rw [List.mem_singleton.mp hm] at e; exact Nat.lt_irrefl _ (Heap.lt_size e)
    · show Value.bool _ = Value.bool _
      rw [List.size_toArray, ← hlen, range_all']
theorem strs_of : ∀ {ys : List Str} {us : List Value}, Vals (ys.map V.str) us → StrsAre us ys
  | [], us, r => by rw [List.map_nil] at r; cases r; exact .nil
  | y :: ys, us, r => by
    rw [List.map_cons] at r
    cases r with
    | cons h t => obtain ⟨t', rfl⟩ := h; exact .cons y t' (strs_of t)
theorem mt_join : MtR X "str.join" (fun x xs H Q => ∃ (sep : Str) (p : Addr) (ys : List Str), x = .str sep ∧ xs = [.ref p] ∧ SqL X.K H p (ys.map V.str) ∧ (ys.map (·.length)).sum + ys.length * sep.length ≤ 16777216 ∧ Q (.str (Txt.join sep ys)) H) := by
  intro pZ s σ H x xs v us Q I rx rv h
  obtain ⟨sep, p, ys, rfl, rfl, hq, hz, q⟩ := h
  obtain ⟨t, rfl⟩ := rx
  obtain ⟨u, rfl, ru⟩ := vals1 rv
  cases ru
  obtain ⟨its, r', pl, _⟩ := I.list hq
  exact join_list pl.isList (by simpa using strs_of r') hz fun t' k => ⟨.str (Txt.join sep ys), H, I.tok _, ⟨_, rfl⟩, q⟩
theorem call_isi : CallR X (.builtin "isinstance") (fun xs H Q => ∃ x T t b, xs = [x, .ty T] ∧ TyOf X.K H x t ∧ PySem.W.kitOne X.K t (.type T) = some b ∧ Q (.bl b) H) := by
  intro pZ s σ H xs us Q I r h
  obtain ⟨x, T, t, b, rfl, ty, e, q⟩ := h
  obtain ⟨u, w', rfl, rx, ry⟩ := vals2 r
  cases ry
  exact isinst_ok I rx ty e fun tk => ⟨.bl b, H, I.tok _, rfl, q⟩
end
noncomputable def lcOk (scope es : Scope) (XN N : List Str) (js : List (Option Nat)) : Bool :=
  (scope.kind == .function) && scope.names.all (fun y => y.2 != .cell && (y.2 != .local || scope.names.lookup y.1 == some .local) && (y.2 != .free || es.names.lookup y.1 == some .cell || es.names.lookup y.1 == some .free)) &&
  (js.length == N.length) && (List.range N.length).all (fun i => match N[i]?, js[i]? with | some y, some (some j) => XN[j]? == some y && scope.names.lookup y == some .free | _, _ => true)
theorem LcScope.mk2 {X : Cx} {scope : Scope} {N : List Str} {js : List (Option Nat)} (es : Scope) (XN : List Str) (h1 : X.env.scope = es) (h2 : X.N = XN) (h : lcOk scope es XN N js = true) : LcScope X scope N js := by
  unfold lcOk at h
  simp only [Bool.and_eq_true, List.all_eq_true] at h
  obtain ⟨⟨⟨ha, hb⟩, hc⟩, hd⟩ := h
  refine ⟨by simpa using ha, fun y hy => ?_, fun y hy hl => ?_, fun y hy hl => ?_, by simpa using hc, fun i y j e1 e2 => ?_⟩
  · have := (hb y hy).1.1
    simpa using this
  · have := (hb y hy).1.2
    rw [hl] at this
    simpa using this
  · have := (hb y hy).2
    rw [hl] at this
    rw [h1]
    simpa using this
  · have hi : i < N.length := (List.getElem?_eq_some_iff.mp e1).1
    have := hd i (List.mem_range.mpr hi)
    rw [e1, e2] at this
    simp only [Bool.and_eq_true] at this
    rw [h2]
    exact ⟨by simpa using this.1, by simpa using this.2⟩
theorem lc_list {K : PySem.W.Frag} {a : Addr} {xs : List V} {g : TG} {tt : TT} {te : TE} {Q : VK} {σ0 : St} {H1 : Hp} {D : Addr} (Pv : Nat → List V → St → Hp → Prop) (h0 : Pv 0 [] σ0 (upd H1 D (.lst [])))
    (hq : ∀ i ys σ H, Pv i ys σ H → SqL K H a xs)
    (hs : ∀ i x ys σ H, xs[i]? = some x → ys.length ≤ i → H D = some (.lst ys) → Pv i ys σ H → ∀ (kt : St → V → Hp → Prop) (kf : St → Hp → Prop), (∀ σ2 y H5, H5 D = some (.lst ys) → Pv (i + 1) (ys ++ [y]) σ2 (upd H5 D (.lst (ys ++ [y]))) → kt σ2 y H5) → (∀ σ2 H4, H4 D = some (.lst ys) → Pv (i + 1) ys σ2 H4 → kf σ2 H4) →
      g x σ H fun σ2 H3 => tt σ2 H3 fun ok H4 => if ok = true then te σ2 H4 (kt σ2) else kf σ2 H4)
    (hz : xs.length ≤ 100000) (hd : ∀ ys σ H, H D = some (.lst ys) → ys.length ≤ xs.length → Pv xs.length ys σ H → Q (.ref D) H) :
    LcW (Itl K a) D g tt te Q σ0 H1 := by
  refine ⟨fun i m σ H => m = xs.length - i ∧ i ≤ xs.length ∧ ∃ ys, ys.length ≤ i ∧ H D = some (.lst ys) ∧ Pv i ys σ H, ⟨xs.length, by simp, Nat.zero_le _, [], Nat.le_refl _, upd_same, h0⟩, ?_⟩
  rintro i m σ H ⟨rfl, hi, ys, hl, hD, p⟩
  have q := hq i ys σ H p
  by_cases hlt : i < xs.length
  · refine .inr ⟨⟨xs, xs[i], q, by simp [hlt]⟩, fun v H2 y => ?_⟩
    obtain ⟨e, y⟩ := y
    subst e
    exact hs i v ys σ _ (y xs q) hl hD p _ _ (fun σ2 z H5 a1 a2 => ⟨ys, a1, by rw [sizeLine_eq]; omega, xs.length - (i + 1), by omega, rfl, hlt, ys ++ [z], by simp; omega, upd_same, a2⟩)
      (fun σ2 H4 a1 a2 => ⟨xs.length - (i + 1), by omega, rfl, hlt, ys, by omega, a1, a2⟩)
  · have e : i = xs.length := by omega
    subst e
    exact .inl ⟨⟨xs, q, Nat.le_refl _⟩, hd ys σ H hD hl p⟩
noncomputable def isStar : Expr → Bool
  | .Starred .. => true
  | _ => false
theorem star1 {e : Expr} {es : List Expr} {env : Env} (h : isStar e = false) : starEach (e :: es) env = (false, eval e env) :: starEach es env := by
  cases e <;> first
    | rfl
    | (exfalso; exact Bool.noConfusion h)
theorem pa_c {X : Cx} {e : Expr} {es : List Expr} {te : TE} {t : TA} (ha : PE X e te) (hr : PA X es t) (h : isStar e = false := by rfl) : PA X (e :: es) (tCons te t) := pa_cons ha hr (star1 h)
structure Bag (H : Hp) (a c : Addr) (n : Nat) : Prop where
  ex : ∃ (p q sd : Int) (cells : List Int), H a = some (.lst [.int p, .int q, .int n, .int sd, .ref c]) ∧ H c = some (.lst (cells.map V.int)) ∧ 0 ≤ p ∧ 0 ≤ q ∧ 0 ≤ sd ∧ sd < 2305843009213693951 ∧ (∀ x ∈ cells, 0 ≤ x) ∧ cells.length ≤ 60
theorem same_new {H : Hp} {p : Addr} (h : H p = none) (o : HO) : Same H (upd H p o) := fun b u q => by rw [upd_ne (ne_of_none q h)]; exact q
theorem Bag.there {H : Hp} {a c : Addr} {n : Nat} (b : Bag H a c n) : (∃ xs, H a = some (.lst xs)) ∧ ∃ xs, H c = some (.lst xs) := by
  obtain ⟨p, q, sd, cells, h1, h2, _⟩ := b.ex
  exact ⟨⟨_, h1⟩, ⟨_, h2⟩⟩
theorem Bag.ne {H : Hp} {a c : Addr} {n : Nat} (b : Bag H a c n) : c ≠ a := by
  obtain ⟨p, q, sd, cells, h1, h2, _⟩ := b.ex
  rintro rfl
  rw [h1] at h2
  have e : [V.int p, V.int q, V.int n, V.int sd, V.ref c] = cells.map V.int := by injection h2 with z; injection z
  have : V.ref c ∈ cells.map V.int := by rw [← e]; simp
  obtain ⟨i, _, z⟩ := List.mem_map.mp this
  cases z
section
structure Bx (p : Prop) : Prop where
  out : p
abbrev BE (X : Cx) (e : Expr) (t : TE) : Prop := Bx (PE X e t)
abbrev BT (X : Cx) (e : Expr) (t : TT) : Prop := Bx (PT X e t)
abbrev BW (X : Cx) (e : Expr) (t : TT) : Prop := Bx (PW X e t)
abbrev BA (X : Cx) (es : List Expr) (t : TA) : Prop := Bx (PA X es t)
abbrev BS (X : Cx) (st : Stmt) (t : TS) : Prop := Bx (PS X st t)
abbrev BSs (X : Cx) (st : List Stmt) (t : TS) : Prop := Bx (PSs X st t)
abbrev BI (X : Cx) (tg iter : Expr) (t : TI) : Prop := Bx (PI X tg iter t)
abbrev BG (X : Cx) (tg : Expr) (t : TG) : Prop := Bx (PG X tg t)
abbrev BO (X : Cx) (e : Option Expr) (t : TO) : Prop := Bx (PO X e t)
abbrev BTs (X : Cx) (ifs : List Expr) (t : TT) : Prop := Bx (PTs X ifs t)
set_option genInjectivity true in
inductive PV where
  | non | bl (b : Bool) | int (i : Int) | str (x : Str) | tup (l : List PV) | lst (l : List PV) | dct (kvs : List (Key × PV)) | scr (ns : List Int) | bag
set_option genInjectivity true in
inductive M (α : Type) where
  | fail | ret (a : α) | draw (m : Int) (k : Int → M α)
namespace M
variable {α β γ : Type}
noncomputable def bind : M α → (α → M β) → M β
  | fail, _ => fail
  | ret a, f => f a
  | draw m k, f => draw m fun d => (k d).bind f
noncomputable def wp : M α → Nat → (α → Nat → Prop) → Prop
  | fail, _, _ => False
  | ret a, n, Q => Q a n
  | draw m k, n, Q => 0 < m ∧ m < 1073741824 ∧ ∃ n', n = n' + 1 ∧ ∀ d, 0 ≤ d → d < m → (k d).wp n' Q
theorem wZ (m : M α) (f : α → M β) : ∀ (n : Nat) (Q : β → Nat → Prop), (m.bind f).wp n Q = m.wp n fun a n' => (f a).wp n' Q := by
  induction m with
  | fail => intro n Q; rfl
  | ret a => intro n Q; rfl
  | draw m k ih => intro n Q; simp only [bind, wp, ih]
theorem wp_mono {m : M α} : ∀ {n : Nat} {Q Q' : α → Nat → Prop}, m.wp n Q → (∀ a n', Q a n' → Q' a n') → m.wp n Q' := by
  induction m with
  | fail => intro n Q Q' h _; exact h
  | ret a => intro n Q Q' h f; exact f _ _ h
  | draw m k ih =>
    intro n Q Q' h f
    obtain ⟨h1, h2, n', e, h3⟩ := h
    exact ⟨h1, h2, n', e, fun d a b => ih d (h3 d a b) f⟩
theorem bZ (m : M α) (f : α → M β) (g : β → M γ) : (m.bind f).bind g = m.bind fun a => (f a).bind g := by
  induction m with
  | fail => rfl
  | ret a => rfl
  | draw m k ih => simp only [bind, ih]
@[simp] theorem rY (a : α) (f : α → M β) : (ret a).bind f = f a := rfl
noncomputable def ofO : Option α → M α
  | some a => ret a
  | none => fail
end M
theorem rZ (a:α) (f:α→M β):(M.ret a).bind f=f a:=rfl
inductive Rep (B : Addr) (O : Addr → Prop) (H : Hp) : PV → V → Prop where
  | non : Rep B O H .non .non
  | bl (b : Bool) : Rep B O H (.bl b) (.bl b)
  | int (i : Int) : Rep B O H (.int i) (.int i)
  | str (x : Str) : Rep B O H (.str x) (.str x)
  | tup {p : Addr} {xs : List V} {l : List PV} (hO : ¬ O p) (h : H p = some (.tup xs)) (hl : l.length = xs.length) (hr : ∀ (i : Nat) (y : PV) (x : V), l[i]? = some y → xs[i]? = some x → Rep B O H y x) : Rep B O H (.tup l) (.ref p)
  | lst {p : Addr} {xs : List V} {l : List PV} (hO : ¬ O p) (h : H p = some (.lst xs)) (hl : l.length = xs.length) (hr : ∀ (i : Nat) (y : PV) (x : V), l[i]? = some y → xs[i]? = some x → Rep B O H y x) : Rep B O H (.lst l) (.ref p)
  | dct {p : Addr} {ks : List (Key × V)} {l : List (Key × PV)} (hO : ¬ O p) (h : Rd H p (.dK ks)) (hk : l.map (·.1) = ks.map (·.1)) (hr : ∀ (i : Nat) (y : Key × PV) (x : Key × V), l[i]? = some y → ks[i]? = some x → Rep B O H y.2 x.2) : Rep B O H (.dct l) (.ref p)
  | scr {p : Addr} {ns : List Int} (hO : ¬ O p) (h : ∃ o, H p = some (.frz o (.lst (ns.map V.int)))) : Rep B O H (.scr ns) (.ref p)
  | bag : Rep B O H .bag (.ref B)
def Reps (B : Addr) (O : Addr → Prop) (H : Hp) (l : List PV) (xs : List V) : Prop := l.length = xs.length ∧ ∀ (i : Nat) (y : PV) (x : V), l[i]? = some y → xs[i]? = some x → Rep B O H y x
def RepsK (B : Addr) (O : Addr → Prop) (H : Hp) (l : List (Key × PV)) (ks : List (Key × V)) : Prop := l.map (·.1) = ks.map (·.1) ∧ ∀ (i : Nat) (y : Key × PV) (x : Key × V), l[i]? = some y → ks[i]? = some x → Rep B O H y.2 x.2
noncomputable def Stand (H' : Hp) (p : Addr) : HO → Prop
  | .tbl _ => ∃ qs, H' p = some (.tbl qs)
  | o => H' p = some o
theorem Stand.of {H' : Hp} {p : Addr} {o : HO} (h : H' p = some o) : Stand H' p o := by
  cases o <;> first | exact h | exact ⟨_, h⟩
theorem Stand.there {H' : Hp} {p : Addr} {o : HO} (h : Stand H' p o) : ∃ u, H' p = some u := by
  cases o <;> first | exact ⟨_, h⟩ | (obtain ⟨qs, e⟩ := h; exact ⟨_, e⟩)
theorem Stand.to {H' H2 : Hp} {p : Addr} {o : HO} (h : Stand H' p o) (k : ∀ u, H' p = some u → Stand H2 p u) : Stand H2 p o := by
  cases o <;> first | exact k _ h | (obtain ⟨qs, e⟩ := h; have q := k (.tbl qs) e; exact q)
def Ext (B : Addr) (H H' : Hp) : Prop := ∀ p o, p ≠ B → H p = some o → Stand H' p o
theorem Ext.refl (B : Addr) (H : Hp) : Ext B H H := fun _ _ _ h => .of h
theorem Ext.trans {B : Addr} {H H1 H2 : Hp} (a : Ext B H H1) (b : Ext B H1 H2) : Ext B H H2 := fun p o n h => (a p o n h).to fun u e => b p u n e
theorem Ext.new {B p : Addr} {H : Hp} (h : H p = none) (o : HO) : Ext B H (upd H p o) := fun q u _ e => .of (by rw [upd_ne (ne_of_none e h)]; exact e)
section
variable {B : Addr} {O O' : Addr → Prop} {H H' : Hp} {y : PV} {x : V} {l l' : List PV} {xs xs' : List V}
theorem Rep.keepS (h : Rep B O H y x) (hH : ∀ p o, ¬ O p → H p = some o → Stand H' p o ∧ ¬ O' p) : Rep B O' H' y x := by
  induction h with
  | non => exact .non
  | bl b => exact .bl b
  | int i => exact .int i
  | str x => exact .str x
  | tup hO h hl hr ih => exact .tup (hH _ _ hO h).2 (hH _ _ hO h).1 hl ih
  | lst hO h hl hr ih => exact .lst (hH _ _ hO h).2 (hH _ _ hO h).1 hl ih
  | scr hO h =>
    obtain ⟨o, e⟩ := h
    exact .scr (hH _ _ hO e).2 ⟨o, (hH _ _ hO e).1⟩
  | dct hO h hl hr ih =>
    rcases h with h | ⟨o, h⟩
    · exact .dct (hH _ _ hO h).2 (.inl (hH _ _ hO h).1) hl ih
    · exact .dct (hH _ _ hO h).2 (.inr ⟨o, (hH _ _ hO h).1⟩) hl ih
  | bag => exact .bag
theorem Rep.keep (h : Rep B O H y x) (hH : ∀ p o, ¬ O p → H p = some o → H' p = some o ∧ ¬ O' p) : Rep B O' H' y x := h.keepS fun p o n q => ⟨.of (hH p o n q).1, (hH p o n q).2⟩
theorem Rep.ext (h : Rep B O H y x) (hB : O B) (e : Ext B H H') : Rep B O H' y x := h.keepS fun p o n q => ⟨e p o (fun z => n (z ▸ hB)) q, n⟩
theorem Rep.less (h : Rep B O H y x) (hO : ∀ p, O' p → O p) : Rep B O' H y x := h.keep fun p o n q => ⟨q, fun z => n (hO p z)⟩
theorem Rep.grow (h : Rep B O H y x) (hO : ∀ p, O' p → O p ∨ H p = none) : Rep B O' H y x := h.keep fun p o n q => ⟨q, fun z => by
  rcases hO p z with w | w
  · exact n w
  · rw [w] at q; cases q⟩
theorem Reps.keepS (h : Reps B O H l xs) (hH : ∀ p o, ¬ O p → H p = some o → Stand H' p o ∧ ¬ O' p) : Reps B O' H' l xs := ⟨h.1, fun i y x a b => (h.2 i y x a b).keepS hH⟩
theorem Reps.keep (h : Reps B O H l xs) (hH : ∀ p o, ¬ O p → H p = some o → H' p = some o ∧ ¬ O' p) : Reps B O' H' l xs := ⟨h.1, fun i y x a b => (h.2 i y x a b).keep hH⟩
theorem Reps.ext (h : Reps B O H l xs) (hB : O B) (e : Ext B H H') : Reps B O H' l xs := ⟨h.1, fun i y x a b => (h.2 i y x a b).ext hB e⟩
theorem Reps.less (h : Reps B O H l xs) (hO : ∀ p, O' p → O p) : Reps B O' H l xs := ⟨h.1, fun i y x a b => (h.2 i y x a b).less hO⟩
theorem Reps.grow (h : Reps B O H l xs) (hO : ∀ p, O' p → O p ∨ H p = none) : Reps B O' H l xs := ⟨h.1, fun i y x a b => (h.2 i y x a b).grow hO⟩
theorem Reps.nil : Reps B O H [] [] := ⟨rfl, fun i y x a => by simp at a⟩
theorem Reps.cons (h : Rep B O H y x) (t : Reps B O H l xs) : Reps B O H (y :: l) (x :: xs) := ⟨by simp [t.1], fun i y' x' a b => by
  cases i with
  | zero => simp at a b; subst a b; exact h
  | succ i => simp at a b; exact t.2 i y' x' a b⟩
theorem Reps.head (h : Reps B O H (y :: l) (x :: xs)) : Rep B O H y x := h.2 0 y x rfl rfl
theorem Reps.tail (h : Reps B O H (y :: l) (x :: xs)) : Reps B O H l xs := ⟨by simpa using h.1, fun i y' x' a b => h.2 (i + 1) y' x' (by simpa using a) (by simpa using b)⟩
theorem Reps.nil_inv (h : Reps B O H [] xs) : xs = [] := List.eq_nil_of_length_eq_zero h.1.symm
theorem Reps.cons_inv (h : Reps B O H (y :: l) xs) : ∃ x r, xs = x :: r ∧ Rep B O H y x ∧ Reps B O H l r := by
  cases xs with
  | nil => have := h.1; simp at this
  | cons x r => exact ⟨x, r, rfl, h.head, h.tail⟩
theorem Reps.at (h : Reps B O H l xs) {i : Nat} (e : l[i]? = some y) : ∃ x, xs[i]? = some x ∧ Rep B O H y x := by
  have hi : i < l.length := (List.getElem?_eq_some_iff.mp e).1
  have hx : i < xs.length := h.1 ▸ hi
  exact ⟨xs[i], List.getElem?_eq_getElem hx, h.2 i y _ e (List.getElem?_eq_getElem hx)⟩
theorem Reps.append : ∀ {l : List PV} {xs : List V}, Reps B O H l xs → Reps B O H l' xs' → Reps B O H (l ++ l') (xs ++ xs')
  | [], xs, h, t => by rw [h.nil_inv]; exact t
  | y :: l, xs, h, t => by
    obtain ⟨x, r, rfl, h1, h2⟩ := h.cons_inv
    exact .cons h1 (Reps.append h2 t)
theorem Reps.drop : ∀ (k : Nat) {l : List PV} {xs : List V}, Reps B O H l xs → Reps B O H (l.drop k) (xs.drop k)
  | 0, _, _, h => h
  | _ + 1, [], _, h => by have e := h.nil_inv; subst e; simpa using Reps.nil
  | k + 1, y :: l, xs, h => by
    obtain ⟨x, r, rfl, h1, h2⟩ := h.cons_inv
    exact Reps.drop k h2
theorem Reps.take : ∀ (k : Nat) {l : List PV} {xs : List V}, Reps B O H l xs → Reps B O H (l.take k) (xs.take k)
  | 0, _, _, h => .nil
  | _ + 1, [], _, h => by have e := h.nil_inv; subst e; simpa using Reps.nil
  | k + 1, y :: l, xs, h => by
    obtain ⟨x, r, rfl, h1, h2⟩ := h.cons_inv
    exact .cons h1 (Reps.take k h2)
theorem RepsK.keep {l : List (Key × PV)} {ks : List (Key × V)} (h : RepsK B O H l ks) (hH : ∀ p o, ¬ O p → H p = some o → H' p = some o ∧ ¬ O' p) : RepsK B O' H' l ks := ⟨h.1, fun i y x a b => (h.2 i y x a b).keep hH⟩
theorem RepsK.ext {l : List (Key × PV)} {ks : List (Key × V)} (h : RepsK B O H l ks) (hB : O B) (e : Ext B H H') : RepsK B O H' l ks := ⟨h.1, fun i y x a b => (h.2 i y x a b).ext hB e⟩
end
structure Fam where
  K : PySem.W.Frag
  sp : Sp
  tabs : List (Addr × Str)
noncomputable def IsFz : HO → Prop
  | .frz _ (.dK _) => False
  | .frz _ _ => True
  | _ => False
def TabAt (H : Hp) (e : Addr × Str) : Prop := ∃ ps, H e.1 = some (.tbl ps) ∧ TriplesOk ps.toList ∧ ∀ pos cv, codeAmong pos ps.toList = some cv → ∃ c oc vs t, cv = .ref c ∧ H c = some (.frz oc (.own c)) ∧ oc.data = .fields vs ∧ vs[1]? = some (.str e.2 t)
structure Bg (φ : Fam) where
  B : Addr
  priv : Addr → Prop
  ok : Hp → Nat → Prop
  pB : priv B
  keep : ∀ H H' n, (∀ p o, (priv p ∨ IsFz o) → H p = some o → H' p = some o) → ok H n → ok H' n
  tp : ∀ e ∈ φ.tabs, priv e.1
  tab : ∀ H n, ok H n → ∀ e ∈ φ.tabs, TabAt H e
  tset : ∀ H H' n, ok H n → (∀ e ∈ φ.tabs, TabAt H' e) → (∀ p o, p ∉ φ.tabs.map (·.1) → H p = some o → H' p = some o) → ok H' n
  dom : ∀ H n p, ok H n → priv p → ∃ o, H p = some o
  dr : ∀ (H : Hp) (n : Nat) (m : Int) (Q : VK) (E : XK), ok H (n + 1) → 0 < m → m < 1073741824 → (∀ (d : Int) (H' : Hp), 0 ≤ d → d < m → Ext B H H' → ok H' n → Q (.int d) H') → φ.sp [.ref B, .int m] H Q E
variable {φ : Fam}
set_option genInjectivity true in
inductive Ent where
  | un | val (y : PV) | own (l : List PV) | ownD (kvs : List (Key × PV))
abbrev PEnv := List Ent
noncomputable def EntRep (G : Bg φ) (O : Addr → Prop) (H : Hp) : Ent → Option V → Prop
  | .un, _ => True
  | .val y, o => ∃ x, o = some x ∧ Rep G.B O H y x
  | .own l, o => ∃ p xs, o = some (.ref p) ∧ O p ∧ ¬ G.priv p ∧ H p = some (.lst xs) ∧ Reps G.B O H l xs
  | .ownD l, o => ∃ p ks, o = some (.ref p) ∧ O p ∧ ¬ G.priv p ∧ H p = some (.dK ks) ∧ RepsK G.B O H l ks
def EnvRep (G : Bg φ) (O : Addr → Prop) (H : Hp) (σ : St) (ρ : PEnv) : Prop := σ.length = ρ.length ∧ ∀ (i : Nat) (e : Ent), ρ[i]? = some e → EntRep G O H e ((σ[i]?).getD none)
structure ES (G : Bg φ) (O : Addr → Prop) (H : Hp) (σ : St) (ρ : PEnv) (n : Nat) : Prop where
  er : EnvRep G O H σ ρ
  ok : G.ok H n
  pr : ∀ p, G.priv p → O p
  dm : ∀ p, O p → ∃ o, H p = some o
theorem ES.B {G : Bg φ} {O : Addr → Prop} {H : Hp} {σ : St} {ρ : PEnv} {n : Nat} (s : ES G O H σ ρ n) : O G.B := s.pr _ G.pB
theorem EntRep.ext {G : Bg φ} {O : Addr → Prop} {H H' : Hp} {e : Ent} {o : Option V} (h : EntRep G O H e o) (hB : O G.B) (x : Ext G.B H H') : EntRep G O H' e o := by
  cases e with
  | un => trivial
  | val y => obtain ⟨v, e, r⟩ := h; exact ⟨v, e, r.ext hB x⟩
  | own l => obtain ⟨p, xs, e, hp, np, hl, r⟩ := h; exact ⟨p, xs, e, hp, np, x p _ (fun z => np (z ▸ G.pB)) hl, r.ext hB x⟩
  | ownD l => obtain ⟨p, xs, e, hp, np, hl, r⟩ := h; exact ⟨p, xs, e, hp, np, x p _ (fun z => np (z ▸ G.pB)) hl, r.ext hB x⟩
theorem ES.ext {G : Bg φ} {O : Addr → Prop} {H H' : Hp} {σ : St} {ρ : PEnv} {n n' : Nat} (s : ES G O H σ ρ n) (x : Ext G.B H H') (ok : G.ok H' n') : ES G O H' σ ρ n' where
  er := ⟨s.er.1, fun i e h => (s.er.2 i e h).ext s.B x⟩
  ok := ok
  pr := s.pr
  dm := fun p h => by
    by_cases e : p = G.B
    · subst e; exact G.dom _ _ _ ok G.pB
    · obtain ⟨o, q⟩ := s.dm p h; exact (x p o e q).there
theorem Bg.new {G : Bg φ} {H : Hp} {n : Nat} (ok : G.ok H n) {p : Addr} (h : H p = none) (o : HO) : G.ok (upd H p o) n := G.keep _ _ _ (fun q u _ e => by rw [upd_ne (ne_of_none e h)]; exact e) ok
def Wish (G : Bg φ) (O : Addr → Prop) (H : Hp) (R : PV → Nat → Prop) (Q : VK) : Prop := ∀ (y : PV) (x : V) (H' : Hp) (n' : Nat), Ext G.B H H' → G.ok H' n' → Rep G.B O H' y x → R y n' → Q x H'
noncomputable def teP (φ : Fam) (m : PEnv → M PV) : TE := fun σ H Q => ∃ (G : Bg φ) (O : Addr → Prop) (ρ : PEnv) (n : Nat) (R : PV → Nat → Prop), ES G O H σ ρ n ∧ (m ρ).wp n R ∧ Wish G O H R Q
def EV (φ : Fam) (X : Cx) (e : Expr) (m : PEnv → M PV) : Prop := BE X e (teP φ m)
theorem BE.mono {X : Cx} {e : Expr} {t t' : TE} (h : BE X e t) (f : ∀ σ H Q, t' σ H Q → t σ H Q) : BE X e t' := ⟨fun pZ s σ H Q I q => h.out pZ s σ H Q I (f σ H Q q)⟩
inductive RepB (G : Bg φ) (O : Addr → Prop) (H : Hp) : PV → V → Prop where
  | full {y : PV} {x : V} (h : Rep G.B O H y x) : RepB G O H y x
  | top {p : Addr} {xs : List V} {l : List PV} (np : ¬ G.priv p) (h : H p = some (.lst xs)) (r : Reps G.B O H l xs) : RepB G O H (.lst l) (.ref p)
  | topD {p : Addr} {ks : List (Key × V)} {l : List (Key × PV)} (np : ¬ G.priv p) (h : H p = some (.dK ks)) (r : RepsK G.B O H l ks) : RepB G O H (.dct l) (.ref p)
theorem RepB.ext {G : Bg φ} {O : Addr → Prop} {H H' : Hp} {y : PV} {x : V} (h : RepB G O H y x) (hB : O G.B) (e : Ext G.B H H') : RepB G O H' y x := by
  cases h with
  | full h => exact .full (h.ext hB e)
  | @top p xs l np h r => exact .top np (e p (.lst xs) (fun z => np (z ▸ G.pB)) h) (r.ext hB e)
  | @topD p ks l np h r => exact .topD np (e p (.dK ks) (fun z => np (z ▸ G.pB)) h) (r.ext hB e)
def WishB (G : Bg φ) (O : Addr → Prop) (H : Hp) (R : PV → Nat → Prop) (Q : VK) : Prop := ∀ (y : PV) (x : V) (H' : Hp) (n' : Nat), Ext G.B H H' → G.ok H' n' → RepB G O H' y x → R y n' → Q x H'
noncomputable def teB (φ : Fam) (m : PEnv → M PV) : TE := fun σ H Q => ∃ (G : Bg φ) (O : Addr → Prop) (ρ : PEnv) (n : Nat) (R : PV → Nat → Prop), ES G O H σ ρ n ∧ (m ρ).wp n R ∧ WishB G O H R Q
def EB (φ : Fam) (X : Cx) (e : Expr) (m : PEnv → M PV) : Prop := BE X e (teB φ m)
theorem EV.b {X : Cx} {e : Expr} {m : PEnv → M PV} (h : EV φ X e m) : EB φ X e m := BE.mono h fun σ H Q ⟨G, O, ρ, n, R, s, w, q⟩ => ⟨G, O, ρ, n, R, s, w, fun y x H' n' a b c d => q y x H' n' a b (.full c) d⟩
def WishT (G : Bg φ) (H : Hp) (R : Bool → Nat → Prop) (Q : Bool → Hp → Prop) : Prop := ∀ (b : Bool) (H' : Hp) (n' : Nat), Ext G.B H H' → G.ok H' n' → R b n' → Q b H'
noncomputable def ttP (φ : Fam) (m : PEnv → M Bool) : TT := fun σ H Q => ∃ (G : Bg φ) (O : Addr → Prop) (ρ : PEnv) (n : Nat) (R : Bool → Nat → Prop), ES G O H σ ρ n ∧ (m ρ).wp n R ∧ WishT G H R Q
def TV (φ : Fam) (X : Cx) (e : Expr) (m : PEnv → M Bool) : Prop := BT X e (ttP φ m)
def WV (φ : Fam) (X : Cx) (e : Expr) (m : PEnv → M Bool) : Prop := BW X e (ttP φ m)
def WishA (G : Bg φ) (O : Addr → Prop) (H : Hp) (R : List PV → Nat → Prop) (Q : List V → Hp → Prop) : Prop := ∀ (l : List PV) (xs : List V) (H' : Hp) (n' : Nat), Ext G.B H H' → G.ok H' n' → Reps G.B O H' l xs → R l n' → Q xs H'
noncomputable def taP (φ : Fam) (m : PEnv → M (List PV)) : TA := fun σ H Q => ∃ (G : Bg φ) (O : Addr → Prop) (ρ : PEnv) (n : Nat) (R : List PV → Nat → Prop), ES G O H σ ρ n ∧ (m ρ).wp n R ∧ WishA G O H R Q
def AV (φ : Fam) (X : Cx) (es : List Expr) (m : PEnv → M (List PV)) : Prop := BA X es (taP φ m)
def RepBs (G : Bg φ) (O : Addr → Prop) (H : Hp) (l : List PV) (xs : List V) : Prop := l.length = xs.length ∧ ∀ (i : Nat) (y : PV) (x : V), l[i]? = some y → xs[i]? = some x → RepB G O H y x
def WishAB (G : Bg φ) (O : Addr → Prop) (H : Hp) (R : List PV → Nat → Prop) (Q : List V → Hp → Prop) : Prop := ∀ (l : List PV) (xs : List V) (H' : Hp) (n' : Nat), Ext G.B H H' → G.ok H' n' → RepBs G O H' l xs → R l n' → Q xs H'
noncomputable def taB (φ : Fam) (m : PEnv → M (List PV)) : TA := fun σ H Q => ∃ (G : Bg φ) (O : Addr → Prop) (ρ : PEnv) (n : Nat) (R : List PV → Nat → Prop), ES G O H σ ρ n ∧ (m ρ).wp n R ∧ WishAB G O H R Q
def AB (φ : Fam) (X : Cx) (es : List Expr) (m : PEnv → M (List PV)) : Prop := BA X es (taB φ m)
def WishF (G : Bg φ) (O : Addr → Prop) (H : Hp) (R : List PV → Nat → Prop) (Q : VK) : Prop := ∀ (l : List PV) (p : Addr) (xs : List V) (H' : Hp) (n' : Nat), Ext G.B H H' → G.ok H' n' → H p = none → H' p = some (.lst xs) → Reps G.B (fun q => O q ∨ q = p) H' l xs → R l n' → Q (.ref p) H'
noncomputable def teF (φ : Fam) (m : PEnv → M (List PV)) : TE := fun σ H Q => ∃ (G : Bg φ) (O : Addr → Prop) (ρ : PEnv) (n : Nat) (R : List PV → Nat → Prop), ES G O H σ ρ n ∧ (m ρ).wp n R ∧ WishF G O H R Q
def EF (φ : Fam) (X : Cx) (e : Expr) (m : PEnv → M (List PV)) : Prop := BE X e (teF φ m)
theorem EF.v {X : Cx} {e : Expr} {m : PEnv → M (List PV)} (h : EF φ X e m) : EV φ X e (fun ρ => (m ρ).bind fun l => .ret (.lst l)) := BE.mono h fun σ H Q ⟨G, O, ρ, n, R, s, w, q⟩ => by
  rw [M.wZ] at w
  refine ⟨G, O, ρ, n, _, s, w, fun l p xs H' n' a b c d e f => q (.lst l) _ H' n' a b (.lst (fun z => ?_) d e.1 (e.less fun q z => .inl z).2) f⟩
  obtain ⟨o, g⟩ := s.dm p z
  rw [c] at g; cases g
end
open Ent (val un)
section
variable {φ : Fam}
theorem big_le : 100000 ≤ sizeLine := by rw [sizeLine_eq]; decide
section
variable {G : Bg φ} {O : Addr → Prop} {H : Hp} {n : Nat} {R : PV → Nat → Prop} {Q : VK} {x x' : V}
theorem Wish.sc (w : Wish G O H R Q) (ok : G.ok H n) {y : PV} (r : Rep G.B O H y x) (h : R y n) : Q x H := w y x H n (Ext.refl _ _) ok r h
theorem Wish.tup (w : Wish G O H R Q) (ok : G.ok H n) (dm : ∀ p, O p → ∃ o, H p = some o) {p : Addr} (hp : H p = none) {l : List PV} {xs : List V} (hB : O G.B) (r : Reps G.B O H l xs) (h : R (.tup l) n) : Q (.ref p) (upd H p (.tup xs)) := by
  have e := Ext.new (B := G.B) hp (.tup xs)
  refine w (.tup l) _ _ n e (Bg.new ok hp _) (.tup (fun z => ?_) upd_same r.1 (r.ext hB e).2) h
  obtain ⟨o, g⟩ := dm p z
  rw [hp] at g; cases g
theorem Wish.lst (w : Wish G O H R Q) (ok : G.ok H n) (dm : ∀ p, O p → ∃ o, H p = some o) {p : Addr} (hp : H p = none) {l : List PV} {xs : List V} (hB : O G.B) (r : Reps G.B O H l xs) (h : R (.lst l) n) : Q (.ref p) (upd H p (.lst xs)) := by
  have e := Ext.new (B := G.B) hp (.lst xs)
  refine w (.lst l) _ _ n e (Bg.new ok hp _) (.lst (fun z => ?_) upd_same r.1 (r.ext hB e).2) h
  obtain ⟨o, g⟩ := dm p z
  rw [hp] at g; cases g
theorem WishF.mk {R : List PV → Nat → Prop} (w : WishF G O H R Q) (ok : G.ok H n) {p : Addr} (hp : H p = none) {l : List PV} {xs : List V} (hB : O G.B) (r : Reps G.B O H l xs) (h : R l n) : Q (.ref p) (upd H p (.lst xs)) := by
  have e := Ext.new (B := G.B) hp (.lst xs)
  refine w l p xs _ n e (Bg.new ok hp _) hp upd_same ((r.grow fun q z => ?_).ext (.inl hB) e) h
  rcases z with z | z
  · exact .inl z
  · subst z; exact .inr hp
theorem rd_inj {H : Hp} {p : Addr} {a b : List (Key × V)} (h : Rd H p (.dK a)) (g : Rd H p (.dK b)) : a = b := by
  rcases h with h | ⟨o, h⟩ <;> rcases g with g | ⟨o', g⟩ <;> (rw [h] at g; cases g) <;> rfl
theorem RepB.non_i (h : RepB G O H .non x) : x = .non := by cases h with | full h => cases h; rfl
theorem RepB.bl_i {b : Bool} (h : RepB G O H (.bl b) x) : x = .bl b := by cases h with | full h => cases h; rfl
theorem RepB.int_i {i : Int} (h : RepB G O H (.int i) x) : x = .int i := by cases h with | full h => cases h; rfl
theorem RepB.str_i {z : Str} (h : RepB G O H (.str z) x) : x = .str z := by cases h with | full h => cases h; rfl
theorem RepB.tup_i {l : List PV} (h : RepB G O H (.tup l) x) : ∃ p xs, x = .ref p ∧ H p = some (.tup xs) ∧ Reps G.B O H l xs := by cases h with | full h => cases h with | tup a b c d => exact ⟨_, _, rfl, b, c, d⟩
theorem RepB.lst_i {l : List PV} (h : RepB G O H (.lst l) x) : ∃ p xs, x = .ref p ∧ H p = some (.lst xs) ∧ Reps G.B O H l xs := by
  cases h with
  | full h => cases h with | lst a b c d => exact ⟨_, _, rfl, b, c, d⟩
  | top a b c => exact ⟨_, _, rfl, b, c⟩
theorem RepB.dct_i {l : List (Key × PV)} (h : RepB G O H (.dct l) x) : ∃ p ks, x = .ref p ∧ Rd H p (.dK ks) ∧ RepsK G.B O H l ks := by
  cases h with
  | full h => cases h with | dct a b c d => exact ⟨_, _, rfl, b, c, d⟩
  | topD a b c => exact ⟨_, _, rfl, .inl b, c⟩
theorem RepB.scr_i {ns : List Int} (h : RepB G O H (.scr ns) x) : ∃ p o, x = .ref p ∧ H p = some (.frz o (.lst (ns.map V.int))) := by cases h with | full h => cases h with | scr a b => obtain ⟨o, b⟩ := b; exact ⟨_, o, rfl, b⟩
theorem RepB.low {y : PV} (h : RepB G O H y x) (pr : ∀ p, G.priv p → O p) : Rep G.B G.priv H y x := by
  cases h with
  | full h => exact h.less pr
  | top np h r => exact .lst np h r.1 (r.less pr).2
  | topD np h r => exact .dct np (.inl h) r.1 fun i y x a b => (r.2 i y x a b).less pr
end
noncomputable def getV (ρ : PEnv) (i : Nat) : M PV := match ρ[i]? with | some (.val y) => .ret y | _ => .fail
noncomputable def getB (ρ : PEnv) (i : Nat) : M PV := match ρ[i]? with | some (.val y) => .ret y | some (.own l) => .ret (.lst l) | some (.ownD l) => .ret (.dct l) | _ => .fail
section
variable {X : Cx} {a b c : Expr} {pos : Pos} {ma mb mc : PEnv → M PV}
theorem ev_of {e : Expr} {v : V} {y : PV} (h : BE X e (tC v)) (r : ∀ B O H, Rep B O H y v) : EV φ X e (fun _ => .ret y) := BE.mono h fun σ H Q ⟨G, O, ρ, n, R, s, w, q⟩ => q.sc s.ok (r _ _ _) w
theorem ev_int {i : Int} {j : Nat} : EV φ X (.Constant (.int i) j pos) (fun _ => .ret (.int i)) := ev_of ⟨pe_int⟩ fun _ _ _ => .int i
theorem ev_bl {i : Bool} {j : Nat} : EV φ X (.Constant (.bool i) j pos) (fun _ => .ret (.bl i)) := ev_of ⟨pe_bl⟩ fun _ _ _ => .bl i
theorem ev_non {j : Nat} : EV φ X (.Constant .none j pos) (fun _ => .ret .non) := ev_of ⟨pe_non⟩ fun _ _ _ => .non
theorem ev_str {x : Str} {j : Nat} : EV φ X (.Constant (.str x) j pos) (fun _ => .ret (.str x)) := ev_of ⟨pe_str⟩ fun _ _ _ => .str x
theorem ev_glob {x : Str} {i : Int} {t : Tok} (hg : Gl X x) (hm : X.mg x = some (.int i t)) (hd : (x == ("__debug__" : Str)) = false := by decide) : EV φ X (.Name x pos) (fun _ => .ret (.int i)) := ev_of ⟨pe_glob (v := .int i) hg hm ⟨_, rfl⟩ hd⟩ fun _ _ _ => .int i
theorem sig_of {G : Bg φ} {O : Addr → Prop} {H : Hp} {σ : St} {ρ : PEnv} {i : Nat} {e : Ent} {x : V} (h : EnvRep G O H σ ρ) (he : ρ[i]? = some e) (hx : (σ[i]?).getD none = some x) : σ[i]? = some (some x) := by
  cases q : σ[i]? with
  | none => rw [q] at hx; cases hx
  | some o => rw [q] at hx; cases o with
    | none => cases hx
    | some z => simp at hx; rw [hx]
theorem ev_name {x : Str} (i : Nat) (h : BE X (.Name x pos) (tVar i)) : EV φ X (.Name x pos) (fun ρ => getV ρ i) := BE.mono h fun σ H Q ⟨G, O, ρ, n, R, s, w, q⟩ => by
  replace w : (getV ρ i).wp n R := w
  unfold getV at w
  cases e : ρ[i]? with
  | none => rw [e] at w; exact w.elim
  | some t =>
    rw [e] at w
    cases t with
    | val y =>
      obtain ⟨x, hx, r⟩ := s.er.2 i _ e
      exact ⟨x, sig_of s.er e hx, q.sc s.ok r w⟩
    | _ => exact w.elim
theorem eb_name {x : Str} (i : Nat) (h : BE X (.Name x pos) (tVar i)) : EB φ X (.Name x pos) (fun ρ => getB ρ i) := BE.mono h fun σ H Q ⟨G, O, ρ, n, R, s, w, q⟩ => by
  replace w : (getB ρ i).wp n R := w
  unfold getB at w
  cases e : ρ[i]? with
  | none => rw [e] at w; exact w.elim
  | some t =>
    rw [e] at w
    cases t with
    | val y =>
      obtain ⟨x, hx, r⟩ := s.er.2 i _ e
      exact ⟨x, sig_of s.er e hx, q _ _ _ _ (Ext.refl _ _) s.ok (.full r) w⟩
    | own l =>
      obtain ⟨p, xs, hx, _, np, hl, r⟩ := s.er.2 i _ e
      exact ⟨_, sig_of s.er e hx, q _ _ _ _ (Ext.refl _ _) s.ok (.top np hl r) w⟩
    | ownD l =>
      obtain ⟨p, xs, hx, _, np, hl, r⟩ := s.er.2 i _ e
      exact ⟨_, sig_of s.er e hx, q _ _ _ _ (Ext.refl _ _) s.ok (.topD np hl r) w⟩
    | un => exact w.elim
def OpV (r : R2) (op : PV → PV → M PV) : Prop := ∀ (φ : Fam) (G : Bg φ) (O : Addr → Prop) (H : Hp) (n : Nat) (R : PV → Nat → Prop) (Q : VK) (y y' : PV) (x x' : V),
  (∀ p, G.priv p → O p) → (∀ p, O p → ∃ o, H p = some o) → G.ok H n → RepB G O H y x → RepB G O H y' x' → (op y y').wp n R → Wish G O H R Q → r x x' H Q
noncomputable def bin2 (op : PV → PV → M PV) (ma mb : PEnv → M PV) : PEnv → M PV := fun ρ => (ma ρ).bind fun x => (mb ρ).bind fun y => op x y
theorem two {r : R2} {op : PV → PV → M PV} (hv : OpV r op) : ∀ σ H Q, teP φ (bin2 op ma mb) σ H Q → tOp r (teB φ ma) (teB φ mb) σ H Q := fun σ H Q ⟨G, O, ρ, n, R, s, w, q⟩ => by
  unfold bin2 at w
  rw [M.wZ] at w
  refine ⟨G, O, ρ, n, _, s, w, fun y x H1 n1 e1 ok1 r1 w1 => ?_⟩
  rw [M.wZ] at w1
  refine ⟨G, O, ρ, n1, _, s.ext e1 ok1, w1, fun y' x' H2 n2 e2 ok2 r2 w2 => ?_⟩
  exact hv φ G O H2 n2 R Q y y' x x' s.pr (s.ext (e1.trans e2) ok2).dm ok2 (r1.ext s.B e2) r2 w2 fun y x H' n' e o r h => q y x H' n' (e1.trans (e2.trans e)) o r h
theorem ev_bin {o : Operator} {r : R2} {op : PV → PV → M PV} (ho : OpR X (binaryOp o) r) (hv : OpV r op) (ha : EB φ X a ma) (hb : EB φ X b mb) : EV φ X (.BinOp a o b pos) (bin2 op ma mb) :=
  BE.mono ⟨pe_op ho ha.out hb.out⟩ (two hv)
theorem ev_cmp {o : CmpOp} {r : R2} {op : PV → PV → M PV} (ho : OpR X (compareOp o) r) (hv : OpV r op) (ha : EB φ X a ma) (hb : EB φ X b mb) (hm : behindInMarks o b = false) : EV φ X (.Compare a [o] [b] pos) (bin2 op ma mb) :=
  BE.mono ⟨pe_cmpR ho ha.out hb.out hm⟩ (two hv)
theorem ev_ix {r : R2} {op : PV → PV → M PV} (hr : IxR X r) (hv : OpV r op) (ha : EB φ X a ma) (hb : EB φ X b mb) (hs : PlainIx b) : EV φ X (.Subscript a b pos) (bin2 op ma mb) :=
  BE.mono ⟨pe_ix hr ha.out hb.out hs⟩ (two hv)
noncomputable def asB (m : PEnv → M PV) : PEnv → M Bool := fun ρ => (m ρ).bind fun y => match y with | .bl b => .ret b | _ => .fail
theorem asB_in {m : PEnv → M PV} {t : TE} (f : ∀ σ H Q, teP φ m σ H Q → t σ H Q) : ∀ σ H Q, ttP φ (asB m) σ H Q → t σ H (fun x H1 => ∃ k, x = .bl k ∧ Q k H1) := fun σ H Q ⟨G, O, ρ, n, R, s, w, q⟩ => by
  unfold asB at w
  rw [M.wZ] at w
  refine f σ H _ ⟨G, O, ρ, n, _, s, w, fun y x H1 n1 e1 ok1 r1 w1 => ?_⟩
  cases y with
  | bl k => cases r1; exact ⟨k, rfl, q k H1 n1 e1 ok1 w1⟩
  | _ => exact w1.elim
theorem BT.mono {e : Expr} {t t' : TT} (h : BT X e t) (f : ∀ σ H Q, t' σ H Q → t σ H Q) : BT X e t' := ⟨fun pZ s σ H Q I q => h.out pZ s σ H Q I (f σ H Q q)⟩
theorem BW.mono {e : Expr} {t t' : TT} (h : BW X e t) (f : ∀ σ H Q, t' σ H Q → t σ H Q) : BW X e t' := ⟨fun w pZ s σ H Q I q => h.out w pZ s σ H Q I (f σ H Q q)⟩
theorem tv_cmp {o : CmpOp} {r : R2} {op : PV → PV → M PV} (ho : OpR X (compareOp o) r) (hv : OpV r op) (ha : EB φ X a ma) (hb : EB φ X b mb) (hm : behindInMarks o b = false) : TV φ X (.Compare a [o] [b] pos) (asB (bin2 op ma mb)) :=
  BT.mono ⟨pt_cmpR ho ha.out hb.out hm⟩ (asB_in (two hv))
theorem tv_val {e : Expr} {m : PEnv → M PV} (h : EV φ X e m) (he : ∀ whole, isTrue e X.env whole = (do let v ← whole; standAt e.pos; holding [v] (truthy v)) := by intro _; rfl) : TV φ X e (asB m) :=
  BT.mono ⟨pt_val h.out he⟩ (asB_in fun _ _ _ h => h)
noncomputable def notP (m : PEnv → M Bool) : PEnv → M Bool := fun ρ => (m ρ).bind fun b => .ret (!b)
theorem tv_not {m : PEnv → M Bool} (h : TV φ X a m) : TV φ X (.UnaryOp .Not a pos) (notP m) := BT.mono ⟨pt_not h.out⟩ fun σ H Q ⟨G, O, ρ, n, R, s, w, q⟩ => by
  unfold notP at w
  rw [M.wZ] at w
  exact ⟨G, O, ρ, n, _, s, w, fun b H1 n1 e1 ok1 w1 => q (!b) H1 n1 e1 ok1 w1⟩
noncomputable def andP (ma mb : PEnv → M Bool) : PEnv → M Bool := fun ρ => (ma ρ).bind fun b => if b = true then mb ρ else .ret false
noncomputable def orP (ma mb : PEnv → M Bool) : PEnv → M Bool := fun ρ => (ma ρ).bind fun b => if b = true then .ret true else mb ρ
theorem WV.t {e : Expr} {m : PEnv → M Bool} (h : WV φ X e m) : TV φ X e m := ⟨PW.pt h.out⟩
theorem wv_and1 {m : PEnv → M Bool} (h : TV φ X a m) : WV φ X (.BoolOp .And [a] pos) m := ⟨pw_and1 h.out⟩
theorem wv_or1 {m : PEnv → M Bool} (h : TV φ X a m) : WV φ X (.BoolOp .Or [a] pos) m := ⟨pw_or1 h.out⟩
theorem wv_and {rest : List Expr} {m m' : PEnv → M Bool} (h : TV φ X a m) (h' : WV φ X (.BoolOp .And (b :: rest) pos) m') : WV φ X (.BoolOp .And (a :: b :: rest) pos) (andP m m') := BW.mono ⟨pw_and h.out h'.out⟩ fun σ H Q ⟨G, O, ρ, n, R, s, w, q⟩ => by
  unfold andP at w
  rw [M.wZ] at w
  refine ⟨G, O, ρ, n, _, s, w, fun b H1 n1 e1 ok1 w1 => ?_⟩
  cases b with
  | true => exact ⟨G, O, ρ, n1, R, s.ext e1 ok1, w1, fun b H' n' e o h => q b H' n' (e1.trans e) o h⟩
  | false => exact q false H1 n1 e1 ok1 w1
theorem wv_or {rest : List Expr} {m m' : PEnv → M Bool} (h : TV φ X a m) (h' : WV φ X (.BoolOp .Or (b :: rest) pos) m') : WV φ X (.BoolOp .Or (a :: b :: rest) pos) (orP m m') := BW.mono ⟨pw_or h.out h'.out⟩ fun σ H Q ⟨G, O, ρ, n, R, s, w, q⟩ => by
  unfold orP at w
  rw [M.wZ] at w
  refine ⟨G, O, ρ, n, _, s, w, fun b H1 n1 e1 ok1 w1 => ?_⟩
  cases b with
  | true => exact q true H1 n1 e1 ok1 w1
  | false => exact ⟨G, O, ρ, n1, R, s.ext e1 ok1, w1, fun b H' n' e o h => q b H' n' (e1.trans e) o h⟩
noncomputable def notV (m : PEnv → M PV) : PEnv → M PV := fun ρ => (asB m ρ).bind fun b => .ret (.bl (!b))
noncomputable def andV (ma mb : PEnv → M PV) : PEnv → M PV := fun ρ => (asB ma ρ).bind fun b => if b = true then mb ρ else .ret (.bl false)
noncomputable def orV (ma mb : PEnv → M PV) : PEnv → M PV := fun ρ => (asB ma ρ).bind fun b => if b = true then .ret (.bl true) else mb ρ
theorem as_cut {m : PEnv → M PV} {f : Bool → M PV} {σ : St} {H : Hp} {Q : VK} {G : Bg φ} {O : Addr → Prop} {ρ : PEnv} {n : Nat} {R : PV → Nat → Prop} {T : V → Hp → Prop} (s : ES G O H σ ρ n) (w : ((asB m ρ).bind f).wp n R)
    (k : ∀ (b : Bool) (H1 : Hp) (n1 : Nat), Ext G.B H H1 → G.ok H1 n1 → (f b).wp n1 R → T (.bl b) H1) : teP φ m σ H T := by
  rw [M.wZ] at w
  unfold asB at w
  rw [M.wZ] at w
  refine ⟨G, O, ρ, n, _, s, w, fun y x H1 n1 e1 ok1 r1 w1 => ?_⟩
  cases y with
  | bl b => cases r1; exact k b H1 n1 e1 ok1 w1
  | _ => exact w1.elim
theorem ev_not (ha : EV φ X a ma) : EV φ X (.UnaryOp .Not a pos) (notV ma) := BE.mono ⟨pe_not ha.out⟩ fun σ H Q ⟨G, O, ρ, n, R, s, w, q⟩ =>
  as_cut (Q := Q) s w fun b H1 n1 e1 ok1 w1 => ⟨b, rfl, q _ _ _ _ e1 ok1 (.bl _) w1⟩
theorem ev_one {op : BoolOp} (ha : EV φ X a ma) : EV φ X (.BoolOp op [a] pos) ma := ⟨pe_one ha.out⟩
theorem ev_and {rest : List Expr} (ha : EV φ X a ma) (hb : EV φ X (.BoolOp .And (b :: rest) pos) mb) : EV φ X (.BoolOp .And (a :: b :: rest) pos) (andV ma mb) := BE.mono ⟨pe_and ha.out hb.out⟩ fun σ H Q ⟨G, O, ρ, n, R, s, w, q⟩ =>
  as_cut (Q := Q) s w fun b H1 n1 e1 ok1 w1 => ⟨b, rfl, by
    cases b with
    | true => exact ⟨G, O, ρ, n1, R, s.ext e1 ok1, w1, fun y x H' n' e o r h => q y x H' n' (e1.trans e) o r h⟩
    | false => exact q _ _ _ _ e1 ok1 (.bl _) w1⟩
theorem ev_or {rest : List Expr} (ha : EV φ X a ma) (hb : EV φ X (.BoolOp .Or (b :: rest) pos) mb) : EV φ X (.BoolOp .Or (a :: b :: rest) pos) (orV ma mb) := BE.mono ⟨pe_or ha.out hb.out⟩ fun σ H Q ⟨G, O, ρ, n, R, s, w, q⟩ =>
  as_cut (Q := Q) s w fun b H1 n1 e1 ok1 w1 => ⟨b, rfl, by
    cases b with
    | true => exact q _ _ _ _ e1 ok1 (.bl _) w1
    | false => exact ⟨G, O, ρ, n1, R, s.ext e1 ok1, w1, fun y x H' n' e o r h => q y x H' n' (e1.trans e) o r h⟩⟩
noncomputable def ifV (mc : PEnv → M Bool) (ma mb : PEnv → M PV) : PEnv → M PV := fun ρ => (mc ρ).bind fun b => if b = true then ma ρ else mb ρ
theorem ev_if {t : PEnv → M Bool} (hc : TV φ X c t) (ha : EV φ X a ma) (hb : EV φ X b mb) : EV φ X (.IfExp c a b pos) (ifV t ma mb) := BE.mono ⟨pe_ifExp hc.out ha.out hb.out⟩ fun σ H Q ⟨G, O, ρ, n, R, s, w, q⟩ => by
  unfold ifV at w
  rw [M.wZ] at w
  refine ⟨G, O, ρ, n, _, s, w, fun b H1 n1 e1 ok1 w1 => ?_⟩
  cases b with
  | true => exact ⟨G, O, ρ, n1, R, s.ext e1 ok1, w1, fun y x H' n' e o r h => q y x H' n' (e1.trans e) o r h⟩
  | false => exact ⟨G, O, ρ, n1, R, s.ext e1 ok1, w1, fun y x H' n' e o r h => q y x H' n' (e1.trans e) o r h⟩
noncomputable def chain (op op' : PV → PV → M PV) (ma mb mc : PEnv → M PV) : PEnv → M PV := fun ρ => (ma ρ).bind fun x => (mb ρ).bind fun y => (op x y).bind fun z => match z with
  | .bl true => (mc ρ).bind fun u => op' y u
  | .bl false => .ret (.bl false)
  | _ => .fail
theorem chain_in {r r' : R2} {op op' : PV → PV → M PV} (hv : OpV r op) (hv' : OpV r' op') : ∀ σ H Q, teP φ (chain op op' ma mb mc) σ H Q → tChain r r' (teB φ ma) (teB φ mb) (teB φ mc) σ H Q := fun σ H Q ⟨G, O, ρ, n, R, s, w, q⟩ => by
  unfold chain at w
  rw [M.wZ] at w
  refine ⟨G, O, ρ, n, _, s, w, fun y x H1 n1 e1 ok1 r1 w1 => ?_⟩
  rw [M.wZ] at w1
  refine ⟨G, O, ρ, n1, _, s.ext e1 ok1, w1, fun y' x' H2 n2 e2 ok2 r2 w2 => ?_⟩
  rw [M.wZ] at w2
  refine hv φ G O H2 n2 _ _ y y' x x' s.pr (s.ext (e1.trans e2) ok2).dm ok2 (r1.ext s.B e2) r2 w2 fun z u H3 n3 e3 ok3 r3 w3 => ?_
  cases z with
  | bl k =>
    cases r3
    refine ⟨k, rfl, ?_⟩
    cases k with
    | true =>
      show teB φ mc σ H3 _
      rw [M.wZ] at w3
      refine ⟨G, O, ρ, n3, _, s.ext (e1.trans (e2.trans e3)) ok3, w3, fun y4 x4 H4 n4 e4 ok4 r4 w4 => ?_⟩
      exact hv' φ G O H4 n4 R Q y' y4 x' x4 s.pr (s.ext (e1.trans (e2.trans (e3.trans e4))) ok4).dm ok4 (r2.ext s.B (e3.trans e4)) r4 w4 fun y x H' n' e o r h => q y x H' n' (e1.trans (e2.trans (e3.trans (e4.trans e)))) o r h
    | false => exact q _ _ _ _ (e1.trans (e2.trans e3)) ok3 (.bl _) w3
  | _ => exact w3.elim
theorem ev_chain {o o' : CmpOp} {r r' : R2} {op op' : PV → PV → M PV} (ho : OpR X (compareOp o) r) (hv : OpV r op) (ho' : OpR X (compareOp o') r') (hv' : OpV r' op') (ha : EB φ X a ma) (hb : EB φ X b mb) (hc : EB φ X c mc) (hm : lastMarks [o, o'] [b, c] = false := by with_unfolding_all rfl) : EV φ X (.Compare a [o, o'] [b, c] pos) (chain op op' ma mb mc) :=
  BE.mono ⟨pe_chain ho ho' ha.out hb.out hc.out hm⟩ (chain_in hv hv')
theorem tv_chain {o o' : CmpOp} {r r' : R2} {op op' : PV → PV → M PV} (ho : OpR X (compareOp o) r) (hv : OpV r op) (ho' : OpR X (compareOp o') r') (hv' : OpV r' op') (ha : EB φ X a ma) (hb : EB φ X b mb) (hc : EB φ X c mc) (hm : lastMarks [o, o'] [b, c] = false := by with_unfolding_all rfl) : TV φ X (.Compare a [o, o'] [b, c] pos) (asB (chain op op' ma mb mc)) :=
  BT.mono ⟨pt_chain ho ho' ha.out hb.out hc.out hm⟩ (asB_in (chain_in hv hv'))
end
end
section
variable {φ : Fam}
noncomputable def toV : PV → V
  | .non => .non
  | .bl b => .bl b
  | .int i => .int i
  | .str x => .str x
  | _ => .ty ""
noncomputable def flatP (y : PV) : Bool := flatV (toV y)
theorem flat_rep {B : Addr} {O : Addr → Prop} {H : Hp} {y : PV} {x : V} (h : Rep B O H y x) (f : flatP y = true) : x = toV y := by
  cases h <;> first | rfl | (exact absurd f (by decide)) | (simp [flatP, toV, flatV] at f)
theorem flat_repB {G : Bg φ} {O : Addr → Prop} {H : Hp} {y : PV} {x : V} (h : RepB G O H y x) (f : flatP y = true) : x = toV y := by
  cases h with
  | full h => exact flat_rep h f
  | _ => simp [flatP, toV, flatV] at f
noncomputable def eqs (f : PV → PV → Option Bool) : List PV → List PV → Option Bool
  | [], [] => some true
  | [], _ :: _ => some false
  | _ :: _, [] => some false
  | a :: r, b :: t => (f a b).bind fun x => (eqs f r t).bind fun y => some (x && y)
noncomputable def eqP : Nat → PV → PV → Option Bool
  | k + 1, .lst a, .lst b => eqs (eqP k) a b
  | k + 1, .tup a, .tup b => eqs (eqP k) a b
  | _ + 1, .lst _, .tup _ => some false
  | _ + 1, .tup _, .lst _ => some false
  | _ + 1, .lst _, y => if flatP y then some false else none
  | _ + 1, .tup _, y => if flatP y then some false else none
  | _ + 1, y, .lst _ => if flatP y then some false else none
  | _ + 1, y, .tup _ => if flatP y then some false else none
  | _, y, z => if flatP y && flatP z then some (eqV (toV y) (toV z)) else none
theorem eqs_at {f : PV → PV → Option Bool} : ∀ {a b : List PV} {c : Bool}, eqs f a b = some c → ∃ e : Nat → Bool, (∀ j y z, a[j]? = some y → b[j]? = some z → f y z = some (e j)) ∧ c = ((List.range (min a.length b.length)).all e && a.length == b.length)
  | [], [], c, h => ⟨fun _ => true, fun j y z e => by simp at e, by simp [eqs] at h; simp [h]⟩
  | [], _ :: _, c, h => ⟨fun _ => true, fun j y z e => by simp at e, by simp [eqs] at h; simp [h]⟩
  | _ :: _, [], c, h => ⟨fun _ => true, fun j y z _ e => by simp at e, by simp [eqs] at h; simp [h]⟩
  | y :: r, z :: t, c, h => by
    simp only [eqs] at h
    cases h1 : f y z with
    | none => rw [h1] at h; simp at h
    | some x =>
      rw [h1] at h
      simp only [Option.bind_some] at h
      cases h2 : eqs f r t with
      | none => rw [h2] at h; simp at h
      | some w =>
        rw [h2] at h
        simp only [Option.bind_some, Option.some.injEq] at h
        obtain ⟨e, he, hw⟩ := eqs_at h2
        refine ⟨fun j => match j with | 0 => x | j + 1 => e j, fun j y' z' a b => ?_, ?_⟩
        · cases j with
          | zero => simp at a b; subst a b; exact h1
          | succ j => simp at a b; exact he j y' z' a b
        · have e0 : min (y :: r).length (z :: t).length = min r.length t.length + 1 := by simp only [List.length_cons]; omega
          rw [e0, List.range_succ_eq_map, List.all_cons, List.all_map, ← h, hw]
          simp only [List.length_cons, Function.comp_def, Bool.and_assoc]
          congr 2
          rw [Bool.eq_iff_iff]; simp
theorem ext_rel {α β : Type} {l l' : List α} {xs : List β} (h1 : l.length = xs.length) (h2 : l'.length = xs.length) (hh : ∀ (i : Nat) (y y' : α) (x : β), l[i]? = some y → l'[i]? = some y' → xs[i]? = some x → y = y') : l = l' := by
  apply List.ext_getElem (h1.trans h2.symm)
  intro i a b
  exact hh i _ _ _ (List.getElem?_eq_getElem a) (List.getElem?_eq_getElem b) (List.getElem?_eq_getElem (h1 ▸ a))
theorem int_inj : ∀ {a b : List Int}, a.map V.int = b.map V.int → a = b
  | [], [], _ => rfl
  | [], _ :: _, h => by simp at h
  | _ :: _, [], h => by simp at h
  | x :: a, y :: b, h => by
    simp only [List.map_cons, List.cons.injEq, V.int.injEq] at h
    rw [h.1, int_inj h.2]
theorem Rep.uniq {B : Addr} {O : Addr → Prop} {H : Hp} (hB : O B) {y : PV} {x : V} (h : Rep B O H y x) : ∀ {y' : PV}, Rep B O H y' x → y = y' := by
  induction h with
  | non => intro y' h; cases h; rfl
  | bl b => intro y' h; cases h; rfl
  | int i => intro y' h; cases h; rfl
  | str x => intro y' h; cases h; rfl
  | tup hO h hl hr ih =>
    intro y' g
    cases g with
    | tup gO g gl gr =>
      rw [h] at g; cases g
      congr 1
      exact ext_rel hl gl fun i y y' x a b c => ih i y x a c (gr i y' x b c)
    | lst gO g gl gr => rw [h] at g; cases g
    | dct gO g gl gr => rcases g with g | ⟨o', g⟩ <;> (rw [h] at g; cases g)
    | scr gO g => obtain ⟨o, g⟩ := g; rw [h] at g; cases g
    | bag => exact absurd hB hO
  | lst hO h hl hr ih =>
    intro y' g
    cases g with
    | lst gO g gl gr =>
      rw [h] at g; cases g
      congr 1
      exact ext_rel hl gl fun i y y' x a b c => ih i y x a c (gr i y' x b c)
    | tup gO g gl gr => rw [h] at g; cases g
    | dct gO g gl gr => rcases g with g | ⟨o', g⟩ <;> (rw [h] at g; cases g)
    | scr gO g => obtain ⟨o, g⟩ := g; rw [h] at g; cases g
    | bag => exact absurd hB hO
  | dct hO h hl hr ih =>
    intro y' g
    cases g with
    | dct gO g gl gr =>
      obtain rfl := rd_inj h g
      congr 1
      refine ext_rel (by simpa using congrArg List.length hl) (by simpa using congrArg List.length gl) fun i y y' x a b c => ?_
      have k1 : y.1 = x.1 := by
        have := congrArg (·[i]?) hl
        simp only [List.getElem?_map, a, c] at this
        simpa using this
      have k2 : y'.1 = x.1 := by
        have := congrArg (·[i]?) gl
        simp only [List.getElem?_map, b, c] at this
        simpa using this
      exact Prod.ext (k1.trans k2.symm) (ih i y x a c (gr i y' x b c))
    | tup gO g gl gr => rcases h with h | ⟨o', h⟩ <;> (rw [h] at g; cases g)
    | lst gO g gl gr => rcases h with h | ⟨o', h⟩ <;> (rw [h] at g; cases g)
    | scr gO g => obtain ⟨o, g⟩ := g; rcases h with h | ⟨o', h⟩ <;> (rw [h] at g; cases g)
    | bag => exact absurd hB hO
  | scr hO h =>
    intro y' g
    obtain ⟨o, h⟩ := h
    cases g with
    | scr gO g =>
      obtain ⟨o', g⟩ := g
      rw [h] at g
      injection g with g; injection g with g1 g2; injection g2 with g2
      congr 1
      exact int_inj g2
    | tup gO g gl gr => rw [h] at g; cases g
    | lst gO g gl gr => rw [h] at g; cases g
    | dct gO g gl gr => rcases g with g | ⟨o', g⟩ <;> (rw [h] at g; cases g)
    | bag => exact absurd hB hO
  | bag =>
    intro y' g
    cases g with
    | bag => rfl
    | tup gO g gl gr => exact absurd hB gO
    | lst gO g gl gr => exact absurd hB gO
    | dct gO g gl gr => exact absurd hB gO
    | scr gO g => exact absurd hB gO
theorem eqs_refl {f : PV → PV → Option Bool} (hf : ∀ y c, f y y = some c → c = true) : ∀ {a : List PV} {c : Bool}, eqs f a a = some c → c = true
  | [], c, h => by simp [eqs] at h; exact h
  | y :: r, c, h => by
    simp only [eqs] at h
    cases h1 : f y y with
    | none => rw [h1] at h; simp at h
    | some x =>
      rw [h1] at h
      simp only [Option.bind_some] at h
      cases h2 : eqs f r r with
      | none => rw [h2] at h; simp at h
      | some w =>
        rw [h2] at h
        simp only [Option.bind_some, Option.some.injEq] at h
        rw [← h, hf _ _ h1, eqs_refl hf h2]; rfl
theorem eqP_flat {k : Nat} {y z : PV} (h1 : flatP y = true) (h2 : flatP z = true) : eqP k y z = some (eqV (toV y) (toV z)) := by
  cases k <;> cases y <;> cases z <;> first | rfl | (simp [flatP, toV, flatV] at h1; done) | (simp [flatP, toV, flatV] at h2; done)
theorem eqP_refl : ∀ (k : Nat) (y : PV) (c : Bool), eqP k y y = some c → c = true := by
  intro k
  induction k with
  | zero =>
    intro y c h
    cases y <;> simp [eqP, flatP, toV, flatV, eqV] at h <;> (try exact h) <;> (try exact h.symm)
  | succ k ih =>
    intro y c h
    cases y with
    | lst a => exact eqs_refl ih h
    | tup a => exact eqs_refl ih h
    | _ => simp [eqP, flatP, toV, flatV, eqV] at h <;> (try exact h) <;> (try exact h.symm)
section
variable {X : Cx} {pZ : List (Addr × Obj)} {σ : St} {H : Hp} {s : Shared} {B : Addr} {O : Addr → Prop}
theorem eqAt_flat {A : Around} {y z : PV} {x x' : V} {u v : Value} (h1 : flatP y = true) (h2 : flatP z = true) (r1 : Rep B O H y x) (r2 : Rep B O H z x') (q1 : RelV x u) (q2 : RelV x' v) : SeqAt.EqAt A s u v (eqV (toV y) (toV z)) := by
  rw [flat_rep r1 h1] at q1
  rw [flat_rep r2 h2] at q2
  exact eqAt_V q1 q2 h1 h2
theorem eq_at (I : Inv X pZ σ H s) (hB : O B) : ∀ (k : Nat) (A : Around) (y z : PV) (x x' : V) (u v : Value) (c : Bool), Rep B O H y x → Rep B O H z x' → RelV x u → RelV x' v → eqP k y z = some c → A.units + k < cLine → SeqAt.EqAt A s u v c := by
  intro k
  induction k with
  | zero =>
    intro A y z x x' u v c r1 r2 q1 q2 e hu
    have f : flatP y = true ∧ flatP z = true := by
      unfold eqP at e
      by_cases h : (flatP y && flatP z) = true
      · simpa using h
      · cases y <;> cases z <;> simp_all [flatP, toV, flatV]
    rw [eqP_flat f.1 f.2] at e
    cases e
    exact eqAt_flat f.1 f.2 r1 r2 q1 q2
  | succ k ih =>
    intro A y z x x' u v c r1 r2 q1 q2 e hu
    have hu0 : A.units < cLine := by omega
    have hu1 : A.in1.units + k < cLine := by show A.units + 1 + k < cLine; omega
    by_cases f : flatP y = true ∧ flatP z = true
    · rw [eqP_flat f.1 f.2] at e
      cases e
      exact eqAt_flat f.1 f.2 r1 r2 q1 q2
    cases r1 with
    | @lst p xs l hO h hl hr =>
      cases q1
      obtain ⟨its, v1, p1, _⟩ := I.list (SqL.of (K := X.K) h)
      cases r2 with
      | @lst p' xs' l' hO' h' hl' hr' =>
        cases q2
        by_cases pe : p = p'
        · subst pe
          have e1 := Rep.uniq hB (.lst hO h hl hr) (.lst hO' h' hl' hr')
          rw [e1] at e
          rw [eqP_refl _ _ _ e]
          exact .same _
        · obtain ⟨its', v2, p2, _⟩ := I.list (SqL.of (K := X.K) h')
          obtain ⟨g, hg, hc⟩ := eqs_at e
          refine .of_refs pe ?_
          have e1 : its.toArray.size = l.length := by rw [List.size_toArray, ← v1.length, hl]
          have e2 : its'.toArray.size = l'.length := by rw [List.size_toArray, ← v2.length, hl']
          by_cases hs : l.length = l'.length
          · have hh := SeqAt.RcAt.lists (A := A) (e := g) p1.isList p2.isList (by rw [e1, e2, hs]) hu0 (fun j h1 h2 => ?_)
            · rw [hc, ← hs, Nat.min_self, beq_self_eq_true, Bool.and_true, ← e1]; exact hh
            · have j1 : j < l.length := e1 ▸ h1
              have j2 : j < l'.length := e2 ▸ h2
              obtain ⟨u1, a1, a2⟩ := v1.get (i := j) (x := xs[j]) (List.getElem?_eq_getElem _)
              obtain ⟨u2, b1, b2⟩ := v2.get (i := j) (x := xs'[j]) (List.getElem?_eq_getElem _)
              have a3 : its.toArray[j] = u1 := by
                have := (List.getElem?_eq_some_iff.mp a1).2
                simpa using this
              have b3 : its'.toArray[j] = u2 := by
                have := (List.getElem?_eq_some_iff.mp b1).2
                simpa using this
              rw [a3, b3]
              exact ih A.in1 l[j] l'[j] _ _ _ _ _ (hr j _ _ (List.getElem?_eq_getElem j1) (List.getElem?_eq_getElem _)) (hr' j _ _ (List.getElem?_eq_getElem j2) (List.getElem?_eq_getElem _)) a2 b2 (hg j _ _ (List.getElem?_eq_getElem j1) (List.getElem?_eq_getElem j2)) hu1
          · have : c = false := by rw [hc]; simp [hs]
            rw [this]
            exact SeqAt.RcAt.lists_lengths p1.isList p2.isList (by rw [e1, e2]; simpa using hs) hu0
      | @tup p' xs' l' hO' h' hl' hr' =>
        cases q2
        obtain ⟨its', v2, p2, _⟩ := I.tuple (SqT.of (K := X.K) h')
        cases e
        exact .list_tuple p1.isList p2  hu0
      | non => cases q2; cases e; exact .list_none p1.isList hu0
      | bl b => cases q2; cases e; exact .list_bool b p1.isList hu0
      | int b => obtain ⟨t, rfl⟩ := q2; cases e; exact .list_int b t p1.isList hu0
      | str b => obtain ⟨t, rfl⟩ := q2; cases e; exact .list_str b t p1.isList hu0
      | _ => cases e
    | @tup p xs l hO h hl hr =>
      cases q1
      obtain ⟨its, v1, p1, _⟩ := I.tuple (SqT.of (K := X.K) h)
      cases r2 with
      | @tup p' xs' l' hO' h' hl' hr' =>
        cases q2
        by_cases pe : p = p'
        · subst pe
          have e1 := Rep.uniq hB (.tup hO h hl hr) (.tup hO' h' hl' hr')
          rw [e1] at e
          rw [eqP_refl _ _ _ e]
          exact .same _
        · obtain ⟨its', v2, p2, _⟩ := I.tuple (SqT.of (K := X.K) h')
          obtain ⟨g, hg, hc⟩ := eqs_at e
          refine .of_refs pe ?_
          have e1 : its.toArray.size = l.length := by rw [List.size_toArray, ← v1.length, hl]
          have e2 : its'.toArray.size = l'.length := by rw [List.size_toArray, ← v2.length, hl']
          have hh := SeqAt.RcAt.tuples (A := A) (e := g) p1  p2  hu0 (fun j h1 h2 => ?_)
          · rw [hc, ← e1, ← e2]; exact hh
          · have j1 : j < l.length := e1 ▸ h1
            have j2 : j < l'.length := e2 ▸ h2
            obtain ⟨u1, a1, a2⟩ := v1.get (i := j) (x := xs[j]) (List.getElem?_eq_getElem _)
            obtain ⟨u2, b1, b2⟩ := v2.get (i := j) (x := xs'[j]) (List.getElem?_eq_getElem _)
            have a3 : its.toArray[j] = u1 := by
              have := (List.getElem?_eq_some_iff.mp a1).2
              simpa using this
            have b3 : its'.toArray[j] = u2 := by
              have := (List.getElem?_eq_some_iff.mp b1).2
              simpa using this
            rw [a3, b3]
            exact ih A.in1 l[j] l'[j] _ _ _ _ _ (hr j _ _ (List.getElem?_eq_getElem j1) (List.getElem?_eq_getElem _)) (hr' j _ _ (List.getElem?_eq_getElem j2) (List.getElem?_eq_getElem _)) a2 b2 (hg j _ _ (List.getElem?_eq_getElem j1) (List.getElem?_eq_getElem j2)) hu1
      | @lst p' xs' l' hO' h' hl' hr' =>
        cases q2
        obtain ⟨its', v2, p2, _⟩ := I.list (SqL.of (K := X.K) h')
        cases e
        exact .tuple_list p1  p2.isList hu0
      | non => cases q2; cases e; exact .tuple_none p1  hu0
      | bl b => cases q2; cases e; exact .tuple_bool b p1  hu0
      | int b => obtain ⟨t, rfl⟩ := q2; cases e; exact .tuple_int b t p1  hu0
      | str b => obtain ⟨t, rfl⟩ := q2; cases e; exact .tuple_str b t p1  hu0
      | _ => cases e
    | non =>
      cases r2 with
      | lst a h' b c => cases q1; cases q2; obtain ⟨its', v2, p2, _⟩ := I.list (SqL.of (K := X.K) h'); cases e; exact .none_list p2.isList hu0
      | tup a h' b c => cases q1; cases q2; obtain ⟨its', v2, p2, _⟩ := I.tuple (SqT.of (K := X.K) h'); cases e; exact .none_tuple p2  hu0
      | _ => first | exact absurd ⟨rfl, rfl⟩ f | cases e
    | bl b =>
      cases r2 with
      | lst a h' _ c => cases q1; cases q2; obtain ⟨its', v2, p2, _⟩ := I.list (SqL.of (K := X.K) h'); cases e; exact .bool_list b p2.isList hu0
      | tup a h' _ c => cases q1; cases q2; obtain ⟨its', v2, p2, _⟩ := I.tuple (SqT.of (K := X.K) h'); cases e; exact .bool_tuple b p2  hu0
      | _ => first | exact absurd ⟨rfl, rfl⟩ f | cases e
    | int b =>
      cases r2 with
      | lst a h' _ c => obtain ⟨t, rfl⟩ := q1; cases q2; obtain ⟨its', v2, p2, _⟩ := I.list (SqL.of (K := X.K) h'); cases e; exact .int_list b t p2.isList hu0
      | tup a h' _ c => obtain ⟨t, rfl⟩ := q1; cases q2; obtain ⟨its', v2, p2, _⟩ := I.tuple (SqT.of (K := X.K) h'); cases e; exact .int_tuple b t p2  hu0
      | _ => first | exact absurd ⟨rfl, rfl⟩ f | cases e
    | str b =>
      cases r2 with
      | lst a h' _ c => obtain ⟨t, rfl⟩ := q1; cases q2; obtain ⟨its', v2, p2, _⟩ := I.list (SqL.of (K := X.K) h'); cases e; exact .str_list b t p2.isList hu0
      | tup a h' _ c => obtain ⟨t, rfl⟩ := q1; cases q2; obtain ⟨its', v2, p2, _⟩ := I.tuple (SqT.of (K := X.K) h'); cases e; exact .str_tuple b t p2  hu0
      | _ => first | exact absurd ⟨rfl, rfl⟩ f | cases e
    | _ => cases z <;> cases e
end
end
section
variable {φ : Fam}
section
variable {X : Cx}
theorem rc_flat {A : Around} {s : Shared} {y z : V} {u v : Value} (f1 : flatV y = true) (f2 : flatV z = true) (q1 : RelV y u) (q2 : RelV z v) : SeqAt.RcAt A s u v (eqV y z) ∧ SeqAt.RcNeAt A s u v (!eqV y z) := by
  cases y with
  | non =>
    cases q1
    cases z with
    | non => cases q2; exact ⟨.none_none, .none_none⟩
    | bl b => cases q2; exact ⟨.none_bool b, .none_bool b⟩
    | int b => obtain ⟨t, rfl⟩ := q2; exact ⟨.none_int b t, .none_int b t⟩
    | str b => obtain ⟨t, rfl⟩ := q2; exact ⟨.none_str b t, .none_str b t⟩
    | _ => cases f2
  | bl a =>
    cases q1
    cases z with
    | non => cases q2; exact ⟨.bool_none a, .bool_none a⟩
    | bl b => cases q2; exact ⟨.bool_bool a b, .bool_bool a b⟩
    | int b => obtain ⟨t, rfl⟩ := q2; exact ⟨.bool_int a b t, .bool_int a b t⟩
    | str b => obtain ⟨t, rfl⟩ := q2; exact ⟨.bool_str a b t, .bool_str a b t⟩
    | _ => cases f2
  | int a =>
    obtain ⟨t', rfl⟩ := q1
    cases z with
    | non => cases q2; exact ⟨.int_none a t', .int_none a t'⟩
    | bl b => cases q2; exact ⟨.int_bool a t' b, .int_bool a t' b⟩
    | int b => obtain ⟨t, rfl⟩ := q2; exact ⟨.int_int a t' b t, .int_int a t' b t⟩
    | str b => obtain ⟨t, rfl⟩ := q2; exact ⟨.int_str a t' b t, .int_str a t' b t⟩
    | _ => cases f2
  | str a =>
    obtain ⟨t', rfl⟩ := q1
    cases z with
    | non => cases q2; exact ⟨.str_none a t', .str_none a t'⟩
    | bl b => cases q2; exact ⟨.str_bool a t' b, .str_bool a t' b⟩
    | int b => obtain ⟨t, rfl⟩ := q2; exact ⟨.str_int a t' b t, .str_int a t' b t⟩
    | str b => obtain ⟨t, rfl⟩ := q2; exact ⟨.str_str a t' b t, .str_str a t' b t⟩
    | _ => cases f2
  | _ => cases f1
theorem rc_at {pZ : List (Addr × Obj)} {σ : St} {H : Hp} {s : Shared} {B : Addr} {O : Addr → Prop} (I : Inv X pZ σ H s) (hB : O B) (k : Nat) (A : Around) (y z : PV) (x x' : V) (u v : Value) (c : Bool)
    (r1 : Rep B O H y x) (r2 : Rep B O H z x') (q1 : RelV x u) (q2 : RelV x' v) (e : eqP (k + 1) y z = some c) (hu : A.units + (k + 1) < cLine) : SeqAt.RcAt A s u v c ∧ SeqAt.RcNeAt A s u v (!c) := by
  have hu0 : A.units < cLine := by omega
  have hu1 : A.in1.units + k < cLine := by show A.units + 1 + k < cLine; omega
  by_cases f : flatP y = true ∧ flatP z = true
  · rw [eqP_flat f.1 f.2] at e
    cases e
    rw [flat_rep r1 f.1] at q1
    rw [flat_rep r2 f.2] at q2
    exact rc_flat f.1 f.2 q1 q2
  cases r1 with
  | @lst p xs l hO h hl hr =>
    cases q1
    obtain ⟨its, v1, p1, _⟩ := I.list (SqL.of (K := X.K) h)
    cases r2 with
    | @lst p' xs' l' hO' h' hl' hr' =>
      cases q2
      obtain ⟨its', v2, p2, _⟩ := I.list (SqL.of (K := X.K) h')
      obtain ⟨g, hg, hc⟩ := eqs_at e
      have e1 : its.toArray.size = l.length := by rw [List.size_toArray, ← v1.length, hl]
      have e2 : its'.toArray.size = l'.length := by rw [List.size_toArray, ← v2.length, hl']
      by_cases hs : l.length = l'.length
      · have he : ∀ j (h1 : j < its.toArray.size) (h2 : j < its'.toArray.size), SeqAt.EqAt A.in1 s its.toArray[j] its'.toArray[j] (g j) := fun j h1 h2 => by
          have j1 : j < l.length := e1 ▸ h1
          have j2 : j < l'.length := e2 ▸ h2
          obtain ⟨u1, a1, a2⟩ := v1.get (i := j) (x := xs[j]) (List.getElem?_eq_getElem _)
          obtain ⟨u2, b1, b2⟩ := v2.get (i := j) (x := xs'[j]) (List.getElem?_eq_getElem _)
          have a3 : its.toArray[j] = u1 := by
            have := (List.getElem?_eq_some_iff.mp a1).2
            simpa using this
          have b3 : its'.toArray[j] = u2 := by
            have := (List.getElem?_eq_some_iff.mp b1).2
            simpa using this
          rw [a3, b3]
          exact eq_at I hB k A.in1 l[j] l'[j] _ _ _ _ _ (hr j _ _ (List.getElem?_eq_getElem j1) (List.getElem?_eq_getElem _)) (hr' j _ _ (List.getElem?_eq_getElem j2) (List.getElem?_eq_getElem _)) a2 b2 (hg j _ _ (List.getElem?_eq_getElem j1) (List.getElem?_eq_getElem j2)) hu1
        have h1 := SeqAt.RcAt.lists (A := A) (e := g) p1.isList p2.isList (by rw [e1, e2, hs]) hu0 he
        have h2 := SeqAt.RcNeAt.lists (A := A) (e := g) p1.isList p2.isList (by rw [e1, e2, hs]) hu0 he
        rw [hc, ← hs, Nat.min_self, beq_self_eq_true, Bool.and_true, ← e1]; exact ⟨h1, h2⟩
      · have : c = false := by rw [hc]; simp [hs]
        rw [this]
        exact ⟨SeqAt.RcAt.lists_lengths p1.isList p2.isList (by rw [e1, e2]; simpa using hs) hu0, SeqAt.RcNeAt.lists_lengths p1.isList p2.isList (by rw [e1, e2]; simpa using hs) hu0⟩
    | @tup p' xs' l' hO' h' hl' hr' =>
      cases q2
      obtain ⟨its', v2, p2, _⟩ := I.tuple (SqT.of (K := X.K) h')
      cases e
      exact ⟨.list_tuple p1.isList p2 hu0, .list_tuple p1.isList p2 hu0⟩
    | non => cases q2; cases e; exact ⟨.list_none p1.isList hu0, .list_none p1.isList hu0⟩
    | bl b => cases q2; cases e; exact ⟨.list_bool b p1.isList hu0, .list_bool b p1.isList hu0⟩
    | int b => obtain ⟨t, rfl⟩ := q2; cases e; exact ⟨.list_int b t p1.isList hu0, .list_int b t p1.isList hu0⟩
    | str b => obtain ⟨t, rfl⟩ := q2; cases e; exact ⟨.list_str b t p1.isList hu0, .list_str b t p1.isList hu0⟩
    | _ => cases e
  | @tup p xs l hO h hl hr =>
    cases q1
    obtain ⟨its, v1, p1, _⟩ := I.tuple (SqT.of (K := X.K) h)
    cases r2 with
    | @tup p' xs' l' hO' h' hl' hr' =>
      cases q2
      obtain ⟨its', v2, p2, _⟩ := I.tuple (SqT.of (K := X.K) h')
      obtain ⟨g, hg, hc⟩ := eqs_at e
      have e1 : its.toArray.size = l.length := by rw [List.size_toArray, ← v1.length, hl]
      have e2 : its'.toArray.size = l'.length := by rw [List.size_toArray, ← v2.length, hl']
      have he : ∀ j (h1 : j < its.toArray.size) (h2 : j < its'.toArray.size), SeqAt.EqAt A.in1 s its.toArray[j] its'.toArray[j] (g j) := fun j h1 h2 => by
        have j1 : j < l.length := e1 ▸ h1
        have j2 : j < l'.length := e2 ▸ h2
        obtain ⟨u1, a1, a2⟩ := v1.get (i := j) (x := xs[j]) (List.getElem?_eq_getElem _)
        obtain ⟨u2, b1, b2⟩ := v2.get (i := j) (x := xs'[j]) (List.getElem?_eq_getElem _)
        have a3 : its.toArray[j] = u1 := by
          have := (List.getElem?_eq_some_iff.mp a1).2
          simpa using this
        have b3 : its'.toArray[j] = u2 := by
          have := (List.getElem?_eq_some_iff.mp b1).2
          simpa using this
        rw [a3, b3]
        exact eq_at I hB k A.in1 l[j] l'[j] _ _ _ _ _ (hr j _ _ (List.getElem?_eq_getElem j1) (List.getElem?_eq_getElem _)) (hr' j _ _ (List.getElem?_eq_getElem j2) (List.getElem?_eq_getElem _)) a2 b2 (hg j _ _ (List.getElem?_eq_getElem j1) (List.getElem?_eq_getElem j2)) hu1
      have h1 := SeqAt.RcAt.tuples (A := A) (e := g) p1 p2 hu0 he
      have h2 := SeqAt.RcNeAt.tuples (A := A) (e := g) p1 p2 hu0 he
      rw [hc, ← e1, ← e2]; exact ⟨h1, h2⟩
    | @lst p' xs' l' hO' h' hl' hr' =>
      cases q2
      obtain ⟨its', v2, p2, _⟩ := I.list (SqL.of (K := X.K) h')
      cases e
      exact ⟨.tuple_list p1 p2.isList hu0, .tuple_list p1 p2.isList hu0⟩
    | non => cases q2; cases e; exact ⟨.tuple_none p1 hu0, .tuple_none p1 hu0⟩
    | bl b => cases q2; cases e; exact ⟨.tuple_bool b p1 hu0, .tuple_bool b p1 hu0⟩
    | int b => obtain ⟨t, rfl⟩ := q2; cases e; exact ⟨.tuple_int b t p1 hu0, .tuple_int b t p1 hu0⟩
    | str b => obtain ⟨t, rfl⟩ := q2; cases e; exact ⟨.tuple_str b t p1 hu0, .tuple_str b t p1 hu0⟩
    | _ => cases e
  | non =>
    cases r2 with
    | lst a h' b c => cases q1; cases q2; obtain ⟨its', v2, p2, _⟩ := I.list (SqL.of (K := X.K) h'); cases e; exact ⟨.none_list p2.isList hu0, .none_list p2.isList hu0⟩
    | tup a h' b c => cases q1; cases q2; obtain ⟨its', v2, p2, _⟩ := I.tuple (SqT.of (K := X.K) h'); cases e; exact ⟨.none_tuple p2 hu0, .none_tuple p2 hu0⟩
    | _ => first | exact absurd ⟨rfl, rfl⟩ f | cases e
  | bl b =>
    cases r2 with
    | lst a h' _ c => cases q1; cases q2; obtain ⟨its', v2, p2, _⟩ := I.list (SqL.of (K := X.K) h'); cases e; exact ⟨.bool_list b p2.isList hu0, .bool_list b p2.isList hu0⟩
    | tup a h' _ c => cases q1; cases q2; obtain ⟨its', v2, p2, _⟩ := I.tuple (SqT.of (K := X.K) h'); cases e; exact ⟨.bool_tuple b p2 hu0, .bool_tuple b p2 hu0⟩
    | _ => first | exact absurd ⟨rfl, rfl⟩ f | cases e
  | int b =>
    cases r2 with
    | lst a h' _ c => obtain ⟨t, rfl⟩ := q1; cases q2; obtain ⟨its', v2, p2, _⟩ := I.list (SqL.of (K := X.K) h'); cases e; exact ⟨.int_list b t p2.isList hu0, .int_list b t p2.isList hu0⟩
    | tup a h' _ c => obtain ⟨t, rfl⟩ := q1; cases q2; obtain ⟨its', v2, p2, _⟩ := I.tuple (SqT.of (K := X.K) h'); cases e; exact ⟨.int_tuple b t p2 hu0, .int_tuple b t p2 hu0⟩
    | _ => first | exact absurd ⟨rfl, rfl⟩ f | cases e
  | str b =>
    cases r2 with
    | lst a h' _ c => obtain ⟨t, rfl⟩ := q1; cases q2; obtain ⟨its', v2, p2, _⟩ := I.list (SqL.of (K := X.K) h'); cases e; exact ⟨.str_list b t p2.isList hu0, .str_list b t p2.isList hu0⟩
    | tup a h' _ c => obtain ⟨t, rfl⟩ := q1; cases q2; obtain ⟨its', v2, p2, _⟩ := I.tuple (SqT.of (K := X.K) h'); cases e; exact ⟨.str_tuple b t p2 hu0, .str_tuple b t p2 hu0⟩
    | _ => first | exact absurd ⟨rfl, rfl⟩ f | cases e
  | _ => cases z <;> cases e
noncomputable def rEqD (neg : Bool) : R2 := fun x y H Q => ∃ (B : Addr) (O : Addr → Prop) (a b : PV) (c : Bool), O B ∧ Rep B O H a x ∧ Rep B O H b y ∧ eqP 20 a b = some c ∧ Q (.bl (xor neg c)) H
theorem op_eqD (hU : X.A.units + 64 < cLine) : OpR X (compareOp .Eq) (rEqD false) := by
  intro pZ s σ H x y v u Q I rx ry h
  obtain ⟨B, O, a, b, c, hB, r1, r2, e, q⟩ := h
  exact (rc_at I hB 19 X.A a b x y v u c r1 r2 rx ry e (by omega)).1 _ _ _ _ (fin_bl I q (by cases c <;> rfl))
theorem op_neD (hU : X.A.units + 64 < cLine) : OpR X (compareOp .NotEq) (rEqD true) := by
  intro pZ s σ H x y v u Q I rx ry h
  obtain ⟨B, O, a, b, c, hB, r1, r2, e, q⟩ := h
  exact (rc_at I hB 19 X.A a b x y v u c r1 r2 rx ry e (by omega)).2 _ _ _ _ (fin_bl I q (by cases c <;> rfl))
end
noncomputable def eqO (neg : Bool) (y z : PV) : M PV := (M.ofO (eqP 20 y z)).bind fun c => .ret (.bl (xor neg c))
theorem ov_eq (neg : Bool) : OpV (rEqD neg) (eqO neg) := fun φ G O H n R Q y z x x' pr dm ok r1 r2 w q => by
  unfold eqO at w
  cases e : eqP 20 y z with
  | none => rw [e] at w; exact w.elim
  | some c => rw [e] at w; exact ⟨G.B, G.priv, y, z, c, G.pB, r1.low pr, r2.low pr, e, q.sc ok (.bl _) w⟩
noncomputable def numO (C : Int → Int → Prop) [∀ i j, Decidable (C i j)] (f : Int → Int → PV) : PV → PV → M PV
  | .int i, .int j => if C i j then .ret (f i j) else .fail
  | _, _ => .fail
theorem ov_num {C : Int → Int → Prop} [∀ i j, Decidable (C i j)] {f : Int → Int → PV} {g : Int → Int → V} (hf : ∀ B O H i j, Rep B O H (f i j) (g i j)) : OpV (rI C g) (numO C f) := fun φ G O H n R Q y z x x' pr dm ok r1 r2 w q => by
  cases y <;> cases z <;> first | exact w.elim | skip
  rename_i i j
  rw [r1.int_i, r2.int_i]
  unfold numO at w
  dsimp only at w
  by_cases hc : C i j
  · rw [if_pos hc] at w; exact ⟨i, j, rfl, rfl, hc, q.sc ok (hf _ _ _ _ _) w⟩
  · rw [if_neg hc] at w; exact w.elim
noncomputable def numB (f : Int → Int → Bool) : PV → PV → M PV
  | .int i, .int j => .ret (.bl (f i j))
  | _, _ => .fail
theorem ov_numB {f : Int → Int → Bool} : OpV (rI0 fun i j => .bl (f i j)) (numB f) := fun φ G O H n R Q y z x x' pr dm ok r1 r2 w q => by
  cases y <;> cases z <;> first | exact w.elim | skip
  rename_i i j
  rw [r1.int_i, r2.int_i]
  exact ⟨i, j, rfl, rfl, q.sc ok (.bl _) w⟩
noncomputable def ltO := numB fun i j => decide (i < j)
noncomputable def gtO := numB fun i j => decide (j < i)
noncomputable def geO := numB fun i j => decide (j ≤ i)
theorem ov_lt : OpV (rI0 fun i j => .bl (decide (i < j))) ltO := ov_numB
theorem ov_gt : OpV (rI0 fun i j => .bl (decide (j < i))) gtO := ov_numB
noncomputable def subO : PV → PV → M PV
  | .int i, .int j => .ret (.int (i - j))
  | _, _ => .fail
theorem ov_sub : OpV (rI0 fun i j => .int (i - j)) subO := fun φ G O H n R Q y z x x' pr dm ok r1 r2 w q => by
  cases y <;> cases z <;> first | exact w.elim | skip
  rename_i i j
  rw [r1.int_i, r2.int_i]
  exact ⟨i, j, rfl, rfl, q.sc ok (.int _) w⟩
instance (i j : Int) : Decidable (CMul i j) := by unfold CMul; infer_instance
instance (i j : Int) : Decidable (CPow i j) := by unfold CPow; infer_instance
instance (i j : Int) : Decidable (CDiv i j) := by unfold CDiv; infer_instance
noncomputable def modO := numO (fun _ j => 0 < j) fun i j => .int (i % j)
noncomputable def fdivO := numO CDiv fun i j => .int (i / j)
noncomputable def powO := numO CPow fun i j => .int (i ^ j.toNat)
theorem ov_mod : OpV (rI (fun _ j => 0 < j) fun i j => .int (i % j)) modO := ov_num fun _ _ _ _ _ => .int _
theorem ov_fdiv : OpV (rI CDiv fun i j => .int (i / j)) fdivO := ov_num fun _ _ _ _ _ => .int _
theorem ov_pow : OpV (rI CPow fun i j => .int (i ^ j.toNat)) powO := ov_num fun _ _ _ _ _ => .int _
noncomputable def rAddD (K : PySem.W.Frag) : R2 := fun x y H Q => (rI0 fun i j => .int (i + j)) x y H Q ∨ (∃ i j, x = .str i ∧ y = .str j ∧ i.length + j.length ≤ sizeLine ∧ Q (.str (i ++ j)) H) ∨ rCat x y H Q ∨ rCatT K x y H Q ∨
  (∃ a b ys, x = .ref a ∧ y = .ref b ∧ H a = some (.tup []) ∧ H b = some (.tup ys) ∧ Q (.ref b) H)
theorem op_catT0 {X : Cx} : OpR X (binaryOp .Add) (fun x y H Q => ∃ a b ys, x = .ref a ∧ y = .ref b ∧ H a = some (.tup []) ∧ H b = some (.tup ys) ∧ Q (.ref b) H) := by
  intro pZ s σ H x y v u Q I rx ry h
  obtain ⟨a, b, ys, rfl, rfl, ha, hb, q⟩ := h
  cases rx
  cases ry
  obtain ⟨its, r1, p1, _⟩ := I.tuple (SqT.of (K := X.K) ha)
  obtain ⟨its2, r2, p2, _⟩ := I.tuple (SqT.of (K := X.K) hb)
  cases r1
  obtain ⟨⟨cls, dd, data, sl⟩, ho, hc, n, hd⟩ := id p1
  obtain ⟨⟨cls2, dd2, data2, sl2⟩, ho2, hc2, n2, hd2⟩ := id p2
  simp only at hc hd hc2 hd2
  subst hc hd hc2 hd2
  exact concat_meets ⟨_, ho, rfl⟩ ⟨_, ho2, rfl⟩ noFill_tuple_add seq_tuple_add PySem.F.slot_tuple_add PySem.F.entry_tuple_add (PySem.F.args_tuple_add_2 _ _)
      (tuple_addW0 a b _ its2.toArray n n2 dd dd2 sl sl2 rfl) ⟨ho, ho2, ⟨.ref b, H, I, rfl, q⟩⟩
theorem op_addD {X : Cx} : OpR X (binaryOp .Add) (rAddD X.K) := op_add.or (op_add_str.or (op_cat.or (op_catT.or op_catT0)))
noncomputable def addO : PV → PV → M PV
  | .int i, .int j => .ret (.int (i + j))
  | .str i, .str j => if i.length + j.length ≤ 100000 then .ret (.str (i ++ j)) else .fail
  | .lst a, .lst b => if a.length + b.length ≤ 100000 then .ret (.lst (a ++ b)) else .fail
  | .tup a, .tup b => if a.length + b.length ≤ 100000 then .ret (.tup (a ++ b)) else .fail
  | _, _ => .fail
theorem ov_add {K : PySem.W.Frag} : OpV (rAddD K) addO := fun φ G O H n R Q y z x x' pr dm ok r1 r2 w q => by
  have hB : O G.B := pr _ G.pB
  cases y <;> cases z <;> first | exact w.elim | skip
  · rename_i i j
    rw [r1.int_i, r2.int_i]
    exact .inl ⟨i, j, rfl, rfl, q.sc ok (.int _) w⟩
  · rename_i i j
    rw [r1.str_i, r2.str_i]
    unfold addO at w
    dsimp only at w
    by_cases hc : i.length + j.length ≤ 100000
    · rw [if_pos hc] at w; exact .inr (.inl ⟨i, j, rfl, rfl, Nat.le_trans hc big_le, q.sc ok (.str _) w⟩)
    · rw [if_neg hc] at w; exact w.elim
  · rename_i i j
    obtain ⟨a, xs, rfl, h1, e1⟩ := r1.tup_i
    obtain ⟨b, ys, rfl, h2, e2⟩ := r2.tup_i
    unfold addO at w
    dsimp only at w
    by_cases hc : i.length + j.length ≤ 100000
    · rw [if_pos hc] at w
      by_cases hn : i = []
      · subst hn
        rw [e1.nil_inv] at h1
        cases r2 with
        | full r2 => exact .inr (.inr (.inr (.inr ⟨a, b, ys, rfl, rfl, h1, h2, q.sc ok r2 w⟩)))
      · refine .inr (.inr (.inr (.inl ⟨a, b, xs, ys, rfl, rfl, SqT.of h1, SqT.of h2, fun z => hn ?_, Nat.le_trans (by rw [← e1.1, ← e2.1]; exact hc) big_le, fun hz => ?_, fun _ p hp => q.tup ok dm hp hB (e1.append e2) w⟩)))
        · subst z; exact List.eq_nil_of_length_eq_zero e1.1
        · subst hz
          have : j = [] := List.eq_nil_of_length_eq_zero e2.1
          subst this
          rw [List.append_nil] at w
          cases r1 with
          | full r1 => exact q.sc ok r1 w
    · rw [if_neg hc] at w; exact w.elim
  · rename_i i j
    obtain ⟨a, xs, rfl, h1, e1⟩ := r1.lst_i
    obtain ⟨b, ys, rfl, h2, e2⟩ := r2.lst_i
    unfold addO at w
    dsimp only at w
    by_cases hc : i.length + j.length ≤ 100000
    · rw [if_pos hc] at w
      exact .inr (.inr (.inl ⟨a, b, xs, ys, rfl, rfl, h1, h2, Nat.le_trans (by rw [← e1.1, ← e2.1]; exact hc) big_le, fun p hp => q.lst ok dm hp hB (e1.append e2) w⟩))
    · rw [if_neg hc] at w; exact w.elim
noncomputable def repStr (i : Str) (k : Int) : Str := ⟨(List.replicate k.toNat i.cps).foldl (· ++ ·) #[]⟩
noncomputable def rRepS : R2 := fun x y H Q => ∃ i k, x = .str i ∧ y = .int k ∧ (1 < k ∧ k < 1000 ∧ 0 < i.length ∧ i.length < 1000 ∧ (repStr i k).length ≤ 100000) ∧ Q (.str (repStr i k)) H
noncomputable def rMulD : R2 := fun x y H Q => rI CMul (fun i j => .int (i * j)) x y H Q ∨ rRepS x y H Q ∨ rRep x y H Q
theorem op_repS {X : Cx} : OpR X (binaryOp .Mult) rRepS := by
  intro pZ s σ H x y v u Q I rx ry h
  obtain ⟨i, k, rfl, rfl, ⟨h1, h2, h3, h4, h5⟩, q⟩ := h
  obtain ⟨t, rfl⟩ := rx
  obtain ⟨t', rfl⟩ := ry
  have e1 : ¬ k < -(2 ^ 63 : Int) := by
    have : (2 : Int) ^ 63 = 9223372036854775808 := by decide
    omega
  have e2 : ¬ k ≥ 2 ^ 63 := by
    have : (2 : Int) ^ 63 = 9223372036854775808 := by decide
    omega
  have hz : (i.length * k.toNat) ≤ 1000000 := Nat.le_trans (Nat.mul_le_mul (Nat.le_of_lt h4) (by omega : k.toNat ≤ 1000)) (by decide)
  have hne : (k == 1 || i.length == 0) = false := by
    simp only [Bool.or_eq_false_iff, beq_eq_false_iff_ne]
    exact ⟨by omega, by omega⟩
  refine PySem.P.mul_str (by rw [decide_eq_false e1, decide_eq_false e2]; rfl) (fun _ _ hgt => ?_) (fun _ _ => ?_) ?_
  · have : (i.length : Int) ≤ (2 ^ 63 - 1) / k := by
      rw [Int.le_ediv_iff_mul_le (by omega)]
      have : (i.length : Int) * k ≤ 1000 * 1000 := Int.mul_le_mul (by omega) (by omega) (by omega) (by omega)
      have e : (2 : Int) ^ 63 - 1 = 9223372036854775807 := by decide
      omega
    omega
  · have hs : sizeLine = 16777216 := sizeLine_eq
    show decide (i.length * k.toNat > sizeLine) = false
    exact decide_eq_false (by omega)
  · rw [if_neg (by omega), if_neg (by rw [hne]; simp)]
    exact ⟨Nat.le_trans h5 big_le, ⟨.str (repStr i k), H, I.tok _, ⟨_, rfl⟩, q⟩⟩
theorem op_mulD {X : Cx} : OpR X (binaryOp .Mult) rMulD := op_mul.or (op_repS.or op_rep)
noncomputable def mulO : PV → PV → M PV
  | .int i, .int j => if CMul i j then .ret (.int (i * j)) else .fail
  | .str i, .int k => if 1 < k ∧ k < 1000 ∧ 0 < i.length ∧ i.length < 1000 ∧ (repStr i k).length ≤ 100000 then .ret (.str (repStr i k)) else .fail
  | .lst l, .int k => if -1000 < k ∧ k < 1000 ∧ l.length * k.toNat ≤ 100000 then .ret (.lst (List.replicate k.toNat l).flatten) else .fail
  | _, _ => .fail
theorem Reps.rep {B : Addr} {O : Addr → Prop} {H : Hp} {l : List PV} {xs : List V} (h : Reps B O H l xs) : ∀ k : Nat, Reps B O H (List.replicate k l).flatten (List.replicate k xs).flatten
  | 0 => .nil
  | k + 1 => by rw [List.replicate_succ, List.replicate_succ, List.flatten_cons, List.flatten_cons]; exact h.append (Reps.rep h k)
theorem ov_mul : OpV rMulD mulO := fun φ G O H n R Q y z x x' pr dm ok r1 r2 w q => by
  have hB : O G.B := pr _ G.pB
  cases y <;> cases z <;> first | exact w.elim | skip
  · rename_i i j
    rw [r1.int_i, r2.int_i]
    unfold mulO at w
    dsimp only at w
    by_cases hc : CMul i j
    · rw [if_pos hc] at w; exact .inl ⟨i, j, rfl, rfl, hc, q.sc ok (.int _) w⟩
    · rw [if_neg hc] at w; exact w.elim
  · rename_i i k
    rw [r1.str_i, r2.int_i]
    unfold mulO at w
    dsimp only at w
    by_cases hc : 1 < k ∧ k < 1000 ∧ 0 < i.length ∧ i.length < 1000 ∧ (repStr i k).length ≤ 100000
    · rw [if_pos hc] at w; exact .inr (.inl ⟨i, k, rfl, rfl, hc, q.sc ok (.str _) w⟩)
    · rw [if_neg hc] at w; exact w.elim
  · rename_i l k
    obtain ⟨a, xs, rfl, h1, e1⟩ := r1.lst_i
    rw [r2.int_i]
    unfold mulO at w
    dsimp only at w
    by_cases hc : -1000 < k ∧ k < 1000 ∧ l.length * k.toNat ≤ 100000
    · rw [if_pos hc] at w
      have e : (2 : Int) ^ 63 = 9223372036854775808 := by decide
      exact .inr (.inr ⟨a, k, xs, rfl, rfl, h1, by omega, by omega, Nat.le_trans (by rw [← e1.1]; exact hc.2.2) big_le, fun p hp => q.lst ok dm hp hB (e1.rep _) w⟩)
    · rw [if_neg hc] at w; exact w.elim
theorem RepB.flat_all {G : Bg φ} {O : Addr → Prop} {H : Hp} : ∀ {l : List PV} {xs : List V}, Reps G.B O H l xs → l.all flatP = true → xs = l.map toV
  | [], xs, h, _ => h.nil_inv
  | y :: l, xs, h, f => by
    obtain ⟨x, r, rfl, h1, h2⟩ := h.cons_inv
    rw [List.all_cons, Bool.and_eq_true] at f
    rw [List.map_cons, flat_rep h1 f.1, RepB.flat_all h2 f.2]
noncomputable def rInD (K : PySem.W.Frag) (neg : Bool) : R2 := fun x y H Q => rIn K neg x y H Q ∨ ∃ i j, x = .str i ∧ y = .str j ∧ Q (.bl (xor neg (!(Builtin.Str.occurrences j i 0 j.length 1).isEmpty))) H
theorem op_inD {X : Cx} : OpR X (compareOp .In) (rInD X.K false) := by
  intro pZ s σ H x y v u Q I rx ry h
  rcases h with h | ⟨i, j, h1, h2, q⟩
  · exact op_in_seq pZ s σ H x y v u Q I rx ry h
  · exact op_in_str pZ s σ H x y v u Q I rx ry ⟨i, j, h1, h2, by simpa using q⟩
noncomputable def memF (y : PV) (l : List PV) : Bool := l.any fun z => eqV (toV z) (toV y)
noncomputable def inO (neg : Bool) : PV → PV → M PV
  | .str i, .str j => .ret (.bl (xor neg (!(Builtin.Str.occurrences j i 0 j.length 1).isEmpty)))
  | y, .lst l => if flatP y && l.all flatP then .ret (.bl (xor neg (memF y l))) else .fail
  | y, .tup l => if flatP y && l.all flatP then .ret (.bl (xor neg (memF y l))) else .fail
  | _, _ => .fail
theorem inV_map (y : PV) (l : List PV) : inV (toV y) (l.map toV) = memF y l := by unfold inV memF; rw [List.any_map]; rfl
theorem ov_in {K : PySem.W.Frag} (neg : Bool) : OpV (rInD K neg) (inO neg) := fun φ G O H n R Q y z x x' pr dm ok r1 r2 w q => by
  cases z with
  | lst l =>
    have w' : (if (flatP y && l.all flatP) = true then M.ret (.bl (xor neg (memF y l))) else M.fail : M PV).wp n R := by cases y <;> exact w
    by_cases hc : (flatP y && l.all flatP) = true
    · rw [if_pos hc] at w'
      rw [Bool.and_eq_true] at hc
      obtain ⟨p, xs, rfl, h1, e1⟩ := r2.lst_i
      have e2 := RepB.flat_all e1 hc.2
      rw [flat_repB r1 hc.1]
      refine .inl ⟨p, xs, rfl, .inl (SqL.of h1), hc.1, ?_, ?_⟩
      · rw [e2, List.all_map]; exact hc.2
      · rw [e2, inV_map]; cases neg <;> simpa using q.sc ok (.bl _) w'
    · rw [if_neg hc] at w'; exact w'.elim
  | tup l =>
    have w' : (if (flatP y && l.all flatP) = true then M.ret (.bl (xor neg (memF y l))) else M.fail : M PV).wp n R := by cases y <;> exact w
    by_cases hc : (flatP y && l.all flatP) = true
    · rw [if_pos hc] at w'
      rw [Bool.and_eq_true] at hc
      obtain ⟨p, xs, rfl, h1, e1⟩ := r2.tup_i
      have e2 := RepB.flat_all e1 hc.2
      rw [flat_repB r1 hc.1]
      refine .inl ⟨p, xs, rfl, .inr (SqT.of h1), hc.1, ?_, ?_⟩
      · rw [e2, List.all_map]; exact hc.2
      · rw [e2, inV_map]; cases neg <;> simpa using q.sc ok (.bl _) w'
    · rw [if_neg hc] at w'; exact w'.elim
  | str j =>
    cases y <;> first | exact w.elim | skip
    rename_i i
    rw [r1.str_i, r2.str_i]
    exact .inr ⟨i, j, rfl, rfl, q.sc ok (.bl _) w⟩
  | _ => cases y <;> exact w.elim
noncomputable def isN : PV → Bool
  | .non => true
  | _ => false
noncomputable def isO (neg : Bool) (y z : PV) : M PV := match z with | .non => .ret (.bl (xor neg (isN y))) | _ => .fail
theorem isN_rep {G : Bg φ} {O : Addr → Prop} {H : Hp} {y : PV} {x : V} (r : RepB G O H y x) : decide (x = .non) = isN y := by
  cases r with
  | full h => cases h <;> rfl
  | top _ _ _ => rfl
  | topD _ _ _ => rfl
theorem ov_notN : OpV (fun x y H Q => y = .non ∧ Q (.bl (!decide (x = .non))) H) (isO true) := fun φ G O H n R Q y z x x' pr dm ok r1 r2 w q => by
  cases z <;> first | exact w.elim | skip
  refine ⟨r2.non_i, q.sc ok (y := .bl (!isN y)) (by rw [isN_rep r1]; exact .bl _) ?_⟩
  have w' : R (.bl (xor true (isN y))) n := w
  simpa using w'
noncomputable def leS (i j : Str) : Bool := !decide (j.cps.toList < i.cps.toList)
noncomputable def rLeD : R2 := fun x y H Q => (rI0 fun i j => .bl (decide (i ≤ j))) x y H Q ∨ ∃ i j, x = .str i ∧ y = .str j ∧ Q (.bl (!decide (j.cps.toList < i.cps.toList))) H
theorem op_leD {X : Cx} : OpR X (compareOp .LtE) rLeD := op_le.or op_le_str
noncomputable def leOD : PV → PV → M PV
  | .int i, .int j => .ret (.bl (decide (i ≤ j)))
  | .str i, .str j => .ret (.bl (leS i j))
  | _, _ => .fail
theorem ov_leD : OpV rLeD leOD := fun φ G O H n R Q y z x x' pr dm ok r1 r2 w q => by
  cases y <;> cases z <;> first | exact w.elim | skip
  · rename_i i j
    rw [r1.int_i, r2.int_i]
    exact .inl ⟨i, j, rfl, rfl, q.sc ok (.bl _) w⟩
  · rename_i i j
    rw [r1.str_i, r2.str_i]
    exact .inr ⟨i, j, rfl, rfl, q.sc ok (.bl _) w⟩
theorem atI_reps {B : Addr} {O : Addr → Prop} {H : Hp} {l : List PV} {xs : List V} (h : Reps B O H l xs) {i : Int} {y : PV} (e : atI l i = some y) : ∃ x, atI xs i = some x ∧ Rep B O H y x := by
  unfold atI at e ⊢
  rw [← h.1]
  cases q : ixN l.length i with
  | none => rw [q] at e; cases e
  | some j => rw [q] at e; exact h.at e
noncomputable def ixO : PV → PV → M PV
  | .lst l, .int i => .ofO (atI l i)
  | .tup l, .int i => .ofO (atI l i)
  | .str z, .int i => if z.length ≤ 100000 then (M.ofO (atI z.cps.toList i)).bind fun c => .ret (.str ⟨#[c]⟩) else .fail
  | _, _ => .fail
theorem ov_ix {K : PySem.W.Frag} : OpV (rIx K) ixO := fun φ G O H n R Q y z x x' pr dm ok r1 r2 w q => by
  cases y <;> cases z <;> first | exact w.elim | skip
  · rename_i s i
    rw [r1.str_i, r2.int_i]
    unfold ixO at w
    dsimp only at w
    by_cases hc : s.length ≤ 100000
    · rw [if_pos hc] at w
      cases e : atI s.cps.toList i with
      | none => rw [e] at w; exact w.elim
      | some c => rw [e] at w; exact .inr (.inr ⟨s, i, c, rfl, rfl, Nat.le_trans hc big_le, e, q.sc ok (.str _) w⟩)
    · rw [if_neg hc] at w; exact w.elim
  · rename_i l i
    obtain ⟨p, xs, rfl, h1, e1⟩ := r1.tup_i
    rw [r2.int_i]
    unfold ixO at w
    dsimp only at w
    cases e : atI l i with
    | none => rw [e] at w; exact w.elim
    | some y =>
      rw [e] at w
      obtain ⟨v, a, b⟩ := atI_reps e1 e
      exact .inr (.inl ⟨p, xs, i, v, rfl, rfl, SqT.of h1, a, q.sc ok b w⟩)
  · rename_i l i
    obtain ⟨p, xs, rfl, h1, e1⟩ := r1.lst_i
    rw [r2.int_i]
    unfold ixO at w
    dsimp only at w
    cases e : atI l i with
    | none => rw [e] at w; exact w.elim
    | some y =>
      rw [e] at w
      obtain ⟨v, a, b⟩ := atI_reps e1 e
      exact .inl ⟨p, xs, i, v, rfl, rfl, SqL.of h1, a, q.sc ok b w⟩
end
section
variable {φ : Fam}
section
variable {X : Cx} {e : Expr} {es : List Expr} {me : PEnv → M PV} {ml : PEnv → M (List PV)}
theorem BA.mono {t t' : TA} (h : BA X es t) (f : ∀ σ H Q, t' σ H Q → t σ H Q) : BA X es t' := ⟨fun pos pZ s σ H Q I q => h.out pos pZ s σ H Q I (f σ H Q q)⟩
noncomputable def consA (me : PEnv → M PV) (ml : PEnv → M (List PV)) : PEnv → M (List PV) := fun ρ => (me ρ).bind fun y => (ml ρ).bind fun l => .ret (y :: l)
theorem av_nil : AV φ X [] (fun _ => .ret []) := BA.mono ⟨pa_nil⟩ fun σ H Q ⟨G, O, ρ, n, R, s, w, q⟩ => q [] [] H n (Ext.refl _ _) s.ok .nil w
theorem av_cons (h : EV φ X e me) (t : AV φ X es ml) (hs : isStar e = false := by rfl) : AV φ X (e :: es) (consA me ml) := BA.mono ⟨pa_c h.out t.out hs⟩ fun σ H Q ⟨G, O, ρ, n, R, s, w, q⟩ => by
  unfold consA at w
  rw [M.wZ] at w
  refine ⟨G, O, ρ, n, _, s, w, fun y x H1 n1 e1 ok1 r1 w1 => ?_⟩
  rw [M.wZ] at w1
  exact ⟨G, O, ρ, n1, _, s.ext e1 ok1, w1, fun l xs H2 n2 e2 ok2 r2 w2 => q (y :: l) (x :: xs) H2 n2 (e1.trans e2) ok2 (.cons (r1.ext s.B e2) r2) w2⟩
theorem RepBs.nil {G : Bg φ} {O : Addr → Prop} {H : Hp} : RepBs G O H [] [] := ⟨rfl, fun i y x a => by simp at a⟩
theorem RepBs.cons {G : Bg φ} {O : Addr → Prop} {H : Hp} {y : PV} {x : V} {l : List PV} {xs : List V} (h : RepB G O H y x) (t : RepBs G O H l xs) : RepBs G O H (y :: l) (x :: xs) := ⟨by simp [t.1], fun i y' x' a b => by
  cases i with
  | zero => simp at a b; subst a b; exact h
  | succ i => simp at a b; exact t.2 i y' x' a b⟩
theorem RepBs.nil_inv {G : Bg φ} {O : Addr → Prop} {H : Hp} {xs : List V} (h : RepBs G O H [] xs) : xs = [] := List.eq_nil_of_length_eq_zero h.1.symm
theorem RepBs.cons_inv {G : Bg φ} {O : Addr → Prop} {H : Hp} {y : PV} {l : List PV} {xs : List V} (h : RepBs G O H (y :: l) xs) : ∃ x r, xs = x :: r ∧ RepB G O H y x ∧ RepBs G O H l r := by
  cases xs with
  | nil => have := h.1; simp at this
  | cons x r => exact ⟨x, r, rfl, h.2 0 y x rfl rfl, by simpa using h.1, fun i y' x' a b => h.2 (i + 1) y' x' (by simpa using a) (by simpa using b)⟩
theorem RepBs.one {G : Bg φ} {O : Addr → Prop} {H : Hp} {y : PV} {xs : List V} (h : RepBs G O H [y] xs) : ∃ x, xs = [x] ∧ RepB G O H y x := by
  obtain ⟨x, r, rfl, a, b⟩ := h.cons_inv
  rw [b.nil_inv]; exact ⟨x, rfl, a⟩
theorem ab_nil : AB φ X [] (fun _ => .ret []) := BA.mono ⟨pa_nil⟩ fun σ H Q ⟨G, O, ρ, n, R, s, w, q⟩ => q [] [] H n (Ext.refl _ _) s.ok .nil w
theorem ab_cons (h : EB φ X e me) (t : AB φ X es ml) (hs : isStar e = false := by rfl) : AB φ X (e :: es) (consA me ml) := BA.mono ⟨pa_c h.out t.out hs⟩ fun σ H Q ⟨G, O, ρ, n, R, s, w, q⟩ => by
  unfold consA at w
  rw [M.wZ] at w
  refine ⟨G, O, ρ, n, _, s, w, fun y x H1 n1 e1 ok1 r1 w1 => ?_⟩
  rw [M.wZ] at w1
  exact ⟨G, O, ρ, n1, _, s.ext e1 ok1, w1, fun l xs H2 n2 e2 ok2 r2 w2 => q (y :: l) (x :: xs) H2 n2 (e1.trans e2) ok2 (.cons (r1.ext s.B e2) r2) w2⟩
noncomputable def mkTup (l : List PV) : M PV := if l.length ≤ 100000 then .ret (.tup l) else .fail
noncomputable def mkLst (l : List PV) : M (List PV) := if l.length ≤ 100000 then .ret l else .fail
theorem ev_tup {k : Nat} {pos : Pos} (h : AV φ X es ml) : EV φ X (.Tuple es k pos) (fun ρ => (ml ρ).bind mkTup) := BE.mono ⟨pe_tup h.out⟩ fun σ H Q ⟨G, O, ρ, n, R, s, w, q⟩ => by
  rw [M.wZ] at w
  refine ⟨G, O, ρ, n, _, s, w, fun l xs H1 n1 e1 ok1 r1 w1 => ?_⟩
  unfold mkTup at w1
  by_cases hc : l.length ≤ 100000
  · rw [if_pos hc] at w1
    refine ⟨Nat.le_trans (by rw [← r1.1]; exact hc) big_le, fun p hp => ?_⟩
    have q' : Wish G O H1 R Q := fun y x H' n' e o r h => q y x H' n' (e1.trans e) o r h
    exact q'.tup ok1 (s.ext e1 ok1).dm hp s.B r1 w1
  · rw [if_neg hc] at w1; exact w1.elim
theorem ef_lst {pos : Pos} (h : AV φ X es ml) : EF φ X (.List es pos) (fun ρ => (ml ρ).bind mkLst) := BE.mono ⟨pe_lst h.out⟩ fun σ H Q ⟨G, O, ρ, n, R, s, w, q⟩ => by
  rw [M.wZ] at w
  refine ⟨G, O, ρ, n, _, s, w, fun l xs H1 n1 e1 ok1 r1 w1 => ?_⟩
  unfold mkLst at w1
  by_cases hc : l.length ≤ 100000
  · rw [if_pos hc] at w1
    refine ⟨Nat.le_trans (by rw [← r1.1]; exact hc) big_le, fun p hp => ?_⟩
    have e2 := Ext.new (B := G.B) hp (.lst xs)
    refine q l p xs _ n1 (e1.trans e2) (Bg.new ok1 hp _) ?_ upd_same ((r1.grow fun q z => by
      rcases z with z | z
      · exact .inl z
      · subst z; exact .inr hp).ext (.inl s.B) e2) w1
    cases hh : H p with
    | none => rfl
    | some o =>
      by_cases pb : p = G.B
      · subst pb; obtain ⟨o', g⟩ := G.dom _ _ _ ok1 G.pB; rw [hp] at g; cases g
      · obtain ⟨_, this⟩ := (e1 p o pb hh).there; rw [hp] at this; cases this
  · rw [if_neg hc] at w1; exact w1.elim
theorem new_before {G : Bg φ} {H H1 : Hp} {n : Nat} (e1 : Ext G.B H H1) (ok1 : G.ok H1 n) {p : Addr} (hp : H1 p = none) : H p = none := by
  cases hh : H p with
  | none => rfl
  | some o =>
    by_cases pb : p = G.B
    · subst pb; obtain ⟨o', g⟩ := G.dom _ _ _ ok1 G.pB; rw [hp] at g; cases g
    · obtain ⟨_, this⟩ := (e1 p o pb hh).there; rw [hp] at this; cases this
def CallV (r : List V → Hp → VK → Prop) (op : List PV → M PV) : Prop := ∀ (φ : Fam) (G : Bg φ) (O : Addr → Prop) (H : Hp) (n : Nat) (R : PV → Nat → Prop) (Q : VK) (l : List PV) (xs : List V),
  (∀ p, G.priv p → O p) → (∀ p, O p → ∃ o, H p = some o) → G.ok H n → RepBs G O H l xs → (op l).wp n R → Wish G O H R Q → r xs H Q
theorem ev_callB {e : Expr} {r : List V → Hp → VK → Prop} {op : List PV → M PV} (h : BE X e (tCB r (taB φ ml))) (hv : CallV r op) : EV φ X e (fun ρ => (ml ρ).bind op) := BE.mono h fun σ H Q ⟨G, O, ρ, n, R, s, w, q⟩ => by
  rw [M.wZ] at w
  exact ⟨G, O, ρ, n, _, s, w, fun l xs H1 n1 e1 ok1 r1 w1 => hv φ G O H1 n1 R Q l xs s.pr (s.ext e1 ok1).dm ok1 r1 w1 fun y x H' n' e o r h => q y x H' n' (e1.trans e) o r h⟩
noncomputable def lenO : List PV → M PV
  | [.str z] => if z.length ≤ 100000 then .ret (.int z.length) else .fail
  | [.lst l] => .ret (.int l.length)
  | [.tup l] => .ret (.int l.length)
  | [.scr l] => .ret (.int l.length)
  | [.dct l] => .ret (.int l.length)
  | _ => .fail
noncomputable def rLenD (K : PySem.W.Frag) : List V → Hp → VK → Prop := fun xs H Q => (∃ x n, xs = [x] ∧ LenV K x H n ∧ Q (.int n) H) ∨ ∃ a kvs, xs = [.ref a] ∧ Rd H a (.dK kvs) ∧ Q (.int kvs.length) H
theorem call_lenDD : CallR X (.builtin "len") (rLenD X.K) := by
  intro pZ s σ H xs us Q I r h
  rcases h with h | ⟨a, kvs, rfl, h, q⟩
  · exact call_len pZ s σ H xs us Q I r h
  · obtain ⟨u, rfl, rx⟩ := vals1 r
    cases rx
    exact d_len I h fun t s' I' => ⟨.int kvs.length, H, I', ⟨_, rfl⟩, q⟩
theorem cv_len {K : PySem.W.Frag} : CallV (rLenD K) lenO := fun φ G O H n R Q l xs pr dm ok r w q => by
  match l, r, w with
  | [.str z], r, w =>
    obtain ⟨x, ex, r1⟩ := r.one; subst ex; clear r; have r := r1; clear r1
    rw [r.str_i]
    unfold lenO at w
    dsimp only at w
    by_cases hc : z.length ≤ 100000
    · rw [if_pos hc] at w; exact .inl ⟨_, _, rfl, ⟨Nat.le_trans hc big_le, rfl⟩, q.sc ok (.int _) w⟩
    · rw [if_neg hc] at w; exact w.elim
  | [.lst z], r, w =>
    obtain ⟨x, ex, r1⟩ := r.one; subst ex; clear r; have r := r1; clear r1
    obtain ⟨p, xs, rfl, h, e⟩ := r.lst_i
    exact .inl ⟨_, _, rfl, .inl ⟨xs, SqL.of h, rfl⟩, q.sc ok (y := .int z.length) (by rw [e.1]; exact .int _) w⟩
  | [.tup z], r, w =>
    obtain ⟨x, ex, r1⟩ := r.one; subst ex; clear r; have r := r1; clear r1
    obtain ⟨p, xs, rfl, h, e⟩ := r.tup_i
    exact .inl ⟨_, _, rfl, .inr ⟨xs, SqT.of h, rfl⟩, q.sc ok (y := .int z.length) (by rw [e.1]; exact .int _) w⟩
  | [.scr z], r, w =>
    obtain ⟨x, ex, r1⟩ := r.one; subst ex; clear r; have r := r1; clear r1
    obtain ⟨p, o, rfl, h⟩ := r.scr_i
    exact .inl ⟨_, _, rfl, .inl ⟨_, .inl (.inr ⟨o, h⟩), rfl⟩, q.sc ok (y := .int z.length) (by rw [List.length_map]; exact .int _) w⟩
  | [.dct z], r, w =>
    obtain ⟨x, ex, r1⟩ := r.one; subst ex; clear r; have r := r1; clear r1
    obtain ⟨p, ks, rfl, h, e⟩ := r.dct_i
    have e1 : z.length = ks.length := by simpa using congrArg List.length e.1
    exact .inr ⟨p, ks, rfl, h, q.sc ok (y := .int z.length) (by rw [e1]; exact .int _) w⟩
noncomputable def blsOf : List PV → Option (List Bool)
  | [] => some []
  | .bl b :: r => (blsOf r).map (b :: ·)
  | _ => none
theorem bls_rep {B : Addr} {O : Addr → Prop} {H : Hp} : ∀ {l : List PV} {xs : List V} {bs : List Bool}, Reps B O H l xs → blsOf l = some bs → xs = bs.map V.bl
  | [], xs, bs, h, e => by simp [blsOf] at e; subst e; exact h.nil_inv
  | y :: l, xs, bs, h, e => by
    cases y <;> simp [blsOf] at e
    obtain ⟨bs', e1, rfl⟩ := e
    obtain ⟨x, r, rfl, h1, h2⟩ := h.cons_inv
    cases h1
    rw [List.map_cons, bls_rep h2 e1]
noncomputable def allO : List PV → M PV
  | [.lst l] => (M.ofO (blsOf l)).bind fun bs => .ret (.bl (bs.all id))
  | _ => .fail
theorem cv_all {K : PySem.W.Frag} : CallV (fun xs H Q => ∃ (p : Addr) (bs : List Bool), xs = [.ref p] ∧ SqL K H p (bs.map V.bl) ∧ Q (.bl (bs.all id)) H) allO := fun φ G O H n R Q l xs pr dm ok r w q => by
  match l, r, w with
  | [.lst z], r, w =>
    obtain ⟨x, ex, r1⟩ := r.one; subst ex; clear r; have r := r1; clear r1
    obtain ⟨p, xs, rfl, h, e⟩ := r.lst_i
    unfold allO at w
    dsimp only at w
    cases eb : blsOf z with
    | none => rw [eb] at w; exact w.elim
    | some bs => rw [eb] at w; rw [bls_rep e eb] at h; exact ⟨p, bs, rfl, SqL.of h, q.sc ok (.bl _) w⟩
noncomputable def tupO : List PV → M PV
  | [.lst l] => .ret (.tup l)
  | [.tup l] => .ret (.tup l)
  | _ => .fail
theorem cv_tup {K : PySem.W.Frag} : CallV (fun xs H Q => ∃ p ys, xs = [.ref p] ∧ ((SqL K H p ys ∧ ∀ l, H l = none → Q (.ref l) (upd H l (.tup ys))) ∨ (SqT K H p ys ∧ Q (.ref p) H))) tupO := fun φ G O H n R Q l xs pr dm ok r w q => by
  match l, r, w with
  | [.lst z], r, w =>
    obtain ⟨x, ex, r1⟩ := r.one; subst ex; clear r; have r := r1; clear r1
    obtain ⟨p, xs, rfl, h, e⟩ := r.lst_i
    exact ⟨p, xs, rfl, .inl ⟨SqL.of h, fun l hl => q.tup ok dm hl (pr _ G.pB) e w⟩⟩
  | [.tup z], r, w =>
    obtain ⟨x, ex, r1⟩ := r.one; subst ex; clear r; have r := r1; clear r1
    obtain ⟨p, xs, rfl, h, e⟩ := r.tup_i
    cases r with
    | full r => exact ⟨p, xs, rfl, .inr ⟨SqT.of h, q.sc ok r w⟩⟩
noncomputable def tyN : PV → Option String
  | .non => some "NoneType"
  | .bl _ => some "bool"
  | .int _ => some "int"
  | .str _ => some "str"
  | .tup _ => some "tuple"
  | .lst _ => some "list"
  | .scr _ => some "list"
  | .dct _ => some "dict"
  | .bag => none
noncomputable def inst (T : String) (t : String) : Bool := t == T || (t == "bool" && T == "int")
noncomputable def isiO (T : String) (y : PV) : M PV := (M.ofO (tyN y)).bind fun t => .ret (.bl (inst T t))
def KitOk (T : String) : Prop := ∀ (K : PySem.W.Frag) (t : String), t ∈ ["NoneType", "bool", "int", "str", "tuple", "list", "dict"] → PySem.W.kitOne K (.type t) (.type T) = some (inst T t)
theorem kit_str : KitOk "str" := fun K t h => by
  simp only [List.mem_cons, List.not_mem_nil, or_false] at h
  rcases h with rfl | rfl | rfl | rfl | rfl | rfl | rfl <;> rfl
theorem kit_int : KitOk "int" := fun K t h => by
  simp only [List.mem_cons, List.not_mem_nil, or_false] at h
  rcases h with rfl | rfl | rfl | rfl | rfl | rfl | rfl <;> rfl
theorem kit_bool : KitOk "bool" := fun K t h => by
  simp only [List.mem_cons, List.not_mem_nil, or_false] at h
  rcases h with rfl | rfl | rfl | rfl | rfl | rfl | rfl <;> rfl
theorem kit_tuple : KitOk "tuple" := fun K t h => by
  simp only [List.mem_cons, List.not_mem_nil, or_false] at h
  rcases h with rfl | rfl | rfl | rfl | rfl | rfl | rfl <;> rfl
theorem tyOf_rep {K : PySem.W.Frag} {G : Bg φ} {O : Addr → Prop} {H : Hp} {y : PV} {x : V} {t : String} (r : RepB G O H y x) (e : tyN y = some t) : TyOf K H x (.type t) ∧ t ∈ ["NoneType", "bool", "int", "str", "tuple", "list", "dict"] := by
  cases y with
  | non => cases e; rw [r.non_i]; exact ⟨.non, by decide⟩
  | bl b => cases e; rw [r.bl_i]; exact ⟨.bl b, by decide⟩
  | int i => cases e; rw [r.int_i]; exact ⟨.int i, by decide⟩
  | str z => cases e; rw [r.str_i]; exact ⟨.str z, by decide⟩
  | tup l => cases e; obtain ⟨p, xs, rfl, h, _⟩ := r.tup_i; exact ⟨.tup h, by decide⟩
  | lst l => cases e; obtain ⟨p, xs, rfl, h, _⟩ := r.lst_i; exact ⟨.lst h, by decide⟩
  | dct l => cases e; obtain ⟨p, xs, rfl, h, _⟩ := r.dct_i; exact ⟨.dK h, by decide⟩
  | scr l => cases e; obtain ⟨p, o, rfl, h⟩ := r.scr_i; exact ⟨.frz h, by decide⟩
  | bag => cases e
theorem ev_isi {e : Expr} {T : String} {ma : PEnv → M PV} (h : BE X e (tCB (fun xs H Q => ∃ x T t b, xs = [x, .ty T] ∧ TyOf X.K H x t ∧ PySem.W.kitOne X.K t (.type T) = some b ∧ Q (.bl b) H) (tCons (teB φ ma) (tCons (tC (.ty T)) tNil)))) (hk : KitOk T) : EV φ X e (fun ρ => (ma ρ).bind (isiO T)) := BE.mono h fun σ H Q ⟨G, O, ρ, n, R, s, w, q⟩ => by
  rw [M.wZ] at w
  refine ⟨G, O, ρ, n, _, s, w, fun y x H1 n1 e1 ok1 r1 w1 => ?_⟩
  unfold isiO at w1
  cases et : tyN y with
  | none => rw [et] at w1; exact w1.elim
  | some t =>
    rw [et] at w1
    obtain ⟨a1, a2⟩ := tyOf_rep (K := X.K) r1 et
    exact ⟨x, T, _, _, rfl, a1, hk X.K t a2, q _ _ _ _ e1 ok1 (.bl _) w1⟩
end
end
section
variable {φ : Fam}
noncomputable def spP (φ : Fam) (f : List PV → M PV) : Sp := fun vs H Q _ => ∃ (G : Bg φ) (O : Addr → Prop) (l : List PV) (n : Nat) (R : PV → Nat → Prop), (∀ p, G.priv p → O p) ∧ (∀ p, O p → ∃ o, H p = some o) ∧ G.ok H n ∧ Reps G.B O H l vs ∧ (f l).wp n R ∧ Wish G O H R Q
section
variable {X : Cx} {e : Expr} {es : List Expr} {ml : PEnv → M (List PV)} {f : List PV → M PV}
theorem ev_call (h : BE X e (tCall (spP φ f) [] E0 (taP φ ml))) : EV φ X e (fun ρ => (ml ρ).bind f) := BE.mono h fun σ H Q ⟨G, O, ρ, n, R, s, w, q⟩ => by
  rw [M.wZ] at w
  refine ⟨G, O, ρ, n, _, s, w, fun l xs H1 n1 e1 ok1 r1 w1 => ?_⟩
  show spP φ f (xs ++ []) H1 Q E0
  rw [List.append_nil]
  exact ⟨G, O, l, n1, R, s.pr, (s.ext e1 ok1).dm, ok1, r1, w1, fun y x H' n' e o r h => q y x H' n' (e1.trans e) o r h⟩
def SlV (r : V → Option Int → Option Int → Hp → VK → Prop) (op : PV → Option Int → Option Int → M PV) : Prop := ∀ (φ : Fam) (G : Bg φ) (O : Addr → Prop) (H : Hp) (n : Nat) (R : PV → Nat → Prop) (Q : VK) (y : PV) (lo hi : Option Int) (x : V),
  (∀ p, G.priv p → O p) → (∀ p, O p → ∃ o, H p = some o) → G.ok H n → RepB G O H y x → (op y lo hi).wp n R → Wish G O H R Q → r x lo hi H Q
def WishO (G : Bg φ) (H : Hp) (R : Option Int → Nat → Prop) (Q : Option Int → Hp → Prop) : Prop := ∀ (o : Option Int) (H' : Hp) (n' : Nat), Ext G.B H H' → G.ok H' n' → R o n' → Q o H'
noncomputable def toP (φ : Fam) (m : PEnv → M (Option Int)) : TO := fun σ H Q => ∃ (G : Bg φ) (O : Addr → Prop) (ρ : PEnv) (n : Nat) (R : Option Int → Nat → Prop), ES G O H σ ρ n ∧ (m ρ).wp n R ∧ WishO G H R Q
def OV (φ : Fam) (X : Cx) (e : Option Expr) (m : PEnv → M (Option Int)) : Prop := BO X e (toP φ m)
theorem BO.mono {e : Option Expr} {t t' : TO} (h : BO X e t) (f : ∀ σ H Q, t' σ H Q → t σ H Q) : BO X e t' := ⟨fun pZ s σ H Q I q => h.out pZ s σ H Q I (f σ H Q q)⟩
theorem ov_none : OV φ X none (fun _ => .ret none) := BO.mono ⟨po_none⟩ fun σ H Q ⟨G, O, ρ, n, R, s, w, q⟩ => q none H n (Ext.refl _ _) s.ok w
noncomputable def intM : PV → M Int
  | .int i => .ret i
  | _ => .fail
theorem ov_some {m : PEnv → M PV} (h : EB φ X e m) : OV φ X (some e) (fun ρ => (m ρ).bind fun y => (intM y).bind fun i => .ret (some i)) := BO.mono ⟨po_some h.out⟩ fun σ H Q ⟨G, O, ρ, n, R, s, w, q⟩ => by
  rw [M.wZ] at w
  refine ⟨G, O, ρ, n, _, s, w, fun y x H1 n1 e1 ok1 r1 w1 => ?_⟩
  cases y <;> first | exact w1.elim | skip
  rename_i i
  rw [r1.int_i]
  exact ⟨i, rfl, q _ _ _ e1 ok1 w1⟩
noncomputable def sl3 (op : PV → Option Int → Option Int → M PV) (me : PEnv → M PV) (ml mh : PEnv → M (Option Int)) : PEnv → M PV := fun ρ => (me ρ).bind fun y => (ml ρ).bind fun lo => (mh ρ).bind fun hi => op y lo hi
theorem ev_slice {r : V → Option Int → Option Int → Hp → VK → Prop} {op : PV → Option Int → Option Int → M PV} {me : PEnv → M PV} {ml mh : PEnv → M (Option Int)} (h : BE X e (tSl r (teB φ me) (toP φ ml) (toP φ mh))) (hv : SlV r op) : EV φ X e (sl3 op me ml mh) := BE.mono h fun σ H Q ⟨G, O, ρ, n, R, s, w, q⟩ => by
  unfold sl3 at w
  rw [M.wZ] at w
  refine ⟨G, O, ρ, n, _, s, w, fun y x H1 n1 e1 ok1 r1 w1 => ?_⟩
  rw [M.wZ] at w1
  refine ⟨G, O, ρ, n1, _, s.ext e1 ok1, w1, fun lo H2 n2 e2 ok2 w2 => ?_⟩
  rw [M.wZ] at w2
  refine ⟨G, O, ρ, n2, _, s.ext (e1.trans e2) ok2, w2, fun hi H3 n3 e3 ok3 w3 => ?_⟩
  exact hv φ G O H3 n3 R Q y lo hi x s.pr (s.ext (e1.trans (e2.trans e3)) ok3).dm ok3 (r1.ext s.B (e2.trans e3)) w3 fun y x H' n' e o r h => q y x H' n' (e1.trans (e2.trans (e3.trans e))) o r h
noncomputable def cutP (l : List PV) (lo hi : Option Int) : List PV := (l.drop (HT.sIx l.length 0 lo)).take (HT.sIx l.length l.length hi - HT.sIx l.length 0 lo)
theorem cut_reps {B : Addr} {O : Addr → Prop} {H : Hp} {l : List PV} {xs : List V} (h : Reps B O H l xs) (lo hi : Option Int) : Reps B O H (cutP l lo hi) (cutV xs lo hi) := by
  unfold cutP cutV
  rw [← h.1]
  exact (h.drop _).take _
theorem cutP_whole (l : List PV) (lo hi : Option Int) (h : HT.sIx l.length 0 lo = 0 ∧ HT.sIx l.length l.length hi = l.length) : cutP l lo hi = l := by
  unfold cutP
  rw [h.1, h.2]
  simp
noncomputable def rSlD (K : PySem.W.Frag) : V → Option Int → Option Int → Hp → VK → Prop := fun x lo hi H Q => rSlL K x lo hi H Q ∨ rSlT K x lo hi H Q
theorem sl_D : SlR X (rSlD X.K) := sl_list.or sl_tup
noncomputable def signsP (x : Str) : List PV := x.cps.toList.map fun c => .str ⟨#[c]⟩
noncomputable def intsP (lo : Int) (n : Nat) : List PV := (List.range n).map fun i => .int (lo + (i : Nat))
inductive ItOf (K : PySem.W.Frag) (G : Bg φ) (O : Addr → Prop) (c : Bool) (H : Hp) : List PV → It → Prop where
  | lst {p : Addr} {xs : List V} {l : List PV} (np : ¬ G.priv p) (hp : c = true → ¬ O p) (h : H p = some (.lst xs)) (r : Reps G.B O H l xs) : ItOf K G O c H l (Itl K p)
  | tup {p : Addr} {xs : List V} {l : List PV} (hp : ¬ O p) (h : H p = some (.tup xs)) (r : Reps G.B O H l xs) : ItOf K G O c H l (Itt K p)
  | txt (x : Str) : ItOf K G O c H (signsP x) (Itx x)
  | rng (lo : Int) (n : Nat) : ItOf K G O c H (intsP lo n) (Itr lo n)
theorem itl_go {K : PySem.W.Frag} {H : Hp} {p : Addr} {xs : List V} (h : H p = some (.lst xs)) {i : Nat} (hi : i < xs.length) : (Itl K p).go i H := ⟨xs, xs[i], SqL.of h, by simp [hi]⟩
theorem itt_go {K : PySem.W.Frag} {H : Hp} {p : Addr} {xs : List V} (h : H p = some (.tup xs)) {i : Nat} (hi : i < xs.length) : (Itt K p).go i H := ⟨xs, xs[i], SqT.of h, by simp [hi]⟩
theorem ItOf.go {K : PySem.W.Frag} {G : Bg φ} {O : Addr → Prop} {c : Bool} {H : Hp} {l : List PV} {J : It} (t : ItOf K G O c H l J) {i : Nat} {y : PV} (hi : l[i]? = some y) : J.go i H ∧ ∀ x H2, J.yld i H x H2 → H2 = H ∧ Rep G.B O H y x := by
  have hl : i < l.length := (List.getElem?_eq_some_iff.mp hi).1
  cases t with
  | lst np hp h r =>
    refine ⟨itl_go h (r.1 ▸ hl), fun x H2 z => ?_⟩
    obtain ⟨e, z⟩ := z
    exact ⟨e, r.2 i y x hi (z _ (SqL.of h))⟩
  | tup hp h r =>
    refine ⟨itt_go h (r.1 ▸ hl), fun x H2 z => ?_⟩
    obtain ⟨e, z⟩ := z
    exact ⟨e, r.2 i y x hi (z _ (SqT.of h))⟩
  | txt z =>
    unfold signsP at hi hl
    refine ⟨by show i < z.cps.size; simpa using hl, fun x H2 q => ?_⟩
    obtain ⟨e, c', hc, rfl⟩ := q
    refine ⟨e, ?_⟩
    rw [List.getElem?_map] at hi
    have : z.cps.toList[i]? = some c' := by simpa using hc
    rw [this] at hi
    cases hi
    exact .str _
  | rng lo n =>
    unfold intsP at hi hl
    have hn : i < n := by simpa using hl
    refine ⟨hn, fun x H2 q => ?_⟩
    obtain ⟨e, rfl⟩ := q
    refine ⟨e, ?_⟩
    rw [List.getElem?_map, List.getElem?_range hn] at hi
    cases hi
    exact .int _
theorem ItOf.stop {K : PySem.W.Frag} {G : Bg φ} {O : Addr → Prop} {c : Bool} {H : Hp} {l : List PV} {J : It} (t : ItOf K G O c H l J) : J.stop l.length H := by
  cases t with
  | lst np hp h r => exact ⟨_, SqL.of h, Nat.le_of_eq r.1.symm⟩
  | tup hp h r => exact ⟨_, SqT.of h, Nat.le_of_eq r.1.symm⟩
  | txt z => show (signsP z).length = z.cps.size; simp [signsP]
  | rng lo n => show n ≤ (intsP lo n).length; simp [intsP]
theorem ItOf.keepS {K : PySem.W.Frag} {G : Bg φ} {O O' : Addr → Prop} {c : Bool} {H H' : Hp} {l : List PV} {J : It} (t : ItOf K G O c H l J) (k : ∀ p o, ¬ O p → H p = some o → Stand H' p o ∧ ¬ O' p) (k2 : c = true ∨ ∀ p xs, ¬ G.priv p → H p = some (.lst xs) → H' p = some (.lst xs)) (hc : ∀ p, c = true → ¬ O p → ¬ O' p) : ItOf K G O' c H' l J := by
  cases t with
  | lst np hp h r =>
    refine .lst np (fun z => hc _ z (hp z)) ?_ (r.keepS k)
    rcases k2 with z | z
    · exact (k _ _ (hp z) h).1
    · exact z _ _ np h
  | tup hp h r => exact .tup (k _ _ hp h).2 (k _ _ hp h).1 (r.keepS k)
  | txt z => exact .txt z
  | rng lo n => exact .rng lo n
theorem ItOf.keep {K : PySem.W.Frag} {G : Bg φ} {O O' : Addr → Prop} {c : Bool} {H H' : Hp} {l : List PV} {J : It} (t : ItOf K G O c H l J) (k : ∀ p o, ¬ O p → H p = some o → H' p = some o ∧ ¬ O' p) (k2 : c = true ∨ ∀ p xs, ¬ G.priv p → H p = some (.lst xs) → H' p = some (.lst xs)) (hc : ∀ p, c = true → ¬ O p → ¬ O' p) : ItOf K G O' c H' l J := t.keepS (fun p o n q => ⟨.of (k p o n q).1, (k p o n q).2⟩) k2 hc
noncomputable def tiP (φ : Fam) (K : PySem.W.Frag) (c : Bool) (m : PEnv → M (List PV)) : TI := fun σ H Q => ∃ (G : Bg φ) (O : Addr → Prop) (ρ : PEnv) (n : Nat) (R : List PV → Nat → Prop), ES G O H σ ρ n ∧ (m ρ).wp n R ∧
  ∀ (l : List PV) (J : It) (H' : Hp) (n' : Nat), Ext G.B H H' → G.ok H' n' → ItOf K G O c H' l J → R l n' → Q J H'
def IV (φ : Fam) (X : Cx) (c : Bool) (tg iter : Expr) (m : PEnv → M (List PV)) : Prop := BI X tg iter (tiP φ X.K c m)
noncomputable def iterO : PV → M (List PV)
  | .lst l => .ret l
  | .tup l => .ret l
  | .str x => .ret (signsP x)
  | _ => .fail
theorem pi_seq {tg l : Expr} {tl : TE} (hl : PE X l tl) : PI X tg l (fun σ H R => tl σ H fun x H1 => (∃ a, x = .ref a ∧ (∃ xs, SqL X.K H1 a xs) ∧ R (Itl X.K a) H1) ∨ (∃ a, x = .ref a ∧ (∃ xs, SqT X.K H1 a xs) ∧ R (Itt X.K a) H1) ∨ ∃ z, x = .str z ∧ R (Itx z) H1) := by
  intro pZ s σ H R I h
  refine thn (hl pZ s σ H _ I h) fun v s1 ⟨x, H1, I1, r1, q1⟩ => ?_
  rcases q1 with ⟨a, e, ⟨xs, hq⟩, q⟩ | ⟨a, e, ⟨xs, hq⟩, q⟩ | ⟨z, e, q⟩
  · subst e
    cases r1
    obtain ⟨its, rv, p, hz⟩ := I1.list hq
    refine wpAny_pyIter_list p.isList ?_
    refine ⟨s1.heap.objs.size, [s1.heap.objs.size], _, _, H1, rfl, I1.kept (t' := s1.toks) fun b o e => Heap.get?_push_of_some _ e, turn_list a _, ⟨_, Heap.get?_push_size _ rfl, rfl, rfl⟩, fun b hb => ?_, q⟩
    have e : b = s1.heap.objs.size := by simpa using hb
    subst e
    exact I1.fpOk (Nat.le_refl _) (I1.hok.fresh (Nat.le_refl _))
  · subst e
    cases r1
    obtain ⟨its, rv, p, hz⟩ := I1.tuple hq
    refine wpAny_pyIter_tuple (show s1.heap.IsTuple a its.toArray from p) ?_
    refine ⟨s1.heap.objs.size, [s1.heap.objs.size], _, _, H1, rfl, I1.kept (t' := s1.toks) fun b o e => Heap.get?_push_of_some _ e, turn_tuple a _, ⟨_, Heap.get?_push_size _ rfl, rfl, rfl⟩, fun b hb => ?_, q⟩
    have e : b = s1.heap.objs.size := by simpa using hb
    subst e
    exact I1.fpOk (Nat.le_refl _) (I1.hok.fresh (Nat.le_refl _))
  · subst e
    obtain ⟨t, rfl⟩ := r1
    have fin : ∀ (o : Obj) (ty : String), o.cls = .type ty → o.data = .fields #[.str z t, .int (0 : Nat) 0] → Turn X.prog X.w X.K tg (Itx z) [s1.heap.objs.size] s1.heap.objs.size (fun i h => h.IsStrIter s1.heap.objs.size ty z t i) → o.isFreed = false →
        PIE X pZ σ tg R (.ref s1.heap.objs.size) { s1 with heap := s1.heap.push o } := fun o ty h1 h2 T hfr => by
      refine ⟨s1.heap.objs.size, [s1.heap.objs.size], _, _, H1, rfl, I1.kept (t' := s1.toks) fun b o e => Heap.get?_push_of_some _ e, T, ⟨_, Heap.get?_push_size _ hfr, h1, h2⟩, fun b hb => ?_, q⟩
      have e : b = s1.heap.objs.size := by simpa using hb
      subst e
      exact I1.fpOk (Nat.le_refl _) (I1.hok.fresh (Nat.le_refl _))
    cases ha : z.cps.all (· < 128)
    · exact wpAny_pyIter_wide ha (fin _ _ rfl rfl (turn_text _ z t (by decide) (fun A hA => Walks.strWide hA _ z t) fun _ _ _ _ _ st h => wpAny_pyIter_striter_wide st h) rfl)
    · exact wpAny_pyIter_ascii ha (fin _ _ rfl rfl (turn_text _ z t (by decide) (fun A hA => Walks.strAscii hA _ z t) fun _ _ _ _ _ st h => wpAny_pyIter_striter_ascii st h) rfl)
theorem BI.mono {tg iter : Expr} {t t' : TI} (h : BI X tg iter t) (f : ∀ σ H Q, t' σ H Q → t σ H Q) : BI X tg iter t' := ⟨fun pZ s σ H Q I q => h.out pZ s σ H Q I (f σ H Q q)⟩
theorem iv_b {tg : Expr} {m : PEnv → M PV} (h : EB φ X e m) : IV φ X false tg e (fun ρ => (m ρ).bind iterO) := BI.mono ⟨pi_seq h.out⟩ fun σ H Q ⟨G, O, ρ, n, R, s, w, q⟩ => by
  rw [M.wZ] at w
  refine ⟨G, O, ρ, n, _, s, w, fun y x H1 n1 e1 ok1 r1 w1 => ?_⟩
  cases y <;> first | exact w1.elim | skip
  · rw [r1.str_i]
    exact .inr (.inr ⟨_, rfl, q _ _ _ _ e1 ok1 (.txt _) w1⟩)
  · cases r1 with
    | full r1 => cases r1 with
      | tup a b c d => exact .inr (.inl ⟨_, rfl, ⟨_, SqT.of b⟩, q _ _ _ _ e1 ok1 (.tup a b ⟨c, d⟩) w1⟩)
  · cases r1 with
    | full r1 => cases r1 with
      | lst a b c d => exact .inl ⟨_, rfl, ⟨_, SqL.of b⟩, q _ _ _ _ e1 ok1 (.lst (fun z => a (s.pr _ z)) (fun z => by cases z) b ⟨c, d⟩) w1⟩
    | top a b c => exact .inl ⟨_, rfl, ⟨_, SqL.of b⟩, q _ _ _ _ e1 ok1 (.lst a (fun z => by cases z) b c) w1⟩
theorem iv_v {tg : Expr} {m : PEnv → M PV} (h : EV φ X e m) : IV φ X true tg e (fun ρ => (m ρ).bind iterO) := BI.mono ⟨pi_seq h.out⟩ fun σ H Q ⟨G, O, ρ, n, R, s, w, q⟩ => by
  rw [M.wZ] at w
  refine ⟨G, O, ρ, n, _, s, w, fun y x H1 n1 e1 ok1 r1 w1 => ?_⟩
  cases r1 with
  | str z => exact .inr (.inr ⟨_, rfl, q _ _ _ _ e1 ok1 (.txt _) w1⟩)
  | tup a b c d => exact .inr (.inl ⟨_, rfl, ⟨_, SqT.of b⟩, q _ _ _ _ e1 ok1 (.tup a b ⟨c, d⟩) w1⟩)
  | lst a b c d => exact .inl ⟨_, rfl, ⟨_, SqL.of b⟩, q _ _ _ _ e1 ok1 (.lst (fun z => a (s.pr _ z)) (fun _ => a) b ⟨c, d⟩) w1⟩
  | _ => exact w1.elim
noncomputable def rng1O : List PV → M (List PV)
  | [.int j] => if -1000000 ≤ j ∧ j ≤ 100000 then .ret (intsP 0 j.toNat) else .fail
  | _ => .fail
theorem iv_rng1 {c : Bool} {tg : Expr} (h : BI X tg e (iRng1 (taB φ ml))) : IV φ X c tg e (fun ρ => (ml ρ).bind rng1O) := BI.mono h fun σ H Q ⟨G, O, ρ, n, R, s, w, q⟩ => by
  rw [M.wZ] at w
  refine ⟨G, O, ρ, n, _, s, w, fun l xs H1 n1 e1 ok1 r1 w1 => ?_⟩
  match l, r1, w1 with
  | [.int j], r1, w1 =>
    obtain ⟨x, rfl, r2⟩ := r1.one
    rw [r2.int_i]
    unfold rng1O at w1
    dsimp only at w1
    by_cases hc : -1000000 ≤ j ∧ j ≤ 100000
    · rw [if_pos hc] at w1
      have e62 : (2 : Int) ^ 62 = 4611686018427387904 := by decide
      exact ⟨j, rfl, by omega, by omega, q _ _ _ _ e1 ok1 (.rng 0 j.toNat) w1⟩
    · rw [if_neg hc] at w1; exact w1.elim
noncomputable def tgP (φ : Fam) (b : PV → PEnv → M PEnv) : TG := fun v σ H Q => ∃ (G : Bg φ) (O : Addr → Prop) (ρ : PEnv) (n : Nat) (R : PEnv → Nat → Prop) (y : PV), ES G O H σ ρ n ∧ Rep G.B O H y v ∧ (b y ρ).wp n R ∧
  ∀ (σ' : St) (ρ' : PEnv) (n' : Nat), ES G O H σ' ρ' n' → R ρ' n' → Q σ' H
def GV (φ : Fam) (X : Cx) (tg : Expr) (b : PV → PEnv → M PEnv) : Prop := BG X tg (tgP φ b)
theorem EnvRep.set {G : Bg φ} {O : Addr → Prop} {H : Hp} {σ : St} {ρ : PEnv} (h : EnvRep G O H σ ρ) (k : Nat) {t : Ent} {x : V} (r : EntRep G O H t (some x)) : EnvRep G O H (σ.set k (some x)) (ρ.set k t) := by
  refine ⟨by simp [h.1], fun i e he => ?_⟩
  by_cases hk : k = i
  · subst hk
    have hl : k < ρ.length := by have := (List.getElem?_eq_some_iff.mp he).1; simpa using this
    rw [List.getElem?_set_self hl] at he
    cases he
    rw [List.getElem?_set_self (h.1 ▸ hl)]
    exact r
  · rw [List.getElem?_set_ne hk] at he ⊢
    exact h.2 i e he
theorem ES.set {G : Bg φ} {O : Addr → Prop} {H : Hp} {σ : St} {ρ : PEnv} {n : Nat} (s : ES G O H σ ρ n) (k : Nat) {t : Ent} {x : V} (r : EntRep G O H t (some x)) : ES G O H (σ.set k (some x)) (ρ.set k t) n := ⟨s.er.set k r, s.ok, s.pr, s.dm⟩
noncomputable def bindN (k : Nat) (y : PV) (ρ : PEnv) : M PEnv := .ret (ρ.set k (.val y))
theorem BG.mono {tg : Expr} {t t' : TG} (h : BG X tg t) (f : ∀ v σ H Q, t' v σ H Q → t v σ H Q) : BG X tg t' := ⟨fun pZ s σ H v u Q I r q => h.out pZ s σ H v u Q I r (f v σ H Q q)⟩
theorem gv_name {tg : Expr} {k : Nat} (h : BG X tg (gName k)) : GV φ X tg (bindN k) := BG.mono h fun v σ H Q ⟨G, O, ρ, n, R, y, s, r, w, q⟩ => q _ _ n (s.set k (t := .val y) ⟨v, rfl, r⟩) w
noncomputable def bindsN : List Nat → List PV → PEnv → PEnv
  | k :: ks, y :: l, ρ => bindsN ks l (ρ.set k (.val y))
  | _, _, ρ => ρ
noncomputable def bindT (ks : List Nat) (y : PV) (ρ : PEnv) : M PEnv := match y with
  | .tup l => if l.length = ks.length then .ret (bindsN ks l ρ) else .fail
  | _ => .fail
noncomputable def lcM (bd : PV → PEnv → M PEnv) (tt : PEnv → M Bool) (te : PEnv → M PV) : List PV → PEnv → M (List PV)
  | [], _ => .ret []
  | y :: r, ρ => (bd y ρ).bind fun ρ1 => (tt ρ1).bind fun ok => if ok = true then (te ρ1).bind fun z => (lcM bd tt te r ρ1).bind fun l => .ret (z :: l) else lcM bd tt te r ρ1
noncomputable def capP (js : List (Option Nat)) (ρ : PEnv) : PEnv := js.map fun o => match o with | some j => (ρ[j]?).getD .un | none => .un
theorem capP_rep {G : Bg φ} {O : Addr → Prop} {H : Hp} {σ : St} {ρ : PEnv} (h : EnvRep G O H σ ρ) (js : List (Option Nat)) : EnvRep G O H (capSt js σ) (capP js ρ) := by
  refine ⟨by simp [capSt, capP], fun i e he => ?_⟩
  unfold capP at he
  unfold capSt
  rw [List.getElem?_map] at he ⊢
  cases q : js[i]? with
  | none => rw [q] at he; cases he
  | some o =>
    rw [q] at he
    simp only [Option.map_some, Option.some.injEq] at he ⊢
    subst he
    cases o with
    | none => trivial
    | some j =>
      dsimp only
      cases q2 : ρ[j]? with
      | none => rw [Option.getD_none]; trivial
      | some t =>
        have := h.2 j t q2
        rw [Option.getD_some]
        simpa using this
noncomputable def allTs : PEnv → M Bool := fun _ => .ret true
theorem BTs.mono {ifs : List Expr} {t t' : TT} (h : BTs X ifs t) (f : ∀ σ H Q, t' σ H Q → t σ H Q) : BTs X ifs t' := ⟨fun pZ s σ H Q I q => h.out pZ s σ H Q I (f σ H Q q)⟩
def TsV (φ : Fam) (X : Cx) (ifs : List Expr) (m : PEnv → M Bool) : Prop := BTs X ifs (ttP φ m)
theorem ts_nil : TsV φ X [] allTs := BTs.mono ⟨pts_nil⟩ fun σ H Q ⟨G, O, ρ, n, R, s, w, q⟩ => q true H n (Ext.refl _ _) s.ok w
theorem ts_one {c : Expr} {m : PEnv → M Bool} (h : TV φ X c m) : TsV φ X [c] m := ⟨pts_one h.out⟩
noncomputable def mkLC (js : List (Option Nat)) (mi : PEnv → M (List PV)) (bd : PV → PEnv → M PEnv) (tt : PEnv → M Bool) (te : PEnv → M PV) : PEnv → M (List PV) := fun ρ => (mi ρ).bind fun l => if l.length ≤ 100000 then lcM bd tt te l (capP js ρ) else .fail
noncomputable def Bg.with (G : Bg φ) (D : Addr) (hD : D ≠ G.B) : Bg φ where
  B := G.B
  priv := fun p => G.priv p ∨ p = D
  ok := fun H n => G.ok H n ∧ ∃ ys, H D = some (.lst ys)
  pB := .inl G.pB
  keep := fun H H' n k h => ⟨G.keep H H' n (fun p o z => k p o (z.imp .inl id)) h.1, by obtain ⟨ys, e⟩ := h.2; exact ⟨ys, k D _ (.inl (.inr rfl)) e⟩⟩
  tp := fun e he => .inl (G.tp e he)
  tab := fun H n h => G.tab H n h.1
  tset := fun H H' n h h1 h2 => ⟨G.tset H H' n h.1 h1 h2, by
    obtain ⟨ys, e⟩ := h.2
    refine ⟨ys, h2 D _ (fun z => ?_) e⟩
    obtain ⟨q, hq, rfl⟩ := List.mem_map.mp z
    obtain ⟨ps, e2, _⟩ := G.tab H n h.1 q hq
    rw [e] at e2; cases e2⟩
  dom := fun H n p h z => by
    rcases z with z | z
    · exact G.dom H n p h.1 z
    · subst z; obtain ⟨ys, e⟩ := h.2; exact ⟨_, e⟩
  dr := fun H n m Q E h h0 h1 q => G.dr H n m Q E h.1 h0 h1 fun d H' d0 d1 e o => q d H' d0 d1 e ⟨o, by
    obtain ⟨ys, e2⟩ := h.2
    exact ⟨ys, e D _ hD e2⟩⟩
theorem lc_in {K : PySem.W.Frag} {js : List (Option Nat)} {mi : PEnv → M (List PV)} {bd : PV → PEnv → M PEnv} {tt : PEnv → M Bool} {te : PEnv → M PV} : ∀ σ H Q, teF φ (mkLC js mi bd tt te) σ H Q → tLC js (tiP φ K false mi) (tgP φ bd) (ttP φ tt) (teP φ te) σ H Q := fun σ H Q ⟨G, O, ρ, n, R, s, w, q⟩ => by
  unfold mkLC at w
  rw [M.wZ] at w
  refine ⟨G, O, ρ, n, _, s, w, fun l J H1 n1 e1 ok1 it w1 => fun D hD => ?_⟩
  by_cases hl : l.length ≤ 100000
  case neg => rw [if_neg hl] at w1; exact w1.elim
  rw [if_pos hl] at w1
  have s1 := s.ext e1 ok1
  have nD : ¬ O D := fun z => by obtain ⟨o, g⟩ := s1.dm D z; rw [hD] at g; cases g
  have pD : ¬ G.priv D := fun z => nD (s.pr _ z)
  have hBD : D ≠ G.B := fun z => pD (z ▸ G.pB)
  have hne : ∀ p o, H1 p = some o → p ≠ D := fun p o hp z => by subst z; rw [hD] at hp; cases hp
  let O' : Addr → Prop := fun p => O p ∨ p = D
  let G' : Bg φ := G.with D hBD
  have k0 : ∀ p o, ¬ O p → H1 p = some o → upd H1 D (HO.lst []) p = some o ∧ ¬ O' p := fun p o np hp => ⟨by rw [upd_ne (hne p o hp)]; exact hp, fun z => by
    rcases z with z | z
    · exact np z
    · exact hne p o hp z⟩
  have kD : ∀ (H5 : Hp) (o : HO) p u, ¬ O' p → H5 p = some u → upd H5 D o p = some u ∧ ¬ O' p := fun H5 o p u np hp => ⟨by rw [upd_ne (fun z => np (.inr z))]; exact hp, np⟩
  refine ⟨fun i m σ' H' => m = l.length - i ∧ i ≤ l.length ∧ ∃ (ys : List V) (zs : List PV) (ρ' : PEnv) (n' : Nat), ys.length ≤ i ∧ H' D = some (.lst ys) ∧ Reps G.B O' H' zs ys ∧ ES G' O' H' σ' ρ' n' ∧ Ext G.B H1 H' ∧ ItOf K G' O' false H' l J ∧
    (lcM bd tt te (l.drop i) ρ').wp n' (fun t k => R (zs ++ t) k), ⟨l.length, by simp, Nat.zero_le _, [], [], capP js ρ, n1, Nat.le_refl _, upd_same, .nil, ?_, Ext.new hD _, ?_, ?_⟩, ?_⟩
  · have er := capP_rep s1.er js
    refine ⟨⟨er.1, fun i e he => ?_⟩, ⟨Bg.new ok1 hD _, [], upd_same⟩, fun p z => ?_, fun p z => ?_⟩
    · have r1 := er.2 i e he
      cases e with
      | un => trivial
      | val y => obtain ⟨x, hx, rr⟩ := r1; exact ⟨x, hx, rr.keep k0⟩
      | own t =>
        obtain ⟨p, xs, hx, hp, np, hh, rr⟩ := r1
        exact ⟨p, xs, hx, .inl hp, fun z => by
          rcases z with z | z
          · exact np z
          · exact hne p _ hh z, by rw [upd_ne (hne p _ hh)]; exact hh, rr.keep k0⟩
      | ownD t =>
        obtain ⟨p, xs, hx, hp, np, hh, rr⟩ := r1
        exact ⟨p, xs, hx, .inl hp, fun z => by
          rcases z with z | z
          · exact np z
          · exact hne p _ hh z, by rw [upd_ne (hne p _ hh)]; exact hh, rr.keep k0⟩
    · rcases z with z | z
      · exact .inl (s.pr p z)
      · exact .inr z
    · rcases z with z | z
      · obtain ⟨o, g⟩ := s1.dm p z; exact ⟨o, by rw [upd_ne (hne p o g)]; exact g⟩
      · subst z; exact ⟨_, upd_same⟩
  · cases it with
    | lst np hp h r =>
      exact .lst (fun z => by
        rcases z with z | z
        · exact np z
        · exact hne _ _ h z) (fun z => by cases z) (by rw [upd_ne (hne _ _ h)]; exact h) (r.keep k0)
    | tup hp h r => exact .tup (k0 _ _ hp h).2 (k0 _ _ hp h).1 (r.keep k0)
    | txt z => exact .txt z
    | rng lo n => exact .rng lo n
  · simpa using w1
  · rintro i m σ' H' ⟨rfl, hi, ys, zs, ρ', n', hy, hDy, rz, s', ex, it', w'⟩
    by_cases hlt : i < l.length
    · have hget : l[i]? = some l[i] := List.getElem?_eq_getElem hlt
      have hdrop : l.drop i = l[i] :: l.drop (i + 1) := List.drop_eq_getElem_cons hlt
      rw [hdrop] at w'
      unfold lcM at w'
      obtain ⟨g1, g2⟩ := it'.go hget
      refine .inr ⟨g1, fun x H2 yl => ?_⟩
      obtain ⟨eH, rx⟩ := g2 x H2 yl
      subst eH
      rw [M.wZ] at w'
      refine ⟨G', O', ρ', n', _, l[i], s', rx, w', fun σ2 ρ2 n2 s2 w2 => ?_⟩
      rw [M.wZ] at w2
      refine ⟨G', O', ρ2, n2, _, s2, w2, fun ok H4 n4 e4 ok4 w4 => ?_⟩
      have D4 : H4 D = some (.lst ys) := e4 D _ hBD hDy
      have it4 : ItOf K G' O' false H4 l J := it'.keepS (fun p o np hp => ⟨e4 p o (fun z => np (.inl (z ▸ s.B))) hp, np⟩) (.inr fun p xs np hp => e4 p _ (fun z => np (z ▸ G'.pB)) hp) fun p z => by cases z
      cases ok with
      | true =>
        simp only [if_true] at w4 ⊢
        rw [M.wZ] at w4
        refine ⟨G', O', ρ2, n4, _, s2.ext e4 ok4, w4, fun z x5 H5 n5 e5 ok5 r5 w5 => ?_⟩
        have D5 : H5 D = some (.lst ys) := e5 D _ hBD D4
        rw [M.wZ] at w5
        have s5 := s2.ext (e4.trans e5) ok5
        have it5 : ItOf K G' O' false H5 l J := it4.keepS (fun p o np hp => ⟨e5 p o (fun z => np (.inl (z ▸ s.B))) hp, np⟩) (.inr fun p xs np hp => e5 p _ (fun z => np (z ▸ G'.pB)) hp) fun p z => by cases z
        refine ⟨ys, D5, by rw [sizeLine_eq]; omega, l.length - (i + 1), by omega, rfl, hlt, ys ++ [x5], zs ++ [z], ρ2, n5, by simp; omega, upd_same, ?_, ?_, ?_, ?_, ?_⟩
        · exact ((rz.ext (.inl s.B) (e4.trans e5)).append (.cons r5 .nil)).keep (kD H5 _)
        · refine ⟨⟨s5.er.1, fun j e he => ?_⟩, ⟨G.keep H5 _ _ (fun p o hp hpo => by
            have hpd : p ≠ D := fun z => by
              rcases hp with hp | hp
              · exact pD (z ▸ hp)
              · rw [z, D5] at hpo; cases hpo; exact hp
            rw [upd_ne hpd]; exact hpo) ok5.1, _, upd_same⟩, s5.pr, fun p hp => ?_⟩
          · have r1 := s5.er.2 j e he
            cases e with
            | un => trivial
            | val y => obtain ⟨x, hx, rr⟩ := r1; exact ⟨x, hx, rr.keep (kD H5 _)⟩
            | own t =>
              obtain ⟨p, xs, hx, hp, np, hh, rr⟩ := r1
              exact ⟨p, xs, hx, hp, np, by rw [upd_ne (fun z => np (.inr z))]; exact hh, rr.keep (kD H5 _)⟩
            | ownD t =>
              obtain ⟨p, xs, hx, hp, np, hh, rr⟩ := r1
              exact ⟨p, xs, hx, hp, np, by rw [upd_ne (fun z => np (.inr z))]; exact hh, rr.keep (kD H5 _)⟩
          · by_cases hpd : p = D
            · subst hpd; exact ⟨_, upd_same⟩
            · obtain ⟨o, g⟩ := s5.dm p hp; exact ⟨o, by rw [upd_ne hpd]; exact g⟩
        · intro p o np hp
          exact ((ex.trans (e4.trans e5)) p o np hp).to fun u e => .of (by rw [upd_ne (hne p o hp)]; exact e)
        · exact it5.keep (kD H5 _) (.inr fun p xs np hp => by rw [upd_ne (fun z => np (.inr z))]; exact hp) fun p z => by cases z
        · refine M.wp_mono w5 fun t k' hk => ?_
          have hk' : R (zs ++ z :: t) k' := hk
          simpa using hk'
      | false =>
        exact ⟨l.length - (i + 1), by omega, rfl, hlt, ys, zs, ρ2, n4, by omega, D4, rz.ext (.inl s.B) e4, s2.ext e4 ok4, ex.trans e4, it4, w4⟩
    · have e : i = l.length := by omega
      subst e
      refine .inl ⟨it'.stop, ?_⟩
      rw [List.drop_length] at w'
      have w2 : R (zs ++ []) n' := w'
      rw [List.append_nil] at w2
      exact q zs D ys H' n' (e1.trans ex) s'.ok.1 (new_before e1 ok1 hD) hDy rz w2
theorem ef_lc {js : List (Option Nat)} {mi : PEnv → M (List PV)} {bd : PV → PEnv → M PEnv} {tt : PEnv → M Bool} {te : PEnv → M PV} (h : BE X e (tLC js (tiP φ X.K false mi) (tgP φ bd) (ttP φ tt) (teP φ te))) : EF φ X e (mkLC js mi bd tt te) := BE.mono h lc_in
end
end
section
variable {φ : Fam}
set_option genInjectivity true in
inductive Fl where
  | nx (ρ : PEnv) | rt (y : PV) | bk (ρ : PEnv) | ct (ρ : PEnv)
noncomputable def Ent.isOwn : Ent → Bool
  | .own _ => true
  | .ownD _ => true
  | _ => false
noncomputable def Ent.freeze : Ent → Ent
  | .own l => .val (.lst l)
  | .ownD l => .val (.dct l)
  | e => e
def OwnAt (ρ : PEnv) (σ : St) (i : Nat) (p : Addr) : Prop := ∃ t, ρ[i]? = some t ∧ t.isOwn = true ∧ σ[i]? = some (some (.ref p))
structure SI (G : Bg φ) (O0 : Addr → Prop) (H0 : Hp) (O : Addr → Prop) (H : Hp) (σ : St) (ρ : PEnv) (n : Nat) : Prop where
  es : ES G O H σ ρ n
  p0 : ∀ p, G.priv p → O0 p
  sub : ∀ p, O0 p → O p
  ext : Ext G.B H0 H
  gr : ∀ p, O p → O0 p ∨ H0 p = none
  d0 : ∀ p, O0 p → ∃ o, H0 p = some o
  fr : ∀ i p, OwnAt ρ σ i p → H0 p = none
  dj : ∀ i j p, OwnAt ρ σ i p → OwnAt ρ σ j p → i = j
section
variable {G : Bg φ} {O0 O : Addr → Prop} {H0 H H' : Hp} {σ : St} {ρ : PEnv} {n n' : Nat}
theorem SI.to (s : SI G O0 H0 O H σ ρ n) (x : Ext G.B H H') (ok : G.ok H' n') : SI G O0 H0 O H' σ ρ n' := ⟨s.es.ext x ok, s.p0, s.sub, s.ext.trans x, s.gr, s.d0, s.fr, s.dj⟩
theorem own_set {t : Ent} (ht : t.isOwn = false) {k : Nat} {o : Option V} {i : Nat} {p : Addr} (h : OwnAt (ρ.set k t) (σ.set k o) i p) : OwnAt ρ σ i p := by
  obtain ⟨e, h1, h2, h3⟩ := h
  by_cases hk : k = i
  · subst hk
    rw [List.getElem?_set] at h1
    split at h1
    · split at h1
      · cases h1; rw [ht] at h2; cases h2
      · cases h1
    · exact ⟨e, h1, h2, by rw [List.getElem?_set_ne (by omega)] at h3; exact h3⟩
  · rw [List.getElem?_set_ne hk] at h1 h3
    exact ⟨e, h1, h2, h3⟩
theorem SI.setV (s : SI G O0 H0 O H σ ρ n) (k : Nat) {y : PV} {x : V} (r : Rep G.B O H y x) : SI G O0 H0 O H (σ.set k (some x)) (ρ.set k (.val y)) n :=
  ⟨s.es.set k (t := .val y) ⟨x, rfl, r⟩, s.p0, s.sub, s.ext, s.gr, s.d0, fun i p h => s.fr i p (own_set rfl h), fun i j p h h' => s.dj i j p (own_set rfl h) (own_set rfl h')⟩
theorem ownAt_O (s : ES G O H σ ρ n) {i : Nat} {p : Addr} (h : OwnAt ρ σ i p) : O p ∧ ¬ G.priv p ∧ ∃ o, H p = some o := by
  obtain ⟨t, h1, h2, h3⟩ := h
  have r := s.er.2 i t h1
  rw [h3] at r
  cases t with
  | own l => obtain ⟨q, xs, e, a, b, c, _⟩ := r; cases e; exact ⟨a, b, _, c⟩
  | ownD l => obtain ⟨q, xs, e, a, b, c, _⟩ := r; cases e; exact ⟨a, b, _, c⟩
  | _ => cases h2
theorem ownAt_nf (s : ES G O H σ ρ n) {i : Nat} {p : Addr} {o : HO} (h : OwnAt ρ σ i p) (e : H p = some o) : ¬ IsFz o := by
  obtain ⟨t, h1, h2, h3⟩ := h
  have r := s.er.2 i t h1
  rw [h3] at r
  cases t with
  | own l => obtain ⟨q, xs, e', a, b, c, _⟩ := r; cases e'; rw [c] at e; cases e; exact id
  | ownD l => obtain ⟨q, xs, e', a, b, c, _⟩ := r; cases e'; rw [c] at e; cases e; exact id
  | _ => cases h2
theorem SI.setO (s : SI G O0 H0 O H σ ρ n) (k : Nat) {l : List PV} {p : Addr} {xs : List V} (x : Ext G.B H H') (ok : G.ok H' n') (hp : H p = none) (hp' : H' p = some (.lst xs)) (r : Reps G.B (fun q => O q ∨ q = p) H' l xs) :
    SI G O0 H0 (fun q => O q ∨ q = p) H' (σ.set k (some (.ref p))) (ρ.set k (.own l)) n' := by
  have nO : ¬ O p := fun z => by obtain ⟨o, g⟩ := s.es.dm p z; rw [hp] at g; cases g
  have np : ¬ G.priv p := fun z => nO (s.es.pr p z)
  have h0 : H0 p = none := by
    cases e : H0 p with
    | none => rfl
    | some o => obtain ⟨_, this⟩ := (s.ext p o (fun z => np (z ▸ G.pB)) e).there; rw [hp] at this; cases this
  have hB : O G.B := s.es.B
  have gw : ∀ q, (O q ∨ q = p) → O q ∨ H q = none := fun q z => by
    rcases z with z | z
    · exact .inl z
    · subst z; exact .inr hp
  have s' := s.es.ext x ok
  have es : ES G (fun q => O q ∨ q = p) H' σ ρ n' := by
    refine ⟨⟨s.es.er.1, fun i e he => ?_⟩, ok, fun q z => .inl (s.es.pr q z), fun q z => ?_⟩
    · have r1 := s.es.er.2 i e he
      cases e with
      | un => trivial
      | val y => obtain ⟨v, hv, rr⟩ := r1; exact ⟨v, hv, (rr.grow gw).ext (.inl hB) x⟩
      | own t =>
        obtain ⟨q, ys, hv, hq, nq, hh, rr⟩ := r1
        exact ⟨q, ys, hv, .inl hq, nq, x q _ (fun z => nq (z ▸ G.pB)) hh, (rr.grow gw).ext (.inl hB) x⟩
      | ownD t =>
        obtain ⟨q, ys, hv, hq, nq, hh, rr⟩ := r1
        exact ⟨q, ys, hv, .inl hq, nq, x q _ (fun z => nq (z ▸ G.pB)) hh, ⟨rr.1, fun i a b c d => ((rr.2 i a b c d).grow gw).ext (.inl hB) x⟩⟩
    · rcases z with z | z
      · exact s'.dm q z
      · subst z; exact ⟨_, hp'⟩
  have ow : ∀ i q, OwnAt (ρ.set k (.own l)) (σ.set k (some (.ref p))) i q → (i = k ∧ q = p) ∨ (i ≠ k ∧ OwnAt ρ σ i q) := fun i q h => by
    obtain ⟨t, h1, h2, h3⟩ := h
    by_cases hk : k = i
    · subst hk
      rw [List.getElem?_set] at h3
      split at h3
      · split at h3
        · cases h3; exact .inl ⟨rfl, rfl⟩
        · cases h3
      · rename_i hh; exact absurd rfl hh
    · rw [List.getElem?_set_ne hk] at h1 h3
      exact .inr ⟨fun z => hk z.symm, t, h1, h2, h3⟩
  refine ⟨es.set k (t := .own l) ⟨p, xs, rfl, .inr rfl, np, hp', r⟩, s.p0, fun q z => .inl (s.sub q z), s.ext.trans x, fun q z => ?_, s.d0, fun i q h => ?_, fun i j q h h' => ?_⟩
  · rcases z with z | z
    · exact s.gr q z
    · subst z; exact .inr h0
  · rcases ow i q h with ⟨_, rfl⟩ | ⟨_, h⟩
    · exact h0
    · exact s.fr i q h
  · rcases ow i q h with ⟨rfl, rfl⟩ | ⟨n1, h1⟩
    · rcases ow j q h' with ⟨rfl, _⟩ | ⟨n2, h2⟩
      · rfl
      · obtain ⟨_, _, o, g⟩ := ownAt_O s.es h2; rw [hp] at g; cases g
    · rcases ow j q h' with ⟨rfl, rfl⟩ | ⟨n2, h2⟩
      · obtain ⟨_, _, o, g⟩ := ownAt_O s.es h1; rw [hp] at g; cases g
      · exact s.dj i j q h1 h2
theorem SI.put (s : SI G O0 H0 O H σ ρ n) {k : Nat} {l l' : List PV} {p : Addr} {xs' : List V} (hk : ρ[k]? = some (.own l)) (hp : σ[k]? = some (some (.ref p))) (r : Reps G.B O H l' xs') : SI G O0 H0 O (upd H p (.lst xs')) σ (ρ.set k (.own l')) n := by
  have ho : OwnAt ρ σ k p := ⟨_, hk, rfl, hp⟩
  obtain ⟨hO, np, o, hh⟩ := ownAt_O s.es ho
  have nfz := ownAt_nf s.es ho hh
  have kp : ∀ q u, ¬ O q → H q = some u → upd H p (.lst xs') q = some u ∧ ¬ O q := fun q u nq hq => ⟨by
    have hne : q ≠ p := fun z => nq (z ▸ hO)
    rw [upd_ne hne]; exact hq, nq⟩
  have ow : ∀ i q, OwnAt (ρ.set k (.own l')) σ i q → OwnAt ρ σ i q := fun i q h => by
    obtain ⟨t, h1, h2, h3⟩ := h
    by_cases e : k = i
    · subst e; exact ⟨_, hk, rfl, h3⟩
    · rw [List.getElem?_set_ne e] at h1; exact ⟨t, h1, h2, h3⟩
  refine ⟨⟨⟨by simp [s.es.er.1], fun i e he => ?_⟩, G.keep H _ _ (fun q u hq hu => by
      have hne : q ≠ p := fun z => by
        rcases hq with hq | hq
        · exact np (z ▸ hq)
        · rw [z, hh] at hu; cases hu; exact nfz hq
      rw [upd_ne hne]; exact hu) s.es.ok, s.es.pr, fun q hq => ?_⟩, s.p0, s.sub, fun q u nb hq => ?_, s.gr, s.d0, fun i q h => s.fr i q (ow i q h), fun i j q h h' => s.dj i j q (ow i q h) (ow j q h')⟩
  · by_cases e1 : k = i
    · subst e1
      have hl : k < ρ.length := (List.getElem?_eq_some_iff.mp hk).1
      rw [List.getElem?_set_self hl] at he
      cases he
      rw [hp]
      exact ⟨p, xs', rfl, hO, np, upd_same, r.keep kp⟩
    · rw [List.getElem?_set_ne e1] at he
      have r1 := s.es.er.2 i e he
      cases e with
      | un => trivial
      | val y => obtain ⟨v, hv, rr⟩ := r1; exact ⟨v, hv, rr.keep kp⟩
      | own t =>
        obtain ⟨q, ys, hv, hq, nq, hh', rr⟩ := r1
        have hne : q ≠ p := fun z => by
          subst z
          exact e1 (s.dj k i q ho ⟨_, he, rfl, sig_of s.es.er he hv⟩)
        exact ⟨q, ys, hv, hq, nq, by rw [upd_ne hne]; exact hh', rr.keep kp⟩
      | ownD t =>
        obtain ⟨q, ys, hv, hq, nq, hh', rr⟩ := r1
        have hne : q ≠ p := fun z => by
          subst z
          exact e1 (s.dj k i q ho ⟨_, he, rfl, sig_of s.es.er he hv⟩)
        exact ⟨q, ys, hv, hq, nq, by rw [upd_ne hne]; exact hh', rr.keep kp⟩
  · by_cases e1 : q = p
    · subst e1; exact ⟨_, upd_same⟩
    · obtain ⟨u, g⟩ := s.es.dm q hq; exact ⟨u, by rw [upd_ne e1]; exact g⟩
  · have hne : q ≠ p := fun z => by subst z; rw [s.fr k q ho] at hq; cases hq
    exact (s.ext q u nb hq).to fun v e => .of (by rw [upd_ne hne]; exact e)
theorem SI.frozen (s : SI G O0 H0 O H σ ρ n) : ES G O0 H σ (ρ.map Ent.freeze) n := by
  refine ⟨⟨by simp [s.es.er.1], fun i e he => ?_⟩, s.es.ok, s.p0, fun p h => s.es.dm p (s.sub p h)⟩
  rw [List.getElem?_map] at he
  cases q : ρ[i]? with
  | none => rw [q] at he; cases he
  | some t =>
    rw [q] at he
    cases he
    have r1 := s.es.er.2 i t q
    cases t with
    | un => trivial
    | val y => obtain ⟨v, hv, rr⟩ := r1; exact ⟨v, hv, rr.less s.sub⟩
    | own t =>
      obtain ⟨p, ys, hv, hq, nq, hh', rr⟩ := r1
      have h0 := s.fr i p ⟨_, q, rfl, sig_of s.es.er q hv⟩
      exact ⟨_, hv, .lst (fun z => by obtain ⟨o, g⟩ := s.d0 p z; rw [h0] at g; cases g) hh' rr.1 (rr.less s.sub).2⟩
    | ownD t =>
      obtain ⟨p, ys, hv, hq, nq, hh', rr⟩ := r1
      have h0 := s.fr i p ⟨_, q, rfl, sig_of s.es.er q hv⟩
      exact ⟨_, hv, .dct (fun z => by obtain ⟨o, g⟩ := s.d0 p z; rw [h0] at g; cases g) (.inl hh') rr.1 fun i a b c d => (rr.2 i a b c d).less s.sub⟩
noncomputable def hide (O0 O : Addr → Prop) (H : Hp) : Hp := fun p => by
  classical exact if O p ∧ ¬ O0 p then none else H p
theorem hide_in {p : Addr} (h : O p) (h' : ¬ O0 p) : hide O0 O H p = none := by unfold hide; rw [if_pos ⟨h, h'⟩]
theorem hide_out {p : Addr} (h : ¬ (O p ∧ ¬ O0 p)) : hide O0 O H p = H p := by unfold hide; rw [if_neg h]
theorem SI.now (s : SI G O0 H0 O H σ ρ n) : SI G O0 (hide O0 O H) O H σ ρ n := by
  refine ⟨s.es, s.p0, s.sub, fun p o nb h => ?_, fun p h => ?_, fun p h => ?_, fun i p h => ?_, s.dj⟩
  · by_cases c : O p ∧ ¬ O0 p
    · rw [hide_in c.1 c.2] at h; cases h
    · rw [hide_out c] at h; exact .of h
  · by_cases c : O0 p
    · exact .inl c
    · exact .inr (hide_in h c)
  · rw [hide_out (fun z => z.2 h)]; exact s.es.dm p (s.sub p h)
  · have h1 := ownAt_O s.es h
    have h0 := s.fr i p h
    exact hide_in h1.1 (fun z => by obtain ⟨o, g⟩ := s.d0 p z; rw [h0] at g; cases g)
theorem SI.base (s : SI G O0 H0 O H σ ρ n) : Ext G.B H0 (hide O0 O H) := fun p o nb h => by
  have c : ¬ (O p ∧ ¬ O0 p) := fun z => by
    rcases s.gr p z.1 with w | w
    · exact z.2 w
    · rw [w] at h; cases h
  exact (s.ext p o nb h).to fun v e => .of (by rw [hide_out c]; exact e)
theorem SI.back {H1 : Hp} {O' : Addr → Prop} {σ' : St} {ρ' : PEnv} (s : SI G O0 H0 O H σ ρ n) (x : SI G O0 (hide O0 O H) O' H1 σ' ρ' n') : SI G O0 H0 O' H1 σ' ρ' n' := by
  have none0 : ∀ p, ¬ G.priv p → hide O0 O H p = none → H0 p = none := fun p np h => by
    cases e : H0 p with
    | none => rfl
    | some o => obtain ⟨_, this⟩ := (s.base p o (fun z => np (z ▸ G.pB)) e).there; rw [h] at this; cases this
  refine ⟨x.es, x.p0, x.sub, s.base.trans x.ext, fun p h => ?_, s.d0, fun i p h => none0 p (ownAt_O x.es h).2.1 (x.fr i p h), x.dj⟩
  by_cases c : O0 p
  · exact .inl c
  · rcases x.gr p h with w | w
    · exact .inl w
    · exact .inr (none0 p (fun z => c (s.p0 p z)) w)
theorem SI.walk {K : PySem.W.Frag} {H1 : Hp} {O' : Addr → Prop} {σ' : St} {ρ' : PEnv} {l : List PV} {J : It} (s : SI G O0 H0 O H σ ρ n) (x : SI G O0 (hide O0 O H) O' H1 σ' ρ' n') (it : ItOf K G O true H l J) : ItOf K G O' true H1 l J := by
  have k : ∀ p o, ¬ O p → H p = some o → Stand H1 p o ∧ ¬ O' p := fun p o np hp => by
    have e : hide O0 O H p = some o := by rw [hide_out (fun z => np z.1)]; exact hp
    refine ⟨x.ext p o (fun z => np (z ▸ s.es.B)) e, fun z => ?_⟩
    rcases x.gr p z with w | w
    · exact np (s.sub p w)
    · rw [w] at e; cases e
  cases it with
  | lst np hp h r => exact .lst np (fun _ => (k _ _ (hp rfl) h).2) (k _ _ (hp rfl) h).1 (r.keepS k)
  | tup hp h r => exact .tup (k _ _ hp h).2 (k _ _ hp h).1 (r.keepS k)
  | txt z => exact .txt z
  | rng lo n => exact .rng lo n
end
noncomputable def FlOk (G : Bg φ) (O0 : Addr → Prop) (H0 : Hp) (D : Ends) (n : Nat) : Fl → Prop
  | .nx ρ => ∀ O σ H, SI G O0 H0 O H σ ρ n → D.nx σ H
  | .bk ρ => ∀ O σ H, SI G O0 H0 O H σ ρ n → D.bk σ H
  | .ct ρ => ∀ O σ H, SI G O0 H0 O H σ ρ n → D.ct σ H
  | .rt y => ∀ x H, Ext G.B H0 H → G.ok H n → Rep G.B O0 H y x → D.rt x H
noncomputable def tsP (φ : Fam) (m : PEnv → M Fl) : TS := fun D σ H => ∃ (G : Bg φ) (O0 : Addr → Prop) (H0 : Hp) (O : Addr → Prop) (ρ : PEnv) (n : Nat), SI G O0 H0 O H σ ρ n ∧ (m ρ).wp n fun f n' => FlOk G O0 H0 D n' f
def SV (φ : Fam) (X : Cx) (st : Stmt) (m : PEnv → M Fl) : Prop := BS X st (tsP φ m)
def SsV (φ : Fam) (X : Cx) (sts : List Stmt) (m : PEnv → M Fl) : Prop := BSs X sts (tsP φ m)
section
variable {X : Cx} {st : Stmt} {sts : List Stmt}
theorem BS.mono {t t' : TS} (h : BS X st t) (f : ∀ D σ H, t' D σ H → t D σ H) : BS X st t' := ⟨fun pZ s σ H D I q => h.out pZ s σ H D I (f D σ H q)⟩
theorem BSs.mono {t t' : TS} (h : BSs X sts t) (f : ∀ D σ H, t' D σ H → t D σ H) : BSs X sts t' := ⟨fun pZ s σ H D I q => h.out pZ s σ H D I (f D σ H q)⟩
noncomputable def seqP (m1 m2 : PEnv → M Fl) : PEnv → M Fl := fun ρ => (m1 ρ).bind fun f => match f with | .nx ρ' => m2 ρ' | o => .ret o
theorem ss_nil : SsV φ X [] (fun ρ => .ret (.nx ρ)) := BSs.mono ⟨pss_nil⟩ fun D σ H ⟨G, O0, H0, O, ρ, n, s, w⟩ => w O σ H s
theorem ss_one {m : PEnv → M Fl} (h : SV φ X st m) : SsV φ X [st] m := ⟨pss_one h.out⟩
theorem ss_cons {m1 m2 : PEnv → M Fl} (h : SV φ X st m1) (h' : SsV φ X sts m2) : SsV φ X (st :: sts) (seqP m1 m2) := BSs.mono ⟨pss_cons h.out h'.out⟩ fun D σ H ⟨G, O0, H0, O, ρ, n, s, w⟩ => by
  unfold seqP at w
  rw [M.wZ] at w
  refine ⟨G, O0, H0, O, ρ, n, s, M.wp_mono w fun f n' h => ?_⟩
  cases f with
  | nx ρ' => exact fun O' σ' H' s' => ⟨G, O0, H0, O', ρ', n', s', h⟩
  | rt y => exact h
  | bk ρ' => exact h
  | ct ρ' => exact h
noncomputable def setP (k : Nat) (m : PEnv → M PV) : PEnv → M Fl := fun ρ => (m ρ).bind fun y => .ret (.nx (ρ.set k (.val y)))
theorem sv_set {k : Nat} {m : PEnv → M PV} (h : BS X st (tAsg (teP φ m) (gName k))) : SV φ X st (setP k m) := BS.mono h fun D σ H ⟨G, O0, H0, O, ρ, n, s, w⟩ => by
  unfold setP at w
  rw [M.wZ] at w
  exact ⟨G, O, ρ, n, _, s.es, w, fun y x H1 n1 e1 ok1 r1 w1 => w1 O _ _ ((s.to e1 ok1).setV k r1)⟩
noncomputable def ownP (k : Nat) (m : PEnv → M (List PV)) : PEnv → M Fl := fun ρ => (m ρ).bind fun l => .ret (.nx (ρ.set k (.own l)))
theorem sv_own {k : Nat} {m : PEnv → M (List PV)} (h : BS X st (tAsg (teF φ m) (gName k))) : SV φ X st (ownP k m) := BS.mono h fun D σ H ⟨G, O0, H0, O, ρ, n, s, w⟩ => by
  unfold ownP at w
  rw [M.wZ] at w
  exact ⟨G, O, ρ, n, _, s.es, w, fun l p xs H1 n1 e1 ok1 hp hp' r1 w1 => w1 _ _ _ (s.setO k e1 ok1 hp hp' r1)⟩
theorem asg_lc {k : Nat} {js : List (Option Nat)} {mi : PEnv → M (List PV)} {bd : PV → PEnv → M PEnv} {tt : PEnv → M Bool} {te : PEnv → M PV} (h : BS X st (tAsg (tLC js (tiP φ X.K false mi) (tgP φ bd) (ttP φ tt) (teP φ te)) (gName k))) : BS X st (tAsg (teF φ (mkLC js mi bd tt te)) (gName k)) :=
  BS.mono h fun D σ H q => lc_in σ H _ q
noncomputable def lstV (m : PEnv → M (List PV)) : PEnv → M PV := fun ρ => (m ρ).bind fun l => .ret (.lst l)
theorem asg_v {k : Nat} {m : PEnv → M (List PV)} (h : BS X st (tAsg (teF φ m) (gName k))) : BS X st (tAsg (teP φ (lstV m)) (gName k)) := BS.mono h fun D σ H ⟨G, O, ρ, n, R, s, w, q⟩ => by
  unfold lstV at w
  rw [M.wZ] at w
  refine ⟨G, O, ρ, n, _, s, w, fun l p xs H' n' a b c d e f => q (.lst l) _ H' n' a b (.lst (fun z => ?_) d e.1 (e.less fun q z => .inl z).2) f⟩
  obtain ⟨o, g⟩ := s.dm p z
  rw [c] at g; cases g
noncomputable def unpP (ks : List Nat) (m : PEnv → M PV) : PEnv → M Fl := fun ρ => (m ρ).bind fun y => (bindT ks y ρ).bind fun ρ' => .ret (.nx ρ')
noncomputable def parP (i j : Nat) (m : PEnv → M (List PV)) : PEnv → M Fl := fun ρ => (m ρ).bind fun l => match l with | [y, z] => .ret (.nx ((ρ.set i (.val y)).set j (.val z))) | _ => .fail
theorem sv_par {i j : Nat} {m : PEnv → M (List PV)} (h : BS X st (tPar i j (taP φ m))) : SV φ X st (parP i j m) := BS.mono h fun D σ H ⟨G, O0, H0, O, ρ, n, s, w⟩ => by
  unfold parP at w
  rw [M.wZ] at w
  refine ⟨G, O, ρ, n, _, s.es, w, fun l xs H1 n1 e1 ok1 r1 w1 => ?_⟩
  match l, r1, w1 with
  | [y, z], r1, w1 =>
    obtain ⟨x, t, rfl, h1, h2⟩ := r1.cons_inv
    obtain ⟨x', t', rfl, h3, h4⟩ := h2.cons_inv
    rw [h4.nil_inv]
    exact ⟨x, x', rfl, w1 O _ _ (((s.to e1 ok1).setV i h1).setV j h3)⟩
noncomputable def tPar3 (i j k : Nat) (ta : TA) : TS := fun D σ H => ta σ H fun vs H1 => ∃ u v w, vs = [u, v, w] ∧ D.nx (((σ.set i (some u)).set j (some v)).set k (some w)) H1
theorem ps_par3 {i j k : Nat} {x y z : Str} {a b c : Expr} {ta : TA} {px py pz pt pos : Pos} {kt k2 pt2} (hc : X.calm = true) (hN : X.N.Nodup) (hi : X.N[i]? = some x) (hj : X.N[j]? = some y) (hk : X.N[k]? = some z) (hij : i ≠ j) (hik : i ≠ k) (hjk : j ≠ k)
    (hx : X.env.scope.names.lookup x = some .local) (hy : X.env.scope.names.lookup y = some .local) (hz : X.env.scope.names.lookup z = some .local) (ha : PA X [a, b, c] ta)
    (hw : swappedStores [.Tuple [.Name x px, .Name y py, .Name z pz] kt pt] (.Tuple [a, b, c] k2 pt2) X.env = pure (some [x, y, z]))
    (hs : swapsWithSole [.Tuple [.Name x px, .Name y py, .Name z pz] kt pt] (.Tuple [a, b, c] k2 pt2) pos.line X.env = pure false := by rfl) :
    PS X (.Assign [.Tuple [.Name x px, .Name y py, .Name z pz] kt pt] (.Tuple [a, b, c] k2 pt2) pos) (tPar3 i j k ta) := by
  intro pZ s σ H D I h
  rw [exec_Assign_arm]
  refine wpAny_bind (wpAny_standAt ?_)
  rw [hs]
  refine wpAny_bind (wpAny_pure ?_)
  rw [if_neg (by decide)]
  refine wpAny_bind (Tuple_ (thn (ha _ pZ s σ H _ I h) fun us s1 ⟨vs, H1, I1, r1, q1⟩ => ?_))
  obtain ⟨v1, v2, v3, e1, q1⟩ := q1
  subst e1
  obtain ⟨u1, u2, u3, rfl, r1', r2', r3'⟩ : ∃ u1 u2 u3, us = [u1, u2, u3] ∧ RelV v1 u1 ∧ RelV v2 u2 ∧ RelV v3 u3 := by
    cases r1 with
    | cons p q =>
      cases q with
      | cons p' q' =>
        cases q' with
        | cons p'' q'' =>
          cases q''
          exact ⟨_, _, _, rfl, p, p', p''⟩
  refine wpAny_newObj_type ?_ (by show 3 ≤ sizeLine; decide)
  have I2 : Inv X pZ σ H1 { s1 with heap := s1.heap.push { cls := .type "tuple", data := .seq [u1, u2, u3].toArray } } := I1.kept (t' := s1.toks) fun b o e => Heap.get?_push_of_some _ e
  rw [hw]
  refine wpAny_bind (wpAny_pure ?_)
  show wpAny (model X.prog X.w) X.A (do rule "assign.swapped-stores"; let items ← unpackItems (.ref s1.heap.objs.size) 3 none; assignInOrder [fun v => bindName X.env z v, fun v => bindName X.env y v, fun v => bindName X.env x v] items.reverse; pure Flow.next) _ _ _
  refine wpAny_bind (wpAny_rule (wpAny_bind (unpackItems_tuple (items := #[u1, u2, u3]) (I.ok.hd hc) (IsTup.new s1.heap _) fun h' hx' => ?_)))
  have I3 := I2.kept (h' := h') (t' := s1.toks) fun b o e => hx' b o (Nat.ne_of_lt (Heap.lt_size e)) e
  show wpAny _ _ (assignInOrder [fun v => bindName X.env z v, fun v => bindName X.env y v, fun v => bindName X.env x v] [u3, u2, u1] >>= fun _ => pure Flow.next) _ _ _
  refine wpAny_bind (assignInOrder_cons (wpAny_bindName (store_ok I3 hN hk (.inl hz) r3' (fun s2 I4 => ?_) (.inr hz))))
  refine assignInOrder_cons (wpAny_bindName (store_ok I4 hN hj (.inl hy) r2' (fun s3 I5 => ?_) (.inr hy)))
  refine assignInOrder_cons (wpAny_bindName (store_ok I5 hN hi (.inl hx) r1' (fun s4 I6 => assignInOrder_nil (wpAny_pure ?_)) (.inr hx)))
  refine ⟨_, H1, ?_, q1⟩
  have e1 : ((σ.set k (some v3)).set j (some v2)).set i (some v1) = ((σ.set i (some v1)).set j (some v2)).set k (some v3) := by
    rw [List.set_comm _ _ (Ne.symm hjk), List.set_comm _ _ (Ne.symm hik), List.set_comm _ _ (Ne.symm hij)]
  rw [← e1]
  exact I6
noncomputable def par3P (i j k : Nat) (m : PEnv → M (List PV)) : PEnv → M Fl := fun ρ => (m ρ).bind fun l => match l with | [y, z, u] => .ret (.nx (((ρ.set i (.val y)).set j (.val z)).set k (.val u))) | _ => .fail
theorem sv_par3 {i j k : Nat} {m : PEnv → M (List PV)} (h : BS X st (tPar3 i j k (taP φ m))) : SV φ X st (par3P i j k m) := BS.mono h fun D σ H ⟨G, O0, H0, O, ρ, n, s, w⟩ => by
  unfold par3P at w
  rw [M.wZ] at w
  refine ⟨G, O, ρ, n, _, s.es, w, fun l xs H1 n1 e1 ok1 r1 w1 => ?_⟩
  match l, r1, w1 with
  | [y, z, u], r1, w1 =>
    obtain ⟨x, t, rfl, h1, h2⟩ := r1.cons_inv
    obtain ⟨x', t', rfl, h3, h4⟩ := h2.cons_inv
    obtain ⟨x'', t'', rfl, h5, h6⟩ := h4.cons_inv
    rw [h6.nil_inv]
    exact ⟨x, x', x'', rfl, w1 O _ _ ((((s.to e1 ok1).setV i h1).setV j h3).setV k h5)⟩
noncomputable def retP (m : PEnv → M PV) : PEnv → M Fl := fun ρ => (m (ρ.map Ent.freeze)).bind fun y => .ret (.rt y)
theorem sv_ret {m : PEnv → M PV} (h : BS X st (tRet (teP φ m))) : SV φ X st (retP m) := BS.mono h fun D σ H ⟨G, O0, H0, O, ρ, n, s, w⟩ => by
  unfold retP at w
  rw [M.wZ] at w
  exact ⟨G, O0, _, n, _, s.frozen, w, fun y x H1 n1 e1 ok1 r1 w1 => w1 x H1 (s.ext.trans e1) ok1 r1⟩
noncomputable def ifP (mc : PEnv → M Bool) (ma mb : PEnv → M Fl) : PEnv → M Fl := fun ρ => (mc ρ).bind fun b => if b = true then ma ρ else mb ρ
theorem sv_if {mc : PEnv → M Bool} {ma mb : PEnv → M Fl} (h : BS X st (tIfS (ttP φ mc) (tsP φ ma) (tsP φ mb))) : SV φ X st (ifP mc ma mb) := BS.mono h fun D σ H ⟨G, O0, H0, O, ρ, n, s, w⟩ => by
  unfold ifP at w
  rw [M.wZ] at w
  refine ⟨G, O, ρ, n, _, s.es, w, fun b H1 n1 e1 ok1 w1 => ?_⟩
  cases b with
  | true => exact ⟨G, O0, H0, O, ρ, n1, s.to e1 ok1, w1⟩
  | false => exact ⟨G, O0, H0, O, ρ, n1, s.to e1 ok1, w1⟩
noncomputable def appP (k : Nat) (m : PEnv → M PV) : PEnv → M Fl := fun ρ => match ρ[k]? with | some (.own l) => (m ρ).bind fun y => if l.length < 100000 then .ret (.nx (ρ.set k (.own (l ++ [y])))) else .fail | _ => .fail
theorem sv_app {k : Nat} {m : PEnv → M PV} (h : BS X st (tDrop (tBM X.K "list" rAppend (tVar k) (tCons (teP φ m) tNil)))) : SV φ X st (appP k m) := BS.mono h fun D σ H ⟨G, O0, H0, O, ρ, n, s, w⟩ => by
  unfold appP at w
  cases hk : ρ[k]? with
  | none => simp only [hk] at w; exact w.elim
  | some t =>
    cases t with
    | own l =>
      simp only [hk] at w
      obtain ⟨p, xs, hx, hO, np, hh, rr⟩ := s.es.er.2 k _ hk
      have hs := sig_of s.es.er hk hx
      have npB : p ≠ G.B := fun z => np (z ▸ G.pB)
      rw [M.wZ] at w
      refine ⟨_, hs, .inl ⟨rfl, xs, SqL.of hh⟩, G, O, ρ, n, _, s.es, w, fun y x H1 n1 e1 ok1 r1 w1 => ?_⟩
      by_cases hc : l.length < 100000
      · rw [if_pos hc] at w1
        have s1 := s.to e1 ok1
        have big := big_le
        refine ⟨p, xs, x, rfl, rfl, e1 p _ npB hh, by rw [← rr.1]; omega, w1 O _ _ (s1.put hk hs ((rr.ext s.es.B e1).append (.cons r1 .nil)))⟩
      · rw [if_neg hc] at w1; exact w1.elim
    | _ => simp only [hk] at w; exact w.elim
noncomputable def tgS (φ : Fam) (b : PV → PEnv → M PEnv) : TG := fun v σ H Q => ∃ (G : Bg φ) (O0 : Addr → Prop) (H0 : Hp) (O : Addr → Prop) (ρ : PEnv) (n : Nat) (R : PEnv → Nat → Prop) (y : PV), SI G O0 H0 O H σ ρ n ∧ Rep G.B O H y v ∧ (b y ρ).wp n R ∧
  ∀ (σ' : St) (ρ' : PEnv) (n' : Nat), SI G O0 H0 O H σ' ρ' n' → R ρ' n' → Q σ' H
def GS (φ : Fam) (X : Cx) (tg : Expr) (b : PV → PEnv → M PEnv) : Prop := BG X tg (tgS φ b)
theorem gs_name {tg : Expr} {k : Nat} (h : BG X tg (gName k)) : GS φ X tg (bindN k) := BG.mono h fun v σ H Q ⟨G, O0, H0, O, ρ, n, R, y, s, r, w, q⟩ => q _ _ n (s.setV k r) w
noncomputable def forP (bd : PV → PEnv → M PEnv) (mb : PEnv → M Fl) : List PV → PEnv → M Fl
  | [], ρ => .ret (.nx ρ)
  | y :: r, ρ => (bd y ρ).bind fun ρ1 => (mb ρ1).bind fun f => match f with
    | .nx ρ2 => forP bd mb r ρ2
    | .ct ρ2 => forP bd mb r ρ2
    | .bk ρ2 => .ret (.nx ρ2)
    | .rt v => .ret (.rt v)
noncomputable def mkFor (mi : PEnv → M (List PV)) (bd : PV → PEnv → M PEnv) (mb : PEnv → M Fl) : PEnv → M Fl := fun ρ => (mi ρ).bind fun l => forP bd mb l ρ
theorem sv_for {mi : PEnv → M (List PV)} {bd : PV → PEnv → M PEnv} {mb : PEnv → M Fl} (h : BS X st (tFor (tiP φ X.K true mi) (tgS φ bd) (tsP φ mb))) : SV φ X st (mkFor mi bd mb) := BS.mono h fun D σ H ⟨G, O0, H0, O, ρ, n, s, w⟩ => by
  unfold mkFor at w
  rw [M.wZ] at w
  refine ⟨G, O, ρ, n, _, s.es, w, fun l J H1 n1 e1 ok1 it w1 => ?_⟩
  have s1 := s.to e1 ok1
  refine ⟨fun i m σ' H' => m = l.length - i ∧ i ≤ l.length ∧ ∃ (O' : Addr → Prop) (ρ' : PEnv) (n' : Nat), SI G O0 (hide O0 O H1) O' H' σ' ρ' n' ∧ (forP bd mb (l.drop i) ρ').wp n' (fun f n' => FlOk G O0 H0 D n' f),
    ⟨l.length, by simp, Nat.zero_le _, O, ρ, n1, s1.now, by simpa using w1⟩, ?_⟩
  rintro i m σ' H' ⟨rfl, hi, O', ρ', n', s', w'⟩
  have it' := s1.walk s' it
  by_cases hlt : i < l.length
  · have hget : l[i]? = some l[i] := List.getElem?_eq_getElem hlt
    have hdrop : l.drop i = l[i] :: l.drop (i + 1) := List.drop_eq_getElem_cons hlt
    rw [hdrop] at w'
    unfold forP at w'
    obtain ⟨g1, g2⟩ := it'.go hget
    refine .inr ⟨g1, fun σ2 H2 => ∃ (O' : Addr → Prop) (ρ' : PEnv) (n' : Nat), SI G O0 (hide O0 O H1) O' H2 σ2 ρ' n' ∧ (forP bd mb (l.drop (i + 1)) ρ').wp n' (fun f n' => FlOk G O0 H0 D n' f), fun σ2 H2 hh => ⟨l.length - (i + 1), by omega, rfl, hlt, hh⟩, fun x H2 yl => ?_⟩
    obtain ⟨eH, rx⟩ := g2 x H2 yl
    subst eH
    rw [M.wZ] at w'
    refine ⟨G, O0, _, O', ρ', n', _, l[i], s', rx, w', fun σ2 ρ2 n2 s2 w2 => ?_⟩
    rw [M.wZ] at w2
    refine ⟨G, O0, _, O', ρ2, n2, s2, M.wp_mono w2 fun f n3 w3 => ?_⟩
    cases f with
    | nx ρ3 => exact fun O3 σ3 H3 s3 => ⟨O3, ρ3, n3, s3, w3⟩
    | ct ρ3 => exact fun O3 σ3 H3 s3 => ⟨O3, ρ3, n3, s3, w3⟩
    | bk ρ3 => exact fun O3 σ3 H3 s3 => w3 O3 σ3 H3 (s1.back s3)
    | rt y => exact fun x3 H3 e3 ok3 r3 => w3 x3 H3 (s1.base.trans e3) ok3 r3
  · have e : i = l.length := by omega
    subst e
    rw [List.drop_length] at w'
    exact .inl ⟨it'.stop, w' O' σ' H' (s1.back s')⟩
end
noncomputable def finP : Fl → M PV
  | .nx _ => .ret .non
  | .rt y => .ret y
  | _ => .fail
noncomputable def startP (k : Nat) (l : List PV) : PEnv := l.map val ++ List.replicate (k - l.length) .un
noncomputable def fnP (a k : Nat) (m : PEnv → M Fl) (l : List PV) : M PV := if l.length = a then (m (startP k l)).bind finP else .fail
theorem start_get {N : List Str} {vs : List V} {i : Nat} {x : V} (h : vs[i]? = some x) : (start N vs)[i]? = some (some x) := by
  unfold start
  have hi : i < vs.length := (List.getElem?_eq_some_iff.mp h).1
  rw [List.getElem?_append_left (by simpa using hi), List.getElem?_map, h]
  rfl
section
variable {P : Program} {w : World} {K : PySem.W.Frag} {mg : Str → Option Value} {base : Heap}
theorem fn_ok {x qual : Str} {st : Stmt} {f : Addr} {fd : FuncData} {N ps : List Str} {k : Nat} {m : PEnv → M Fl} (F : Fun K x qual st f fd) (S : FnScope N ps (defScope st)) (hN : ps.length ≤ N.length)
    (hb : ∀ (cdv : Value) (A : Around) (outer : List Env) (s : Shared) (H : Hp) (E : XK), Room k (A.deeper (envOfC qual (defScope st) s.heap.objs.size f cdv)) → SsV φ (cxOf CX0 P w K mg base N qual (defScope st) f cdv A outer s H E).nox (defBody st) m) :
    FnOk P w K mg base CX0 (k + 1) f fd ps (spP φ (fnP ps.length N.length m)) := by
  refine F.ok S (fun vs H Q E h => ?_) (fun cdv A outer s H vs Q E hr h => ⟨_, (hb cdv A outer s H E hr).out, ?_⟩)
  · obtain ⟨G, O, l, n, R, _, _, _, r, w, _⟩ := h
    unfold fnP at w
    by_cases hc : l.length = ps.length
    · rw [← r.1, hc]
    · rw [if_neg hc] at w; exact w.elim
  · obtain ⟨G, O, l, n, R, pr, dm, ok, r, w, q⟩ := h
    unfold fnP at w
    by_cases hc : l.length = ps.length
    · rw [if_pos hc, M.wZ] at w
      refine ⟨G, O, H, O, startP N.length l, n, ⟨⟨⟨?_, fun i e he => ?_⟩, ok, pr, dm⟩, pr, fun p h => h, Ext.refl _ _, fun p h => .inl h, dm, fun i p h => ?_, fun i j p h => ?_⟩, M.wp_mono w fun f n' h => ?_⟩
      · unfold start startP; simp [r.1]
      · unfold startP at he
        by_cases hi : i < l.length
        · rw [List.getElem?_append_left (by simpa using hi), List.getElem?_map, List.getElem?_eq_getElem hi] at he
          cases he
          obtain ⟨x, hx, rr⟩ := r.at (List.getElem?_eq_getElem hi)
          exact ⟨x, by rw [start_get hx]; rfl, rr⟩
        · rw [List.getElem?_append_right (by simpa using hi), List.getElem?_replicate] at he
          split at he
          · cases he; trivial
          · cases he
      all_goals try (
        obtain ⟨t, h1, h2, _⟩ := h
        exfalso
        unfold startP at h1
        by_cases hi : i < l.length
        · rw [List.getElem?_append_left (by simpa using hi), List.getElem?_map, List.getElem?_eq_getElem hi] at h1
          cases h1; cases h2
        · rw [List.getElem?_append_right (by simpa using hi), List.getElem?_replicate] at h1
          split at h1
          · cases h1; cases h2
          · cases h1)
      cases f with
      | nx ρ => exact fun O' σ' H' s' => q .non .non H' n' s'.ext s'.es.ok .non h
      | rt y => exact fun x' H' e' ok' r' => q y x' H' n' e' ok' r' h
      | bk ρ => exact h.elim
      | ct ρ => exact h.elim
    · rw [if_neg hc] at w; exact w.elim
end
end
section
variable {φ : Fam}
section
variable {X : Cx} {e a b : Expr} {ma mb : PEnv → M PV}
def MtV (K : PySem.W.Frag) (T : String) (r : V → List V → Hp → VK → Prop) (op : PV → List PV → M PV) : Prop := ∀ (φ : Fam) (G : Bg φ) (O : Addr → Prop) (H0 H : Hp) (n : Nat) (R : PV → Nat → Prop) (Q : VK) (y : PV) (x : V) (l : List PV) (xs : List V),
  (∀ p, G.priv p → O p) → (∀ p, O p → ∃ o, H p = some o) → G.ok H n → RepB G O H y x → RepBs G O H l xs → (op y l).wp n R → Wish G O H R Q → r x xs H Q
noncomputable def tyP : PV → String
  | .str _ => "str"
  | .lst _ => "list"
  | .dct _ => "dict"
  | _ => ""
noncomputable def bmP (T : String) (op : PV → List PV → M PV) (mo : PEnv → M PV) (ml : PEnv → M (List PV)) : PEnv → M PV := fun ρ => (mo ρ).bind fun y => if tyP y = T then (ml ρ).bind fun l => op y l else .fail
theorem ev_bm {T : String} {r : V → List V → Hp → VK → Prop} {op : PV → List PV → M PV} {mo : PEnv → M PV} {ml : PEnv → M (List PV)} (h : BE X e (tBM X.K T r (teB φ mo) (taB φ ml))) (hv : MtV X.K T r op) (hT : T ≠ "" := by decide) : EV φ X e (bmP T op mo ml) := BE.mono h fun σ H Q ⟨G, O, ρ, n, R, s, w, q⟩ => by
  unfold bmP at w
  rw [M.wZ] at w
  refine ⟨G, O, ρ, n, _, s, w, fun y x H1 n1 e1 ok1 r1 w1 => ?_⟩
  by_cases hc : tyP y = T
  · rw [if_pos hc] at w1
    have ty : tyV X.K T x H1 := by
      subst hc
      cases y <;> first | exact absurd rfl hT | skip
      · rw [r1.str_i]; rfl
      · obtain ⟨p, xs, rfl, hh, _⟩ := r1.lst_i; exact .inl ⟨rfl, xs, SqL.of hh⟩
      · obtain ⟨p, ks, rfl, hh, _⟩ := r1.dct_i; exact .inr (.inr (.inl ⟨rfl, .inl ⟨ks, hh⟩⟩))
    refine ⟨ty, ?_⟩
    rw [M.wZ] at w1
    refine ⟨G, O, ρ, n1, _, s.ext e1 ok1, w1, fun l xs H2 n2 e2 ok2 r2 w2 => ?_⟩
    exact hv φ G O H1 H2 n2 R Q y x l xs s.pr (s.ext (e1.trans e2) ok2).dm ok2 (r1.ext s.B e2) r2 w2 fun y x H' n' e o r h => q y x H' n' (e1.trans (e2.trans e)) o r h
  · rw [if_neg hc] at w1; exact w1.elim
noncomputable def strsOf : List PV → Option (List Str)
  | [] => some []
  | .str b :: r => (strsOf r).map (b :: ·)
  | _ => none
theorem strs_rep {B : Addr} {O : Addr → Prop} {H : Hp} : ∀ {l : List PV} {xs : List V} {bs : List Str}, Reps B O H l xs → strsOf l = some bs → xs = bs.map V.str
  | [], xs, bs, h, e => by simp [strsOf] at e; subst e; exact h.nil_inv
  | y :: l, xs, bs, h, e => by
    cases y <;> simp [strsOf] at e
    obtain ⟨bs', e1, rfl⟩ := e
    obtain ⟨x, r, rfl, h1, h2⟩ := h.cons_inv
    cases h1
    rw [List.map_cons, strs_rep h2 e1]
noncomputable def joinO : PV → List PV → M PV
  | .str sep, [.lst l] => (M.ofO (strsOf l)).bind fun ys => if (ys.map (·.length)).sum + ys.length * sep.length ≤ 16777216 then .ret (.str (Txt.join sep ys)) else .fail
  | _, _ => .fail
theorem joinO_inv {y : PV} {l : List PV} {n : Nat} {R : PV → Nat → Prop} (w : (joinO y l).wp n R) : ∃ sep m, y = .str sep ∧ l = [.lst m] := by
  unfold joinO at w
  split at w
  · exact ⟨_, _, rfl, rfl⟩
  · exact w.elim
theorem mv_join {K : PySem.W.Frag} : MtV K "str" (fun x xs H Q => ∃ (sep : Str) (p : Addr) (ys : List Str), x = .str sep ∧ xs = [.ref p] ∧ SqL K H p (ys.map V.str) ∧ (ys.map (·.length)).sum + ys.length * sep.length ≤ 16777216 ∧ Q (.str (Txt.join sep ys)) H) joinO := fun φ G O H0 H n R Q y x l xs pr dm ok r1 r2 w q => by
  obtain ⟨sep, l, rfl, rfl⟩ := joinO_inv w
  · rw [r1.str_i]
    obtain ⟨x2, ex, r3⟩ := r2.one
    subst ex
    obtain ⟨p, xs, ep, hh, rr⟩ := r3.lst_i
    subst ep
    unfold joinO at w
    dsimp only at w
    cases es : strsOf l with
    | none => rw [es] at w; exact w.elim
    | some ys =>
      rw [es] at w
      replace w : (if (ys.map (·.length)).sum + ys.length * sep.length ≤ 16777216 then M.ret (.str (Txt.join sep ys)) else .fail : M PV).wp n R := w
      by_cases hc : (ys.map (·.length)).sum + ys.length * sep.length ≤ 16777216
      · rw [if_pos hc] at w
        rw [strs_rep rr es] at hh
        exact ⟨sep, p, ys, rfl, rfl, SqL.of hh, hc, q.sc ok (.str _) w⟩
      · rw [if_neg hc] at w; exact w.elim
noncomputable def negO : PV → M PV
  | .int i => .ret (.int (-i))
  | _ => .fail
theorem ev_neg (h : BE X e (tUn (rU fun i => .int (-i)) (teB φ ma))) : EV φ X e (fun ρ => (ma ρ).bind negO) := BE.mono h fun σ H Q ⟨G, O, ρ, n, R, s, w, q⟩ => by
  rw [M.wZ] at w
  refine ⟨G, O, ρ, n, _, s, w, fun y x H1 n1 e1 ok1 r1 w1 => ?_⟩
  cases y <;> first | exact w1.elim | skip
  rw [r1.int_i]
  exact ⟨_, rfl, q _ _ _ _ e1 ok1 (.int _) w1⟩
end
end
section
variable {φ : Fam}
section
variable {X : Cx} {e a b o : Expr} {es : List Expr} {pos p : Pos} {x : Str} {id T : String} {r : List V → Hp → VK → Prop} {t : TA} {st : Stmt}
theorem bv (i : Nat) {x : Str} {pos : Pos} (hN : X.N[i]? = some x := by rfl) (hv : Vis X.env.scope x := by first | exact Or.inl rfl | exact Or.inr (Or.inl rfl) | exact Or.inr (Or.inr rfl)) (hd : (x == ("__debug__" : Str)) = false := by decide)
    (hcd : (x == ("__classdict__" : Str)) = false := by decide) : BE X (.Name x pos) (tVar i) := ⟨pe_var hN hv hd hcd⟩
theorem be_callB (hc : CallR X (.builtin id) r) (hg : Gl X x) (hm : X.mg x = none) (hv : bootBuiltins x = some (.builtin id)) (ha : BA X (e :: es) t) (hn : x ≠ "__name__" := by decide) (hdb : (x == ("__debug__" : Str)) = false := by decide)
    (he : starEach (e :: es) X.env = (false, eval e X.env) :: starEach es X.env := by rfl) (hpl : (backTo pos (starEach es X.env)).any (·.1) = false := by rfl) : BE X (.Call (.Name x p) (e :: es) [] pos) (tCB r t) := ⟨pe_callB hc hg hm hv ha.out hn hdb he hpl⟩
theorem be_callTy (hc : CallR X (.type T) r) (hg : Gl X x) (hm : X.mg x = none) (hv : bootBuiltins x = some (.type T)) (ha : BA X (e :: es) t) (hn : x ≠ "__name__" := by decide) (hdb : (x == ("__debug__" : Str)) = false := by decide)
    (he : starEach (e :: es) X.env = (false, eval e X.env) :: starEach es X.env := by rfl) (hpl : (backTo pos (starEach es X.env)).any (·.1) = false := by rfl) : BE X (.Call (.Name x p) (e :: es) [] pos) (tCB r t) := ⟨pe_callTy hc hg hm hv ha.out hn hdb he hpl⟩
theorem be_call {CX : CXT} {k : Nat} {f : Addr} {fd : FuncData} {ps : List Str} {sp : Sp} {ds : List Value} {dvs : List V} {E : XK} (F : FnOk X.prog X.w X.K X.mg X.base CX k f fd ps sp) (hr : Room k X.A) (hg : Gl X x) (hm : X.mg x = some (.ref f)) (hk : PySem.W.keepIn X.K (.ref f) = true) (hb : Binds X.K fd ps ds) (hd : Vals dvs ds) (hx : Passes CX X E)
    (ha : BA X (e :: es) t) (hdb : (x == ("__debug__" : Str)) = false := by decide) (he : starEach (e :: es) X.env = (false, eval e X.env) :: starEach es X.env := by rfl) (hpl : (backTo pos (starEach es X.env)).any (·.1) = false := by rfl) :
    BE X (.Call (.Name x p) (e :: es) [] pos) (tCall sp dvs E t) := ⟨pe_call F hr hg hm hk hb hd hx ha.out hdb he hpl⟩
theorem ba_nil : BA X [] tNil := ⟨pa_nil⟩
theorem ba_cons {te : TE} (ha : BE X e te) (hr : BA X es t) (hs : starEach (e :: es) X.env = (false, eval e X.env) :: starEach es X.env := by rfl) : BA X (e :: es) (tCons te t) := ⟨pa_cons ha.out hr.out hs⟩
theorem be_bltn {v : V} {u : Value} (hg : Gl X x) (hm : X.mg x = none) (hv : bootBuiltins x = some u) (r : RelV v u) (hn : x ≠ "__name__" := by decide) (hd : (x == ("__debug__" : Str)) = false := by decide) : BE X (.Name x pos) (tC v) := ⟨pe_bltn hg hm hv r hn hd⟩
theorem be_bm {apos cpos : Pos} {name : Str} {to : TE} {r : V → List V → Hp → VK → Prop} (pa : PlainAttrs T) (slot : Slot T name id) (hty : typeOf (.builtin id) = pure (.type "method_descriptor")) (hm : MtR X id r) (ho : BE X o to) (ha : BA X (e :: es) t)
    (hbase : attributeBase o name X.env (eval o X.env) = eval o X.env := by rfl)
    (hfew : ((backTo cpos (starEach (e :: es) X.env)).all (fun x => !x.1) && (backToKw cpos (keywordEach [] X.env)).all (fun x => x.1.isSome)
      && decide ((e :: es).length + ([] : List Keyword).length + (if ([] : List Keyword).isEmpty then 0 else 1) < 30)) = true := by rfl)
    (hline : (apos.endLine == cpos.line) = true := by rfl) (hs : starEach (e :: es) X.env = (false, eval e X.env) :: starEach es X.env := by rfl) (hplain : (backTo cpos (starEach es X.env)).any (·.1) = false := by rfl) :
    BE X (.Call (.Attribute o name apos) (e :: es) [] cpos) (tBM X.K T r to t) := ⟨pe_bm pa slot hty hm ho.out ha.out hbase hfew hline hs hplain⟩
theorem be_lc {elt target iter : Expr} {ifs : List Expr} {scope : Scope} {N : List Str} {js : List (Option Nat)} {wi : TI} {g : TG} {tt : TT} {te : TE} (L : LcScope X scope N js) (hc : X.calm = true) (hi : BI X target iter wi)
    (hg : ∀ s₀ H₀ ex pn, BG (cxC X scope N s₀ H₀ ex pn) target g) (ht : ∀ s₀ H₀ ex pn, BTs (cxC X scope N s₀ H₀ ex pn) ifs tt) (he : ∀ s₀ H₀ ex pn, BE (cxC X scope N s₀ H₀ ex pn) elt te)
    (hs : ∀ x, foldedSetIterable iter X.env x = pure x := by intro _; rfl) : BE X (.ListComp elt [⟨target, iter, ifs, 0⟩] scope pos) (tLC js wi g tt te) := ⟨pe_lc L hc hi.out (fun a b c d => (hg a b c d).out) (fun a b c d => (ht a b c d).out) (fun a b c d => (he a b c d).out) hs⟩
theorem bs_lc {elt target iter : Expr} {ifs : List Expr} {scope : Scope} {N : List Str} {js : List (Option Nat)} {spos py : Pos} {y : Str} {k : Nat} {wi : TI} {g : TG} {tt : TT} {te : TE} (hN : X.N.Nodup) (hk : X.N[k]? = some y) (hy : Loc X.env.scope y) (L : LcScope X scope N js) (hc : X.calm = true) (hi : BI X target iter wi)
    (hg : ∀ s₀ H₀ ex pn, BG (cxC X scope N s₀ H₀ ex pn) target g) (ht : ∀ s₀ H₀ ex pn, BTs (cxC X scope N s₀ H₀ ex pn) ifs tt) (he : ∀ s₀ H₀ ex pn, BE (cxC X scope N s₀ H₀ ex pn) elt te)
    (hsw : swapsWith (.ListComp elt [⟨target, iter, ifs, 0⟩] scope pos) (some (.Name y py)) spos.line X.env = pure true := by rfl)
    (hs : ∀ x, foldedSetIterable iter X.env x = pure x := by intro _; rfl) (hf : X.fn y = true ∨ X.env.scope.names.lookup y = some .local := by first | exact .inl rfl | exact .inr rfl | assumption) :
    BS X (.Assign [.Name y py] (.ListComp elt [⟨target, iter, ifs, 0⟩] scope pos) spos) (tAsg (tLC js wi g tt te) (gName k)) := ⟨ps_lc hN hk hy L hc hi.out (fun a b c d => (hg a b c d).out) (fun a b c d => (ht a b c d).out) (fun a b c d => (he a b c d).out) hsw hs hf⟩
theorem bs_set {i : Nat} {te : TE} {pos' : Pos} (hN : X.N.Nodup) (hi : X.N[i]? = some x) (hx : Loc X.env.scope x) (he : BE X e te) (hs : swapsWith e (some (.Name x pos')) pos.line X.env = pure false := by rfl) (hf : X.fn x = true ∨ X.env.scope.names.lookup x = some .local := by first | exact .inl rfl | exact .inr rfl | assumption) :
    BS X (.Assign [.Name x pos'] e pos) (tAsg te (gName i)) := ⟨ps_set hN hi hx he.out hs hf⟩
theorem bs_par {i j : Nat} {x y : Str} {ta : TA} {px py pt : Pos} {kt k2 pt2} (hc : X.calm = true) (hN : X.N.Nodup) (hi : X.N[i]? = some x) (hj : X.N[j]? = some y) (hij : i ≠ j)
    (hx : X.env.scope.names.lookup x = some .local) (hy : X.env.scope.names.lookup y = some .local) (ha : BA X [a, b] ta)
    (hw : swappedStores [.Tuple [.Name x px, .Name y py] kt pt] (.Tuple [a, b] k2 pt2) X.env = pure (some [x, y]))
    (hs : swapsWithSole [.Tuple [.Name x px, .Name y py] kt pt] (.Tuple [a, b] k2 pt2) pos.line X.env = pure false := by rfl) :
    BS X (.Assign [.Tuple [.Name x px, .Name y py] kt pt] (.Tuple [a, b] k2 pt2) pos) (tPar i j ta) := ⟨ps_par hc hN hi hj hij hx hy ha.out hw hs⟩
theorem bs_par3 {i j k : Nat} {x y z : Str} {c : Expr} {ta : TA} {px py pz pt : Pos} {kt k2 pt2} (hc : X.calm = true) (hN : X.N.Nodup) (hi : X.N[i]? = some x) (hj : X.N[j]? = some y) (hk : X.N[k]? = some z) (hij : i ≠ j) (hik : i ≠ k) (hjk : j ≠ k)
    (hx : X.env.scope.names.lookup x = some .local) (hy : X.env.scope.names.lookup y = some .local) (hz : X.env.scope.names.lookup z = some .local) (ha : BA X [a, b, c] ta)
    (hw : swappedStores [.Tuple [.Name x px, .Name y py, .Name z pz] kt pt] (.Tuple [a, b, c] k2 pt2) X.env = pure (some [x, y, z]))
    (hs : swapsWithSole [.Tuple [.Name x px, .Name y py, .Name z pz] kt pt] (.Tuple [a, b, c] k2 pt2) pos.line X.env = pure false := by rfl) :
    BS X (.Assign [.Tuple [.Name x px, .Name y py, .Name z pz] kt pt] (.Tuple [a, b, c] k2 pt2) pos) (tPar3 i j k ta) := ⟨ps_par3 hc hN hi hj hk hij hik hjk hx hy hz ha.out hw hs⟩
theorem bs_ret {te : TE} (he : BE X e te) : BS X (.Return (some e) pos) (tRet te) := ⟨ps_ret he.out⟩
theorem bs_if {c : Expr} {ss tt : List Stmt} {tc : TT} {t u : TS} (hc : BT X c tc) (ha : BSs X ss t) (hb : BSs X tt u) : BS X (.If c ss tt pos) (tIfS tc t u) := ⟨ps_if hc.out ha.out hb.out⟩
theorem bs_for {tg iter : Expr} {body : List Stmt} {wi : TI} {g : TG} {tb : TS} (hp : PassesOwn (model X.prog X.w) X.A X.env X.xe) (hc : X.calm = true) (hi : BI X tg iter wi) (hg : BG X tg g) (hb : BSs X body tb)
    (hs : ∀ x, foldedSetIterable iter X.env x = pure x := by intro _; rfl) : BS X (.For tg iter body [] pos) (tFor wi g tb) := ⟨ps_for hp hc hi.out hg.out hb.out hs⟩
theorem bs_expr {te : TE} (he : BE X e te) (hs : swapsWith e none pos.line X.env = pure false := by rfl) : BS X (.Expr e pos) (tDrop te) := ⟨ps_expr he.out hs⟩
theorem bi_range1 {tg : Expr} {ta : TA} (hg : Gl X "range") (hm : X.mg "range" = none) (ha : BA X [a] ta) (hs : starEach [a] X.env = [(false, eval a X.env)] := by rfl) : BI X tg (.Call (.Name "range" p) [a] [] pos) (iRng1 ta) := ⟨pi_range1 hg hm ha.out hs⟩
theorem be_slice {r : V → Option Int → Option Int → Hp → VK → Prop} {te : TE} {tl th : TO} {lo hi : Option Expr} {p2 : Pos} (hr : SlR X r) (he : BE X e te) (hl : BO X lo tl) (hu : BO X hi th) : BE X (.Subscript e (.Slice lo hi none p2) pos) (tSl r te tl th) := ⟨pe_slice hr he.out hl.out hu.out⟩
theorem be_un {op : UnaryOp} {r : V → Hp → VK → Prop} {ta : TE} (ho : UnR X (unaryOp op) r) (ha : BE X a ta) : BE X (.UnaryOp op a pos) (tUn r ta) := ⟨pe_un ho ha.out⟩
theorem bg_name {i : Nat} (hN : X.N.Nodup) (hi : X.N[i]? = some x) (hx : Loc X.env.scope x) (hf : X.fn x = true ∨ X.env.scope.names.lookup x = some .local := by first | exact .inl rfl | exact .inr rfl | assumption) : BG X (.Name x pos) (gName i) := ⟨pg_name hN hi hx hf⟩
end
section
variable {P : Program} {w : World} {K : PySem.W.Frag} {mg : Str → Option Value} {base : Heap}
theorem fn_ok3 {x qual : Str} {st : Stmt} {f : Addr} {fd : FuncData} {N ps : List Str} {k : Nat} {m : PEnv → M Fl} {body : List Stmt} {sc : Scope} {Ff : List PV → M PV} (hF : Ff = fnP ps.length N.length m) (F : Fun K x qual st f fd) (S : FnScope N ps (defScope st)) (hN : ps.length ≤ N.length) (eb : defBody st = body) (es : defScope st = sc)
    (hb : ∀ (cdv : Value) (A : Around) (outer : List Env) (s : Shared) (H : Hp) (E : XK), Room k (A.deeper (envOfC qual sc s.heap.objs.size f cdv)) → SsV φ (cxOf CX0 P w K mg base N qual sc f cdv A outer s H E).nox body m) :
    FnOk P w K mg base CX0 (k + 1) f fd ps (spP φ Ff) := by
  subst hF eb es
  exact fn_ok F S hN hb
end
end
section
open PySem.AutoSeq1 (wpAny_loadPart')
theorem noFill_tuple_mul : fillsNumberSlot (.type "tuple") "mul" = pure false :=
  PySem.fillsNumberSlot_seq (id := "tuple.__mul__") (r := some (.builtin "tuple.__rmul__")) F.slot_tuple_mul.lookup (by decide +kernel) F.slot_tuple_rmul.lookup (by decide +kernel)
theorem repeat_tuple : seqRepeat? (.type "tuple") = pure (some (.builtin "tuple.__mul__")) := by
  unfold seqRepeat?
  rw [PySem.seqSlot_of (T := "tuple") (name := "__mul__") (id := "tuple.__mul__") F.slot_tuple_mul.lookup (by decide +kernel), PySem.seqSlot_of (T := "tuple") (name := "__rmul__") (id := "tuple.__rmul__") F.slot_tuple_rmul.lookup (by decide +kernel)]
  rfl
theorem int_rmul_tuple (a : Int) (t : Tok) (l : Addr) (items : Array Value) (n : Nat) (dd : Option Addr) (sl : Array (Option Value)) :
    Meets (Builtin.«int.__rmul__» ⟨[.int a t, .ref l], []⟩) (fun _ R s => s.heap.get? l = some { cls := .type "tuple", dict := dd, data := .seq items n, slots := sl } ∧ R (.ok (.ret Value.notImplemented)) s) :=
  .of_wp fun prog w A R s h => by obtain ⟨hp, g, d, tk, os⟩ := s; obtain ⟨hl, h⟩ := h; wp_walk using wpAny_loadPart' hl; exact ⟨_, rfl, h⟩
theorem tuple_mulW (l : Addr) (items : Array Value) (n : Nat) (dd : Option Addr) (sl : Array (Option Value)) (x : Int) (u : Tok) (hc0 : ¬(decide (x < -(2 ^ 63)) || decide (x ≥ 2 ^ 63)) = true) (hc1 : ¬(items.isEmpty || x == 1) = true) (hc2 : ¬(decide (x ≤ 0) || items.isEmpty) = true) (hc3 : ¬((items.size : Int) * x > (2 ^ 63 - 1) / 8)) (hc4 : ¬Builtin.Tuple.tupleTooMany (items.size * x) = true) (hc5 : ¬ (List.foldl (fun x1 x2 => x1 ++ x2) #[] (List.replicate x.toNat items)).size > sizeLine) :
    Meets (Builtin.«tuple.__mul__» ⟨[.ref l, .int x u], []⟩) (fun _ R s => s.heap.get? l = some { cls := .type "tuple", dict := dd, data := .seq items n, slots := sl } ∧ R (.ok (.ret (Value.ref s.heap.objs.size))) { s with heap := s.heap.push { cls := Value.type "tuple", data := Data.seq ((List.replicate x.toNat items).foldl (· ++ ·) #[]) }, toks := s.toks }) :=
  .of_wp fun prog w A R s h => by
    obtain ⟨hp, g, d, tk, os⟩ := s; obtain ⟨hl, h⟩ := h
    have f1 := AutoSeq1.idx_int
    wp_walk using wpAny_loadPart' hl
    refine wpAny_ite_false (decide_eq_false hc0) ?_
    wp_walk using wpAny_loadPart' hl
    refine wpAny_ite_false (decide_eq_false hc3) ?_
    wp_walk using wpAny_loadPart' hl
    exact ⟨_, rfl, h⟩
noncomputable def rRepT : R2 := fun x y H Q => ∃ l k xs, x = .ref l ∧ y = .int k ∧ H l = some (.tup xs) ∧ xs ≠ [] ∧ 1 < k ∧ k < 1000 ∧ xs.length * k.toNat ≤ 100000 ∧ ∀ p, H p = none → Q (.ref p) (upd H p (.tup (List.replicate k.toNat xs).flatten))
theorem op_repT {X : Cx} : OpR X (binaryOp .Mult) rRepT := by
  intro pZ s σ H x y v u Q I rx ry h
  obtain ⟨l, k, xs, rfl, rfl, hH, hne, h1, h2, hz, q⟩ := h
  cases rx
  obtain ⟨t, rfl⟩ := ry
  obtain ⟨its, r, p, _⟩ := I.tuple (SqT.of (K := X.K) hH)
  obtain ⟨⟨cls, dd, data, sl⟩, ho, hc, n, hd⟩ := id p
  simp only at hc hd
  subst hc hd
  have hlen := r.length
  have hie : its ≠ [] := fun z => hne (r.nil_iff.mp z)
  have hnew : List.foldl (fun x1 x2 => x1 ++ x2) #[] (List.replicate k.toNat its.toArray) = (List.replicate k.toNat its).flatten.toArray := by
    have := foldl_rep its k.toNat []
    rw [List.nil_append] at this
    exact this
  have e63 : (2 : Int) ^ 63 = 9223372036854775808 := by decide
  have hsz : (its.length : Int) * k ≤ 100000 := by
    have e : (k.toNat : Int) = k := by omega
    have : ((its.length * k.toNat : Nat) : Int) ≤ 100000 := by
      rw [← hlen]
      exact Int.ofNat_le.mpr hz
    rw [Int.natCast_mul, e] at this
    exact this
  have hs : sizeLine = 16777216 := sizeLine_eq
  have hfl : (List.replicate k.toNat xs).flatten.length ≤ sizeLine := by rw [len_rep, Nat.mul_comm]; omega
  refine wpAny_binaryOp_repeat_ref (T := "tuple") (U := "int") (by decide) ⟨_, ho, rfl⟩ (fun s' => typeIs_int s' k t) noFill_tuple_mul F.fills_int_mul F.slot_int_rmul repeat_tuple F.slot_int_index.lookup
    (call_meets F.slot_int_rmul (typeIs_int s k t) F.entry_int_rmul (F.args_int_rmul_2 _ _) (int_rmul_tuple k t l its.toArray n dd sl)
      ⟨ho, rfl, ⟨_, ho, rfl⟩, call_meets F.slot_tuple_mul ⟨_, ho, rfl⟩ F.entry_tuple_mul (F.args_tuple_mul_2 _ _) (tuple_mulW l its.toArray n dd sl k t ?_ ?_ ?_ ?_ ?_ ?_) ⟨ho, ?_⟩⟩)
  · simp; omega
  · simp [hie]; omega
  · simp [hie]; omega
  · simp only [List.size_toArray]; omega
  · unfold Builtin.Tuple.tupleTooMany; simp only [List.size_toArray, decide_eq_true_eq]; omega
  · rw [hnew, List.size_toArray, len_rep, Nat.mul_comm, ← hlen]; omega
  · rw [hnew]
    refine ⟨.ref s.heap.objs.size, _, I.laid (t' := s.toks) (o := .tup (List.replicate k.toNat xs).flatten) (fun b ob q => Heap.get?_push_of_some _ q) (Nat.le_refl _) ?_, rfl, q _ (I.hok.fresh (Nat.le_refl _))⟩
    exact ⟨hfl, _, r.rep k.toNat, IsTupP.new _ _⟩
noncomputable def rMulE : R2 := fun x y H Q => rMulD x y H Q ∨ rRepT x y H Q
theorem op_mulE {X : Cx} : OpR X (binaryOp .Mult) rMulE := op_mulD.or op_repT
noncomputable def mulE (y z : PV) : M PV := match y, z with
  | .tup l, .int k => if 0 < l.length ∧ 1 < k ∧ k < 1000 ∧ l.length * k.toNat ≤ 100000 then .ret (.tup (List.replicate k.toNat l).flatten) else .fail
  | y, z => mulO y z
theorem ov_mulE : OpV rMulE mulE := fun φ G O H n R Q y z x x' pr dm ok r1 r2 w q => by
  have hB : O G.B := pr _ G.pB
  cases y with
  | tup l =>
    cases z <;> first | exact w.elim | skip
    rename_i k
    obtain ⟨a, xs, rfl, h1, e1⟩ := r1.tup_i
    rw [r2.int_i]
    unfold mulE at w
    dsimp only at w
    by_cases hc : 0 < l.length ∧ 1 < k ∧ k < 1000 ∧ l.length * k.toNat ≤ 100000
    · rw [if_pos hc] at w
      refine .inr ⟨a, k, xs, rfl, rfl, h1, fun z => ?_, hc.2.1, hc.2.2.1, by rw [← e1.1]; exact hc.2.2.2, fun p hp => q.tup ok dm hp hB (e1.rep _) w⟩
      subst z
      have := e1.1
      simp at this
      have := hc.1
      simp_all
    · rw [if_neg hc] at w; exact w.elim
  | _ => exact .inl (ov_mul φ G O H n R Q _ z x x' pr dm ok r1 r2 w q)
end
noncomputable def spDraw : Sp := fun vs H Q _ => ∃ (a c : Addr) (n : Nat) (m : Int), vs = [.ref a, .int m] ∧ Bag H a c n ∧ n < 1000000 ∧ 0 < m ∧ m < 1073741824 ∧
  ∀ (d : Int) (o : HO), 0 ≤ d → d < m → Bag (upd H a o) a c (n + 1) → Q (.int d) (upd H a o)
noncomputable def spBag (K : PySem.W.Frag) : Sp := fun vs H Q _ => ∃ (a : Addr) (ns : List Int), vs = [.ref a] ∧ SqL K H a (ns.map V.int) ∧ ns.length ≤ 63 ∧ ∀ (b c : Addr) (H' : Hp), Same H H' → Bag H' b c 0 → Q (.ref b) H'
noncomputable def spLaw (K : PySem.W.Frag) : Sp := fun vs H Q _ => ∃ (a : Addr) (ns : List Int), vs = [.ref a] ∧ SqL K H a (ns.map V.int) ∧ ns.length ≤ 63 ∧ ∀ H', Q (.bl true) H'
noncomputable def drawF : List PV → M PV := fun l => match l with | [.bag, .int m] => .draw m fun d => .ret (.int d) | _ => .fail
abbrev famBag (K : PySem.W.Frag) : Fam := ⟨K, spDraw, []⟩
noncomputable def bagBg (K : PySem.W.Frag) (a c : Addr) : Bg (famBag K) where
  B := a
  priv := fun p => p = a ∨ p = c
  ok := fun H n => ∃ k, k + n ≤ 1000000 ∧ Bag H a c k
  pB := .inl rfl
  keep := fun H H' n k h => by
    obtain ⟨j, hj, b⟩ := h
    refine ⟨j, hj, ?_⟩
    obtain ⟨p, q, sd, cells, h1, h2, r⟩ := b.ex
    exact ⟨p, q, sd, cells, k a _ (.inl (.inl rfl)) h1, k c _ (.inl (.inr rfl)) h2, r⟩
  tp := fun e he => nomatch he
  tab := fun _ _ _ e he => nomatch he
  tset := fun H H' n h _ k => by
    obtain ⟨j, hj, b⟩ := h
    refine ⟨j, hj, ?_⟩
    obtain ⟨p, q, sd, cells, h1, h2, r⟩ := b.ex
    exact ⟨p, q, sd, cells, k a _ (fun z => nomatch z) h1, k c _ (fun z => nomatch z) h2, r⟩
  dom := fun H n p h z => by
    obtain ⟨j, hj, b⟩ := h
    obtain ⟨⟨xs, e1⟩, ys, e2⟩ := b.there
    rcases z with rfl | rfl
    · exact ⟨_, e1⟩
    · exact ⟨_, e2⟩
  dr := fun H n m Q E ok h0 h1 q => by
    obtain ⟨k, hk, b⟩ := ok
    exact ⟨a, c, k, m, rfl, b, by omega, h0, h1, fun d o d0 d1 b' => q d _ d0 d1 (fun p u np hp => .of (by rw [upd_ne np]; exact hp)) ⟨k + 1, by omega, b'⟩⟩
theorem draw_pure {φ : Fam} {P : Program} {w : World} {K : PySem.W.Frag} {mg : Str → Option Value} {base : Heap} {k : Nat} {f : Addr} {fd : FuncData} {ps : List Str} (F : FnOk P w K mg base CX0 k f fd ps φ.sp) : FnOk P w K mg base CX0 k f fd ps (spP φ drawF) := by
  refine F.imp fun vs H Q E h => ?_
  obtain ⟨G, O, l, n, R, pr, dm, ok, r, w, q⟩ := h
  match l, r, w with
  | [.bag, .int m], r, w =>
    obtain ⟨x, t, rfl, r1, r2⟩ := r.cons_inv
    obtain ⟨x', t', rfl, r3, r4⟩ := r2.cons_inv
    rw [r4.nil_inv]
    cases r1
    cases r3
    obtain ⟨h0, h1, n', rfl, h⟩ := w
    exact G.dr H n' m Q E ok h0 h1 fun d H' d0 d1 e o => q (.int d) _ H' n' e o (.int d) (h d d0 d1)
structure Gen {α : Type} (m : M α) (c : Nat) (Pr : α → Prop) : Prop where
  h : ∀ n, c ≤ n → m.wp n fun y n' => n ≤ n' + c ∧ Pr y
theorem Gen.ret {α : Type} {y : α} {Pr : α → Prop} (h : Pr y) : Gen (.ret y) 0 Pr := ⟨fun n _ => ⟨Nat.le_refl _, h⟩⟩
theorem Gen.bind {α β : Type} {m : M α} {f : α → M β} {c d : Nat} {Pr : α → Prop} {Rr : β → Prop} (h : Gen m c Pr) (k : ∀ y, Pr y → Gen (f y) d Rr) : Gen (m.bind f) (c + d) Rr := ⟨fun n hn => by
  rw [M.wZ]
  refine M.wp_mono (h.h n (by omega)) fun y n1 ⟨h1, h2⟩ => ?_
  exact M.wp_mono ((k y h2).h n1 (by omega)) fun z n2 ⟨h3, h4⟩ => ⟨by omega, h4⟩⟩
theorem Gen.mono {α : Type} {m : M α} {c d : Nat} {Pr Rr : α → Prop} (h : Gen m c Pr) (hc : c ≤ d) (k : ∀ y, Pr y → Rr y) : Gen m d Rr := ⟨fun n hn => M.wp_mono (h.h n (by omega)) fun y n1 ⟨h1, h2⟩ => ⟨by omega, k y h2⟩⟩
theorem Gen.le {α : Type} {m : M α} {c d : Nat} {Pr : α → Prop} (h : Gen m c Pr) (hc : c ≤ d) : Gen m d Pr := h.mono hc fun _ z => z
theorem Gen.draw {m : Int} (h0 : 0 < m) (h1 : m < 1073741824) : Gen (drawF [.bag, .int m]) 1 fun y => ∃ d, y = .int d ∧ 0 ≤ d ∧ d < m := ⟨fun n hn => by
  obtain ⟨n', rfl⟩ : ∃ n', n = n' + 1 := ⟨n - 1, by omega⟩
  exact ⟨h0, h1, n', rfl, fun d d0 d1 => ⟨Nat.le_refl _, d, rfl, d0, d1⟩⟩⟩
theorem Gen.eq {α : Type} {m : M α} {y : α} {Pr : α → Prop} (e : m = .ret y) (h : Pr y) : Gen m 0 Pr := e ▸ Gen.ret h
theorem Gen.lc {k : Nat} {te : PEnv → M PV} {c : Nat} {Pr : PV → Prop} {ρ : PEnv} : ∀ (l : List PV) (ρ' : PEnv), (∀ e, ρ'.set k e = ρ.set k e) → (∀ y ∈ l, Gen (te (ρ.set k (.val y))) c Pr) → Gen (lcM (bindN k) allTs te l ρ') (l.length * c) (fun zs => zs.length = l.length ∧ ∀ z ∈ zs, Pr z)
  | [], ρ', _, _ => Gen.le (Gen.ret ⟨rfl, fun z hz => by simp at hz⟩) (by simp)
  | y :: l, ρ', hρ, h => by
    unfold lcM
    simp only [bindN, allTs, rZ, if_true]
    rw [hρ]
    refine Gen.le (Gen.bind (h y List.mem_cons_self) fun z hz => Gen.bind (Gen.lc (ρ := ρ) l _ (fun e => by rw [List.set_set]) fun y' hy => h y' (List.mem_cons_of_mem _ hy)) fun zs hzs => Gen.ret ?_) (Nat.le_of_eq ?_)
    · refine ⟨by simp [hzs.1], fun u hu => ?_⟩
      rcases List.mem_cons.mp hu with rfl | hu
      · exact hz
      · exact hzs.2 u hu
    · simp only [List.length_cons, Nat.succ_mul]
      omega
theorem lcM_map {k : Nat} {te : PEnv → M PV} {f : PV → PV} {ρ : PEnv} : ∀ (l : List PV) (ρ' : PEnv), (∀ e, ρ'.set k e = ρ.set k e) → (∀ y ∈ l, te (ρ.set k (.val y)) = .ret (f y)) → lcM (bindN k) allTs te l ρ' = .ret (l.map f)
  | [], ρ', _, _ => rfl
  | y :: l, ρ', hρ, h => by
    unfold lcM
    simp only [bindN, allTs, rZ, if_true]
    rw [hρ, h y List.mem_cons_self, lcM_map (f := f) (ρ := ρ) l _ (fun e => by rw [List.set_set]) fun y' hy => h y' (List.mem_cons_of_mem _ hy)]
    rfl
theorem lcM_filter {k : Nat} {tt : PEnv → M Bool} {te : PEnv → M PV} {p : PV → Bool} {f : PV → PV} {ρ : PEnv} : ∀ (l : List PV) (ρ' : PEnv), (∀ e, ρ'.set k e = ρ.set k e) → (∀ y ∈ l, tt (ρ.set k (.val y)) = .ret (p y)) → (∀ y ∈ l, p y = true → te (ρ.set k (.val y)) = .ret (f y)) → lcM (bindN k) tt te l ρ' = .ret ((l.filter p).map f)
  | [], ρ', _, _, _ => rfl
  | y :: l, ρ', hρ, h, h' => by
    unfold lcM
    simp only [bindN, rZ]
    have ih := lcM_filter (p := p) (f := f) (ρ := ρ) l (ρ.set k (.val y)) (fun e => by rw [List.set_set]) (fun y' hy => h y' (List.mem_cons_of_mem _ hy)) (fun y' hy => h' y' (List.mem_cons_of_mem _ hy))
    rw [hρ, h y List.mem_cons_self, rZ]
    cases hp : p y with
    | true =>
      simp only [if_true]
      rw [h' y List.mem_cons_self hp, rZ, ih, List.filter_cons_of_pos hp]
      rfl
    | false =>
      simp only [Bool.false_eq_true, if_false]
      rw [ih, List.filter_cons_of_neg (by simp [hp])]
theorem Gen.for_ {k : Nat} {mb : PEnv → M Fl} {c : Nat} {Iv : PEnv → Prop} : ∀ (l : List PV) (ρ : PEnv), Iv ρ → (∀ y ∈ l, ∀ ρ, Iv ρ → Gen (mb (ρ.set k (.val y))) c fun f => ∃ ρ', f = .nx ρ' ∧ Iv ρ') → Gen (forP (bindN k) mb l ρ) (l.length * c) fun f => ∃ ρ', f = .nx ρ' ∧ Iv ρ'
  | [], ρ, h, _ => Gen.le (Gen.ret ⟨ρ, rfl, h⟩) (by simp)
  | y :: l, ρ, h, hb => by
    unfold forP
    simp only [bindN, rZ]
    refine Gen.le (Gen.bind (hb y List.mem_cons_self ρ h) fun f hf => ?_) (d := (y :: l).length * c) (Nat.le_of_eq (?_ : c + l.length * c = _))
    · obtain ⟨ρ', rfl, h'⟩ := hf
      exact Gen.for_ l ρ' h' fun y' hy => hb y' (List.mem_cons_of_mem _ hy)
    · simp only [List.length_cons, Nat.succ_mul]; omega
end L2
section
namespace Erl
section
variable {α : Type} [DecidableEq α]
structure Ed (α : Type) where
  s : α
  e : α
  f : Int → Option Int
structure Good (d : Ed α) : Prop where
  up : ∀ t t', d.f t = some t' → t < t'
  mono : ∀ t u u', t ≤ u → d.f u = some u' → ∃ t', d.f t = some t' ∧ t' ≤ u'
inductive Arr (E : List (Ed α)) (p : α) (t : Int) : α → Int → Prop where
  | here : Arr E p t p t
  | step {d : Ed α} {u v : Int} (h : Arr E p t d.s u) (hd : d ∈ E) (hf : d.f u = some v) : Arr E p t d.e v
abbrev Tb (α : Type) := List (α × Int)
noncomputable def look (l : Tb α) (q : α) : Option Int := (l.find? fun kv => decide (kv.1 = q)).map (·.2)
noncomputable def put (l : Tb α) (k : α) (y : Int) : Tb α := if l.any (fun kv => decide (kv.1 = k)) then l.map fun kv => if kv.1 = k then (kv.1, y) else kv else l ++ [(k, y)]
noncomputable def rel (d : Ed α) (l : Tb α) : Tb α := match look l d.s with
  | none => l
  | some u => match d.f u with
    | none => l
    | some v => match look l d.e with
      | none => put l d.e v
      | some w => if v < w then put l d.e v else l
noncomputable def rnd (E : List (Ed α)) (l : Tb α) : Tb α := E.foldl (fun l d => rel d l) l
noncomputable def iter (E : List (Ed α)) : Nat → Tb α → Tb α
  | 0, l => l
  | n + 1, l => rnd E (iter E n l)
theorem least (P : Nat → Prop) : ∀ n, P n → ∃ m, P m ∧ ∀ k, P k → m ≤ k := by
  intro n
  induction n using Nat.strongRecOn with
  | _ n ih =>
    intro h
    by_cases c : ∃ k, k < n ∧ P k
    · obtain ⟨k, hk, pk⟩ := c; exact ih k hk pk
    · exact ⟨n, h, fun k pk => by
        by_cases z : k < n
        · exact absurd ⟨k, z, pk⟩ c
        · omega⟩
structure Tr (α : Type) where
  s : α
  e : α
  n : Int
end
end Erl
namespace Erl
end Erl
namespace Erl
end Erl
end
namespace L2
open Ent (val un)
section
variable {φ : Fam}
noncomputable def rSlS : V → Option Int → Option Int → Hp → VK → Prop := fun x lo hi H Q => ∃ z, x = .str z ∧ z.length ≤ 100000 ∧ Q (.str (Txt.slice z lo hi)) H
theorem part_of {v : Value} {o : Option Int} (p : IsPart v o) : ∃ l : Option (Int × Tok), v = PySem.partValue l ∧ l.map (·.1) = o := by
  cases p with
  | none => exact ⟨none, rfl, rfl⟩
  | int i t => exact ⟨some (i, t), rfl, rfl⟩
theorem sl_str {X : Cx} : SlR X rSlS := by
  intro pZ s σ H x v vl vu lo hi sl Q I rx hs pl pu h
  obtain ⟨z, rfl, hz, q⟩ := h
  obtain ⟨t, rfl⟩ := rx
  obtain ⟨l, rfl, hl⟩ := part_of pl
  obtain ⟨u, rfl, hu⟩ := part_of pu
  refine ⟨"str", _, F.slot_str_getitem.lookup, typeIs_str _ _ _, wpAny_getItem_str_slice (l := l) (u := u) (st := none) hs rfl ?_⟩
  subst hl hu
  exact (post_val_or_str ⟨Nat.le_trans (Txt.slice_le z _ _) (Nat.le_trans hz big_le), fun t' k => ⟨.str (Txt.slice z _ _), H, I.tok _, ⟨_, rfl⟩, q⟩⟩)
theorem mt_index {X : Cx} : MtR X "str.index" (fun x xs H Q => ∃ (z c : Str) (i : Nat) (r : List Nat), x = .str z ∧ xs = [.str c] ∧ Builtin.Str.occurrences z c 0 z.length 1 = i :: r ∧ Q (.int i) H) := by
  intro pZ s σ H x xs v us Q I rx rv h
  obtain ⟨z, c, i, r, rfl, rfl, e, q⟩ := h
  obtain ⟨t, rfl⟩ := rx
  obtain ⟨u, rfl, t', rfl⟩ := vals1 rv
  exact PySem.call_gives F.slot_str_index (typeIs_str s z t) F.entry_str_index (F.args_str_index_2 _ _) (PySem.gives_str_index z c t t' i r e) ⟨.int i, H, I.tok _, ⟨_, rfl⟩, q⟩
noncomputable def indexO : PV → List PV → M PV
  | .str z, [.str c] => match Builtin.Str.occurrences z c 0 z.length 1 with | i :: _ => .ret (.int (i : Nat)) | [] => .fail
  | _, _ => .fail
theorem indexO_inv {y : PV} {l : List PV} {n : Nat} {R : PV → Nat → Prop} (w : (indexO y l).wp n R) : ∃ z c, y = .str z ∧ l = [.str c] := by
  unfold indexO at w
  split at w
  · exact ⟨_, _, rfl, rfl⟩
  · exact w.elim
theorem mv_index {K : PySem.W.Frag} : MtV K "str" (fun x xs H Q => ∃ (z c : Str) (i : Nat) (r : List Nat), x = .str z ∧ xs = [.str c] ∧ Builtin.Str.occurrences z c 0 z.length 1 = i :: r ∧ Q (.int i) H) indexO := fun φ G O H0 H n R Q y x l xs pr dm ok r1 r2 w q => by
  obtain ⟨z, c, rfl, rfl⟩ := indexO_inv w
  · rw [r1.str_i]
    obtain ⟨x2, ex, r3⟩ := r2.one
    subst ex
    rw [r3.str_i]
    unfold indexO at w
    dsimp only at w
    cases e : Builtin.Str.occurrences z c 0 z.length 1 with
    | nil => rw [e] at w; exact w.elim
    | cons i r => rw [e] at w; exact ⟨z, c, i, r, rfl, rfl, e, q.sc ok (.int _) w⟩
section
open HT
variable {prog : Program} {w : World} {A : Around} {E : Value → Shared → Prop} {s : Shared}
theorem getItem_tuple_whole {t sl : Addr} {items : Array Value} {vl vu : Value} {lo hi : Option Int} {Q : Value → Shared → Prop} (ht : IsTup s.heap t items) (hs : s.heap.IsSliceOf sl vl vu .none) (pl : IsPart vl lo) (pu : IsPart vu hi)
    (hw : sIx items.size 0 lo = 0 ∧ sIx items.size items.size hi = items.size) (h : Q (.ref t) s) : wpAny (model prog w) A (getItem (.ref t) (.ref sl)) Q E s := by
  obtain ⟨os, hos, hcs, hds⟩ := id hs
  have hTs : s.TypeIs (.ref sl) "slice" := ⟨os, hos, hcs⟩
  unfold getItem
  try with_reducible refine wpAny_holding ?_
  first | refine wpAny_bind (wpAny_pure ?_) | skip
  refine wpAny_bind (wpAny_sequenceKey ht.typeIs (by decide) ?_)
  refine wpAny_bind (wpAny_callSpecial?_slot (name := Str.ofString "__getitem__") ht.typeIs PyProof.Rows.slot_tuple_getitem
    (wpAny_call_entry PyProof.Rows.slot_tuple_getitem ht.typeIs entry_tuple_getitem ?_ (args_tuple_getitem _ _)))
  show wpAny _ _ (Builtin.Tuple.tupleItemsOf (.ref t) >>= _) _ _ s
  refine wpAny_bind (tupleItemsOf_ ht ?_)
  refine wpAny_bind (wpAny_typeOf hTs ?_)
  rw [if_pos (by decide)]
  refine wpAny_bind (sliceApplied_gen hs pl pu ?_)
  have hyes : ((((sIx items.size 0 lo : Nat) : Int) == 0 && (1 : Int) == 1 && (sIx items.size items.size hi - sIx items.size 0 lo) == items.size) = true) := by
    rw [hw.1, hw.2]; simp
  show wpAny _ _ (if (((sIx items.size 0 lo : Nat) : Int) == 0 && (1 : Int) == 1 && (sIx items.size items.size hi - sIx items.size 0 lo) == items.size) = true then _ else _) _ _ s
  rw [if_pos hyes]
  refine wpAny_bind (m := Builtin.Tuple.tupleIsExact _) (wpAny_bind (wpAny_typeOf ht.typeIs (wpAny_pure ?_)))
  rw [if_pos (by decide)]
  refine wpAny_bind (wpAny_rule ?_)
  exact wpAny_pure ⟨_, rfl, wpAny_pure h⟩
end
noncomputable def rSlW : V → Option Int → Option Int → Hp → VK → Prop := fun x lo hi H Q => ∃ a xs, x = .ref a ∧ H a = some (.tup xs) ∧ (HT.sIx xs.length 0 lo = 0 ∧ HT.sIx xs.length xs.length hi = xs.length) ∧ Q (.ref a) H
theorem sl_tupW {X : Cx} : SlR X rSlW := by
  intro pZ s σ H x v vl vu lo hi sl Q I rx hs pl pu h
  obtain ⟨a, xs, rfl, hx, hw, q⟩ := h
  cases rx
  obtain ⟨its, r, ht, hz⟩ := I.tuple (SqT.of (K := X.K) hx)
  have hlen : its.toArray.size = xs.length := by rw [List.size_toArray]; exact r.length.symm
  exact ⟨"tuple", _, PyProof.Rows.slot_tuple_getitem.lookup, ht.typeIs, getItem_tuple_whole ht hs pl pu (by rw [hlen]; exact hw) ⟨.ref a, H, I, rfl, q⟩⟩
noncomputable def rSlE (K : PySem.W.Frag) : V → Option Int → Option Int → Hp → VK → Prop := fun x lo hi H Q => rSlD K x lo hi H Q ∨ rSlW x lo hi H Q ∨ rSlS x lo hi H Q
theorem sl_E {X : Cx} : SlR X (rSlE X.K) := sl_D.or (sl_tupW.or sl_str)
noncomputable def slE : PV → Option Int → Option Int → M PV
  | .lst l, lo, hi => .ret (.lst (cutP l lo hi))
  | .tup l, lo, hi => .ret (.tup (cutP l lo hi))
  | .str z, lo, hi => if z.length ≤ 100000 then .ret (.str (Txt.slice z lo hi)) else .fail
  | _, _, _ => .fail
theorem sv_E {K : PySem.W.Frag} : SlV (rSlE K) slE := fun φ G O H n R Q y lo hi x pr dm ok r w q => by
  cases y <;> first | exact w.elim | skip
  · rename_i z
    rw [r.str_i]
    unfold slE at w
    dsimp only at w
    by_cases hc : z.length ≤ 100000
    · rw [if_pos hc] at w; exact .inr (.inr ⟨z, rfl, hc, q.sc ok (.str _) w⟩)
    · rw [if_neg hc] at w; exact w.elim
  · rename_i l
    obtain ⟨p, xs, rfl, h, e⟩ := r.tup_i
    replace w : R (.tup (cutP l lo hi)) n := w
    by_cases hc : HT.sIx l.length 0 lo = 0 ∧ HT.sIx l.length l.length hi = l.length
    · rw [cutP_whole l lo hi hc] at w
      cases r with
      | full r => exact .inr (.inl ⟨p, xs, rfl, h, by rw [← e.1]; exact hc, q.sc ok r w⟩)
    · exact .inl (.inr ⟨p, xs, rfl, SqT.of h, by rw [← e.1]; exact hc, fun p' hp => q.tup ok dm hp (pr _ G.pB) (cut_reps e lo hi) w⟩)
  · rename_i l
    obtain ⟨p, xs, rfl, h, e⟩ := r.lst_i
    exact .inl (.inl ⟨p, xs, rfl, SqL.of h, fun p' hp => q.lst ok dm hp (pr _ G.pB) (cut_reps e lo hi) w⟩)
section
variable {X : Cx} {st : Stmt}
noncomputable def parVO (i j : Nat) (ma : PEnv → M PV) (mb : PEnv → M (List PV)) : PEnv → M Fl := fun ρ => (ma ρ).bind fun y => (mb ρ).bind fun l => .ret (.nx ((ρ.set i (.val y)).set j (.own l)))
theorem sv_parVO {i j : Nat} {ma : PEnv → M PV} {mb : PEnv → M (List PV)} (h : BS X st (tPar i j (tCons (teP φ ma) (tCons (teF φ mb) tNil)))) : SV φ X st (parVO i j ma mb) := BS.mono h fun D σ H ⟨G, O0, H0, O, ρ, n, s, w⟩ => by
  unfold parVO at w
  rw [M.wZ] at w
  refine ⟨G, O, ρ, n, _, s.es, w, fun y x H1 n1 e1 ok1 r1 w1 => ?_⟩
  rw [M.wZ] at w1
  have s1 := s.to e1 ok1
  refine ⟨G, O, ρ, n1, _, s1.es, w1, fun l p xs H2 n2 e2 ok2 hp hp' r2 w2 => ?_⟩
  exact ⟨x, .ref p, rfl, w2 _ _ _ ((s1.setV i r1).setO j e2 ok2 hp hp' r2)⟩
end
end
section
variable {φ : Fam}
theorem for_at {K : PySem.W.Frag} {tI : TI} {bd : PV → PEnv → M PEnv} {mb : PEnv → M Fl} {G : Bg φ} {O0 O : Addr → Prop} {H0 H : Hp} {σ : St} {ρ : PEnv} {n : Nat} {D : Ends} {l : List PV} {J : It} (hI : ∀ Q : It → Hp → Prop, Q J H → tI σ H Q) (it : ItOf K G O true H l J) (s1 : SI G O0 H0 O H σ ρ n)
    (w1 : (forP bd mb l ρ).wp n (fun f n' => FlOk G O0 H0 D n' f)) : tFor tI (tgS φ bd) (tsP φ mb) D σ H := by
  refine hI _ ?_
  refine ⟨fun i m σ' H' => m = l.length - i ∧ i ≤ l.length ∧ ∃ (O' : Addr → Prop) (ρ' : PEnv) (n' : Nat), SI G O0 (hide O0 O H) O' H' σ' ρ' n' ∧ (forP bd mb (l.drop i) ρ').wp n' (fun f n' => FlOk G O0 H0 D n' f),
    ⟨l.length, by simp, Nat.zero_le _, O, ρ, n, s1.now, by simpa using w1⟩, ?_⟩
  rintro i m σ' H' ⟨rfl, hi, O', ρ', n', s', w'⟩
  have it' := s1.walk s' it
  by_cases hlt : i < l.length
  · have hget : l[i]? = some l[i] := List.getElem?_eq_getElem hlt
    have hdrop : l.drop i = l[i] :: l.drop (i + 1) := List.drop_eq_getElem_cons hlt
    rw [hdrop] at w'
    unfold forP at w'
    obtain ⟨g1, g2⟩ := it'.go hget
    refine .inr ⟨g1, fun σ2 H2 => ∃ (O' : Addr → Prop) (ρ' : PEnv) (n' : Nat), SI G O0 (hide O0 O H) O' H2 σ2 ρ' n' ∧ (forP bd mb (l.drop (i + 1)) ρ').wp n' (fun f n' => FlOk G O0 H0 D n' f), fun σ2 H2 hh => ⟨l.length - (i + 1), by omega, rfl, hlt, hh⟩, fun x H2 yl => ?_⟩
    obtain ⟨eH, rx⟩ := g2 x H2 yl
    subst eH
    rw [M.wZ] at w'
    refine ⟨G, O0, _, O', ρ', n', _, l[i], s', rx, w', fun σ2 ρ2 n2 s2 w2 => ?_⟩
    rw [M.wZ] at w2
    refine ⟨G, O0, _, O', ρ2, n2, s2, M.wp_mono w2 fun f n3 w3 => ?_⟩
    cases f with
    | nx ρ3 => exact fun O3 σ3 H3 s3 => ⟨O3, ρ3, n3, s3, w3⟩
    | ct ρ3 => exact fun O3 σ3 H3 s3 => ⟨O3, ρ3, n3, s3, w3⟩
    | bk ρ3 => exact fun O3 σ3 H3 s3 => w3 O3 σ3 H3 (s1.back s3)
    | rt y => exact fun x3 H3 e3 ok3 r3 => w3 x3 H3 (s1.base.trans e3) ok3 r3
  · have e : i = l.length := by omega
    subst e
    rw [List.drop_length] at w'
    exact .inl ⟨it'.stop, w' O' σ' H' (s1.back s')⟩
noncomputable def lenJ (a b : Int) (n : Nat) : Int := (fun j => if j > a then j else a) (if (n : Int) < b then (n : Int) else b)
noncomputable def iLen (K : PySem.W.Frag) (a b : Int) : TI := iRng1 (tCons (tCB (fun xs H Q => ∃ i j, xs = [.int i, .int j] ∧ Q (.int (if j > i then j else i)) H) (tCons (tC (.int a)) (tCons (tCB (fun xs H Q => ∃ i j, xs = [.int i, .int j] ∧ Q (.int (if j < i then j else i)) H) (tCons (tC (.int b)) (tCons (tCB (rLenD K) (tCons (tVar 0) tNil)) tNil))) tNil))) tNil)
theorem iLen_at {K : PySem.W.Frag} {a b : Int} {p : Addr} {ns : List Int} {σ : St} {H : Hp} {Q : It → Hp → Prop} (h0 : σ[0]? = some (some (.ref p))) (hS : SqL K H p (ns.map V.int)) (hr : -1000000 ≤ lenJ a b ns.length ∧ lenJ a b ns.length ≤ 1000000) (q : Q (Itr 0 (lenJ a b ns.length).toNat) H) : iLen K a b σ H Q := by
  have e62 : (2 : Int) ^ 62 = 4611686018427387904 := by decide
  refine ⟨.ref p, h0, .inl ⟨.ref p, ns.length, rfl, .inl ⟨_, hS, by simp⟩, ?_⟩⟩
  refine ⟨_, _, rfl, ?_⟩
  refine ⟨_, _, rfl, ?_⟩
  exact ⟨lenJ a b ns.length, rfl, by omega, by omega, q⟩
theorem law_ok2 {P : Program} {w : World} {K : PySem.W.Frag} {mg : Str → Option Value} {base : Heap} {x qual : Str} {st s0 s1 : Stmt} {f : Addr} {fd : FuncData} {N : List Str} {k b : Nat} {bd : PV → PEnv → M PEnv} {mb m' : PEnv → M Fl} {rest : List Stmt} {sc : Scope} {lo hi : Int} (F : Fun K x qual st f fd) (S : FnScope N ["_law_script"] (defScope st)) (eb : defBody st = s0 :: s1 :: rest) (es : defScope st = sc)
    (h0 : ∀ (cdv : Value) (A : Around) (outer : List Env) (s : Shared) (H : Hp) (E : XK), Room k (A.deeper (envOfC qual sc s.heap.objs.size f cdv)) → BS (cxOf CX0 P w K mg base N qual sc f cdv A outer s H E).nox s0 (tAsg (tCall (spBag K) [] E0 (tCons (tVar 0) tNil)) (gName b)))
    (h1' : ∀ (cdv : Value) (A : Around) (outer : List Env) (s : Shared) (H : Hp) (E : XK), Room k (A.deeper (envOfC qual sc s.heap.objs.size f cdv)) → BS (cxOf CX0 P w K mg base N qual sc f cdv A outer s H E).nox s1 (tFor (iLen K lo hi) (tgS (famBag K) bd) (tsP (famBag K) mb)))
    (hb : ∀ (cdv : Value) (A : Around) (outer : List Env) (s : Shared) (H : Hp) (E : XK), Room k (A.deeper (envOfC qual sc s.heap.objs.size f cdv)) → SsV (famBag K) (cxOf CX0 P w K mg base N qual sc f cdv A outer s H E).nox rest m')
    (hlo : 0 ≤ lo ∧ lo ≤ 1000000) (hhi : 0 ≤ hi ∧ hi ≤ 1000000)
    (hm : ∀ c : Nat, lo ≤ c → (c : Int) ≤ max lo hi → (seqP (forP bd mb (intsP 0 c)) m' ((List.replicate N.length un).set b (.val .bag))).wp 1000000 fun f _ => f = .rt (.bl true)) (h1 : 0 < N.length) (hb1 : b < N.length) (hb0 : b ≠ 0) :
    FnOk P w K mg base CX0 (k + 1) f fd ["_law_script"] (spLaw K) := by
  subst es
  refine F.ok S (fun vs H Q E h => by obtain ⟨a, ns, rfl, _⟩ := h; rfl) (fun cdv A outer s H vs Q E hr h => ?_)
  rw [eb]
  refine ⟨_, pss_cons (h0 cdv A outer s H E hr).out (pss_cons (h1' cdv A outer s H E hr).out (hb cdv A outer s H E hr).out), ?_⟩
  obtain ⟨a, ns, rfl, hS, h63, q⟩ := h
  refine ⟨.ref a, ?_, a, ns, rfl, hS, h63, fun b' c H' sm bag => ?_⟩
  · exact start_get (N := N) rfl
  · have hl : (start N [V.ref a]).length = N.length := by
      unfold start
      simp only [List.length_append, List.length_map, List.length_replicate, List.length_cons, List.length_nil]
      omega
    have no : ∀ i p, ¬ OwnAt ((List.replicate N.length un).set b (.val .bag)) ((start N [V.ref a]).set b (some (V.ref b'))) i p := fun i p hh => by
      obtain ⟨t, g1, g2, _⟩ := hh
      by_cases e : b = i
      · subst e
        rw [List.getElem?_set_self (by simpa using hb1)] at g1
        cases g1; cases g2
      · rw [List.getElem?_set_ne e, List.getElem?_replicate] at g1
        split at g1
        · cases g1; cases g2
        · cases g1
    have hs : SI (bagBg K b' c) (bagBg K b' c).priv H' (bagBg K b' c).priv H' ((start N [V.ref a]).set b (some (V.ref b'))) ((List.replicate N.length un).set b (.val .bag)) 1000000 := by
      refine ⟨⟨⟨by simp [hl], fun i e he => ?_⟩, ⟨0, by omega, bag⟩, fun p z => z, fun p z => (bagBg K b' c).dom H' 1000000 p ⟨0, by omega, bag⟩ z⟩, fun p z => z, fun p z => z, Ext.refl _ _, fun p z => .inl z, fun p z => (bagBg K b' c).dom H' 1000000 p ⟨0, by omega, bag⟩ z, fun i p hh => (no i p hh).elim, fun i j p hh => (no i p hh).elim⟩
      by_cases e1 : b = i
      · subst e1
        rw [List.getElem?_set_self (by simpa using hb1)] at he
        cases he
        rw [List.getElem?_set_self (by omega)]
        exact ⟨_, rfl, .bag⟩
      · rw [List.getElem?_set_ne e1, List.getElem?_replicate] at he
        split at he
        · cases he; trivial
        · cases he
    have hj : lo ≤ lenJ lo hi ns.length ∧ lenJ lo hi ns.length ≤ max lo hi := by
      unfold lenJ
      dsimp only
      split <;> split <;> omega
    have hw := hm (lenJ lo hi ns.length).toNat (by omega) (by omega)
    unfold seqP at hw
    rw [M.wZ] at hw
    refine for_at (K := K) (J := Itr 0 (lenJ lo hi ns.length).toNat) (l := intsP 0 (lenJ lo hi ns.length).toNat) (fun Q' hq => iLen_at (p := a) (ns := ns) ?_ (sm.seq hS) (by omega) hq) (.rng 0 _) hs (M.wp_mono hw fun f n' hf => ?_)
    · rw [List.getElem?_set_ne hb0]
      exact start_get (N := N) rfl
    · cases f with
      | nx ρ' => exact fun O' σ' H2 s' => ⟨_, _, _, O', ρ', n', s', M.wp_mono hf fun f n3 hf => by
          subst hf
          intro x' H2 _ _ r2
          cases r2
          exact q H2⟩
      | rt y =>
        replace hf : Fl.rt y = Fl.rt (.bl true) := hf
        cases hf
        intro x' H2 _ _ r2
        cases r2
        exact q H2
      | bk ρ' => replace hf : Fl.bk ρ' = Fl.rt (.bl true) := hf; cases hf
      | ct ρ' => replace hf : Fl.ct ρ' = Fl.rt (.bl true) := hf; cases hf
end
section
variable {φ : Fam}
section
variable {X : Cx} {st : Stmt}
noncomputable def parO0 (i j : Nat) (ma mb : PEnv → M (List PV)) : PEnv → M Fl := fun ρ => (ma ρ).bind fun y => (mb ρ).bind fun l => match l with | [] => .ret (.nx ((ρ.set i (.own y)).set j (.own []))) | _ => .fail
theorem sv_parO0 {i j : Nat} {ma mb : PEnv → M (List PV)} (h : BS X st (tPar i j (tCons (teF φ ma) (tCons (teF φ mb) tNil)))) : SV φ X st (parO0 i j ma mb) := BS.mono h fun D σ H ⟨G, O0, H0, O, ρ, n, s, w⟩ => by
  unfold parO0 at w
  rw [M.wZ] at w
  refine ⟨G, O, ρ, n, _, s.es, w, fun y p1 xs1 H1 n1 e1 ok1 hp1 hp1' r1 w1 => ?_⟩
  rw [M.wZ] at w1
  have s1 := s.to e1 ok1
  refine ⟨G, O, ρ, n1, _, s1.es, w1, fun l p xs H2 n2 e2 ok2 hp hp' r2 w2 => ?_⟩
  cases l with
  | cons a l => exact w2.elim
  | nil =>
    have ex := r2.nil_inv
    subst ex
    exact ⟨.ref p1, .ref p, rfl, w2 _ _ _ ((s.setO i e1 ok1 hp1 hp1' r1).setO j e2 ok2 hp hp' .nil)⟩
end
end
noncomputable def setO (P : Program) (w : World) (D : Addr) (S : Key → Bool) (n : Nat) : HO := .ext fun h => h.SetOf (mixKind P w) D S n
noncomputable def Ite (K : PySem.W.Frag) (a : Addr) : It :=
  ⟨fun i H => ∃ xs x, SqL K H a xs ∧ xs[i]? = some x, fun i H y H' => ∃ T, y = .ref T ∧ H T = none ∧ ∀ xs x, SqL K H a xs → xs[i]? = some x → H' = upd H T (.tup [.int i, x]), fun i H => ∃ xs, SqL K H a xs ∧ xs.length ≤ i⟩
noncomputable def Itz (a b : Addr) : It :=
  ⟨fun i H => ∃ xs ys x y, H a = some (.tup xs) ∧ H b = some (.tup ys) ∧ xs[i]? = some x ∧ ys[i]? = some y, fun i H r H' => ∃ T, r = .ref T ∧ H T = none ∧ ∀ xs ys x y, H a = some (.tup xs) → H b = some (.tup ys) → xs[i]? = some x → ys[i]? = some y → H' = upd H T (.tup [x, y]), fun i H => ∃ xs ys, H a = some (.tup xs) ∧ H b = some (.tup ys) ∧ (xs.length ≤ i ∨ ys.length ≤ i)⟩
section
variable {φ : Fam}
noncomputable def zipL (l1 l2 : List PV) : List PV := List.zipWith (fun x y => PV.tup [x, y]) l1 l2
inductive ItQ (G : Bg φ) (O : Addr → Prop) (H : Hp) : List PV → It → Prop where
  | zip {a b : Addr} {xs ys : List V} {l1 l2 : List PV} (na : ¬ O a) (ha : H a = some (.tup xs)) (ra : Reps G.B O H l1 xs) (nb : ¬ O b) (hb : H b = some (.tup ys)) (rb : Reps G.B O H l2 ys) : ItQ G O H (zipL l1 l2) (Itz a b)
end
section
variable {φ : Fam}
section
variable {X : Cx} {e : Expr}
def small3 (a b c : Int) : Prop := 0 < c ∧ c < 1000000000 ∧ -1000000000000 < a ∧ a < 1000000000000 ∧ -1000000000000 < b ∧ b < 1000000000000
end
end
section
variable {φ : Fam}
instance (a b c : Int) : Decidable (small3 a b c) := by unfold small3; infer_instance
end
theorem mul_small {i j : Int} (h0 : 0 ≤ j) (h1 : j < 2 ^ 63) : CMul i j := by
  have e : (2 : Int) ^ 63 = 9223372036854775808 := by decide
  have e2 : (2 : Int) ^ 64 = 18446744073709551616 := by decide
  rw [e] at h1
  exact .inr ⟨by rw [e2]; omega, by rw [e2]; omega⟩
theorem mul_smallL {i j : Int} (h0 : 0 ≤ i) (h1 : i < 2 ^ 63) : CMul i j := by
  have e : (2 : Int) ^ 63 = 9223372036854775808 := by decide
  have e2 : (2 : Int) ^ 64 = 18446744073709551616 := by decide
  rw [e] at h1
  exact .inl ⟨by rw [e2]; omega, by rw [e2]; omega⟩
theorem at0 (x : Int) (ns : List Int) : atI ((x :: ns).map V.int) 0 = some (.int x) := (atI_nat (j := 0) rfl : atI ((x :: ns).map V.int) ((0 : Nat) : Int) = some (.int x))
theorem ss_fail {φ : Fam} {X : Cx} {sts : List Stmt} : SsV φ X sts (fun _ => .fail) := ⟨fun pZ s σ H D I h => by
  obtain ⟨G, O0, H0, O, ρ, n, s', w⟩ := h
  exact w.elim⟩
mutual
def toD : PV → Option PyData
  | .non => some .none
  | .bl b => some (.bool b)
  | .int i => some (.int i)
  | .str x => some (.str x)
  | .tup l => (toDs l).map .tuple
  | .lst l => (toDs l).map .list
  | _ => none
def toDs : List PV → Option (List PyData)
  | [] => some []
  | y :: l => (toD y).bind fun d => (toDs l).map (d :: ·)
end
section
variable {X : Cx}
def showsD (d : PyData) : Prop := d.showable = true ∧ d.hasDict = false ∧ d.shown.length ≤ 1000000 ∧ d.depth ≤ 40
end
instance (d : PyData) : Decidable (showsD d) := by unfold showsD; infer_instance
noncomputable def meet (l : List Str) (z : Str) : List Str := if l.any (· == z) then l else l ++ [z]
noncomputable def met (zs : List Str) : List Str := zs.foldl meet []
section
variable {X : Cx} {φ : Fam} {e : Expr}
theorem reps_strs {B : Addr} {O : Addr → Prop} {H : Hp} (ys : List Str) : Reps B O H (ys.map PV.str) (ys.map V.str) := by
  refine ⟨by simp, fun i y x hy hx => ?_⟩
  rw [List.getElem?_map] at hy hx
  obtain ⟨z, hz, rfl⟩ := Option.map_eq_some_iff.mp hy
  rw [hz] at hx
  cases hx
  exact .str z
end
def Sml (c dp : Nat) (y : PV) : Prop := ∃ d : PyData, toD y = some d ∧ d.showable = true ∧ d.hasDict = false ∧ d.shown.length ≤ c ∧ d.depth ≤ dp
theorem sml_int {i : Int} (h : i.natAbs < 10 ^ 61) : Sml 62 0 (.int i) := by
  refine ⟨.int i, by simp only [toD], ?_, by simp only [PyData.hasDict], ?_, by simp only [PyData.depth]; omega⟩
  · simp only [PyData.showable, decide_eq_true_eq]
    by_cases z : i.natAbs = 0
    · rw [z]; decide
    · rw [Nat.log2_lt z]
      exact Nat.lt_of_lt_of_le h (by decide +kernel)
  · simp only [PyData.shown]
    have := int_text_length_le10 (k := 61) (by decide) h
    show (Str.ofString (toString i)).length ≤ 62
    rw [PySem.ofString_length]
    omega
theorem sml_str {x : Str} {k : Nat} (h : x.length ≤ k) (hc : ∀ c ∈ x.cps.toList, c < 16 ^ 8) : Sml (10 * k + 2) 0 (.str x) := by
  refine ⟨.str x, by simp only [toD], by simp only [PyData.showable], by simp only [PyData.hasDict], ?_, by simp only [PyData.depth]; omega⟩
  simp only [PyData.shown]
  have := PySem.StrLaws.reprText_len x hc
  omega
theorem join_le {c : Nat} : ∀ (ts : List Str), (∀ t ∈ ts, t.length ≤ c) → (Str.join ", " ts).length ≤ ts.length * (c + 2)
  | [], _ => by show (0 : Nat) ≤ _; omega
  | [x], h => by
    have := h x List.mem_cons_self
    show x.length ≤ 1 * (c + 2)
    omega
  | x :: y :: r, h => by
    have ih := join_le (y :: r) fun t ht => h t (List.mem_cons_of_mem _ ht)
    have hx := h x List.mem_cons_self
    show (x ++ ", " ++ Str.join ", " (y :: r)).length ≤ _
    have e2 : ((", " : String) : Str).length = 2 := rfl
    rw [strLen_append, strLen_append, e2, List.length_cons, Nat.succ_mul]
    omega
theorem eqs_self {f : PV → PV → Option Bool} : ∀ (l : List PV), (∀ z ∈ l, f z z = some true) → eqs f l l = some true
  | [], _ => rfl
  | y :: l, h => by
    simp only [eqs, h y List.mem_cons_self, eqs_self l fun z hz => h z (List.mem_cons_of_mem _ hz), Option.bind_some, Bool.and_self]
end L2
namespace HT
open L2
open L2.Ent (val un)
end HT
namespace L2
open Ent (val un)
section
open AutoSeq1 (wpAny_loadPart')
noncomputable def IteT (K : PySem.W.Frag) (a : Addr) : It :=
  ⟨fun i H => ∃ xs x, SqT K H a xs ∧ xs[i]? = some x, fun i H y H' => ∃ T, y = .ref T ∧ H T = none ∧ ∀ xs x, SqT K H a xs → xs[i]? = some x → H' = upd H T (.tup [.int i, x]), fun i H => ∃ xs, SqT K H a xs ∧ xs.length ≤ i⟩
end
noncomputable def ItzL (a b : Addr) : It :=
  ⟨fun i H => ∃ xs ys x y, H a = some (.lst xs) ∧ H b = some (.lst ys) ∧ xs[i]? = some x ∧ ys[i]? = some y, fun i H r H' => ∃ T, r = .ref T ∧ H T = none ∧ ∀ xs ys x y, H a = some (.lst xs) → H b = some (.lst ys) → xs[i]? = some x → ys[i]? = some y → H' = upd H T (.tup [x, y]), fun i H => ∃ xs ys, H a = some (.lst xs) ∧ H b = some (.lst ys) ∧ (xs.length ≤ i ∨ ys.length ≤ i)⟩
abbrev lit (a : Addr) : Obj := { cls := .type "list_iterator", data := .fields #[.ref a, .int 0 0] }
section
variable {φ : Fam}
noncomputable def enumL (l : List PV) : List PV := l.mapIdx fun i x => PV.tup [.int i, x]
inductive ItE (K : PySem.W.Frag) (G : Bg φ) (O : Addr → Prop) (H : Hp) : List PV → It → Prop where
  | enL {a : Addr} {xs : List V} {l : List PV} (na : ¬ O a) (ha : H a = some (.lst xs)) (ra : Reps G.B O H l xs) : ItE K G O H (enumL l) (Ite K a)
  | enT {a : Addr} {xs : List V} {l : List PV} (na : ¬ O a) (ha : H a = some (.tup xs)) (ra : Reps G.B O H l xs) : ItE K G O H (enumL l) (IteT K a)
  | zpL {a b : Addr} {xs ys : List V} {l1 l2 : List PV} (na : ¬ O a) (ha : H a = some (.lst xs)) (ra : Reps G.B O H l1 xs) (nb : ¬ O b) (hb : H b = some (.lst ys)) (rb : Reps G.B O H l2 ys) : ItE K G O H (zipL l1 l2) (ItzL a b)
end
section
variable {φ : Fam}
section
variable {X : Cx}
theorem a1 {e0 : Expr} {m0 : PEnv → M PV} (h0 : EV φ X e0 m0) (s0 : isStar e0 = false := by rfl) : AV φ X [e0] (consA m0 (fun _ => .ret [])) := av_cons h0 (av_nil) s0
theorem a2 {e0 : Expr} {e1 : Expr} {m0 : PEnv → M PV} {m1 : PEnv → M PV} (h0 : EV φ X e0 m0) (h1 : EV φ X e1 m1) (s0 : isStar e0 = false := by rfl) (s1 : isStar e1 = false := by rfl) : AV φ X [e0, e1] (consA m0 (consA m1 (fun _ => .ret []))) := av_cons h0 (av_cons h1 (av_nil) s1) s0
theorem a3 {e0 : Expr} {e1 : Expr} {e2 : Expr} {m0 : PEnv → M PV} {m1 : PEnv → M PV} {m2 : PEnv → M PV} (h0 : EV φ X e0 m0) (h1 : EV φ X e1 m1) (h2 : EV φ X e2 m2) (s0 : isStar e0 = false := by rfl) (s1 : isStar e1 = false := by rfl) (s2 : isStar e2 = false := by rfl) : AV φ X [e0, e1, e2] (consA m0 (consA m1 (consA m2 (fun _ => .ret [])))) := av_cons h0 (av_cons h1 (av_cons h2 (av_nil) s2) s1) s0
theorem a4 {e0 : Expr} {e1 : Expr} {e2 : Expr} {e3 : Expr} {m0 : PEnv → M PV} {m1 : PEnv → M PV} {m2 : PEnv → M PV} {m3 : PEnv → M PV} (h0 : EV φ X e0 m0) (h1 : EV φ X e1 m1) (h2 : EV φ X e2 m2) (h3 : EV φ X e3 m3) (s0 : isStar e0 = false := by rfl) (s1 : isStar e1 = false := by rfl) (s2 : isStar e2 = false := by rfl) (s3 : isStar e3 = false := by rfl) : AV φ X [e0, e1, e2, e3] (consA m0 (consA m1 (consA m2 (consA m3 (fun _ => .ret []))))) := av_cons h0 (av_cons h1 (av_cons h2 (av_cons h3 (av_nil) s3) s2) s1) s0
end
structure CalT (K : PySem.W.Frag) (mg : Str → Option Value) (x : Str) (st : Stmt) (a : Addr) (d : FuncData) (ps : List Str) : Prop where
  F : Fun K x x st a d
  m : mg x = some (.ref a)
  b : Binds K d ps []
theorem ec {X : Cx} {x : Str} {p pos : Pos} {e : Expr} {es : List Expr} {st : Stmt} {k k' : Nat} {f : Addr} {fd : FuncData} {ps : List Str} {Fm : List PV → M PV} {ml : PEnv → M (List PV)} (G : FnOk X.prog X.w X.K X.mg X.base CX0 k f fd ps (spP φ Fm)) (c : CalT X.K X.mg x st f fd ps) (hr : Room k' X.A) (ha : AV φ X (e :: es) ml) (hk : k ≤ k' := by decide) (hg : Gl X x := by rfl) (hdb : (x == ("__debug__" : Str)) = false := by decide)
    (he : starEach (e :: es) X.env = (false, eval e X.env) :: starEach es X.env := by rfl) (hpl : (backTo pos (starEach es X.env)).any (·.1) = false := by rfl) : EV φ X (.Call (.Name x p) (e :: es) [] pos) (fun ρ => (ml ρ).bind Fm) := ev_call (be_call G (hr.mono hk) hg c.m c.F.kp c.b .nil pass0 ha hdb he hpl)
end
end L2
section
open PySem PySem.Spec PyProof.Rows
namespace L2
end L2
namespace L2
end L2
end
namespace L2
open Ent (val un)
end L2
section
open PySem PySem.Spec PyProof.Rows
namespace L2
theorem gV0 (y : PV) (ρ : PEnv) : getV (.val y :: ρ) 0 = .ret y := rfl
theorem gVs (e : Ent) (ρ : PEnv) (i : Nat) : getV (e :: ρ) (i + 1) = getV ρ i := rfl
theorem gB0 (y : PV) (ρ : PEnv) : getB (.val y :: ρ) 0 = .ret y := rfl
theorem gB0o (l : List PV) (ρ : PEnv) : getB (.own l :: ρ) 0 = .ret (.lst l) := rfl
theorem gBs (e : Ent) (ρ : PEnv) (i : Nat) : getB (e :: ρ) (i + 1) = getB ρ i := rfl
theorem seq_nx {m k : PEnv → M Fl} {ρ ρ' : PEnv} {Y : M PV} (h : m ρ = .ret (.nx ρ')) (h' : (k ρ').bind finP = Y) : (seqP m k ρ).bind finP = Y := by unfold seqP; rw [h]; exact h'
theorem seq_rt {m k : PEnv → M Fl} {ρ : PEnv} {y : PV} (h : m ρ = .ret (.rt y)) : (seqP m k ρ).bind finP = .ret y := by unfold seqP; rw [h]; rfl
theorem if_f {c : PEnv → M Bool} {a b : PEnv → M Fl} {ρ : PEnv} (h : c ρ = .ret false) : ifP c a b ρ = b ρ := by unfold ifP; rw [h]; rfl
theorem if_t {c : PEnv → M Bool} {a b : PEnv → M Fl} {ρ : PEnv} (h : c ρ = .ret true) : ifP c a b ρ = a ρ := by unfold ifP; rw [h]; rfl
theorem ret_y {m : PEnv → M PV} {ρ : PEnv} {y : PV} (h : m (ρ.map Ent.freeze) = .ret y) : retP m ρ = .ret (.rt y) := by unfold retP; rw [h]; rfl
theorem fin_y {m : PEnv → M Fl} {ρ : PEnv} {y : PV} (h : m ρ = .ret (.rt y)) : (m ρ).bind finP = .ret y := by rw [h]; rfl
theorem gseqF {m k : PEnv → M Fl} {ρ : PEnv} {c d : Nat} {I : PEnv → Prop} {Pr : PV → Prop} (h : Gen (m ρ) c fun f => ∃ ρ', f = .nx ρ' ∧ I ρ') (h' : ∀ ρ', I ρ' → Gen ((k ρ').bind finP) d Pr) : Gen ((seqP m k ρ).bind finP) (c + d) Pr := by
  unfold seqP
  rw [M.bZ]
  refine Gen.bind h fun f hf => ?_
  obtain ⟨ρ', rfl, hi⟩ := hf
  exact h' ρ' hi
theorem gseq {m k : PEnv → M Fl} {ρ : PEnv} {c d : Nat} {I : PEnv → Prop} {Pr : Fl → Prop} (h : Gen (m ρ) c fun f => ∃ ρ', f = .nx ρ' ∧ I ρ') (h' : ∀ ρ', I ρ' → Gen (k ρ') d Pr) : Gen (seqP m k ρ) (c + d) Pr := by
  unfold seqP
  refine Gen.bind h fun f hf => ?_
  obtain ⟨ρ', rfl, hi⟩ := hf
  exact h' ρ' hi
theorem gn {m k : PEnv → M Fl} {ρ ρ' : PEnv} {d : Nat} {Pr : Fl → Prop} (h : m ρ = .ret (.nx ρ')) (h' : Gen (k ρ') d Pr) : Gen (seqP m k ρ) d Pr := by unfold seqP; rw [h]; exact h'
theorem gnx {m : PEnv → M Fl} {ρ ρ' : PEnv} {I : PEnv → Prop} (h : m ρ = .ret (.nx ρ')) (hi : I ρ') : Gen (m ρ) 0 fun f => ∃ ρ', f = .nx ρ' ∧ I ρ' := Gen.eq h ⟨ρ', rfl, hi⟩
theorem forN {k : Nat} {mb : PEnv → M Fl} {c : Nat} {Iv : Nat → PEnv → Prop} : ∀ (l : List PV) (i : Nat) (ρ : PEnv), Iv i ρ → (∀ y ∈ l, ∀ j < i + l.length, ∀ ρ, Iv j ρ → Gen (mb (ρ.set k (.val y))) c fun f => ∃ ρ', f = .nx ρ' ∧ Iv (j + 1) ρ') → Gen (forP (bindN k) mb l ρ) (l.length * c) fun f => ∃ ρ', f = .nx ρ' ∧ Iv (i + l.length) ρ'
  | [], i, ρ, h, _ => Gen.le (Gen.ret ⟨ρ, rfl, h⟩) (by simp)
  | y :: l, i, ρ, h, hb => by
    unfold forP
    simp only [bindN, rZ]
    refine Gen.le (Gen.bind (hb y List.mem_cons_self i (by simp) ρ h) fun f hf => ?_) (d := (y :: l).length * c) (Nat.le_of_eq (?_ : c + l.length * c = _))
    · obtain ⟨ρ', rfl, h'⟩ := hf
      have q := forN l (i + 1) ρ' h' fun y' hy j hj => hb y' (List.mem_cons_of_mem _ hy) j (by simp only [List.length_cons]; omega)
      rw [show i + (y :: l).length = i + 1 + l.length by simp only [List.length_cons]; omega]
      exact q
    · simp only [List.length_cons, Nat.succ_mul]; omega
theorem atI_in {α : Type} {l : List α} {d : Int} (h0 : 0 ≤ d) (h1 : d < l.length) : ∃ y ∈ l, atI l d = some y := by
  have hd : d.toNat < l.length := by omega
  have e : d = ((d.toNat : Nat) : Int) := by omega
  refine ⟨l[d.toNat], List.getElem_mem hd, ?_⟩
  have q := atI_nat (List.getElem?_eq_getElem hd)
  rw [← e] at q
  exact q
theorem fdivI {i j : Int} (h0 : 0 < j) (h1 : j < 1073741824) : fdivO (.int i) (.int j) = .ret (.int (i / j)) := by
  unfold fdivO numO
  dsimp only
  rw [if_pos (show CDiv i j from ⟨h0, h1⟩)]
theorem mulI {a b : Int} (h0 : -1000000000000 < a) (h1 : a < 1000000000000) : mulE (.int a) (.int b) = .ret (.int (a * b)) := by
  unfold mulE mulO
  dsimp only
  have e : (2 : Int) ^ 64 = 18446744073709551616 := by decide
  rw [if_pos (.inl ⟨by omega, by omega⟩)]
theorem ltI (i j : Int) : ltO (.int i) (.int j) = .ret (.bl (decide (i < j))) := rfl
theorem gtI (i j : Int) : gtO (.int i) (.int j) = .ret (.bl (decide (i > j))) := rfl
theorem eqI (b : Bool) (i j : Int) : eqO b (.int i) (.int j) = .ret (.bl (xor b (i == j))) := by
  unfold eqO
  simp [eqP, flatP, toV, eqV, M.ofO, flatV]
theorem eqS (b : Bool) (i j : Str) : eqO b (.str i) (.str j) = .ret (.bl (xor b (i == j))) := by
  unfold eqO
  simp [eqP, flatP, toV, eqV, M.ofO, flatV]
noncomputable def inN (zs : List Str) (x : Str) : Bool := zs.any fun z => z == x
theorem inN_iff {zs : List Str} {x : Str} : inN zs x = true ↔ x ∈ zs := by
  unfold inN
  rw [List.any_eq_true]
  constructor
  · rintro ⟨z, hz, e⟩; rw [← eq_of_beq e]; exact hz
  · intro h; exact ⟨x, h, beq_self_eq_true x⟩
theorem flat_strs (zs : List Str) : (zs.map PV.str).all flatP = true := by
  rw [List.all_eq_true]
  intro y hy
  obtain ⟨z, _, rfl⟩ := List.mem_map.mp hy
  rfl
theorem in_names (x : Str) (zs : List Str) (b : Bool) : inO b (.str x) (.lst (zs.map PV.str)) = .ret (.bl (xor b (inN zs x))) := by
  have e : memF (.str x) (zs.map PV.str) = inN zs x := by
    unfold memF inN
    rw [List.any_map]
    rfl
  unfold inO
  dsimp only
  rw [flat_strs, e]
  simp [flatP, toV, flatV]
theorem ones_len : ∀ (ys : List Str), (∀ z ∈ ys, z.length = 1) → (ys.map (·.length)).sum = ys.length
  | [], _ => rfl
  | y :: r, h => by
    have := ones_len r fun z hz => h z (List.mem_cons_of_mem _ hz)
    rw [List.map_cons, List.sum_cons, this, h y List.mem_cons_self, List.length_cons]
    omega
def One (y : PV) : Prop := ∃ c : Nat, y = .str ⟨#[c]⟩
theorem strs_one : ∀ (l : List PV), (∀ y ∈ l, One y) → ∃ ys, strsOf l = some ys ∧ ys.length = l.length ∧ ∀ z ∈ ys, z.length = 1
  | [], _ => ⟨[], rfl, rfl, fun z hz => by simp at hz⟩
  | y :: l, h => by
    obtain ⟨ys, e1, e2, e3⟩ := strs_one l fun y hy => h y (List.mem_cons_of_mem _ hy)
    obtain ⟨c, rfl⟩ := h y List.mem_cons_self
    exact ⟨⟨#[c]⟩ :: ys, by simp [strsOf, e1], by simp [e2], fun u hu => by
      rcases List.mem_cons.mp hu with rfl | hu
      · rfl
      · exact e3 u hu⟩
theorem abc_at (d : Int) (h0 : 0 ≤ d) (h1 : d < 26) : atI (Str.ofString "abcdefghijklmnopqrstuvwxyz").cps.toList d = some (97 + d.toNat) := by
  have e : ∀ k : Fin 26, atI (Str.ofString "abcdefghijklmnopqrstuvwxyz").cps.toList ((k.val : Nat) : Int) = some (97 + k.val) := by decide +kernel
  have := e ⟨d.toNat, by omega⟩
  simp only at this
  rw [show ((d.toNat : Nat) : Int) = d by omega] at this
  exact this
theorem abc_ix (d : Int) (h0 : 0 ≤ d) (h1 : d < 26) : ixO (.str "abcdefghijklmnopqrstuvwxyz") (.int d) = .ret (.str ⟨#[97 + d.toNat]⟩) := by
  have hz : (Str.ofString "abcdefghijklmnopqrstuvwxyz").length ≤ 100000 := by decide +kernel
  simp [ixO, abc_at d h0 h1, M.ofO, hz]
end L2
namespace L2
theorem lc_at {js : List (Option Nat)} {mi : PEnv → M (List PV)} {bd : PV → PEnv → M PEnv} {tt : PEnv → M Bool} {te : PEnv → M PV} {ρ : PEnv} {l : List PV} (h : mi ρ = .ret l) (hl : l.length ≤ 100000) : mkLC js mi bd tt te ρ = lcM bd tt te l (capP js ρ) := by
  unfold mkLC
  rw [h, rZ, if_pos hl]
theorem con1 {m : PEnv → M PV} {ρ : PEnv} : consA m (fun _ => M.ret []) ρ = (m ρ).bind fun y => .ret [y] := rfl
end L2
namespace L2
structure Pw where
  nm : Str
  kd : Str
  s : Str
  e : Str
  a : Int
  b : Int
structure PwOk (w : Pw) : Prop where
  a0 : 0 ≤ w.a
  a1 : w.a ≤ 1000000
  b0 : 0 ≤ w.b
  b1 : w.b ≤ 1000000
structure HillOk (ws : List Pw) (h : Str) (d : Int) : Prop where
  l0 : 1 ≤ ws.length
  l1 : ws.length ≤ 12
  ok : ∀ w ∈ ws, PwOk w
  nd : (ws.map (·.nm)).Nodup
  d0 : 1 ≤ d
  d1 : d ≤ 1000000
theorem lenT (l : List PV) : lenO [.tup l] = .ret (.int l.length) := rfl
end L2
namespace L2
theorem mkL0 : mkLst [] = .ret [] := by simp [mkLst]
theorem mkT0 : mkTup [] = .ret (.tup []) := by simp [mkTup]
theorem mkT1 (a : PV) : mkTup [a] = .ret (.tup [a]) := by simp [mkTup]
theorem mkT2 (a b : PV) : mkTup [a, b] = .ret (.tup [a, b]) := by simp [mkTup]
theorem mkL3 (a b c : PV) : mkLst [a, b, c] = .ret [a, b, c] := by simp [mkLst]
theorem mkT3 (a b c : PV) : mkTup [a, b, c] = .ret (.tup [a, b, c]) := by simp [mkTup]
theorem mkL4 (a b c d : PV) : mkLst [a, b, c, d] = .ret [a, b, c, d] := by simp [mkLst]
theorem mkT4 (a b c d : PV) : mkTup [a, b, c, d] = .ret (.tup [a, b, c, d]) := by simp [mkTup]
theorem mkT5 (a b c d e : PV) : mkTup [a, b, c, d, e] = .ret (.tup [a, b, c, d, e]) := by simp [mkTup]
end L2
namespace L2
end L2
end
section
open PySem PySem.Spec PyProof.Rows
namespace L2
open Erl (Ed Tb look put rel rnd iter Good)
structure Ce where
  q : Str
  v : Int
  o : Option (Str × Int × Str)
noncomputable def tb (es : List Ce) : Tb Str := es.map fun c => (c.q, c.v)
end L2
namespace L2
end L2
namespace L2
end L2
namespace L2
open Erl (Ed Tb look put rel rnd iter Good)
end L2
namespace L2
theorem lc_as {js : List (Option Nat)} {mi : PEnv → M (List PV)} {bd : PV → PEnv → M PEnv} {tt : PEnv → M Bool} {te : PEnv → M PV} {ρ : PEnv} {l : List PV} (ρ' : PEnv) (h : mi ρ = .ret l) (hl : l.length ≤ 100000) (hc : capP js ρ = ρ') : mkLC js mi bd tt te ρ = lcM bd tt te l ρ' := by rw [lc_at h hl, hc]
end L2
end
section
open PySem PySem.Spec PyProof.Rows
namespace L2
noncomputable def inW (l : List (Int × Int)) (t : Int) : Bool := l.any fun p => decide (p.1 ≤ t) && decide (t < p.2)
structure Pg where
  n : Int
  m : Int
  w : Str
  r : Option (Int × Int)
end L2
namespace L2
end L2
namespace L2
end L2
namespace L2
end L2
namespace L2
end L2
namespace L2
theorem as_b {f : PEnv → M PV} {ρ : PEnv} {b : Bool} (h : f ρ = .ret (.bl b)) : asB f ρ = .ret b := by unfold asB; rw [h]; rfl
theorem call1 {α : Type} {f : PEnv → M PV} {F : List PV → M α} {ρ : PEnv} {y : PV} (h : f ρ = .ret y) : ((consA f (fun _ => M.ret [])) ρ).bind F = F [y] := by rw [con1, h]; rfl
theorem lst_r {m : PEnv → M (List PV)} {ρ : PEnv} {l : List PV} (h : m ρ = .ret l) : lstV m ρ = .ret (.lst l) := by unfold lstV; rw [h]; rfl
end L2
end
namespace L2
open Ent (val un)
end L2
section
open PySem PySem.Spec PyProof.Rows
namespace Erl
section
variable {α : Type} [DecidableEq α]
noncomputable def chg (d : Ed α) (l : Tb α) : Bool := match look l d.s with
  | none => false
  | some u => match d.f u with
    | none => false
    | some v => match look l d.e with
      | none => true
      | some w => decide (v < w)
noncomputable def rndB (E : List (Ed α)) (l : Tb α) : Tb α × Bool := E.foldl (fun x d => (rel d x.1, x.2 || chg d x.1)) (l, false)
end
end Erl
namespace L2
open Erl (Ed Tb look put rel rnd iter Good chg rndB)
end L2
end
namespace L2
open Ent (val un)
end L2
section
open PySem PySem.Spec PyProof.Rows
namespace L2
end L2
namespace L2
variable {φ : Fam}
end L2
end
namespace L2
open Ent (val un)
section
variable {φ : Fam}
noncomputable def cuts (z c : Str) : List Nat := Builtin.Str.occurrences z c 0 z.length (z.length + 1)
noncomputable def splitP (z c : Str) : List Str := if (decide (z.length < c.length) || decide (Builtin.Str.strKind z < Builtin.Str.strKind c)) = true ∨ (cuts z c).isEmpty = true then [z] else Builtin.Str.partsBetween z (cuts z c) c.length
theorem vals_from : ∀ (ys : List Str) (k : Nat), Vals (ys.map V.str) (PySem.strsFrom k ys)
  | [], k => .nil
  | y :: ys, k => .cons ⟨_, rfl⟩ (vals_from ys (k + 1))
section
variable {X : Cx}
noncomputable def rSplit : V → List V → Hp → VK → Prop := fun x xs H Q => ∃ (z c : Str), x = .str z ∧ xs = [.str c] ∧ c.length ≠ 0 ∧ z.length ≤ 100000 ∧ (splitP z c).length ≤ 100000 ∧ ∀ p, H p = none → Q (.ref p) (upd H p (.lst ((splitP z c).map V.str)))
theorem mt_split : MtR X "str.split" rSplit := by
  intro pZ s σ H x xs v us Q I rx rv h
  obtain ⟨z, c, rfl, rfl, hc, hz, hp, q⟩ := h
  obtain ⟨t, rfl⟩ := rx
  obtain ⟨u, rfl, t', rfl⟩ := vals1 rv
  have hb : (c.length == 0) = false := by simpa using hc
  have hzl : z.length ≤ sizeLine := Nat.le_trans hz big_le
  by_cases c1 : (decide (z.length < c.length) || decide (Builtin.Str.strKind z < Builtin.Str.strKind c)) = true
  · have es : splitP z c = [z] := if_pos (.inl c1)
    rw [es] at q
    refine PySem.call_meets F.slot_str_split (typeIs_str s z t) F.entry_str_split (F.args_str_split_2 _ _) (PySem.meets_str_split_cannot_occur z c t t' c1) ?_
    exact ⟨.ref s.heap.objs.size, _, I.lnew (t' := s.toks) (ys := [.str z]) (its := [.str z t]) (.cons ⟨t, rfl⟩ .nil) (by show 1 ≤ sizeLine; rw [sizeLine_eq]; omega), rfl, q _ I.fresh⟩
  · have c1' : (decide (z.length < c.length) || decide (Builtin.Str.strKind z < Builtin.Str.strKind c)) = false := by simpa using c1
    by_cases c2 : (cuts z c).isEmpty = true
    · have es : splitP z c = [z] := if_pos (.inr c2)
      rw [es] at q
      refine PySem.call_meets F.slot_str_split (typeIs_str s z t) F.entry_str_split (F.args_str_split_2 _ _) (PySem.meets_str_split_not_found z c t t' c1' hb c2) ?_
      exact ⟨.ref s.heap.objs.size, _, I.lnew (t' := s.toks) (ys := [.str z]) (its := [.str z t]) (.cons ⟨t, rfl⟩ .nil) (by show 1 ≤ sizeLine; rw [sizeLine_eq]; omega), rfl, q _ I.fresh⟩
    · have es : splitP z c = Builtin.Str.partsBetween z (cuts z c) c.length := if_neg (by rintro (h | h); exact c1 h; exact c2 h)
      rw [es] at q hp
      refine PySem.call_meets F.slot_str_split (typeIs_str s z t) F.entry_str_split (F.args_str_split_2 _ _) (PySem.meets_str_split_sep z c t t' c1' hb (by simpa [cuts] using c2) hzl (Nat.le_trans hp big_le)) ?_
      exact ⟨.ref s.heap.objs.size, _, I.lnew (ys := (Builtin.Str.partsBetween z (cuts z c) c.length).map V.str) (vals_from _ _) (by rw [List.length_map]; exact Nat.le_trans hp big_le), rfl, q _ I.fresh⟩
noncomputable def rStarts : V → List V → Hp → VK → Prop := fun x xs H Q => ∃ (z c : Str), x = .str z ∧ xs = [.str c] ∧ Q (.bl (decide (0 + c.length ≤ z.length) && Builtin.Str.subAt z c 0)) H
theorem mt_starts : MtR X "str.startswith" rStarts := by
  intro pZ s σ H x xs v us Q I rx rv h
  obtain ⟨z, c, rfl, rfl, q⟩ := h
  obtain ⟨t, rfl⟩ := rx
  obtain ⟨u, rfl, t', rfl⟩ := vals1 rv
  exact PySem.call_gives F.slot_str_startswith (typeIs_str s z t) F.entry_str_startswith (F.args_str_startswith_2 _ _) (PySem.gives_str_startswith z c t t') ⟨.bl _, H, I, rfl, q⟩
noncomputable def rIntT : List V → Hp → VK → Prop := fun xs H Q => ∃ (z : Str) (n : Int), xs = [.str z] ∧ intText? z = some n ∧ z.length ≤ 640 ∧ Q (.int n) H
theorem call_intT : CallR X (.type "int") rIntT := by
  intro pZ s σ H xs us Q I r h
  obtain ⟨z, n, rfl, e, hz, q⟩ := h
  obtain ⟨u, rfl, t, rfl⟩ := vals1 r
  exact PySem.W.KIN.call_text e hz ⟨.int n, H, I.tok _, ⟨_, rfl⟩, q⟩
noncomputable def rStrA : List V → Hp → VK → Prop := fun xs H Q => (∃ i : Int, xs = [.int i] ∧ i.natAbs.log2 < 1920 ∧ Q (.str (Str.ofString (toString i))) H) ∨ ∃ z : Str, xs = [.str z] ∧ Q (.str z) H
theorem call_strA : CallR X (.type "str") rStrA := by
  intro pZ s σ H xs us Q I r h
  rcases h with ⟨i, rfl, hb, q⟩ | ⟨z, rfl, q⟩
  · obtain ⟨u, rfl, t, rfl⟩ := vals1 r
    exact P.str_of_int hb ⟨.str (Str.ofString (toString i)), H, I.tok _, ⟨_, rfl⟩, q⟩
  · obtain ⟨u, rfl, t, rfl⟩ := vals1 r
    exact P.str_of_str ⟨.str z, H, I, ⟨_, rfl⟩, q⟩
end
noncomputable def strA : List PV → M PV
  | [.int i] => if i.natAbs < 10 ^ 61 then .ret (.str (Str.ofString (toString i))) else .fail
  | [.str z] => .ret (.str z)
  | _ => .fail
theorem log61 {n : Nat} (h : n < 10 ^ 61) : n.log2 < 1920 := by
  by_cases z : n = 0
  · rw [z]; decide
  · exact (Nat.log2_lt z).mpr (Nat.lt_of_lt_of_le h (by decide +kernel))
theorem cv_strA : CallV rStrA strA := fun φ G O H n R Q l xs pr dm ok r w q => by
  match l, r, w with
  | [.int i], r, w =>
    obtain ⟨x, ex, r1⟩ := r.one; subst ex; clear r; have r := r1; clear r1
    simp only [strA] at w
    by_cases c : i.natAbs < 10 ^ 61
    · rw [if_pos c] at w
      rw [r.int_i]
      exact .inl ⟨i, rfl, log61 c, q.sc ok (.str _) w⟩
    · rw [if_neg c] at w; exact w.elim
  | [.str z], r, w =>
    obtain ⟨x, ex, r1⟩ := r.one; subst ex; clear r; have r := r1; clear r1
    rw [r.str_i]
    exact .inr ⟨z, rfl, q.sc ok (.str _) w⟩
noncomputable def intT : List PV → M PV
  | [.str z] => if z.length ≤ 640 then (M.ofO (intText? z)).bind fun n => .ret (.int n) else .fail
  | _ => .fail
theorem cv_intT : CallV rIntT intT := fun φ G O H n R Q l xs pr dm ok r w q => by
  match l, r, w with
  | [.str z], r, w =>
    obtain ⟨x, ex, r1⟩ := r.one; subst ex; clear r; have r := r1; clear r1
    simp only [intT] at w
    by_cases c : z.length ≤ 640
    · rw [if_pos c] at w
      cases e : intText? z with
      | none => rw [e] at w; exact w.elim
      | some i =>
        rw [e] at w
        rw [r.str_i]
        exact ⟨z, i, rfl, e, c, q.sc ok (.int _) w⟩
    · rw [if_neg c] at w; exact w.elim
noncomputable def startsO : PV → List PV → M PV
  | .str z, [.str c] => .ret (.bl (decide (0 + c.length ≤ z.length) && Builtin.Str.subAt z c 0))
  | _, _ => .fail
theorem mv_starts {K : PySem.W.Frag} : MtV K "str" rStarts startsO := fun φ G O H0 H n R Q y x l xs pr dm ok r1 r2 w q => by
  match y, l, r1, r2, w with
  | .str z, [.str c], r1, r2, w =>
    rw [r1.str_i]
    obtain ⟨x2, ex, r3⟩ := r2.one
    subst ex
    rw [r3.str_i]
    exact ⟨z, c, rfl, rfl, q.sc ok (.bl _) w⟩
noncomputable def splitO : PV → List PV → M (List PV)
  | .str z, [.str c] => if c.length ≠ 0 ∧ z.length ≤ 100000 ∧ (splitP z c).length ≤ 100000 then .ret ((splitP z c).map PV.str) else .fail
  | _, _ => .fail
section
variable {X : Cx} {e : Expr}
noncomputable def spM (mo : PEnv → M PV) (ml : PEnv → M (List PV)) : PEnv → M (List PV) := fun ρ => (mo ρ).bind fun y => if tyP y = "str" then (ml ρ).bind fun l => splitO y l else .fail
theorem ef_split {mo : PEnv → M PV} {ml : PEnv → M (List PV)} (h : BE X e (tBM X.K "str" rSplit (teB φ mo) (taB φ ml))) : EF φ X e (spM mo ml) := BE.mono h fun σ H Q ⟨G, O, ρ, n, R, s, w, q⟩ => by
  unfold spM at w
  rw [M.wZ] at w
  refine ⟨G, O, ρ, n, _, s, w, fun y x H1 n1 e1 ok1 r1 w1 => ?_⟩
  by_cases hc : tyP y = "str"
  · rw [if_pos hc] at w1
    obtain ⟨z, rfl⟩ : ∃ z, y = PV.str z := by cases y <;> first | exact ⟨_, rfl⟩ | (exact absurd hc (by simp [tyP]))
    rw [r1.str_i]
    refine ⟨rfl, ?_⟩
    rw [M.wZ] at w1
    refine ⟨G, O, ρ, n1, _, s.ext e1 ok1, w1, fun l xs H2 n2 e2 ok2 r2 w2 => ?_⟩
    match l, r2, w2 with
    | [.str c], r2, w2 =>
      obtain ⟨x2, ex, r3⟩ := r2.one
      subst ex
      rw [r3.str_i]
      have w3 : (if c.length ≠ 0 ∧ z.length ≤ 100000 ∧ (splitP z c).length ≤ 100000 then M.ret ((splitP z c).map PV.str) else .fail).wp n2 R := w2
      by_cases d : c.length ≠ 0 ∧ z.length ≤ 100000 ∧ (splitP z c).length ≤ 100000
      · rw [if_pos d] at w3
        have q' : WishF G O H2 R Q := fun l p xs H' n' e o hp a b h => q l p xs H' n' (e1.trans (e2.trans e)) o (new_before (e1.trans e2) ok2 hp) a b h
        exact ⟨z, c, rfl, rfl, d.1, d.2.1, d.2.2, fun p hp => q'.mk ok2 hp s.B (reps_strs _) w3⟩
      · rw [if_neg d] at w3; exact w3.elim
  · rw [if_neg hc] at w1; exact w1.elim
end
end
section
variable {φ : Fam}
noncomputable def tgN : Expr → List Str
  | .Name x _ => [x]
  | .Tuple es _ _ => es.filterMap fun e => match e with | .Name x _ => some x | _ => none
  | _ => []
noncomputable def lcN (tg : Expr) (XN : List Str) (js : List (Option Nat)) : List Str := tgN tg ++ js.filterMap fun o => o.bind fun i => XN[i]?
end
noncomputable def nameOk (x : Str) : Bool := decide (1 ≤ x.length ∧ x.length ≤ 8) && x.cps.toList.all (fun c => decide (97 ≤ c ∧ c ≤ 122))
theorem le_sign (c d : Nat) : (!decide (([d] : List Nat) < [c])) = decide (c ≤ d) := by
  by_cases h : c ≤ d
  · rw [decide_eq_true h]
    have : ¬ ([d] : List Nat) < [c] := by
      intro z
      rw [List.cons_lt_cons_iff] at z
      rcases z with z | ⟨_, z⟩
      · omega
      · exact absurd z (List.not_lt_nil [])
    simp [this]
  · rw [decide_eq_false h]
    have : ([d] : List Nat) < [c] := by rw [List.cons_lt_cons_iff]; left; omega
    simp [this]
theorem bls_map {α : Type} (f : α → Bool) : ∀ cs : List α, blsOf (cs.map fun c => PV.bl (f c)) = some (cs.map f)
  | [] => rfl
  | c :: cs => by simp [blsOf, bls_map f cs]
theorem lenS {x : Str} (h : x.length ≤ 100000) : lenO [.str x] = .ret (.int x.length) := by simp [lenO, h]
theorem signs_all (x : Str) : lcM (bindN 0) allTs (chain leOD leOD (fun _ => M.ret (.str "a")) (fun ρ => getV ρ 0) (fun _ => M.ret (.str "z"))) (signsP x) [un] = .ret (x.cps.toList.map fun c => .bl (decide (97 ≤ c ∧ c ≤ 122))) := by
  have h := lcM_map (k := 0) (te := chain leOD leOD (fun _ => M.ret (.str "a")) (fun ρ => getV ρ 0) (fun _ => M.ret (.str "z"))) (f := fun y => match y with | .str z => .bl (leS "a" z && leS z "z") | _ => .non) (ρ := [un]) (signsP x) [un] (fun _ => rfl) (fun y hy => by
    unfold signsP at hy
    obtain ⟨c, _, rfl⟩ := List.mem_map.mp hy
    simp [chain, leOD, getV]
    cases leS "a" ⟨#[c]⟩ <;> simp)
  rw [h, signsP, List.map_map]
  congr 2
  funext c
  have e1 : leS "a" ⟨#[c]⟩ = decide (97 ≤ c) := le_sign 97 c
  have e2 : leS ⟨#[c]⟩ "z" = decide (c ≤ 122) := le_sign c 122
  simp only [Function.comp, e1, e2]
  by_cases a : 97 ≤ c <;> by_cases b : c ≤ 122 <;> simp [a, b]
theorem join_ones (ys : List Str) (h : ∀ z ∈ ys, z.length = 1) : (Txt.join (Str.ofString "") ys).length = ys.length := by
  show (Builtin.Str.glued (Str.ofString "") ys).length = _
  rw [PySem.size_glued]
  have e : (Str.ofString "").length = 0 := by decide
  rw [e]
  have := ones_len ys h
  omega
def Lets (x : Str) : Prop := ∀ c ∈ x.cps.toList, 97 ≤ c ∧ c ≤ 122
theorem fold_lets (sep : Str) (hs : Lets sep) : ∀ (ys : List Str) (acc : Array Nat), (∀ z ∈ ys, Lets z) → (∀ c ∈ acc.toList, 97 ≤ c ∧ c ≤ 122) → ∀ c ∈ (ys.foldl (fun acc p => acc ++ sep.cps ++ p.cps) acc).toList, 97 ≤ c ∧ c ≤ 122
  | [], acc, _, ha => ha
  | y :: ys, acc, h, ha => by
    rw [List.foldl_cons]
    refine fold_lets sep hs ys _ (fun z hz => h z (List.mem_cons_of_mem _ hz)) fun c hc => ?_
    rw [Array.toList_append, Array.toList_append, List.mem_append, List.mem_append] at hc
    rcases hc with (hc | hc) | hc
    · exact ha c hc
    · exact hs c hc
    · exact h y List.mem_cons_self c hc
theorem join_lets (ys : List Str) (h : ∀ z ∈ ys, Lets z) : Lets (Txt.join (Str.ofString "") ys) := by
  have he : Lets (Str.ofString "") := fun c hc => by
    have : (Str.ofString "").cps.toList = [] := by decide
    rw [this] at hc; simp at hc
  show Lets (Builtin.Str.glued (Str.ofString "") ys)
  unfold Builtin.Str.glued
  cases ys with
  | nil => exact fun c hc => by simp [Str.empty] at hc
  | cons y ys => exact fold_lets _ he ys _ (fun z hz => h z (List.mem_cons_of_mem _ hz)) (h y List.mem_cons_self)
noncomputable def keyD : Key → PyData
  | .inl i => .int i
  | .inr x => .str x
noncomputable def kvsI : List (Key × PV) → Option (List (PyData × PyData))
  | [] => some []
  | (k, .int i) :: l => (kvsI l).map ((keyD k, .int i) :: ·)
  | _ => none
mutual
def toE : PV → Option PyData
  | .non => some .none
  | .bl b => some (.bool b)
  | .int i => some (.int i)
  | .str x => some (.str x)
  | .tup l => (toEs l).map .tuple
  | .lst l => (toEs l).map .list
  | .dct l => (kvsI l).map .dict
  | _ => none
def toEs : List PV → Option (List PyData)
  | [] => some []
  | y :: l => (toE y).bind fun d => (toEs l).map (d :: ·)
end
mutual
def noLs : PV → Bool
  | .lst _ => false
  | .tup l => noLss l
  | _ => true
def noLss : List PV → Bool
  | [] => true
  | y :: l => noLs y && noLss l
end
theorem key_reads {P : Program} {w : World} {h : Heap} (k : Key) (u : Value) (e : (mixKind P w).is k u = true) : Reads h u (keyD k) [] := by
  cases k with
  | inl i =>
    cases u with
    | int j t =>
      have : i = j := (mixKind P w).inj _ _ _ e (mixKind_int P w j t) |> Sum.inl.inj
      subst this
      exact .int i t
    | _ => cases e
  | inr x =>
    cases u with
    | str y t =>
      have : x = y := (mixKind P w).inj _ _ _ e (mixKind_str P w y t) |> Sum.inr.inj
      subst this
      exact .str x t
    | _ => cases e
theorem reads_allE {h : Heap} : ∀ (l : List PV) (xs : List V) (its : List Value) (ds : List PyData), l.length = xs.length → (∀ (i : Nat) (y : PV) (x : V), l[i]? = some y → xs[i]? = some x → ∀ v d, RelV x v → toE y = some d → ∃ as, Reads h v d as ∧ (noLs y = true → sysModules ∉ as)) → Vals xs its → toEs l = some ds → ∃ as, ReadsAll h its ds as ∧ (noLss l = true → sysModules ∉ as)
  | [], [], _, ds, _, _, .nil, e => by
    simp only [toEs] at e
    cases e
    exact ⟨_, .nil, fun _ z => by cases z⟩
  | y :: l, x :: xs, _, ds, hl, ih, .cons r rs, e => by
    simp only [toEs] at e
    cases e1 : toE y with
    | none => rw [e1] at e; cases e
    | some d =>
      rw [e1] at e
      cases e2 : toEs l with
      | none => rw [e2] at e; cases e
      | some dl =>
        rw [e2] at e
        cases e
        obtain ⟨as, r1, n1⟩ := ih 0 y x rfl rfl _ d r e1
        obtain ⟨bs, r2, n2⟩ := reads_allE l xs _ dl (by simpa using hl) (fun i y' x' hy hx => ih (i + 1) y' x' hy hx) rs e2
        refine ⟨_, .cons r1 r2, fun z => ?_⟩
        simp only [noLss, Bool.and_eq_true] at z
        intro q
        rcases List.mem_append.mp q with q | q
        · exact n1 z.1 q
        · exact n2 z.2 q
  | [], _ :: _, _, _, hl, _, _, _ => by cases hl
  | _ :: _, [], _, _, hl, _, _, _ => by cases hl
theorem kvs_reads {B : Addr} {O : Addr → Prop} {H : Hp} {h : Heap} : ∀ (l : List (Key × PV)) (ks : List (Key × V)) (vs : List (Key × Value)) (D : List (PyData × PyData)), l.map (·.1) = ks.map (·.1) → (∀ (i : Nat) (y : Key × PV) (x : Key × V), l[i]? = some y → ks[i]? = some x → Rep B O H y.2 x.2) → KV ks vs → kvsI l = some D → PyProof.V.PairsRead h keyD vs D []
  | [], [], _, D, _, _, .nil, e => by
    cases e
    exact .nil
  | [], _ :: _, _, _, hk, _, _, _ => by cases hk
  | _ :: _, [], _, _, hk, _, _, _ => by cases hk
  | (k, y) :: l, (k', x) :: ks, _, D, hk, hr, .cons r rs, e => by
    rename_i q qs
    rw [List.map_cons, List.map_cons, List.cons.injEq] at hk
    cases y with
    | int i =>
      simp only [kvsI] at e
      cases e2 : kvsI l with
      | none => rw [e2] at e; cases e
      | some D' =>
        rw [e2] at e
        cases e
        have r0 := hr 0 (k, .int i) (k', x) rfl rfl
        have ih := kvs_reads (h := h) l ks _ D' hk.2 (fun j y' x' hy hx => hr (j + 1) y' x' hy hx) rs e2
        obtain ⟨q1, q2⟩ := q
        have e1 : k' = q1 := r.1
        have e3 : RelV x q2 := r.2
        have hkk : k = k' := hk.1
        cases r0
        obtain ⟨t, rfl⟩ := e3
        rw [hkk, e1]
        exact .cons (as := []) (.int i t) ih
    | _ => simp only [kvsI] at e; cases e
theorem reads_ofE {P : Program} {w : World} {B : Addr} {O : Addr → Prop} {H : Hp} {h : Heap} (ok : HOk P w H h) {y : PV} {x : V} (r : Rep B O H y x) : ∀ v d, RelV x v → toE y = some d → ∃ as, Reads h v d as ∧ (noLs y = true → sysModules ∉ as) := by
  induction r with
  | non =>
    intro v d rv e
    simp only [toE] at e
    cases e
    cases rv
    exact ⟨_, .none, fun _ z => by cases z⟩
  | bl b =>
    intro v d rv e
    simp only [toE] at e
    cases e
    cases rv
    exact ⟨_, .bool b, fun _ z => by cases z⟩
  | int i =>
    intro v d rv e
    simp only [toE] at e
    cases e
    obtain ⟨t, rfl⟩ := rv
    exact ⟨_, .int i t, fun _ z => by cases z⟩
  | str z =>
    intro v d rv e
    simp only [toE] at e
    cases e
    obtain ⟨t, rfl⟩ := rv
    exact ⟨_, .str z t, fun _ z => by cases z⟩
  | tup hO hp hl hr ih =>
    intro v d rv e
    simp only [toE] at e
    obtain ⟨ds, e1, rfl⟩ := Option.map_eq_some_iff.mp e
    cases rv
    obtain ⟨_, its, rs, pT⟩ := ok _ _ hp
    obtain ⟨o, ho, hc, n, hd⟩ := pT.is
    obtain ⟨as, ra, na⟩ := reads_allE _ _ its ds hl ih rs e1
    exact ⟨_, .tuple ho hc hd (by simpa using ra), fun z => na (by simpa only [noLs] using z)⟩
  | lst hO hp hl hr ih =>
    intro v d rv e
    simp only [toE] at e
    obtain ⟨ds, e1, rfl⟩ := Option.map_eq_some_iff.mp e
    cases rv
    obtain ⟨_, its, n, rs, ho⟩ := ok _ _ hp
    obtain ⟨as, ra, na⟩ := reads_allE _ _ its ds hl ih rs e1
    exact ⟨_, .list ho rfl rfl (by simpa using ra), fun z => by simp only [noLs] at z; cases z⟩
  | dct hO hp hk hr ih =>
    intro v d rv e
    simp only [toE] at e
    obtain ⟨D, e1, rfl⟩ := Option.map_eq_some_iff.mp e
    cases rv
    obtain ⟨_, ns, vs, kv, o, es, ep, ho, ex, hd, _, pr, _⟩ := dk_rd ok hp
    have pp := kvs_reads (h := h) _ _ _ _ hk hr kv e1
    obtain ⟨r1, r2⟩ := PyProof.V.readsAll_of_pairs (knd := mixKind P w) (fun k u e => key_reads k u e) pr pp
    refine ⟨_, .dict ho ex.1 hd r1 r2, fun _ z => ?_⟩
    simp only [List.append_nil, List.mem_cons, List.not_mem_nil, or_false] at z
    rw [← z] at ns
    simp at ns
  | scr hO hp =>
    intro v d rv e
    simp only [toE] at e
    cases e
  | bag =>
    intro v d rv e
    simp only [toE] at e
    cases e
def showsX (d : PyData) : Prop := d.showable = true ∧ d.shown.length ≤ 1000000 ∧ d.depth ≤ 40
instance (d : PyData) : Decidable (showsX d) := by unfold showsX; infer_instance
noncomputable def rReprX : List V → Hp → VK → Prop := fun xs H Q => ∃ (B : Addr) (O : Addr → Prop) (y : PV) (x : V) (d : PyData), xs = [x] ∧ Rep B O H y x ∧ toE y = some d ∧ showsX d ∧ (d.hasDict = false ∨ noLs y = true) ∧ Q (.str d.shown) H
theorem call_reprX {X : Cx} (hg : X.A.guards = some []) (hu : X.A.units + 64 < cLine) : CallR X (.builtin "repr") rReprX := by
  intro pZ s σ H xs us Q I r h
  obtain ⟨B, O, y, x, d, rfl, rp, hd, ⟨h1, h3, h4⟩, hm, q⟩ := h
  obtain ⟨u, rfl, rx⟩ := vals1 r
  obtain ⟨as, rd, nm⟩ := reads_ofE I.hok rp u d rx hd
  have hz : d.shown.length ≤ sizeLine := by rw [sizeLine_eq]; omega
  have hsm : d.hasDict = true → sysModules ∉ as := fun z => by
    rcases hm with m | m
    · rw [m] at z; cases z
    · exact nm m
  have ref : ∀ a, u = .ref a → wpAny (model X.prog X.w) X.A (call (.builtin "repr") [u]) (EP X pZ σ Q) X.xe s := fun a e => by
    subst e
    exact repr_of_reads' rd h1 hsm hg (by omega) (fun _ _ e => e) (fun h' u tk k => ⟨.str _, H, I.kept k, ⟨_, rfl⟩, q⟩) hz
  cases rd with
  | none => exact PySem.P.repr_of_none ⟨.str _, H, I.tok _, ⟨_, rfl⟩, by simpa only [PyData.shown] using q⟩
  | bool b => exact PySem.P.repr_of_bool ⟨.str _, H, I.tok _, ⟨_, rfl⟩, by simpa only [PyData.shown] using q⟩
  | int i t => exact PySem.P.repr_of_int (by simpa only [PyData.showable, decide_eq_true_eq] using h1) ⟨.str _, H, I.tok _, ⟨_, rfl⟩, by simpa only [PyData.shown] using q⟩
  | str z t => exact PySem.P.repr_of_str ⟨.str _, H, I.tok _, ⟨_, rfl⟩, by simpa only [PyData.shown] using q⟩ (by simpa only [PyData.shown] using hz)
  | list a b c e => exact ref _ rfl
  | tuple a b c e => exact ref _ rfl
  | dict a b c e f => exact ref _ rfl
noncomputable def reprX : List PV → M PV
  | [y] => (M.ofO (toE y)).bind fun d => if showsX d ∧ (d.hasDict = false ∨ noLs y = true) then .ret (.str d.shown) else .fail
  | _ => .fail
theorem cv_reprX : CallV rReprX reprX := fun φ G O H n R Q l xs pr dm ok r w q => by
  match l, r, w with
  | [y], r, w =>
    obtain ⟨x, rfl, r1⟩ := r.one
    unfold reprX at w
    dsimp only at w
    cases e : toE y with
    | none => rw [e] at w; exact w.elim
    | some d =>
      rw [e] at w
      have w' : (if showsX d ∧ (d.hasDict = false ∨ noLs y = true) then M.ret (PV.str d.shown) else .fail).wp n R := w
      by_cases hs : showsX d ∧ (d.hasDict = false ∨ noLs y = true)
      · rw [if_pos hs] at w'
        cases r1 with
        | full h => exact ⟨G.B, O, y, x, d, rfl, h, e, hs.1, hs.2, q.sc ok (.str _) w'⟩
        | top np h rr => exact ⟨G.B, fun p => False, _, _, d, rfl, .lst (fun z => z) h rr.1 fun i y x hy hx => (rr.2 i y x hy hx).less fun p z => z.elim, e, hs.1, hs.2, q.sc ok (.str _) w'⟩
        | topD np h rr => exact ⟨G.B, fun p => False, _, _, d, rfl, .dct (fun z => z) (.inl h) rr.1 fun i y x hy hx => (rr.2 i y x hy hx).less fun p z => z.elim, e, hs.1, hs.2, q.sc ok (.str _) w'⟩
      · rw [if_neg hs] at w'; exact w'.elim
noncomputable def memE (a : PV) : List PV → Option Bool
  | [] => some false
  | y :: l => (eqP 20 y a).bind fun c => (memE a l).bind fun d => some (c || d)
theorem memE_at {a : PV} : ∀ {l : List PV} {c : Bool}, memE a l = some c → (∀ (j : Nat) (y : PV), l[j]? = some y → ∃ d, eqP 20 y a = some d ∧ (d = true → c = true)) ∧ (c = true → ∃ (j : Nat) (y : PV), l[j]? = some y ∧ eqP 20 y a = some true)
  | [], c, h => ⟨fun j y e => by simp at e, fun e => by cases h; cases e⟩
  | y :: l, c, h => by
    simp only [memE] at h
    cases h1 : eqP 20 y a with
    | none => rw [h1] at h; cases h
    | some x =>
      rw [h1] at h
      cases h2 : memE a l with
      | none => rw [h2] at h; cases h
      | some d =>
        rw [h2] at h
        cases h
        obtain ⟨g1, g2⟩ := memE_at h2
        refine ⟨fun j z e => ?_, fun e => ?_⟩
        · cases j with
          | zero => cases e; exact ⟨x, h1, fun e => by rw [e]; rfl⟩
          | succ j =>
            obtain ⟨d', e1, e2⟩ := g1 j z e
            exact ⟨d', e1, fun e => by rw [e2 e, Bool.or_true]⟩
        · cases x with
          | true => exact ⟨0, y, rfl, h1⟩
          | false =>
            obtain ⟨j, z, e1, e2⟩ := g2 e
            exact ⟨j + 1, z, e1, e2⟩
theorem relV_inj {x x' : V} {u : Value} (h : RelV x u) (h' : RelV x' u) : x = x' := by
  have key : ∀ {x : V}, RelV x u → (match u with | .none => V.non | .bool b => .bl b | .int i _ => .int i | .str z _ => .str z | .bytes b _ => .byt b | .float b _ => .flt b | .ref a => .ref a | .type n => .ty n | _ => .non) = x := fun {x} h => by
    cases x with
    | non => cases h; rfl
    | bl b => cases h; rfl
    | int i => obtain ⟨t, rfl⟩ := h; rfl
    | str i => obtain ⟨t, rfl⟩ := h; rfl
    | byt i => obtain ⟨t, rfl⟩ := h; rfl
    | flt i => obtain ⟨t, rfl⟩ := h; rfl
    | ref a => cases h; rfl
    | ty n => cases h; rfl
  exact (key h).symm.trans (key h')
section
variable {X : Cx}
open Classical in
theorem mem_eqE {pZ : List (Addr × Obj)} {σ : St} {H : Hp} {s : Shared} {B : Addr} {O : Addr → Prop} {A : Around} {a : PV} {l : List PV} {xs : List V} {its : List Value} {x : V} {v : Value} {c : Bool} (I : Inv X pZ σ H s) (hB : O B) (r1 : Rep B O H a x) (rx : RelV x v) (rl : Reps B O H l xs) (vs : Vals xs its) (e : memE a l = some c) (hu : A.units + 20 < cLine) :
    ∃ f : Value → Bool, (∀ w ∈ its, SeqAt.EqAt A s w v (f w)) ∧ its.any f = c := by
  obtain ⟨g1, g2⟩ := memE_at e
  have hl : l.length = its.length := rl.1.trans vs.length
  have at1 : ∀ (j : Nat) (w : Value), its[j]? = some w → ∃ y z, l[j]? = some y ∧ xs[j]? = some z ∧ Rep B O H y z ∧ RelV z w := fun j w hw => by
    have hj : j < its.length := (List.getElem?_eq_some_iff.mp hw).1
    have j1 : j < l.length := by omega
    have j2 : j < xs.length := by have := vs.length; omega
    obtain ⟨u1, a1, a2⟩ := vs.get (i := j) (x := xs[j]) (List.getElem?_eq_getElem _)
    rw [hw] at a1
    cases a1
    exact ⟨l[j], xs[j], List.getElem?_eq_getElem j1, List.getElem?_eq_getElem j2, rl.2 j _ _ (List.getElem?_eq_getElem j1) (List.getElem?_eq_getElem j2), a2⟩
  refine ⟨fun w => decide (∃ (j : Nat) (y : PV), its[j]? = some w ∧ l[j]? = some y ∧ eqP 20 y a = some true), fun w hw => ?_, ?_⟩
  · obtain ⟨j, hj⟩ := List.mem_iff_getElem?.mp hw
    obtain ⟨y, z, e1, e2, ry, rz⟩ := at1 j w hj
    obtain ⟨d, ed, _⟩ := g1 j y e1
    have ans := eq_at I hB 20 A y a z x w v d ry r1 rz rx ed hu
    have : decide (∃ (j : Nat) (y : PV), its[j]? = some w ∧ l[j]? = some y ∧ eqP 20 y a = some true) = d := by
      cases d with
      | true => exact decide_eq_true ⟨j, y, hj, e1, ed⟩
      | false =>
        refine decide_eq_false fun ⟨j', y', h1, h2, h3⟩ => ?_
        obtain ⟨y2, z2, f1, f2, ry2, rz2⟩ := at1 j' w h1
        rw [h2] at f1
        cases f1
        rw [relV_inj rz2 rz] at ry2
        rw [ry2.uniq hB ry, ed] at h3
        cases h3
    show SeqAt.EqAt A s w v (decide _)
    rw [this]
    exact ans
  · cases c with
    | true =>
      obtain ⟨j, y, e1, e2⟩ := g2 rfl
      have hj : j < its.length := by have := (List.getElem?_eq_some_iff.mp e1).1; omega
      rw [List.any_eq_true]
      exact ⟨its[j], List.getElem_mem hj, decide_eq_true ⟨j, y, List.getElem?_eq_getElem hj, e1, e2⟩⟩
    | false =>
      rw [List.any_eq_false]
      intro w hw
      simp only [decide_eq_true_eq]
      rintro ⟨j, y, h1, h2, h3⟩
      obtain ⟨d, ed, h⟩ := g1 j y h2
      rw [h3] at ed
      cases ed
      cases h rfl
end
def SmX (c dp : Nat) (b : Bool) (y : PV) : Prop := ∃ d : PyData, toE y = some d ∧ d.showable = true ∧ (b = true → noLs y = true) ∧ (b = false → d.hasDict = false) ∧ d.shown.length ≤ c ∧ d.depth ≤ dp
theorem SmX.mono {c c' dp dp' : Nat} {b : Bool} {y : PV} (h : SmX c dp b y) (hc : c ≤ c') (hd : dp ≤ dp') : SmX c' dp' b y := by
  obtain ⟨d, h1, h2, h3, h3', h4, h5⟩ := h
  exact ⟨d, h1, h2, h3, h3', by omega, by omega⟩
theorem smX_int {i : Int} (h : i.natAbs < 10 ^ 61) (b : Bool) : SmX 62 0 b (.int i) := by
  obtain ⟨d, h1, h2, h3, h4, h5⟩ := sml_int h
  simp only [toD] at h1
  cases h1
  exact ⟨.int i, by simp only [toE], h2, fun _ => by simp only [noLs], fun _ => h3, h4, h5⟩
theorem smX_str {x : Str} {k : Nat} (h : x.length ≤ k) (hc : ∀ c ∈ x.cps.toList, c < 16 ^ 8) (b : Bool) : SmX (10 * k + 2) 0 b (.str x) := by
  obtain ⟨d, h1, h2, h3, h4, h5⟩ := sml_str h hc
  simp only [toD] at h1
  cases h1
  exact ⟨.str x, by simp only [toE], h2, fun _ => by simp only [noLs], fun _ => h3, h4, h5⟩
theorem smXs {c dp : Nat} {b : Bool} : ∀ (l : List PV), (∀ z ∈ l, SmX c dp b z) → ∃ ds, toEs l = some ds ∧ ds.length = l.length ∧ PyData.showableAll ds = true ∧ (b = true → noLss l = true) ∧ (b = false → PyData.hasDictAll ds = false) ∧ (∀ t ∈ PyData.shownAll ds, t.length ≤ c) ∧ (PyData.shownAll ds).length = l.length ∧ PyData.depthAll ds ≤ dp
  | [], _ => ⟨[], by simp only [toEs], rfl, by simp only [PyData.showableAll], fun _ => by simp only [noLss], fun _ => by simp only [PyData.hasDictAll], (by simp only [PyData.shownAll]; exact fun t h => absurd h List.not_mem_nil), (by simp only [PyData.shownAll, List.length_nil]), (by simp only [PyData.depthAll]; omega)⟩
  | y :: l, h => by
    obtain ⟨d, h1, h2, h3, h3', h4, h5⟩ := h y List.mem_cons_self
    obtain ⟨ds, g1, g2, g3, g4, g4', g5, g6, g7⟩ := smXs l fun z hz => h z (List.mem_cons_of_mem _ hz)
    refine ⟨d :: ds, by simp only [toEs, h1, g1, Option.bind_some, Option.map_some], by simp [g2], by simp only [PyData.showableAll, h2, g3, Bool.and_self], fun z => by simp only [noLss, h3 z, g4 z, Bool.and_self], fun z => by simp only [PyData.hasDictAll, h3' z, g4' z, Bool.or_self], ?_, by simp only [PyData.shownAll, List.length_cons, g6], by simp only [PyData.depthAll]; omega⟩
    simp only [PyData.shownAll]
    intro t ht
    rcases List.mem_cons.mp ht with rfl | ht
    · exact h4
    · exact g5 t ht
theorem smX_tup {c dp n : Nat} {b : Bool} {l : List PV} (h : ∀ z ∈ l, SmX c dp b z) (hl : l.length ≤ n) : SmX (n * (c + 2) + 3) (dp + 1) b (.tup l) := by
  obtain ⟨ds, g1, g2, g3, g4, g4', g5, g6, g7⟩ := smXs l h
  refine ⟨.tuple ds, by simp only [toE, g1, Option.map_some], by simp only [PyData.showable, g3], fun z => by simp only [noLs]; exact g4 z, fun z => by simp only [PyData.hasDict, g4' z], ?_, by simp only [PyData.depth]; omega⟩
  simp only [PyData.shown]
  have hj := join_le _ g5
  rw [g6] at hj
  have hm : l.length * (c + 2) ≤ n * (c + 2) := Nat.mul_le_mul_right _ hl
  unfold tupleText
  rw [strLen_append, strLen_append]
  have e1 : (("(" : String) : Str).length = 1 := rfl
  have e2 : ((if (PyData.shownAll ds).length == 1 then ",)" else ")" : String) : Str).length ≤ 2 := by
    by_cases z : ((PyData.shownAll ds).length == 1) = true
    · rw [if_pos z]; decide
    · rw [if_neg z]; decide
  omega
theorem from_le {c : Nat} : ∀ (ts : List Str) (k : Nat) (acc : Str), (∀ t ∈ ts, t.length ≤ c) → (textFrom k acc ts).length ≤ acc.length + ts.length * (c + 2)
  | [], k, acc, _ => by show acc.length ≤ _; omega
  | t :: ts, k, acc, h => by
    have ht := h t List.mem_cons_self
    have ih := fun acc => from_le ts (k + 1) acc fun x hx => h x (List.mem_cons_of_mem _ hx)
    have e2 : ((", " : String) : Str).length = 2 := rfl
    unfold textFrom
    rw [List.length_cons, Nat.succ_mul]
    refine Nat.le_trans (ih _) ?_
    split
    · simp only [strLen_append, e2]; omega
    · have e0 : (Str.ofString "").length = 0 := rfl
      simp only [strLen_append, e0]; omega
theorem smX_lst {c dp n : Nat} {l : List PV} (h : ∀ z ∈ l, SmX c dp false z) (hl : l.length ≤ n) : SmX (n * (c + 2) + 3) (dp + 1) false (.lst l) := by
  obtain ⟨ds, g1, g2, g3, g4, g4', g5, g6, g7⟩ := smXs l h
  refine ⟨.list ds, by simp only [toE, g1, Option.map_some], by simp only [PyData.showable, g3], (fun z => by cases z), fun z => by simp only [PyData.hasDict, g4' z], ?_, by simp only [PyData.depth]; omega⟩
  simp only [PyData.shown]
  have hj := from_le (PyData.shownAll ds) 0 "[" g5
  rw [g6] at hj
  have hm : l.length * (c + 2) ≤ n * (c + 2) := Nat.mul_le_mul_right _ hl
  unfold listText
  rw [strLen_append]
  have e1 : (("[" : String) : Str).length = 1 := rfl
  have e2 : (("]" : String) : Str).length = 1 := rfl
  omega
theorem reprX_is {c dp : Nat} {b : Bool} {y : PV} (h : SmX c dp b y) (hc : c ≤ 1000000) (hd : dp ≤ 40) : ∃ t : Str, reprX [y] = .ret (.str t) := by
  obtain ⟨d, h1, h2, h3, h3', h4, h5⟩ := h
  refine ⟨d.shown, ?_⟩
  unfold reprX
  dsimp only
  rw [h1]
  show (if showsX d ∧ (d.hasDict = false ∨ noLs y = true) then M.ret (PV.str d.shown) else .fail) = _
  rw [if_pos ⟨⟨h2, by omega, by omega⟩, by
    cases b with
    | true => exact .inr (h3 rfl)
    | false => exact .inl (h3' rfl)⟩]
end L2
namespace K64
open L2
open L2.Ent (val un)
noncomputable def top (i : Nat) : Stmt := PySem.Challenge.pw_homeslopes_k64_pages_written_and_read.main.body.getD i (.Pass ⟨0, 0, 0, 0⟩)
abbrev s_row_text : Stmt := top 1
theorem sc_row_text : FnScope ["things"] ["things"] (defScope s_row_text) := ⟨rfl, rfl, rfl, by decide +kernel, rfl, by decide +kernel, by decide +kernel⟩
abbrev s_rows_text : Stmt := top 2
theorem sc_rows_text : FnScope ["rows"] ["rows"] (defScope s_rows_text) := ⟨rfl, rfl, rfl, by decide +kernel, rfl, by decide +kernel, by decide +kernel⟩
abbrev s_page_text : Stmt := top 3
theorem sc_page_text : FnScope ["page"] ["page"] (defScope s_page_text) := ⟨rfl, rfl, rfl, by decide +kernel, rfl, by decide +kernel, by decide +kernel⟩
abbrev s_is_whole : Stmt := top 9
theorem sc_is_whole : FnScope ["thing"] ["thing"] (defScope s_is_whole) := ⟨rfl, rfl, rfl, by decide +kernel, rfl, by decide +kernel, by decide +kernel⟩
abbrev s_is_within : Stmt := top 10
theorem sc_is_within : FnScope ["thing", "low", "high"] ["thing", "low", "high"] (defScope s_is_within) := ⟨rfl, rfl, rfl, by decide +kernel, rfl, by decide +kernel, by decide +kernel⟩
abbrev s_is_name : Stmt := top 11
theorem sc_is_name : FnScope ["thing"] ["thing"] (defScope s_is_name) := ⟨rfl, rfl, rfl, by decide +kernel, rfl, by decide +kernel, by decide +kernel⟩
abbrev s_way_named : Stmt := top 12
theorem sc_way_named : FnScope ["hill", "name", "way"] ["hill", "name"] (defScope s_way_named) := ⟨rfl, rfl, rfl, by decide +kernel, rfl, by decide +kernel, by decide +kernel⟩
abbrev s_is_way_name : Stmt := top 18
theorem sc_is_way_name : FnScope ["hill", "thing"] ["hill", "thing"] (defScope s_is_way_name) := ⟨rfl, rfl, rfl, by decide +kernel, rfl, by decide +kernel, by decide +kernel⟩
abbrev s_is_slope_name : Stmt := top 19
theorem sc_is_slope_name : FnScope ["hill", "thing"] ["hill", "thing"] (defScope s_is_slope_name) := ⟨rfl, rfl, rfl, by decide +kernel, rfl, by decide +kernel, by decide +kernel⟩
abbrev s_is_hours : Stmt := top 20
theorem sc_is_hours : FnScope ["a", "b"] ["a", "b"] (defScope s_is_hours) := ⟨rfl, rfl, rfl, by decide +kernel, rfl, by decide +kernel, by decide +kernel⟩
abbrev s_begins_with_text : Stmt := top 21
theorem sc_begins_with_text : FnScope ["thing"] ["thing"] (defScope s_begins_with_text) := ⟨rfl, rfl, rfl, by decide +kernel, rfl, by decide +kernel, by decide +kernel⟩
abbrev s_is_rule : Stmt := top 22
theorem sc_is_rule : FnScope ["hill", "thing", "word"] ["hill", "thing"] (defScope s_is_rule) := ⟨rfl, rfl, rfl, by decide +kernel, rfl, by decide +kernel, by decide +kernel⟩
abbrev s_is_rules : Stmt := top 23
theorem sc_is_rules : FnScope ["hill", "thing"] ["hill", "thing"] (defScope s_is_rules) := ⟨rfl, rfl, rfl, by decide +kernel, rfl, by decide +kernel, by decide +kernel⟩
abbrev s_is_page : Stmt := top 24
theorem sc_is_page : FnScope ["hill", "thing", "word"] ["hill", "thing"] (defScope s_is_page) := ⟨rfl, rfl, rfl, by decide +kernel, rfl, by decide +kernel, by decide +kernel⟩
abbrev s_are_figures : Stmt := top 27
theorem sc_are_figures : FnScope ["word"] ["word"] (defScope s_are_figures) := ⟨rfl, rfl, rfl, by decide +kernel, rfl, by decide +kernel, by decide +kernel⟩
abbrev s_thing_of : Stmt := top 28
theorem sc_thing_of : FnScope ["word"] ["word"] (defScope s_thing_of) := ⟨rfl, rfl, rfl, by decide +kernel, rfl, by decide +kernel, by decide +kernel⟩
abbrev s_row_of : Stmt := top 29
theorem sc_row_of : FnScope ["text"] ["text"] (defScope s_row_of) := ⟨rfl, rfl, rfl, by decide +kernel, rfl, by decide +kernel, by decide +kernel⟩
abbrev s_rows_of : Stmt := top 30
theorem sc_rows_of : FnScope ["text"] ["text"] (defScope s_rows_of) := ⟨rfl, rfl, rfl, by decide +kernel, rfl, by decide +kernel, by decide +kernel⟩
abbrev s_page_of : Stmt := top 31
theorem sc_page_of : FnScope ["text", "words"] ["text"] (defScope s_page_of) := ⟨rfl, rfl, rfl, by decide +kernel, rfl, by decide +kernel, by decide +kernel⟩
abbrev s_read_page : Stmt := top 32
theorem sc_read_page : FnScope ["hill", "text"] ["hill", "text"] (defScope s_read_page) := ⟨rfl, rfl, rfl, by decide +kernel, rfl, by decide +kernel, by decide +kernel⟩
abbrev s_law_bag : Stmt := top 34
theorem sc_law_bag : FnScope ["_law_script", "_law_top", "_law_seed", "_law_cell"] ["_law_script"] (defScope s_law_bag) := ⟨rfl, rfl, rfl, by decide +kernel, rfl, by decide +kernel, by decide +kernel⟩
abbrev s_law_draw : Stmt := top 35
theorem sc_law_draw : FnScope ["_law_bag_here", "_law_many", "_law_cell", "_law_digit", "_law_one", "_law_two"] ["_law_bag_here", "_law_many"] (defScope s_law_draw) := ⟨rfl, rfl, rfl, by decide +kernel, rfl, by decide +kernel, by decide +kernel⟩
abbrev s_law_any : Stmt := top 36
theorem sc_law_any : FnScope ["_law_bag_here", "_law_some"] ["_law_bag_here", "_law_some"] (defScope s_law_any) := ⟨rfl, rfl, rfl, by decide +kernel, rfl, by decide +kernel, by decide +kernel⟩
abbrev s_law_label : Stmt := top 37
theorem sc_law_label : FnScope ["_law_bag_here", "_law_size"] ["_law_bag_here"] (defScope s_law_label) := ⟨rfl, rfl, rfl, by decide +kernel, rfl, by decide +kernel, by decide +kernel⟩
abbrev s_law_labels : Stmt := top 38
theorem sc_law_labels : FnScope ["_law_bag_here", "_law_many", "_law_letters", "_law_found", "_law_stem", "_law_k", "_law_name", "_law_turn"] ["_law_bag_here", "_law_many"] (defScope s_law_labels) := ⟨rfl, rfl, rfl, by decide +kernel, rfl, by decide +kernel, by decide +kernel⟩
abbrev s_law_pace : Stmt := top 39
theorem sc_law_pace : FnScope ["_law_bag_here", "_law_scale"] ["_law_bag_here", "_law_scale"] (defScope s_law_pace) := ⟨rfl, rfl, rfl, by decide +kernel, rfl, by decide +kernel, by decide +kernel⟩
abbrev s_law_hill : Stmt := top 40
theorem sc_law_hill : FnScope ["_law_bag_here", "_law_many", "_law_scale", "_law_spots", "_law_ways", "_law_name", "_law_kind", "_law_start", "_law_end", "_law_paces", "_law_dark"] ["_law_bag_here"] (defScope s_law_hill) := ⟨rfl, rfl, rfl, by decide +kernel, rfl, by decide +kernel, by decide +kernel⟩
abbrev s_law_moment : Stmt := top 41
theorem sc_law_moment : FnScope ["_law_bag_here", "_law_hill_here"] ["_law_bag_here", "_law_hill_here"] (defScope s_law_moment) := ⟨rfl, rfl, rfl, by decide +kernel, rfl, by decide +kernel, by decide +kernel⟩
abbrev s_law_rule : Stmt := top 42
theorem sc_law_rule : FnScope ["_law_bag_here", "_law_hill_here", "_law_way", "_law_number", "_law_a"] ["_law_bag_here", "_law_hill_here"] (defScope s_law_rule) := ⟨rfl, rfl, rfl, by decide +kernel, rfl, by decide +kernel, by decide +kernel⟩
abbrev s_law_rules : Stmt := top 43
theorem sc_law_rules : FnScope ["_law_bag_here", "_law_hill_here"] ["_law_bag_here", "_law_hill_here"] (defScope s_law_rules) := ⟨rfl, rfl, rfl, by decide +kernel, rfl, by decide +kernel, by decide +kernel⟩
abbrev s_law_slopes : Stmt := top 44
theorem sc_law_slopes : FnScope ["_law_hill_here"] ["_law_hill_here"] (defScope s_law_slopes) := ⟨rfl, rfl, rfl, by decide +kernel, rfl, by decide +kernel, by decide +kernel⟩
abbrev s_law_page : Stmt := top 45
theorem sc_law_page : FnScope ["_law_bag_here", "_law_hill_here", "_law_number", "_law_way", "_law_moment_here", "_law_slopes_here", "_law_value"] ["_law_bag_here", "_law_hill_here", "_law_number"] (defScope s_law_page) := ⟨rfl, rfl, rfl, by decide +kernel, rfl, by decide +kernel, by decide +kernel⟩
abbrev s_law_pages : Stmt := top 46
theorem sc_law_pages : FnScope ["_law_bag_here", "_law_hill_here", "_law_many", "_law_numbers", "_law_pages_here", "_law_k", "_law_number", "_law_turn"] ["_law_bag_here", "_law_hill_here", "_law_many"] (defScope s_law_pages) := ⟨rfl, rfl, rfl, by decide +kernel, rfl, by decide +kernel, by decide +kernel⟩
abbrev s_law_rules_text : Stmt := top 47
theorem sc_law_rules_text : FnScope ["_law_rules_here", "_law_texts"] ["_law_rules_here"] (defScope s_law_rules_text) := ⟨rfl, rfl, rfl, by decide +kernel, rfl, by decide +kernel, by decide +kernel⟩
abbrev s_law_page_text : Stmt := top 48
theorem sc_law_page_text : FnScope ["_law_page_here", "_law_text"] ["_law_page_here"] (defScope s_law_page_text) := ⟨rfl, rfl, rfl, by decide +kernel, rfl, by decide +kernel, by decide +kernel⟩
abbrev s_law : Stmt := top 49
theorem sc_law : FnScope ["_law_script", "_law_bag_here", "_law_turn", "_law_hill_here", "_law_pages_here", "_law_texts"] ["_law_script"] (defScope s_law) := ⟨rfl, rfl, rfl, by decide +kernel, rfl, by decide +kernel, by decide +kernel⟩
structure Txt (K : PySem.W.Frag) (mg : Str → Option Value) (a_row_text a_rows_text a_page_text a_is_whole a_is_within a_is_name a_way_named a_is_way_name a_is_slope_name a_is_hours a_begins_with_text a_is_rule a_is_rules a_is_page a_are_figures a_thing_of a_row_of a_rows_of a_page_of a_read_page awbag awdraw awany awlabel awlabels awpace awhill awmoment awrule awrules awslopes awpage awpages awrules_text awpage_text a_law : Addr) (d_row_text d_rows_text d_page_text d_is_whole d_is_within d_is_name d_way_named d_is_way_name d_is_slope_name d_is_hours d_begins_with_text d_is_rule d_is_rules d_is_page d_are_figures d_thing_of d_row_of d_rows_of d_page_of d_read_page dwbag dwdraw dwany dwlabel dwlabels dwpace dwhill dwmoment dwrule dwrules dwslopes dwpage dwpages dwrules_text dwpage_text d_law : FuncData) : Prop where
  F_row_text : Fun K "row_text" "row_text" s_row_text a_row_text d_row_text
  m_row_text : mg "row_text" = some (.ref a_row_text)
  b_row_text : Binds K d_row_text ["things"] []
  F_rows_text : Fun K "rows_text" "rows_text" s_rows_text a_rows_text d_rows_text
  m_rows_text : mg "rows_text" = some (.ref a_rows_text)
  b_rows_text : Binds K d_rows_text ["rows"] []
  F_page_text : Fun K "page_text" "page_text" s_page_text a_page_text d_page_text
  m_page_text : mg "page_text" = some (.ref a_page_text)
  b_page_text : Binds K d_page_text ["page"] []
  F_is_whole : Fun K "is_whole" "is_whole" s_is_whole a_is_whole d_is_whole
  m_is_whole : mg "is_whole" = some (.ref a_is_whole)
  b_is_whole : Binds K d_is_whole ["thing"] []
  F_is_within : Fun K "is_within" "is_within" s_is_within a_is_within d_is_within
  m_is_within : mg "is_within" = some (.ref a_is_within)
  b_is_within : Binds K d_is_within ["thing", "low", "high"] []
  F_is_name : Fun K "is_name" "is_name" s_is_name a_is_name d_is_name
  m_is_name : mg "is_name" = some (.ref a_is_name)
  b_is_name : Binds K d_is_name ["thing"] []
  F_way_named : Fun K "way_named" "way_named" s_way_named a_way_named d_way_named
  m_way_named : mg "way_named" = some (.ref a_way_named)
  b_way_named : Binds K d_way_named ["hill", "name"] []
  F_is_way_name : Fun K "is_way_name" "is_way_name" s_is_way_name a_is_way_name d_is_way_name
  m_is_way_name : mg "is_way_name" = some (.ref a_is_way_name)
  b_is_way_name : Binds K d_is_way_name ["hill", "thing"] []
  F_is_slope_name : Fun K "is_slope_name" "is_slope_name" s_is_slope_name a_is_slope_name d_is_slope_name
  m_is_slope_name : mg "is_slope_name" = some (.ref a_is_slope_name)
  b_is_slope_name : Binds K d_is_slope_name ["hill", "thing"] []
  F_is_hours : Fun K "is_hours" "is_hours" s_is_hours a_is_hours d_is_hours
  m_is_hours : mg "is_hours" = some (.ref a_is_hours)
  b_is_hours : Binds K d_is_hours ["a", "b"] []
  F_begins_with_text : Fun K "begins_with_text" "begins_with_text" s_begins_with_text a_begins_with_text d_begins_with_text
  m_begins_with_text : mg "begins_with_text" = some (.ref a_begins_with_text)
  b_begins_with_text : Binds K d_begins_with_text ["thing"] []
  F_is_rule : Fun K "is_rule" "is_rule" s_is_rule a_is_rule d_is_rule
  m_is_rule : mg "is_rule" = some (.ref a_is_rule)
  b_is_rule : Binds K d_is_rule ["hill", "thing"] []
  F_is_rules : Fun K "is_rules" "is_rules" s_is_rules a_is_rules d_is_rules
  m_is_rules : mg "is_rules" = some (.ref a_is_rules)
  b_is_rules : Binds K d_is_rules ["hill", "thing"] []
  F_is_page : Fun K "is_page" "is_page" s_is_page a_is_page d_is_page
  m_is_page : mg "is_page" = some (.ref a_is_page)
  b_is_page : Binds K d_is_page ["hill", "thing"] []
  F_are_figures : Fun K "are_figures" "are_figures" s_are_figures a_are_figures d_are_figures
  m_are_figures : mg "are_figures" = some (.ref a_are_figures)
  b_are_figures : Binds K d_are_figures ["word"] []
  F_thing_of : Fun K "thing_of" "thing_of" s_thing_of a_thing_of d_thing_of
  m_thing_of : mg "thing_of" = some (.ref a_thing_of)
  b_thing_of : Binds K d_thing_of ["word"] []
  F_row_of : Fun K "row_of" "row_of" s_row_of a_row_of d_row_of
  m_row_of : mg "row_of" = some (.ref a_row_of)
  b_row_of : Binds K d_row_of ["text"] []
  F_rows_of : Fun K "rows_of" "rows_of" s_rows_of a_rows_of d_rows_of
  m_rows_of : mg "rows_of" = some (.ref a_rows_of)
  b_rows_of : Binds K d_rows_of ["text"] []
  F_page_of : Fun K "page_of" "page_of" s_page_of a_page_of d_page_of
  m_page_of : mg "page_of" = some (.ref a_page_of)
  b_page_of : Binds K d_page_of ["text"] []
  F_read_page : Fun K "read_page" "read_page" s_read_page a_read_page d_read_page
  m_read_page : mg "read_page" = some (.ref a_read_page)
  b_read_page : Binds K d_read_page ["hill", "text"] []
  F_law_bag : Fun K "_law_bag" "_law_bag" s_law_bag awbag dwbag
  m_law_bag : mg "_law_bag" = some (.ref awbag)
  b_law_bag : Binds K dwbag ["_law_script"] []
  F_law_draw : Fun K "_law_draw" "_law_draw" s_law_draw awdraw dwdraw
  m_law_draw : mg "_law_draw" = some (.ref awdraw)
  b_law_draw : Binds K dwdraw ["_law_bag_here", "_law_many"] []
  F_law_any : Fun K "_law_any" "_law_any" s_law_any awany dwany
  m_law_any : mg "_law_any" = some (.ref awany)
  b_law_any : Binds K dwany ["_law_bag_here", "_law_some"] []
  F_law_label : Fun K "_law_label" "_law_label" s_law_label awlabel dwlabel
  m_law_label : mg "_law_label" = some (.ref awlabel)
  b_law_label : Binds K dwlabel ["_law_bag_here"] []
  F_law_labels : Fun K "_law_labels" "_law_labels" s_law_labels awlabels dwlabels
  m_law_labels : mg "_law_labels" = some (.ref awlabels)
  b_law_labels : Binds K dwlabels ["_law_bag_here", "_law_many"] []
  F_law_pace : Fun K "_law_pace" "_law_pace" s_law_pace awpace dwpace
  m_law_pace : mg "_law_pace" = some (.ref awpace)
  b_law_pace : Binds K dwpace ["_law_bag_here", "_law_scale"] []
  F_law_hill : Fun K "_law_hill" "_law_hill" s_law_hill awhill dwhill
  m_law_hill : mg "_law_hill" = some (.ref awhill)
  b_law_hill : Binds K dwhill ["_law_bag_here"] []
  F_law_moment : Fun K "_law_moment" "_law_moment" s_law_moment awmoment dwmoment
  m_law_moment : mg "_law_moment" = some (.ref awmoment)
  b_law_moment : Binds K dwmoment ["_law_bag_here", "_law_hill_here"] []
  F_law_rule : Fun K "_law_rule" "_law_rule" s_law_rule awrule dwrule
  m_law_rule : mg "_law_rule" = some (.ref awrule)
  b_law_rule : Binds K dwrule ["_law_bag_here", "_law_hill_here"] []
  F_law_rules : Fun K "_law_rules" "_law_rules" s_law_rules awrules dwrules
  m_law_rules : mg "_law_rules" = some (.ref awrules)
  b_law_rules : Binds K dwrules ["_law_bag_here", "_law_hill_here"] []
  F_law_slopes : Fun K "_law_slopes" "_law_slopes" s_law_slopes awslopes dwslopes
  m_law_slopes : mg "_law_slopes" = some (.ref awslopes)
  b_law_slopes : Binds K dwslopes ["_law_hill_here"] []
  F_law_page : Fun K "_law_page" "_law_page" s_law_page awpage dwpage
  m_law_page : mg "_law_page" = some (.ref awpage)
  b_law_page : Binds K dwpage ["_law_bag_here", "_law_hill_here", "_law_number"] []
  F_law_pages : Fun K "_law_pages" "_law_pages" s_law_pages awpages dwpages
  m_law_pages : mg "_law_pages" = some (.ref awpages)
  b_law_pages : Binds K dwpages ["_law_bag_here", "_law_hill_here", "_law_many"] []
  F_law_rules_text : Fun K "_law_rules_text" "_law_rules_text" s_law_rules_text awrules_text dwrules_text
  m_law_rules_text : mg "_law_rules_text" = some (.ref awrules_text)
  b_law_rules_text : Binds K dwrules_text ["_law_rules_here"] []
  F_law_page_text : Fun K "_law_page_text" "_law_page_text" s_law_page_text awpage_text dwpage_text
  m_law_page_text : mg "_law_page_text" = some (.ref awpage_text)
  b_law_page_text : Binds K dwpage_text ["_law_page_here"] []
  F_law : Fun K "law" "law" s_law a_law d_law
  m_law : mg "law" = some (.ref a_law)
  b_law : Binds K d_law ["_law_script"] []
  m_len : mg "len" = none
  m_abs : mg "abs" = none
  m_all : mg "all" = none
  m_isinstance : mg "isinstance" = none
  m_range : mg "range" = none
  m_str : mg "str" = none
  m_bool : mg "bool" = none
  m_int : mg "int" = none
  m_tuple : mg "tuple" = none
  m_max : mg "max" = none
  m_min : mg "min" = none
  m_repr : mg "repr" = none
  e_MOST_LETTERS : ∃ t, mg "MOST_LETTERS" = some (.int 8 t)
  e_MOST_HOUR : ∃ t, mg "MOST_HOUR" = some (.int 1000001 t)
  e_MOST_LOOKED : ∃ t, mg "MOST_LOOKED" = some (.int 1000000 t)
  e_MOST_RULES : ∃ t, mg "MOST_RULES" = some (.int 6 t)
  e_MOST_NUMBER : ∃ t, mg "MOST_NUMBER" = some (.int 999999 t)
  e_MOST_FIGURES : ∃ t, mg "MOST_FIGURES" = some (.int 60 t)
theorem pow_ok {i : Int} (h0 : 0 ≤ i) (h1 : i < 2 ^ 80) : (0 : Int) ≤ 3 ∧ (Builtin.Int.intBits i : Int) * 3 ≤ 2 ^ 27 := by
  have h2 : i.natAbs < 2 ^ 80 := by
    have e : (2 : Int) ^ 80 = ((2 ^ 80 : Nat) : Int) := by decide
    rw [e] at h1
    omega
  have := intBits_le h2
  refine ⟨by decide, ?_⟩
  have e : (2 : Int) ^ 27 = 134217728 := by decide
  rw [e]
  omega
theorem mul_small {i j : Int} (h0 : 0 ≤ j) (h1 : j < 2 ^ 63) : CMul i j := by
  have e : (2 : Int) ^ 63 = 9223372036854775808 := by decide
  have e2 : (2 : Int) ^ 64 = 18446744073709551616 := by decide
  rw [e] at h1
  exact .inr ⟨by rw [e2]; omega, by rw [e2]; omega⟩
theorem mul_smallL {i j : Int} (h0 : 0 ≤ i) (h1 : i < 2 ^ 63) : CMul i j := by
  have e : (2 : Int) ^ 63 = 9223372036854775808 := by decide
  have e2 : (2 : Int) ^ 64 = 18446744073709551616 := by decide
  rw [e] at h1
  exact .inl ⟨by rw [e2]; omega, by rw [e2]; omega⟩
theorem lt80 {i : Int} (h : i < 1208925819614629174706176) : i < 2 ^ 80 := by
  have e : (2 : Int) ^ 80 = 1208925819614629174706176 := by decide
  rw [e]; exact h
theorem ok_draw {P : Program} {w : World} {K : PySem.W.Frag} {mg : Str → Option Value} {base : Heap} {a_row_text a_rows_text a_page_text a_is_whole a_is_within a_is_name a_way_named a_is_way_name a_is_slope_name a_is_hours a_begins_with_text a_is_rule a_is_rules a_is_page a_are_figures a_thing_of a_row_of a_rows_of a_page_of a_read_page awbag awdraw awany awlabel awlabels awpace awhill awmoment awrule awrules awslopes awpage awpages awrules_text awpage_text a_law : Addr} {d_row_text d_rows_text d_page_text d_is_whole d_is_within d_is_name d_way_named d_is_way_name d_is_slope_name d_is_hours d_begins_with_text d_is_rule d_is_rules d_is_page d_are_figures d_thing_of d_row_of d_rows_of d_page_of d_read_page dwbag dwdraw dwany dwlabel dwlabels dwpace dwhill dwmoment dwrule dwrules dwslopes dwpage dwpages dwrules_text dwpage_text d_law : FuncData} (T : Txt K mg a_row_text a_rows_text a_page_text a_is_whole a_is_within a_is_name a_way_named a_is_way_name a_is_slope_name a_is_hours a_begins_with_text a_is_rule a_is_rules a_is_page a_are_figures a_thing_of a_row_of a_rows_of a_page_of a_read_page awbag awdraw awany awlabel awlabels awpace awhill awmoment awrule awrules awslopes awpage awpages awrules_text awpage_text a_law d_row_text d_rows_text d_page_text d_is_whole d_is_within d_is_name d_way_named d_is_way_name d_is_slope_name d_is_hours d_begins_with_text d_is_rule d_is_rules d_is_page d_are_figures d_thing_of d_row_of d_rows_of d_page_of d_read_page dwbag dwdraw dwany dwlabel dwlabels dwpace dwhill dwmoment dwrule dwrules dwslopes dwpage dwpages dwrules_text dwpage_text d_law) : FnOk P w K mg base CX0 1 awdraw dwdraw ["_law_bag_here", "_law_many"] spDraw := by
  refine T.F_law_draw.ok sc_law_draw (fun vs H Q E h => ?_) (fun cdv A outer s H vs Q E hr h => ?_)
  · obtain ⟨a, c, n, m, rfl, _⟩ := h
    rfl
  obtain ⟨a, c, n, m, rfl, bag, hn, hm0, hm1, q⟩ := h
  have hu0 := Nat.lt_of_succ_lt (hu_of hr)
  obtain ⟨p, k, sd, cells, e1, e2, p0, k0, s0, s1, c0, cl⟩ := bag.ex
  have hca : c ≠ a := bag.ne
  have bagOk : ∀ p' k' sd' : Int, 0 ≤ p' → 0 ≤ k' → 0 ≤ sd' → sd' < 2305843009213693951 → Bag (upd H a (.lst [.int p', .int k', .int ((n : Int) + 1), .int sd', .ref c])) a c (n + 1) := fun p' k' sd' h1 h2 h3 h4 =>
    ⟨p', k', sd', cells, by rw [upd_same]; rfl, by rw [upd_ne hca]; exact e2, h1, h2, h3, h4, c0, cl⟩
  have tail : ∃ t, PSs (cxOf CX0 P w K mg base ["_law_bag_here", "_law_many", "_law_cell", "_law_digit", "_law_one", "_law_two"] "_law_draw" (defScope s_law_draw) awdraw cdv A outer s H E).nox ((defBody s_law_draw).drop 2) t ∧ ∀ (v2 : Option V) (p' k' sd' : Int), 0 ≤ p' → 0 ≤ k' → 0 ≤ sd' → sd' < 2305843009213693951 →
      t { nx := fun _ H' => Q .non H', rt := Q } [some (.ref a), some (.int m), v2, none, none, none] (upd H a (.lst [.int p', .int k', .int ((n : Int) + 1), .int sd', .ref c])) := by
    refine ⟨_, (pss_cons (ps_if (pt_cmpR op_gt (pe_ix ix_list (pv 0) pe_int (fun _ _ => rfl)) pe_int (nomark _)) (pss_cons (ps_set (i := 3) sc_law_draw.nd rfl (Or.inl rfl) (pe_op op_mod (pe_ix ix_list (pv 0) pe_int (fun _ _ => rfl)) (pv 1)))
    (pss_cons (ps_asg (pe_op op_fdiv (pe_ix ix_list (pv 0) pe_int (fun _ _ => rfl)) (pv 1)) (pg_sub (pv 0) pe_int set_list))
    (pss_one (ps_ret (pv 3))))) pss_nil)
    (pss_cons (ps_set (i := 4) sc_law_draw.nd rfl (Or.inl rfl) (pe_op op_mod (pe_op op_powB (pe_op op_add (pe_ix ix_list (pv 0) pe_int (fun _ _ => rfl)) (pe_op op_mul pe_int (pe_ix ix_list (pv 0) pe_int (fun _ _ => rfl)))) pe_int) pe_int))
    (pss_cons (ps_set (i := 5) sc_law_draw.nd rfl (Or.inl rfl) (pe_op op_mod (pe_op op_mul (pe_op op_add (pv 4) (pe_op op_mul pe_int (pe_ix ix_list (pv 0) pe_int (fun _ _ => rfl)))) (pe_op op_add (pe_op op_mod (pv 4) pe_int) pe_int)) pe_int))
    (pss_one (ps_ret (pe_op op_mod (pe_op op_add (pe_op op_fdiv (pv 5) pe_int) (pe_op op_fdiv (pv 5) pe_int)) (pv 1))))))), fun v2 p' k' sd' h1 h2 h3 h4 => ?_⟩
    refine ⟨_, rfl, a, _, _, _, rfl, rfl, SqL.of upd_same, rfl, _, _, rfl, rfl, _, rfl, ?_⟩
    refine ite2 (fun c1 => ?_) (fun c1 => ?_)
    · refine ⟨_, rfl, a, _, _, _, rfl, rfl, SqL.of upd_same, rfl, _, rfl, _, _, rfl, rfl, hm0, ?_⟩
      refine ⟨_, rfl, a, _, _, _, rfl, rfl, SqL.of upd_same, rfl, _, rfl, _, _, rfl, rfl, ⟨hm0, by omega⟩, ?_⟩
      refine ⟨_, rfl, a, _, _, _, rfl, rfl, upd_same, rfl, ?_⟩
      refine ⟨_, rfl, ?_⟩
      rw [upd_upd]
      exact q _ _ (Int.emod_nonneg _ (by omega)) (Int.emod_lt_of_pos _ hm0) (bagOk _ _ _ (Int.ediv_nonneg h1 (by omega)) h2 h3 h4)
    · have hn' : (n : Int) < 1000000 := by omega
      have n0 : (0 : Int) ≤ n := Int.natCast_nonneg _
      refine ⟨_, rfl, a, _, _, _, rfl, rfl, SqL.of upd_same, rfl, _, rfl, a, _, _, _, rfl, rfl, SqL.of upd_same, rfl, _, _, rfl, rfl, mul_smallL (by decide) (by decide), _, _, rfl, rfl, _, _, rfl, rfl, pow_ok (by omega) (lt80 (by omega)), _, _, rfl, rfl, (by show (0 : Int) < _; decide), ?_⟩
      refine ⟨_, rfl, _, rfl, a, _, _, _, rfl, rfl, SqL.of upd_same, rfl, _, _, rfl, rfl, mul_smallL (by decide) (by decide), _, _, rfl, rfl, _, rfl, _, _, rfl, rfl, (by show (0 : Int) < _; decide), _, _, rfl, rfl, _, _, rfl, rfl, mul_small ?_ ?_, _, _, rfl, rfl, (by show (0 : Int) < _; decide), ?_⟩
      · have := Int.emod_nonneg (((sd' + 67867967 * ((n : Int) + 1)) ^ (3 : Int).toNat) % 2305843009213693907) (show (122949823 : Int) ≠ 0 by decide)
        omega
      · have := Int.emod_lt_of_pos (((sd' + 67867967 * ((n : Int) + 1)) ^ (3 : Int).toNat) % 2305843009213693907) (show (0 : Int) < 122949823 by decide)
        have e : (2 : Int) ^ 63 = 9223372036854775808 := by decide
        rw [e]
        omega
      · refine ⟨_, rfl, _, _, rfl, rfl, ⟨by decide, by decide⟩, _, rfl, _, _, rfl, rfl, ⟨by decide, by decide⟩, _, _, rfl, rfl, _, rfl, _, _, rfl, rfl, hm0, ?_⟩
        exact q _ _ (Int.emod_nonneg _ (by omega)) (Int.emod_lt_of_pos _ hm0) (bagOk _ _ _ h1 h2 h3 h4)
  obtain ⟨tt, dt, ht⟩ := tail
  refine ⟨_, (pss_cons (ps_asg (pe_op op_add (pe_ix ix_list (pv 0) pe_int (fun _ _ => rfl)) pe_int) (pg_sub (pv 0) pe_int set_list))
    (pss_cons (ps_if (PW.pt (pw_and (pt_cmpR op_eq (pe_ix ix_list (pv 0) pe_int (fun _ _ => rfl)) pe_int (nomark _)) (pw_and1 (pt_cmpR op_lt (pe_ix ix_list (pv 0) pe_int (fun _ _ => rfl)) (pe_callB call_len rfl T.m_len PySem.boot_len (pa_cons (pe_ix ix_list (pv 0) pe_int (fun _ _ => rfl)) pa_nil)) (nomark _))))) (pss_cons (ps_set (i := 2) sc_law_draw.nd rfl (Or.inl rfl) (pe_ix ix_list (pe_ix ix_list (pv 0) pe_int (fun _ _ => rfl)) (pe_ix ix_list (pv 0) pe_int (fun _ _ => rfl)) (fun _ _ => rfl)))
    (pss_cons (ps_asg (pe_op op_add (pe_ix ix_list (pv 0) pe_int (fun _ _ => rfl)) pe_int) (pg_sub (pv 0) pe_int set_list))
    (pss_cons (ps_asg (pe_op op_mod (pe_op op_powB (pe_op op_add (pe_op op_add (pe_op op_mul (pe_ix ix_list (pv 0) pe_int (fun _ _ => rfl)) pe_int) (pe_op op_mod (pv 2) pe_int)) pe_int) pe_int) pe_int) (pg_sub (pv 0) pe_int set_list))
    (pss_one (ps_asg (pe_ifExp (pt_cmpR op_ge (pv 2) (pe_op op_powB pe_int pe_int) (nomark _)) (pv 2) pe_int) (pg_sub (pv 0) pe_int set_list)))))) pss_nil)
    dt)), ?_⟩
  refine ⟨_, rfl, a, _, _, _, rfl, rfl, SqL.of e1, rfl, _, _, rfl, rfl, _, rfl, a, _, _, _, rfl, rfl, e1, rfl, ?_⟩
  refine ⟨_, rfl, a, _, _, _, rfl, rfl, SqL.of upd_same, rfl, rfl, _, rfl, ?_⟩
  refine ite2 (fun c1 => ?_) (fun c1 => ?_)
  · refine ⟨_, rfl, a, _, _, _, rfl, rfl, SqL.of upd_same, rfl, _, rfl, a, _, _, _, rfl, rfl, SqL.of upd_same, rfl, _, cells.length, rfl, .inl ⟨_, SqL.of (by rw [upd_ne hca]; exact e2), by simp⟩, _, _, rfl, rfl, _, rfl, ?_⟩
    refine ite2 (fun c2 => ?_) (fun c2 => ?_)
    · have hk : k < (cells.length : Int) := of_decide_eq_true c2
      have hkn : k.toNat < cells.length := by omega
      have ek : k = ((k.toNat : Nat) : Int) := by omega
      have hx : atI (cells.map V.int) k = some (.int cells[k.toNat]) := by
        have q' : atI (cells.map V.int) ((k.toNat : Nat) : Int) = some (.int cells[k.toNat]) := atI_nat (by rw [List.getElem?_map, List.getElem?_eq_getElem hkn]; rfl)
        rw [← ek] at q'; exact q'
      have hx0 : 0 ≤ cells[k.toNat] := c0 _ (List.getElem_mem hkn)
      generalize cells[k.toNat] = x at hx hx0
      refine ⟨_, rfl, a, _, _, _, rfl, rfl, SqL.of upd_same, rfl, _, rfl, a, _, _, _, rfl, rfl, SqL.of upd_same, rfl, c, _, _, _, rfl, rfl, SqL.of (by rw [upd_ne hca]; exact e2), hx, ?_⟩
      refine ⟨_, rfl, a, _, _, _, rfl, rfl, SqL.of upd_same, rfl, _, _, rfl, rfl, _, rfl, a, _, _, _, rfl, rfl, upd_same, rfl, ?_⟩
      have r0 := Int.emod_nonneg x (show (2305843009213693921 : Int) ≠ 0 by decide)
      have r1 := Int.emod_lt_of_pos x (show (0 : Int) < 2305843009213693921 by decide)
      refine ⟨_, rfl, a, _, _, _, rfl, rfl, SqL.of upd_same, rfl, _, _, rfl, rfl, mul_small (by decide) (by decide), _, rfl, _, _, rfl, rfl, (by show (0 : Int) < _; decide), _, _, rfl, rfl, _, _, rfl, rfl, _, _, rfl, rfl, pow_ok (by omega) (lt80 (by omega)), _, _, rfl, rfl, (by show (0 : Int) < _; decide), ?_⟩
      refine ⟨_, rfl, a, _, _, _, rfl, rfl, upd_same, rfl, ?_⟩
      have m0 := Int.emod_nonneg ((sd * 7 + x % 2305843009213693921 + 65537) ^ (3 : Int).toNat) (show (2305843009213693951 : Int) ≠ 0 by decide)
      have m1 := Int.emod_lt_of_pos ((sd * 7 + x % 2305843009213693921 + 65537) ^ (3 : Int).toNat) (show (0 : Int) < 2305843009213693951 by decide)
      refine ⟨_, rfl, _, _, rfl, rfl, ⟨by decide, by decide⟩, _, _, rfl, rfl, _, rfl, ?_⟩
      refine ite2 (fun c3 => ?_) (fun c3 => ?_)
      · refine ⟨_, rfl, _, rfl, a, _, _, _, rfl, rfl, upd_same, rfl, ?_⟩
        simp only [upd_upd]
        exact ht _ _ _ _ hx0 (by omega) m0 m1
      · refine ⟨_, rfl, a, _, _, _, rfl, rfl, upd_same, rfl, ?_⟩
        simp only [upd_upd]
        exact ht _ _ _ _ (Int.le_refl 0) (by omega) m0 m1
    · exact ht _ _ _ _ p0 k0 s0 s1
  · exact ht _ _ _ _ p0 k0 s0 s1
theorem cut60 (ns : List Int) : cutV (ns.map V.int) none (some 60) = (ns.take 60).map V.int := by
  unfold cutV
  rw [HT.sIx_none]
  have e : HT.sIx (ns.map V.int).length (ns.map V.int).length (some 60) = min 60 (ns.map V.int).length := HT.sIx_nat _ _ 60
  rw [e, List.drop_zero, Nat.sub_zero, List.length_map, ← List.map_take]
  congr 1
  rw [List.take_eq_take_iff]
  omega
theorem ok_bag {P : Program} {w : World} {K : PySem.W.Frag} {mg : Str → Option Value} {base : Heap} {a_row_text a_rows_text a_page_text a_is_whole a_is_within a_is_name a_way_named a_is_way_name a_is_slope_name a_is_hours a_begins_with_text a_is_rule a_is_rules a_is_page a_are_figures a_thing_of a_row_of a_rows_of a_page_of a_read_page awbag awdraw awany awlabel awlabels awpace awhill awmoment awrule awrules awslopes awpage awpages awrules_text awpage_text a_law : Addr} {d_row_text d_rows_text d_page_text d_is_whole d_is_within d_is_name d_way_named d_is_way_name d_is_slope_name d_is_hours d_begins_with_text d_is_rule d_is_rules d_is_page d_are_figures d_thing_of d_row_of d_rows_of d_page_of d_read_page dwbag dwdraw dwany dwlabel dwlabels dwpace dwhill dwmoment dwrule dwrules dwslopes dwpage dwpages dwrules_text dwpage_text d_law : FuncData} (T : Txt K mg a_row_text a_rows_text a_page_text a_is_whole a_is_within a_is_name a_way_named a_is_way_name a_is_slope_name a_is_hours a_begins_with_text a_is_rule a_is_rules a_is_page a_are_figures a_thing_of a_row_of a_rows_of a_page_of a_read_page awbag awdraw awany awlabel awlabels awpace awhill awmoment awrule awrules awslopes awpage awpages awrules_text awpage_text a_law d_row_text d_rows_text d_page_text d_is_whole d_is_within d_is_name d_way_named d_is_way_name d_is_slope_name d_is_hours d_begins_with_text d_is_rule d_is_rules d_is_page d_are_figures d_thing_of d_row_of d_rows_of d_page_of d_read_page dwbag dwdraw dwany dwlabel dwlabels dwpace dwhill dwmoment dwrule dwrules dwslopes dwpage dwpages dwrules_text dwpage_text d_law) : FnOk P w K mg base CX0 1 awbag dwbag ["_law_script"] (spBag K) := by
  refine T.F_law_bag.ok sc_law_bag (fun vs H Q E h => ?_) (fun cdv A outer s H vs Q E hr h => ?_)
  · obtain ⟨a, ns, rfl, _⟩ := h
    rfl
  obtain ⟨a, ns, rfl, hS, h63, q⟩ := h
  have hu0 := Nat.lt_of_succ_lt (hu_of hr)
  refine ⟨_, (pss_cons (ps_asg (pe_tup (pa_cons (pe_op op_mulB (pe_op op_mulB (pe_op op_mulB (pe_op op_mulB (pe_op op_powB pe_int pe_int) (pe_op op_powB pe_int pe_int)) (pe_op op_powB pe_int pe_int)) (pe_op op_powB pe_int pe_int)) (pe_op op_powB pe_int pe_int)) (pa_cons pe_int pa_nil))) (pg_tup rfl (pgs_cons (pg_name (i := 1) sc_law_bag.nd rfl (Or.inr rfl)) (pgs_cons (pg_name (i := 2) sc_law_bag.nd rfl (Or.inl rfl)) pgs_nil))))
    (pss_cons (ps_for PassesOwn.never rfl (pi_list (pe_slice sl_list (pv 0) po_none (po_some pe_int))) (pg_name (i := 3) sc_law_bag.nd rfl (Or.inl rfl)) (pss_one (ps_set (i := 2) sc_law_bag.nd rfl (Or.inl rfl) (pe_op op_mod (pe_op op_powB (pe_op op_add (pe_op op_add (pe_op op_mul (pv 2) pe_int) (pe_op op_mod (pv 3) pe_int)) pe_int) pe_int) pe_int))))
    (pss_one (ps_ret (pe_lst (pa_c pe_int (pa_c pe_int (pa_c pe_int (pa_c (pv 2) (pa_c (pe_lc (LcScope.mk2 (N := ["_law_cell", "_law_top"]) (js := [none, some 1]) (defScope s_law_bag) ["_law_script", "_law_top", "_law_seed", "_law_cell"] rfl rfl (by decide +kernel)) rfl (pi_list (pe_slice sl_list (pv 0) po_none (po_some pe_int))) (fun _ _ _ _ => (pg_name (i := 0) (by decide : (["_law_cell", "_law_top"] : List Str).Nodup) rfl (Or.inl rfl))) (fun _ _ _ _ => pts_nil) (fun _ _ _ _ => (pe_op op_mod (pe_callB call_abs rfl T.m_abs PyProof.Rows.boot_abs (pa_cons (pv 0) pa_nil)) (pv 1)))) pa_nil)))))))))), ?_⟩
  have b60 : ((0 : Int) ≤ 60) ∧ (Builtin.Int.intBits 10 : Int) * 60 ≤ 2 ^ 27 := by decide
  refine ⟨_, _, rfl, rfl, b60, _, _, rfl, rfl, b60, _, _, rfl, rfl, ?_, _, _, rfl, rfl, b60, _, _, rfl, rfl, ?_, _, _, rfl, rfl, b60, _, _, rfl, rfl, ?_, _, _, rfl, rfl, b60, _, _, rfl, rfl, ?_, (by show 2 ≤ sizeLine; decide), fun t ht => ?_⟩
  · exact IntMulOk.of_bits (by decide +kernel) (by decide +kernel)
  · exact IntMulOk.of_bits (by decide +kernel) (by decide +kernel)
  · exact IntMulOk.of_bits (by decide +kernel) (by decide +kernel)
  · exact IntMulOk.of_bits (by decide +kernel) (by decide +kernel)
  have hbig : ∃ big : Int, 0 < big ∧ big = 10 ^ (60 : Int).toNat * 10 ^ (60 : Int).toNat * 10 ^ (60 : Int).toNat * 10 ^ (60 : Int).toNat * 10 ^ (60 : Int).toNat := ⟨_, by decide +kernel, rfl⟩
  obtain ⟨big, topPos, eb⟩ := hbig
  refine ⟨t, [.int big, .int 271828183], rfl, SqT.of (by rw [eb]; exact upd_same), rfl, _, _, rfl, _, _, rfl, rfl, ?_⟩
  clear eb
  have g1 := same_new ht (.tup [(fun i j => V.int (i * j)) (10 ^ Int.toNat 60 * 10 ^ Int.toNat 60 * 10 ^ Int.toNat 60 * 10 ^ Int.toNat 60) (10 ^ Int.toNat 60), V.int 271828183])
  generalize upd H t (.tup _) = H1 at g1
  have c60 := cut60 ns
  have hl60 : ((ns.take 60).map V.int).length ≤ 60 := by rw [List.length_map, List.length_take]; omega
  refine ⟨_, rfl, 60, rfl, a, _, rfl, g1.seq hS, fun u hu => ?_⟩
  rw [c60]
  have g2 : Same H1 (upd H1 u (.lst ((ns.take 60).map V.int))) := same_new hu _
  have hu2 : upd H1 u (.lst ((ns.take 60).map V.int)) u = some (.lst ((ns.take 60).map V.int)) := upd_same
  generalize upd H1 u (.lst ((ns.take 60).map V.int)) = H2 at g2 hu2
  refine ⟨u, rfl, ⟨_, SqL.of hu2⟩, ?_⟩
  have isInt : ∀ (i : Nat) (x : V), ((ns.take 60).map V.int)[i]? = some x → ∃ y : Int, x = .int y := fun i x e => by
    have := List.mem_of_getElem? e
    obtain ⟨y, _, z⟩ := List.mem_map.mp this
    exact ⟨y, z.symm⟩
  refine for_list (xs := (ns.take 60).map V.int) (fun i σ H' => ∃ (sd : Int) (v3 : Option V), σ = [some (.ref a), some (.int big), some (.int sd), v3] ∧ H' = H2 ∧ 0 ≤ sd ∧ sd < 2305843009213693951) ⟨271828183, none, rfl, rfl, by decide, by decide⟩ ?_ ?_ ?_
  · rintro i σ H' _ ⟨sd, v3, _, rfl, _⟩
    exact SqL.of hu2
  · rintro i x σ H' hx ⟨sd, v3, rfl, rfl, s0, s1⟩
    obtain ⟨y, rfl⟩ := isInt i x hx
    have r0 := Int.emod_nonneg y (show (2305843009213693951 : Int) ≠ 0 by decide)
    have r1 := Int.emod_lt_of_pos y (show (0 : Int) < 2305843009213693951 by decide)
    refine ⟨_, rfl, _, _, rfl, rfl, mul_small (by decide) (by decide), _, rfl, _, _, rfl, rfl, (by show (0 : Int) < _; decide), _, _, rfl, rfl, _, _, rfl, rfl, _, _, rfl, rfl, pow_ok (by omega) (lt80 (by omega)), _, _, rfl, rfl, (by show (0 : Int) < _; decide), ?_⟩
    exact ⟨_, _, rfl, rfl, Int.emod_nonneg _ (by decide), Int.emod_lt_of_pos _ (by decide)⟩
  · rintro σ H' ⟨sd, v3, rfl, rfl, s0, s1⟩
    refine ⟨_, rfl, _, rfl, 60, rfl, a, _, rfl, g2.seq (g1.seq hS), fun u2 hu3 => ?_⟩
    rw [c60]
    have g3 := same_new hu3 (.lst ((ns.take 60).map V.int))
    have hu4 : upd H' u2 (.lst ((ns.take 60).map V.int)) u2 = some (.lst ((ns.take 60).map V.int)) := upd_same
    generalize upd H' u2 (.lst ((ns.take 60).map V.int)) = H3 at g3 hu4
    refine ⟨u2, rfl, ⟨_, SqL.of hu4⟩, fun D hD => ?_⟩
    refine lc_list (xs := (ns.take 60).map V.int) (fun i ys σ H' => ∃ (cells : List Int) (v0 : Option V), ys = cells.map V.int ∧ (∀ x ∈ cells, 0 ≤ x) ∧ cells.length ≤ i ∧ Same H3 H' ∧ σ = [v0, some (.int big)]) ?_ ?_ ?_ ?_ ?_
    · exact ⟨[], none, rfl, fun x hx => (nomatch hx), Nat.le_refl _, same_new hD _, rfl⟩
    · rintro i ys σ H' ⟨cells, v0, _, _, _, sm, _⟩
      exact SqL.of (sm _ _ hu4)
    · rintro i x ys σ H5 hx hl hD1 ⟨cells, v0, e, nn, cl, sm, rfl⟩ kt kf ht hf
      obtain ⟨y, rfl⟩ := isInt i x hx
      refine ⟨_, rfl, y, rfl, _, rfl, _, _, rfl, rfl, topPos, ht _ _ _ hD1 ?_⟩
      refine ⟨cells ++ [(if y < 0 then -y else y) % big], _, by rw [e, List.map_append]; rfl, fun x hx => ?_, by simp; omega, fun b o h => ?_, rfl⟩
      · rcases List.mem_append.mp hx with z | z
        · exact nn x z
        · rw [List.mem_singleton.mp z]
          exact Int.emod_nonneg _ (by omega)
      · rw [upd_ne (fun z => by rw [z, hD] at h; cases h)]
        exact sm _ _ h
    · omega
    · rintro ys σ H5 hD1 hl ⟨cells, v0, e, nn, cl, sm, rfl⟩
      refine ⟨(by show 5 ≤ sizeLine; decide), fun b hb => ?_⟩
      refine q b D _ (g1.trans (g2.trans (g3.trans (sm.trans (same_new hb _))))) ⟨0, 0, sd, cells, upd_same, ?_, Int.le_refl 0, Int.le_refl 0, s0, s1, nn, by omega⟩
      rw [upd_ne (ne_of_none hD1 hb), hD1, e]
def F_law_draw : List PV → M PV := drawF
noncomputable def m_row_text : PEnv → M Fl := (retP (bmP "str" joinO (fun _ => M.ret (.str " ")) (consA (lstV (mkLC [none] (fun ρ => ((fun ρ => getV ρ 0) ρ).bind iterO) (bindN 0) allTs (fun ρ => ((consA (fun ρ => getV ρ 0) (fun _ => M.ret [])) ρ).bind strA))) (fun _ => M.ret []))))
noncomputable def F_row_text : List PV → M PV := fnP 1 1 m_row_text
noncomputable def m_rows_text : PEnv → M Fl := (retP (ifV (asB (bin2 gtO (fun ρ => ((consA (fun ρ => getV ρ 0) (fun _ => M.ret [])) ρ).bind lenO) (fun _ => M.ret (.int 0)))) (bmP "str" joinO (fun _ => M.ret (.str ", ")) (consA (lstV (mkLC [none] (fun ρ => ((fun ρ => getV ρ 0) ρ).bind iterO) (bindN 0) allTs (fun ρ => ((consA (fun ρ => getV ρ 0) (fun _ => M.ret [])) ρ).bind F_row_text))) (fun _ => M.ret []))) (fun _ => M.ret (.str "-"))))
noncomputable def F_rows_text : List PV → M PV := fnP 1 1 m_rows_text
noncomputable def m_page_text : PEnv → M Fl := (seqP (ifP (asB (bin2 (eqO false) (bin2 ixO (fun ρ => getV ρ 0) (fun _ => M.ret (.int 0))) (fun _ => M.ret (.str "rule"))))
    (retP (fun ρ => ((consA (bin2 addO (sl3 slE (fun ρ => getV ρ 0) (fun _ => M.ret none) (fun ρ => ((fun _ => M.ret (.int 4)) ρ).bind fun y => (intM y).bind fun i => M.ret (some i))) (fun ρ => ((consA (fun ρ => ((consA (bin2 ixO (fun ρ => getV ρ 0) (fun _ => M.ret (.int 4))) (fun _ => M.ret [])) ρ).bind F_rows_text) (fun _ => M.ret [])) ρ).bind mkTup)) (fun _ => M.ret [])) ρ).bind F_row_text))
    (fun ρ => M.ret (.nx ρ)))
    (retP (fun ρ => ((consA (fun ρ => getV ρ 0) (fun _ => M.ret [])) ρ).bind F_row_text)))
noncomputable def F_page_text : List PV → M PV := fnP 1 1 m_page_text
noncomputable def m_is_whole : PEnv → M Fl := (retP (andV (fun ρ => ((fun ρ => getV ρ 0) ρ).bind (isiO "int")) (notV (fun ρ => ((fun ρ => getV ρ 0) ρ).bind (isiO "bool")))))
noncomputable def F_is_whole : List PV → M PV := fnP 1 1 m_is_whole
noncomputable def m_is_within : PEnv → M Fl := (retP (andV (fun ρ => ((consA (fun ρ => getV ρ 0) (fun _ => M.ret [])) ρ).bind F_is_whole) (chain leOD leOD (fun ρ => getV ρ 1) (fun ρ => getV ρ 0) (fun ρ => getV ρ 2))))
noncomputable def F_is_within : List PV → M PV := fnP 3 3 m_is_within
noncomputable def m_is_name : PEnv → M Fl := (seqP (ifP (orP (notP (asB (fun ρ => ((fun ρ => getV ρ 0) ρ).bind (isiO "str")))) (notP (asB (chain leOD leOD (fun _ => M.ret (.int 1)) (fun ρ => ((consA (fun ρ => getV ρ 0) (fun _ => M.ret [])) ρ).bind lenO) (fun _ => M.ret (.int 8))))))
    (retP (fun _ => M.ret (.bl false)))
    (fun ρ => M.ret (.nx ρ)))
    (retP (fun ρ => ((consA (lstV (mkLC [none] (fun ρ => ((fun ρ => getV ρ 0) ρ).bind iterO) (bindN 0) allTs (chain leOD leOD (fun _ => M.ret (.str "a")) (fun ρ => getV ρ 0) (fun _ => M.ret (.str "z"))))) (fun _ => M.ret [])) ρ).bind allO)))
noncomputable def F_is_name : List PV → M PV := fnP 1 1 m_is_name
noncomputable def m_way_named : PEnv → M Fl := (seqP (mkFor (fun ρ => ((bin2 ixO (fun ρ => getV ρ 0) (fun _ => M.ret (.int 0))) ρ).bind iterO) (bindN 2)
    (ifP (asB (bin2 (eqO false) (bin2 ixO (fun ρ => getV ρ 2) (fun _ => M.ret (.int 0))) (fun ρ => getV ρ 1)))
    (retP (fun ρ => getV ρ 2))
    (fun ρ => M.ret (.nx ρ))))
    (retP (fun _ => M.ret .non)))
noncomputable def F_way_named : List PV → M PV := fnP 2 3 m_way_named
noncomputable def m_is_way_name : PEnv → M Fl := (retP (andV (fun ρ => ((consA (fun ρ => getV ρ 1) (fun _ => M.ret [])) ρ).bind F_is_name) (bin2 (isO true) (fun ρ => ((consA (fun ρ => getV ρ 0) (consA (fun ρ => getV ρ 1) (fun _ => M.ret []))) ρ).bind F_way_named) (fun _ => M.ret .non))))
noncomputable def F_is_way_name : List PV → M PV := fnP 2 2 m_is_way_name
noncomputable def m_is_slope_name : PEnv → M Fl := (retP (andV (fun ρ => ((consA (fun ρ => getV ρ 0) (consA (fun ρ => getV ρ 1) (fun _ => M.ret []))) ρ).bind F_is_way_name) (bin2 (eqO false) (bin2 ixO (fun ρ => ((consA (fun ρ => getV ρ 0) (consA (fun ρ => getV ρ 1) (fun _ => M.ret []))) ρ).bind F_way_named) (fun _ => M.ret (.int 1))) (fun _ => M.ret (.str "slope")))))
noncomputable def F_is_slope_name : List PV → M PV := fnP 2 2 m_is_slope_name
noncomputable def m_is_hours : PEnv → M Fl := (retP (andV (fun ρ => ((consA (fun ρ => getV ρ 0) (consA (fun _ => M.ret (.int 0)) (consA (fun _ => M.ret (.int 1000001)) (fun _ => M.ret [])))) ρ).bind F_is_within) (andV (fun ρ => ((consA (fun ρ => getV ρ 1) (consA (fun _ => M.ret (.int 0)) (consA (fun _ => M.ret (.int 1000001)) (fun _ => M.ret [])))) ρ).bind F_is_within) (bin2 ltO (fun ρ => getV ρ 0) (fun ρ => getV ρ 1)))))
noncomputable def F_is_hours : List PV → M PV := fnP 2 2 m_is_hours
noncomputable def m_begins_with_text : PEnv → M Fl := (retP (andV (fun ρ => ((fun ρ => getV ρ 0) ρ).bind (isiO "tuple")) (andV (bin2 gtO (fun ρ => ((consA (fun ρ => getV ρ 0) (fun _ => M.ret [])) ρ).bind lenO) (fun _ => M.ret (.int 0))) (fun ρ => ((bin2 ixO (fun ρ => getV ρ 0) (fun _ => M.ret (.int 0))) ρ).bind (isiO "str")))))
noncomputable def F_begins_with_text : List PV → M PV := fnP 1 1 m_begins_with_text
noncomputable def m_is_rule : PEnv → M Fl := (seqP (ifP (notP (asB (fun ρ => ((consA (fun ρ => getV ρ 1) (fun _ => M.ret [])) ρ).bind F_begins_with_text)))
    (retP (fun _ => M.ret (.bl false)))
    (fun ρ => M.ret (.nx ρ)))
    (seqP (setP 2 (bin2 ixO (fun ρ => getV ρ 1) (fun _ => M.ret (.int 0))))
    (seqP (ifP (asB (bin2 (eqO false) (fun ρ => getV ρ 2) (fun _ => M.ret (.str "hours"))))
    (retP (andV (bin2 (eqO false) (fun ρ => ((consA (fun ρ => getV ρ 1) (fun _ => M.ret [])) ρ).bind lenO) (fun _ => M.ret (.int 3))) (fun ρ => ((consA (bin2 ixO (fun ρ => getV ρ 1) (fun _ => M.ret (.int 1))) (consA (bin2 ixO (fun ρ => getV ρ 1) (fun _ => M.ret (.int 2))) (fun _ => M.ret []))) ρ).bind F_is_hours)))
    (fun ρ => M.ret (.nx ρ)))
    (seqP (ifP (orP (asB (bin2 (eqO false) (fun ρ => getV ρ 2) (fun _ => M.ret (.str "least")))) (asB (bin2 (eqO false) (fun ρ => getV ρ 2) (fun _ => M.ret (.str "most")))))
    (retP (andV (bin2 (eqO false) (fun ρ => ((consA (fun ρ => getV ρ 1) (fun _ => M.ret [])) ρ).bind lenO) (fun _ => M.ret (.int 3))) (andV (fun ρ => ((consA (bin2 ixO (fun ρ => getV ρ 1) (fun _ => M.ret (.int 1))) (fun _ => M.ret [])) ρ).bind F_is_name) (fun ρ => ((consA (bin2 ixO (fun ρ => getV ρ 1) (fun _ => M.ret (.int 2))) (fun _ => M.ret [])) ρ).bind F_is_whole))))
    (fun ρ => M.ret (.nx ρ)))
    (seqP (ifP (asB (bin2 (eqO false) (fun ρ => getV ρ 2) (fun _ => M.ret (.str "looked"))))
    (retP (andV (bin2 (eqO false) (fun ρ => ((consA (fun ρ => getV ρ 1) (fun _ => M.ret [])) ρ).bind lenO) (fun _ => M.ret (.int 2))) (fun ρ => ((consA (bin2 ixO (fun ρ => getV ρ 1) (fun _ => M.ret (.int 1))) (consA (fun _ => M.ret (.int 1)) (consA (fun _ => M.ret (.int 1000000)) (fun _ => M.ret [])))) ρ).bind F_is_within)))
    (fun ρ => M.ret (.nx ρ)))
    (seqP (ifP (asB (bin2 (eqO false) (fun ρ => getV ρ 2) (fun _ => M.ret (.str "with"))))
    (retP (andV (bin2 (eqO false) (fun ρ => ((consA (fun ρ => getV ρ 1) (fun _ => M.ret [])) ρ).bind lenO) (fun _ => M.ret (.int 2))) (fun ρ => ((consA (fun ρ => getV ρ 0) (consA (bin2 ixO (fun ρ => getV ρ 1) (fun _ => M.ret (.int 1))) (fun _ => M.ret []))) ρ).bind F_is_way_name)))
    (fun ρ => M.ret (.nx ρ)))
    (retP (andV (bin2 (eqO false) (fun ρ => getV ρ 2) (fun _ => M.ret (.str "never"))) (bin2 (eqO false) (fun ρ => ((consA (fun ρ => getV ρ 1) (fun _ => M.ret [])) ρ).bind lenO) (fun _ => M.ret (.int 1)))))))))))
noncomputable def F_is_rule : List PV → M PV := fnP 2 3 m_is_rule
noncomputable def m_is_rules : PEnv → M Fl := (seqP (ifP (orP (notP (asB (fun ρ => ((fun ρ => getV ρ 1) ρ).bind (isiO "tuple")))) (asB (bin2 gtO (fun ρ => ((consA (fun ρ => getV ρ 1) (fun _ => M.ret [])) ρ).bind lenO) (fun _ => M.ret (.int 6)))))
    (retP (fun _ => M.ret (.bl false)))
    (fun ρ => M.ret (.nx ρ)))
    (retP (fun ρ => ((consA (lstV (mkLC [none, some 0] (fun ρ => ((fun ρ => getV ρ 1) ρ).bind iterO) (bindN 0) allTs (fun ρ => ((consA (fun ρ => getV ρ 1) (consA (fun ρ => getV ρ 0) (fun _ => M.ret []))) ρ).bind F_is_rule))) (fun _ => M.ret [])) ρ).bind allO)))
noncomputable def F_is_rules : List PV → M PV := fnP 2 2 m_is_rules
noncomputable def m_is_page : PEnv → M Fl := (seqP (ifP (orP (notP (asB (fun ρ => ((consA (fun ρ => getV ρ 1) (fun _ => M.ret [])) ρ).bind F_begins_with_text))) (asB (bin2 ltO (fun ρ => ((consA (fun ρ => getV ρ 1) (fun _ => M.ret [])) ρ).bind lenO) (fun _ => M.ret (.int 4)))))
    (retP (fun _ => M.ret (.bl false)))
    (fun ρ => M.ret (.nx ρ)))
    (seqP (ifP (orP (notP (asB (fun ρ => ((consA (bin2 ixO (fun ρ => getV ρ 1) (fun _ => M.ret (.int 1))) (consA (fun _ => M.ret (.int 0)) (consA (fun _ => M.ret (.int 999999)) (fun _ => M.ret [])))) ρ).bind F_is_within))) (notP (asB (fun ρ => ((consA (bin2 ixO (fun ρ => getV ρ 1) (fun _ => M.ret (.int 2))) (consA (fun _ => M.ret (.int 0)) (consA (bin2 ixO (fun ρ => getV ρ 0) (fun _ => M.ret (.int 2))) (fun _ => M.ret [])))) ρ).bind F_is_within))))
    (retP (fun _ => M.ret (.bl false)))
    (fun ρ => M.ret (.nx ρ)))
    (seqP (setP 2 (bin2 ixO (fun ρ => getV ρ 1) (fun _ => M.ret (.int 0))))
    (seqP (ifP (asB (bin2 (eqO false) (fun ρ => getV ρ 2) (fun _ => M.ret (.str "read"))))
    (retP (andV (bin2 (eqO false) (fun ρ => ((consA (fun ρ => getV ρ 1) (fun _ => M.ret [])) ρ).bind lenO) (fun _ => M.ret (.int 5))) (andV (fun ρ => ((consA (bin2 ixO (fun ρ => getV ρ 1) (fun _ => M.ret (.int 3))) (fun _ => M.ret [])) ρ).bind F_is_name) (fun ρ => ((consA (bin2 ixO (fun ρ => getV ρ 1) (fun _ => M.ret (.int 4))) (fun _ => M.ret [])) ρ).bind F_is_whole))))
    (fun ρ => M.ret (.nx ρ)))
    (seqP (ifP (asB (bin2 (eqO false) (fun ρ => getV ρ 2) (fun _ => M.ret (.str "look"))))
    (retP (andV (bin2 (eqO false) (fun ρ => ((consA (fun ρ => getV ρ 1) (fun _ => M.ret [])) ρ).bind lenO) (fun _ => M.ret (.int 4))) (fun ρ => ((consA (fun ρ => getV ρ 0) (consA (bin2 ixO (fun ρ => getV ρ 1) (fun _ => M.ret (.int 3))) (fun _ => M.ret []))) ρ).bind F_is_slope_name)))
    (fun ρ => M.ret (.nx ρ)))
    (seqP (ifP (asB (bin2 (eqO false) (fun ρ => getV ρ 2) (fun _ => M.ret (.str "rule"))))
    (retP (andV (bin2 (eqO false) (fun ρ => ((consA (fun ρ => getV ρ 1) (fun _ => M.ret [])) ρ).bind lenO) (fun _ => M.ret (.int 5))) (andV (fun ρ => ((consA (fun ρ => getV ρ 0) (consA (bin2 ixO (fun ρ => getV ρ 1) (fun _ => M.ret (.int 3))) (fun _ => M.ret []))) ρ).bind F_is_way_name) (fun ρ => ((consA (fun ρ => getV ρ 0) (consA (bin2 ixO (fun ρ => getV ρ 1) (fun _ => M.ret (.int 4))) (fun _ => M.ret []))) ρ).bind F_is_rules))))
    (fun ρ => M.ret (.nx ρ)))
    (retP (fun _ => M.ret (.bl false)))))))))
noncomputable def F_is_page : List PV → M PV := fnP 2 3 m_is_page
noncomputable def m_are_figures : PEnv → M Fl := (seqP (ifP (orP (notP (asB (chain leOD leOD (fun _ => M.ret (.int 1)) (fun ρ => ((consA (fun ρ => getV ρ 0) (fun _ => M.ret [])) ρ).bind lenO) (fun _ => M.ret (.int 60))))) (notP (asB (fun ρ => ((consA (lstV (mkLC [none] (fun ρ => ((fun ρ => getV ρ 0) ρ).bind iterO) (bindN 0) allTs (chain leOD leOD (fun _ => M.ret (.str "0")) (fun ρ => getV ρ 0) (fun _ => M.ret (.str "9"))))) (fun _ => M.ret [])) ρ).bind allO))))
    (retP (fun _ => M.ret (.bl false)))
    (fun ρ => M.ret (.nx ρ)))
    (retP (orV (bin2 (eqO false) (fun ρ => getV ρ 0) (fun _ => M.ret (.str "0"))) (bin2 (eqO true) (bin2 ixO (fun ρ => getV ρ 0) (fun _ => M.ret (.int 0))) (fun _ => M.ret (.str "0"))))))
noncomputable def F_are_figures : List PV → M PV := fnP 1 1 m_are_figures
noncomputable def m_thing_of : PEnv → M Fl := (seqP (ifP (asB (fun ρ => ((consA (fun ρ => getV ρ 0) (fun _ => M.ret [])) ρ).bind F_are_figures))
    (retP (fun ρ => ((consA (fun ρ => getV ρ 0) (fun _ => M.ret [])) ρ).bind intT))
    (fun ρ => M.ret (.nx ρ)))
    (seqP (ifP (andP (asB (bmP "str" startsO (fun ρ => getV ρ 0) (consA (fun _ => M.ret (.str "-")) (fun _ => M.ret [])))) (andP (asB (bin2 (eqO true) (fun ρ => getV ρ 0) (fun _ => M.ret (.str "-0")))) (asB (fun ρ => ((consA (sl3 slE (fun ρ => getV ρ 0) (fun ρ => ((fun _ => M.ret (.int 1)) ρ).bind fun y => (intM y).bind fun i => M.ret (some i)) (fun _ => M.ret none)) (fun _ => M.ret [])) ρ).bind F_are_figures))))
    (retP (fun ρ => ((fun ρ => ((consA (sl3 slE (fun ρ => getV ρ 0) (fun ρ => ((fun _ => M.ret (.int 1)) ρ).bind fun y => (intM y).bind fun i => M.ret (some i)) (fun _ => M.ret none)) (fun _ => M.ret [])) ρ).bind intT) ρ).bind negO))
    (fun ρ => M.ret (.nx ρ)))
    (retP (fun ρ => getV ρ 0))))
noncomputable def F_thing_of : List PV → M PV := fnP 1 1 m_thing_of
noncomputable def m_row_of : PEnv → M Fl := (retP (fun ρ => ((consA (lstV (mkLC [none] (fun ρ => ((lstV (spM (fun ρ => getV ρ 0) (consA (fun _ => M.ret (.str " ")) (fun _ => M.ret [])))) ρ).bind iterO) (bindN 0) allTs (fun ρ => ((consA (fun ρ => getV ρ 0) (fun _ => M.ret [])) ρ).bind F_thing_of))) (fun _ => M.ret [])) ρ).bind tupO))
noncomputable def F_row_of : List PV → M PV := fnP 1 1 m_row_of
noncomputable def m_rows_of : PEnv → M Fl := (retP (ifV (asB (bin2 (eqO false) (fun ρ => getV ρ 0) (fun _ => M.ret (.str "-")))) (fun ρ => ((fun _ => M.ret []) ρ).bind mkTup) (fun ρ => ((consA (lstV (mkLC [none] (fun ρ => ((lstV (spM (fun ρ => getV ρ 0) (consA (fun _ => M.ret (.str ", ")) (fun _ => M.ret [])))) ρ).bind iterO) (bindN 0) allTs (fun ρ => ((consA (fun ρ => getV ρ 0) (fun _ => M.ret [])) ρ).bind F_row_of))) (fun _ => M.ret [])) ρ).bind tupO)))
noncomputable def F_rows_of : List PV → M PV := fnP 1 1 m_rows_of
noncomputable def m_page_of : PEnv → M Fl := (seqP (setP 1 (lstV (spM (fun ρ => getV ρ 0) (consA (fun _ => M.ret (.str " ")) (fun _ => M.ret [])))))
    (seqP (ifP (asB (bin2 (eqO false) (bin2 ixO (fun ρ => getV ρ 1) (fun _ => M.ret (.int 0))) (fun _ => M.ret (.str "rule"))))
    (retP (bin2 addO (fun ρ => ((consA (bmP "str" joinO (fun _ => M.ret (.str " ")) (consA (sl3 slE (fun ρ => getV ρ 1) (fun _ => M.ret none) (fun ρ => ((fun _ => M.ret (.int 4)) ρ).bind fun y => (intM y).bind fun i => M.ret (some i))) (fun _ => M.ret []))) (fun _ => M.ret [])) ρ).bind F_row_of) (fun ρ => ((consA (fun ρ => ((consA (bmP "str" joinO (fun _ => M.ret (.str " ")) (consA (sl3 slE (fun ρ => getV ρ 1) (fun ρ => ((fun _ => M.ret (.int 4)) ρ).bind fun y => (intM y).bind fun i => M.ret (some i)) (fun _ => M.ret none)) (fun _ => M.ret []))) (fun _ => M.ret [])) ρ).bind F_rows_of) (fun _ => M.ret [])) ρ).bind mkTup)))
    (fun ρ => M.ret (.nx ρ)))
    (retP (fun ρ => ((consA (fun ρ => getV ρ 0) (fun _ => M.ret [])) ρ).bind F_row_of))))
noncomputable def F_page_of : List PV → M PV := fnP 1 2 m_page_of
noncomputable def m_read_page : PEnv → M Fl := (seqP (ifP (orP (notP (asB (fun ρ => ((fun ρ => getV ρ 1) ρ).bind (isiO "str")))) (notP (asB (fun ρ => ((consA (fun ρ => getV ρ 0) (consA (fun ρ => ((consA (fun ρ => getV ρ 1) (fun _ => M.ret [])) ρ).bind F_page_of) (fun _ => M.ret []))) ρ).bind F_is_page))))
    (fun _ => M.fail)
    (fun ρ => M.ret (.nx ρ)))
    (retP (fun ρ => ((consA (fun ρ => getV ρ 1) (fun _ => M.ret [])) ρ).bind F_page_of)))
noncomputable def F_read_page : List PV → M PV := fnP 2 2 m_read_page
noncomputable def m_law_any : PEnv → M Fl := (retP (bin2 ixO (fun ρ => getV ρ 1) (fun ρ => ((consA (fun ρ => getV ρ 0) (consA (fun ρ => ((consA (fun ρ => getV ρ 1) (fun _ => M.ret [])) ρ).bind lenO) (fun _ => M.ret []))) ρ).bind F_law_draw)))
noncomputable def F_law_any : List PV → M PV := fnP 2 2 m_law_any
noncomputable def m_law_label : PEnv → M Fl := (seqP (setP 1 (bin2 ixO (lstV (fun ρ => ((consA (fun _ => M.ret (.int 2)) (consA (fun _ => M.ret (.int 1)) (consA (fun _ => M.ret (.int 3)) (consA (fun _ => M.ret (.int 8)) (consA (fun _ => M.ret (.int 4)) (consA (fun _ => M.ret (.int 1)) (consA (fun _ => M.ret (.int 5)) (consA (fun _ => M.ret (.int 2)) (fun _ => M.ret []))))))))) ρ).bind mkLst)) (fun ρ => ((consA (fun ρ => getV ρ 0) (consA (fun _ => M.ret (.int 8)) (fun _ => M.ret []))) ρ).bind F_law_draw)))
    (retP (bmP "str" joinO (fun _ => M.ret (.str "")) (consA (lstV (mkLC [none, some 0] (fun ρ => ((consA (fun ρ => getV ρ 1) (fun _ => M.ret [])) ρ).bind rng1O) (bindN 0) allTs (bin2 ixO (fun _ => M.ret (.str "abcdefghijklmnopqrstuvwxyz")) (fun ρ => ((consA (fun ρ => getV ρ 1) (consA (fun _ => M.ret (.int 26)) (fun _ => M.ret []))) ρ).bind F_law_draw)))) (fun _ => M.ret [])))))
noncomputable def F_law_label : List PV → M PV := fnP 1 2 m_law_label
noncomputable def m_law_labels : PEnv → M Fl := (seqP (parVO 2 3 (fun _ => M.ret (.str "abcdefghijklmnopqrstuvwxyz")) (fun ρ => ((fun _ => M.ret []) ρ).bind mkLst))
    (seqP (setP 4 (ifV (asB (bin2 (eqO false) (fun ρ => ((consA (fun ρ => getV ρ 0) (consA (fun _ => M.ret (.int 2)) (fun _ => M.ret []))) ρ).bind F_law_draw) (fun _ => M.ret (.int 0)))) (sl3 slE (fun ρ => ((consA (fun ρ => getV ρ 0) (fun _ => M.ret [])) ρ).bind F_law_label) (fun _ => M.ret none) (fun ρ => ((fun _ => M.ret (.int 5)) ρ).bind fun y => (intM y).bind fun i => M.ret (some i))) (fun _ => M.ret (.str ""))))
    (seqP (mkFor (fun ρ => ((consA (fun ρ => getV ρ 1) (fun _ => M.ret [])) ρ).bind rng1O) (bindN 5)
    (seqP (setP 6 (sl3 slE (bin2 addO (fun ρ => getV ρ 4) (fun ρ => ((consA (fun ρ => getV ρ 0) (fun _ => M.ret [])) ρ).bind F_law_label)) (fun _ => M.ret none) (fun ρ => ((fun _ => M.ret (.int 8)) ρ).bind fun y => (intM y).bind fun i => M.ret (some i))))
    (seqP (mkFor (fun ρ => ((consA (fun _ => M.ret (.int 26)) (fun _ => M.ret [])) ρ).bind rng1O) (bindN 7)
    (ifP (asB (bin2 (inO false) (fun ρ => getV ρ 6) (fun ρ => getB ρ 3)))
    (setP 6 (bin2 addO (sl3 slE (fun ρ => getV ρ 6) (fun _ => M.ret none) (fun ρ => ((fun ρ => ((fun _ => M.ret (.int 1)) ρ).bind negO) ρ).bind fun y => (intM y).bind fun i => M.ret (some i))) (bin2 ixO (fun ρ => getV ρ 2) (bin2 modO (bin2 addO (bmP "str" indexO (fun ρ => getV ρ 2) (consA (bin2 ixO (fun ρ => getV ρ 6) (fun ρ => ((fun _ => M.ret (.int 1)) ρ).bind negO)) (fun _ => M.ret []))) (fun _ => M.ret (.int 1))) (fun _ => M.ret (.int 26))))))
    (fun ρ => M.ret (.nx ρ))))
    (appP 3 (fun ρ => getV ρ 6)))))
    (retP (fun ρ => getV ρ 3)))))
noncomputable def F_law_labels : List PV → M PV := fnP 2 8 m_law_labels
noncomputable def m_law_pace : PEnv → M Fl := (retP (bin2 ixO (lstV (fun ρ => ((consA (fun _ => M.ret (.int 0)) (consA (fun _ => M.ret (.int 1000000)) (consA (fun ρ => getV ρ 1) (consA (fun _ => M.ret (.int 1)) (consA (bin2 mulE (fun _ => M.ret (.int 2)) (fun ρ => getV ρ 1)) (consA (bin2 mulE (fun _ => M.ret (.int 3)) (fun ρ => getV ρ 1)) (consA (bin2 mulE (fun _ => M.ret (.int 5)) (fun ρ => getV ρ 1)) (consA (bin2 addO (fun ρ => getV ρ 1) (fun _ => M.ret (.int 1))) (fun _ => M.ret []))))))))) ρ).bind mkLst)) (fun ρ => ((consA (fun ρ => getV ρ 0) (consA (fun _ => M.ret (.int 8)) (fun _ => M.ret []))) ρ).bind F_law_draw)))
noncomputable def F_law_pace : List PV → M PV := fnP 2 2 m_law_pace
noncomputable def m_law_hill : PEnv → M Fl := (seqP (setP 1 (ifV (asB (bin2 (eqO false) (fun ρ => ((consA (fun ρ => getV ρ 0) (consA (fun _ => M.ret (.int 8)) (fun _ => M.ret []))) ρ).bind F_law_draw) (fun _ => M.ret (.int 7)))) (fun _ => M.ret (.int 12)) (bin2 addO (fun _ => M.ret (.int 1)) (fun ρ => ((consA (fun ρ => getV ρ 0) (consA (fun _ => M.ret (.int 6)) (fun _ => M.ret []))) ρ).bind F_law_draw))))
    (seqP (parP 2 3 (consA (bin2 ixO (lstV (fun ρ => ((consA (fun _ => M.ret (.int 1)) (consA (fun _ => M.ret (.int 7)) (consA (fun _ => M.ret (.int 33333)) (fun _ => M.ret [])))) ρ).bind mkLst)) (fun ρ => ((consA (fun ρ => getV ρ 0) (consA (fun _ => M.ret (.int 3)) (fun _ => M.ret []))) ρ).bind F_law_draw)) (consA (fun ρ => ((consA (fun ρ => getV ρ 0) (consA (bin2 addO (fun _ => M.ret (.int 1)) (fun ρ => ((consA (fun ρ => getV ρ 0) (consA (fun _ => M.ret (.int 5)) (fun _ => M.ret []))) ρ).bind F_law_draw)) (fun _ => M.ret []))) ρ).bind F_law_labels) (fun _ => M.ret []))))
    (seqP (ownP 4 (fun ρ => ((fun _ => M.ret []) ρ).bind mkLst))
    (seqP (mkFor (fun ρ => ((fun ρ => ((consA (fun ρ => getV ρ 0) (consA (fun ρ => getV ρ 1) (fun _ => M.ret []))) ρ).bind F_law_labels) ρ).bind iterO) (bindN 5)
    (seqP (par3P 6 7 8 (consA (fun ρ => ((consA (fun ρ => getV ρ 0) (consA (fun _ => M.ret (.int 4)) (fun _ => M.ret []))) ρ).bind F_law_draw) (consA (fun ρ => ((consA (fun ρ => getV ρ 0) (consA (fun ρ => getV ρ 3) (fun _ => M.ret []))) ρ).bind F_law_any) (consA (fun ρ => ((consA (fun ρ => getV ρ 0) (consA (fun ρ => getV ρ 3) (fun _ => M.ret []))) ρ).bind F_law_any) (fun _ => M.ret [])))))
    (seqP (setP 9 (fun ρ => ((consA (fun ρ => ((consA (fun ρ => getV ρ 0) (consA (fun ρ => getV ρ 2) (fun _ => M.ret []))) ρ).bind F_law_pace) (consA (fun ρ => ((consA (fun ρ => getV ρ 0) (consA (fun ρ => getV ρ 2) (fun _ => M.ret []))) ρ).bind F_law_pace) (fun _ => M.ret []))) ρ).bind mkTup))
    (appP 4 (bin2 addO (fun ρ => ((consA (fun ρ => getV ρ 5) (consA (bin2 ixO (lstV (fun ρ => ((consA (fun _ => M.ret (.str "slope")) (consA (fun _ => M.ret (.str "lift")) (consA (fun _ => M.ret (.str "path")) (consA (fun _ => M.ret (.str "slope")) (fun _ => M.ret []))))) ρ).bind mkLst)) (fun ρ => getV ρ 6)) (consA (fun ρ => getV ρ 7) (consA (fun ρ => getV ρ 8) (fun _ => M.ret []))))) ρ).bind mkTup) (fun ρ => getV ρ 9))))))
    (seqP (setP 10 (bin2 ixO (lstV (fun ρ => ((consA (fun _ => M.ret (.int 1000000)) (consA (fun _ => M.ret (.int 1)) (consA (bin2 mulE (fun ρ => getV ρ 2) (bin2 addO (fun _ => M.ret (.int 1)) (fun ρ => ((consA (fun ρ => getV ρ 0) (consA (fun _ => M.ret (.int 30)) (fun _ => M.ret []))) ρ).bind F_law_draw))) (consA (bin2 mulE (fun ρ => getV ρ 2) (bin2 addO (fun _ => M.ret (.int 5)) (fun ρ => ((consA (fun ρ => getV ρ 0) (consA (fun _ => M.ret (.int 9)) (fun _ => M.ret []))) ρ).bind F_law_draw))) (fun _ => M.ret []))))) ρ).bind mkLst)) (fun ρ => ((consA (fun ρ => getV ρ 0) (consA (fun _ => M.ret (.int 4)) (fun _ => M.ret []))) ρ).bind F_law_draw)))
    (retP (fun ρ => ((consA (fun ρ => ((consA (fun ρ => getV ρ 4) (fun _ => M.ret [])) ρ).bind tupO) (consA (fun ρ => ((consA (fun ρ => getV ρ 0) (consA (fun ρ => getV ρ 3) (fun _ => M.ret []))) ρ).bind F_law_any) (consA (fun ρ => getV ρ 10) (fun _ => M.ret [])))) ρ).bind mkTup)))))))
noncomputable def F_law_hill : List PV → M PV := fnP 1 11 m_law_hill
noncomputable def m_law_moment : PEnv → M Fl := (retP (bin2 ixO (lstV (fun ρ => ((consA (fun _ => M.ret (.int 0)) (consA (bin2 ixO (fun ρ => getV ρ 1) (fun _ => M.ret (.int 2))) (consA (fun ρ => ((consA (fun ρ => getV ρ 0) (consA (bin2 addO (bin2 ixO (fun ρ => getV ρ 1) (fun _ => M.ret (.int 2))) (fun _ => M.ret (.int 1))) (fun _ => M.ret []))) ρ).bind F_law_draw) (consA (bin2 fdivO (bin2 ixO (fun ρ => getV ρ 1) (fun _ => M.ret (.int 2))) (fun _ => M.ret (.int 2))) (fun _ => M.ret []))))) ρ).bind mkLst)) (fun ρ => ((consA (fun ρ => getV ρ 0) (consA (fun _ => M.ret (.int 4)) (fun _ => M.ret []))) ρ).bind F_law_draw)))
noncomputable def F_law_moment : List PV → M PV := fnP 2 2 m_law_moment
noncomputable def m_law_rule : PEnv → M Fl := (seqP (parP 2 3 (consA (fun ρ => ((consA (fun ρ => getV ρ 0) (consA (fun _ => M.ret (.int 8)) (fun _ => M.ret []))) ρ).bind F_law_draw) (consA (bin2 subO (fun ρ => ((consA (fun ρ => getV ρ 0) (consA (fun _ => M.ret (.int 7)) (fun _ => M.ret []))) ρ).bind F_law_draw) (fun _ => M.ret (.int 3))) (fun _ => M.ret []))))
    (seqP (ifP (asB (bin2 (eqO false) (fun ρ => ((consA (fun ρ => getV ρ 0) (consA (fun _ => M.ret (.int 6)) (fun _ => M.ret []))) ρ).bind F_law_draw) (fun _ => M.ret (.int 0))))
    (setP 3 (bin2 mulE (bin2 subO (bin2 powO (fun _ => M.ret (.int 10)) (fun _ => M.ret (.int 60))) (fun _ => M.ret (.int 1))) (bin2 ixO (lstV (fun ρ => ((consA (fun _ => M.ret (.int 1)) (consA (fun ρ => ((fun _ => M.ret (.int 1)) ρ).bind negO) (fun _ => M.ret []))) ρ).bind mkLst)) (fun ρ => ((consA (fun ρ => getV ρ 0) (consA (fun _ => M.ret (.int 2)) (fun _ => M.ret []))) ρ).bind F_law_draw))))
    (fun ρ => M.ret (.nx ρ)))
    (seqP (ifP (asB (bin2 (eqO false) (fun ρ => getV ρ 2) (fun _ => M.ret (.int 0))))
    (seqP (setP 4 (fun ρ => ((consA (fun ρ => getV ρ 0) (consA (fun ρ => getV ρ 1) (fun _ => M.ret []))) ρ).bind F_law_moment))
    (retP (fun ρ => ((consA (fun _ => M.ret (.str "hours")) (consA (fun ρ => getV ρ 4) (consA (fun ρ => ((consA (fun ρ => getV ρ 0) (consA (lstV (fun ρ => ((consA (bin2 addO (fun ρ => getV ρ 4) (fun _ => M.ret (.int 1))) (consA (fun _ => M.ret (.int 1000001)) (consA (bin2 addO (bin2 addO (fun ρ => getV ρ 4) (fun _ => M.ret (.int 1))) (fun ρ => ((consA (fun ρ => getV ρ 0) (consA (bin2 subO (fun _ => M.ret (.int 1000001)) (fun ρ => getV ρ 4)) (fun _ => M.ret []))) ρ).bind F_law_draw)) (fun _ => M.ret [])))) ρ).bind mkLst)) (fun _ => M.ret []))) ρ).bind F_law_any) (fun _ => M.ret [])))) ρ).bind mkTup)))
    (fun ρ => M.ret (.nx ρ)))
    (seqP (ifP (asB (bin2 ltO (fun ρ => getV ρ 2) (fun _ => M.ret (.int 4))))
    (retP (fun ρ => ((consA (bin2 ixO (lstV (fun ρ => ((consA (fun _ => M.ret (.str "least")) (consA (fun _ => M.ret (.str "most")) (consA (fun _ => M.ret (.str "least")) (fun _ => M.ret [])))) ρ).bind mkLst)) (bin2 subO (fun ρ => getV ρ 2) (fun _ => M.ret (.int 1)))) (consA (fun ρ => ((consA (fun ρ => getV ρ 0) (consA (lstV (fun ρ => ((consA (fun _ => M.ret (.str "wind")) (consA (fun _ => M.ret (.str "snow")) (consA (fun _ => M.ret (.str "a")) (consA (fun _ => M.ret (.str "zzzzzzzz")) (fun _ => M.ret []))))) ρ).bind mkLst)) (fun _ => M.ret []))) ρ).bind F_law_any) (consA (fun ρ => getV ρ 3) (fun _ => M.ret [])))) ρ).bind mkTup))
    (fun ρ => M.ret (.nx ρ)))
    (seqP (ifP (asB (bin2 (eqO false) (fun ρ => getV ρ 2) (fun _ => M.ret (.int 4))))
    (retP (fun ρ => ((consA (fun _ => M.ret (.str "looked")) (consA (fun ρ => ((consA (fun ρ => getV ρ 0) (consA (lstV (fun ρ => ((consA (fun _ => M.ret (.int 1)) (consA (fun _ => M.ret (.int 1000000)) (consA (bin2 addO (fun _ => M.ret (.int 1)) (fun ρ => ((consA (fun ρ => getV ρ 0) (consA (fun _ => M.ret (.int 40)) (fun _ => M.ret []))) ρ).bind F_law_draw)) (consA (bin2 addO (fun _ => M.ret (.int 1)) (bin2 fdivO (bin2 ixO (fun ρ => getV ρ 1) (fun _ => M.ret (.int 2))) (fun _ => M.ret (.int 3)))) (fun _ => M.ret []))))) ρ).bind mkLst)) (fun _ => M.ret []))) ρ).bind F_law_any) (fun _ => M.ret []))) ρ).bind mkTup))
    (fun ρ => M.ret (.nx ρ)))
    (retP (ifV (asB (bin2 ltO (fun ρ => getV ρ 2) (fun _ => M.ret (.int 7)))) (fun ρ => ((consA (fun _ => M.ret (.str "with")) (consA (bin2 ixO (fun ρ => ((consA (fun ρ => getV ρ 0) (consA (bin2 ixO (fun ρ => getV ρ 1) (fun _ => M.ret (.int 0))) (fun _ => M.ret []))) ρ).bind F_law_any) (fun _ => M.ret (.int 0))) (fun _ => M.ret []))) ρ).bind mkTup) (fun ρ => ((consA (fun _ => M.ret (.str "never")) (fun _ => M.ret [])) ρ).bind mkTup))))))))
noncomputable def F_law_rule : List PV → M PV := fnP 2 5 m_law_rule
noncomputable def m_law_rules : PEnv → M Fl := (retP (fun ρ => ((consA (lstV (mkLC [none, some 0, some 1] (fun ρ => ((consA (bin2 ixO (lstV (fun ρ => ((consA (fun _ => M.ret (.int 1)) (consA (fun _ => M.ret (.int 2)) (consA (fun _ => M.ret (.int 0)) (consA (fun _ => M.ret (.int 3)) (consA (fun _ => M.ret (.int 6)) (consA (fun _ => M.ret (.int 1)) (consA (fun _ => M.ret (.int 2)) (consA (fun _ => M.ret (.int 4)) (fun _ => M.ret []))))))))) ρ).bind mkLst)) (fun ρ => ((consA (fun ρ => getV ρ 0) (consA (fun _ => M.ret (.int 8)) (fun _ => M.ret []))) ρ).bind F_law_draw)) (fun _ => M.ret [])) ρ).bind rng1O) (bindN 0) allTs (fun ρ => ((consA (fun ρ => getV ρ 1) (consA (fun ρ => getV ρ 2) (fun _ => M.ret []))) ρ).bind F_law_rule))) (fun _ => M.ret [])) ρ).bind tupO))
noncomputable def F_law_rules : List PV → M PV := fnP 2 2 m_law_rules
noncomputable def m_law_slopes : PEnv → M Fl := (retP (lstV (mkLC [none] (fun ρ => ((bin2 ixO (fun ρ => getV ρ 0) (fun _ => M.ret (.int 0))) ρ).bind iterO) (bindN 0) (asB (bin2 (eqO false) (bin2 ixO (fun ρ => getV ρ 0) (fun _ => M.ret (.int 1))) (fun _ => M.ret (.str "slope")))) (bin2 ixO (fun ρ => getV ρ 0) (fun _ => M.ret (.int 0))))))
noncomputable def F_law_slopes : List PV → M PV := fnP 1 1 m_law_slopes
noncomputable def m_law_page : PEnv → M Fl := (seqP (par3P 3 4 5 (consA (fun ρ => ((consA (fun ρ => getV ρ 0) (consA (fun _ => M.ret (.int 3)) (fun _ => M.ret []))) ρ).bind F_law_draw) (consA (fun ρ => ((consA (fun ρ => getV ρ 0) (consA (fun ρ => getV ρ 1) (fun _ => M.ret []))) ρ).bind F_law_moment) (consA (fun ρ => ((consA (fun ρ => getV ρ 1) (fun _ => M.ret [])) ρ).bind F_law_slopes) (fun _ => M.ret [])))))
    (seqP (ifP (andP (asB (bin2 (eqO false) (fun ρ => getV ρ 3) (fun _ => M.ret (.int 0)))) (asB (bin2 (eqO true) (fun ρ => getV ρ 5) (lstV (fun ρ => ((fun _ => M.ret []) ρ).bind mkLst)))))
    (retP (fun ρ => ((consA (fun _ => M.ret (.str "look")) (consA (fun ρ => getV ρ 2) (consA (fun ρ => getV ρ 4) (consA (fun ρ => ((consA (fun ρ => getV ρ 0) (consA (fun ρ => getV ρ 5) (fun _ => M.ret []))) ρ).bind F_law_any) (fun _ => M.ret []))))) ρ).bind mkTup))
    (fun ρ => M.ret (.nx ρ)))
    (seqP (ifP (asB (bin2 (eqO false) (fun ρ => getV ρ 3) (fun _ => M.ret (.int 1))))
    (retP (fun ρ => ((consA (fun _ => M.ret (.str "rule")) (consA (fun ρ => getV ρ 2) (consA (fun ρ => getV ρ 4) (consA (bin2 ixO (fun ρ => ((consA (fun ρ => getV ρ 0) (consA (bin2 ixO (fun ρ => getV ρ 1) (fun _ => M.ret (.int 0))) (fun _ => M.ret []))) ρ).bind F_law_any) (fun _ => M.ret (.int 0))) (consA (fun ρ => ((consA (fun ρ => getV ρ 0) (consA (fun ρ => getV ρ 1) (fun _ => M.ret []))) ρ).bind F_law_rules) (fun _ => M.ret [])))))) ρ).bind mkTup))
    (fun ρ => M.ret (.nx ρ)))
    (seqP (setP 6 (bin2 ixO (lstV (fun ρ => ((consA (bin2 subO (fun ρ => ((consA (fun ρ => getV ρ 0) (consA (fun _ => M.ret (.int 7)) (fun _ => M.ret []))) ρ).bind F_law_draw) (fun _ => M.ret (.int 3))) (consA (bin2 subO (bin2 powO (fun _ => M.ret (.int 10)) (fun _ => M.ret (.int 60))) (fun _ => M.ret (.int 1))) (consA (bin2 subO (fun _ => M.ret (.int 1)) (bin2 powO (fun _ => M.ret (.int 10)) (fun _ => M.ret (.int 60)))) (consA (fun _ => M.ret (.int 0)) (fun _ => M.ret []))))) ρ).bind mkLst)) (fun ρ => ((consA (fun ρ => getV ρ 0) (consA (fun _ => M.ret (.int 4)) (fun _ => M.ret []))) ρ).bind F_law_draw)))
    (retP (fun ρ => ((consA (fun _ => M.ret (.str "read")) (consA (fun ρ => getV ρ 2) (consA (fun ρ => getV ρ 4) (consA (fun ρ => ((consA (fun ρ => getV ρ 0) (consA (lstV (fun ρ => ((consA (fun _ => M.ret (.str "wind")) (consA (fun _ => M.ret (.str "snow")) (consA (fun _ => M.ret (.str "a")) (consA (fun _ => M.ret (.str "zzzzzzzz")) (fun _ => M.ret []))))) ρ).bind mkLst)) (fun _ => M.ret []))) ρ).bind F_law_any) (consA (fun ρ => getV ρ 6) (fun _ => M.ret [])))))) ρ).bind mkTup))))))
noncomputable def F_law_page : List PV → M PV := fnP 3 7 m_law_page
noncomputable def m_law_pages : PEnv → M Fl := (seqP (parO0 3 4 (fun ρ => ((fun _ => M.ret []) ρ).bind mkLst) (fun ρ => ((fun _ => M.ret []) ρ).bind mkLst))
    (seqP (mkFor (fun ρ => ((consA (fun ρ => getV ρ 2) (fun _ => M.ret [])) ρ).bind rng1O) (bindN 5)
    (seqP (setP 6 (fun ρ => ((consA (fun ρ => getV ρ 0) (consA (lstV (fun ρ => ((consA (fun ρ => getV ρ 5) (consA (bin2 subO (fun _ => M.ret (.int 999999)) (fun ρ => getV ρ 5)) (consA (bin2 subO (fun _ => M.ret (.int 60)) (fun ρ => getV ρ 5)) (consA (fun ρ => ((consA (fun ρ => getV ρ 0) (consA (fun _ => M.ret (.int 1000000)) (fun _ => M.ret []))) ρ).bind F_law_draw) (fun _ => M.ret []))))) ρ).bind mkLst)) (fun _ => M.ret []))) ρ).bind F_law_any))
    (seqP (mkFor (fun ρ => ((consA (fun ρ => getV ρ 2) (fun _ => M.ret [])) ρ).bind rng1O) (bindN 7)
    (ifP (asB (bin2 (inO false) (fun ρ => getV ρ 6) (fun ρ => getB ρ 3)))
    (setP 6 (bin2 modO (bin2 addO (fun ρ => getV ρ 6) (fun _ => M.ret (.int 1))) (fun _ => M.ret (.int 1000000))))
    (fun ρ => M.ret (.nx ρ))))
    (seqP (appP 3 (fun ρ => getV ρ 6))
    (appP 4 (fun ρ => ((consA (fun ρ => getV ρ 0) (consA (fun ρ => getV ρ 1) (consA (fun ρ => getV ρ 6) (fun _ => M.ret [])))) ρ).bind F_law_page))))))
    (retP (fun ρ => getV ρ 4))))
noncomputable def F_law_pages : List PV → M PV := fnP 3 8 m_law_pages
noncomputable def m_law_rules_text : PEnv → M Fl := (seqP (setP 1 (lstV (mkLC [none] (fun ρ => ((fun ρ => getV ρ 0) ρ).bind iterO) (bindN 0) allTs (bmP "str" joinO (fun _ => M.ret (.str " ")) (consA (lstV (mkLC [none] (fun ρ => ((fun ρ => getV ρ 0) ρ).bind iterO) (bindN 0) allTs (fun ρ => ((consA (fun ρ => getV ρ 0) (fun _ => M.ret [])) ρ).bind strA))) (fun _ => M.ret []))))))
    (retP (ifV (asB (bin2 (eqO true) (fun ρ => getV ρ 1) (lstV (fun ρ => ((fun _ => M.ret []) ρ).bind mkLst)))) (bmP "str" joinO (fun _ => M.ret (.str ", ")) (consA (fun ρ => getV ρ 1) (fun _ => M.ret []))) (fun _ => M.ret (.str "-")))))
noncomputable def F_law_rules_text : List PV → M PV := fnP 1 2 m_law_rules_text
noncomputable def m_law_page_text : PEnv → M Fl := (seqP (setP 1 (bmP "str" joinO (fun _ => M.ret (.str " ")) (consA (lstV (fun ρ => ((consA (bin2 ixO (fun ρ => getV ρ 0) (fun _ => M.ret (.int 0))) (consA (fun ρ => ((consA (bin2 ixO (fun ρ => getV ρ 0) (fun _ => M.ret (.int 1))) (fun _ => M.ret [])) ρ).bind strA) (consA (fun ρ => ((consA (bin2 ixO (fun ρ => getV ρ 0) (fun _ => M.ret (.int 2))) (fun _ => M.ret [])) ρ).bind strA) (consA (bin2 ixO (fun ρ => getV ρ 0) (fun _ => M.ret (.int 3))) (fun _ => M.ret []))))) ρ).bind mkLst)) (fun _ => M.ret []))))
    (seqP (ifP (asB (bin2 (eqO false) (bin2 ixO (fun ρ => getV ρ 0) (fun _ => M.ret (.int 0))) (fun _ => M.ret (.str "look"))))
    (retP (fun ρ => getV ρ 1))
    (fun ρ => M.ret (.nx ρ)))
    (retP (bin2 addO (bin2 addO (fun ρ => getV ρ 1) (fun _ => M.ret (.str " "))) (ifV (asB (bin2 (eqO false) (bin2 ixO (fun ρ => getV ρ 0) (fun _ => M.ret (.int 0))) (fun _ => M.ret (.str "read")))) (fun ρ => ((consA (bin2 ixO (fun ρ => getV ρ 0) (fun _ => M.ret (.int 4))) (fun _ => M.ret [])) ρ).bind strA) (fun ρ => ((consA (bin2 ixO (fun ρ => getV ρ 0) (fun _ => M.ret (.int 4))) (fun _ => M.ret [])) ρ).bind F_law_rules_text))))))
noncomputable def F_law_page_text : List PV → M PV := fnP 1 2 m_law_page_text
noncomputable def b_law : PEnv → M Fl := (seqP (setP 3 (fun ρ => ((consA (fun ρ => getV ρ 1) (fun _ => M.ret [])) ρ).bind F_law_hill))
    (seqP (setP 4 (fun ρ => ((consA (fun ρ => getV ρ 1) (consA (fun ρ => getV ρ 3) (consA (fun _ => M.ret (.int 3)) (fun _ => M.ret [])))) ρ).bind F_law_pages))
    (seqP (setP 5 (lstV (mkLC [none] (fun ρ => ((fun ρ => getV ρ 4) ρ).bind iterO) (bindN 0) allTs (fun ρ => ((consA (fun ρ => getV ρ 0) (fun _ => M.ret [])) ρ).bind F_page_text))))
    (seqP (ifP (asB (bin2 (eqO true) (fun ρ => getV ρ 5) (lstV (mkLC [none] (fun ρ => ((fun ρ => getV ρ 4) ρ).bind iterO) (bindN 0) allTs (fun ρ => ((consA (fun ρ => getV ρ 0) (fun _ => M.ret [])) ρ).bind F_law_page_text)))))
    (retP (fun _ => M.ret (.bl false)))
    (fun ρ => M.ret (.nx ρ)))
    (ifP (asB (bin2 (eqO true) (fun ρ => ((consA (lstV (mkLC [none, some 3] (fun ρ => ((fun ρ => getV ρ 5) ρ).bind iterO) (bindN 0) allTs (fun ρ => ((consA (fun ρ => getV ρ 1) (consA (fun ρ => getV ρ 0) (fun _ => M.ret []))) ρ).bind F_read_page))) (fun _ => M.ret [])) ρ).bind reprX) (fun ρ => ((consA (fun ρ => getV ρ 4) (fun _ => M.ret [])) ρ).bind reprX)))
    (retP (fun _ => M.ret (.bl false)))
    (fun ρ => M.ret (.nx ρ)))))))
noncomputable def r_law : PEnv → M Fl := (retP (fun _ => M.ret (.bl true)))
section
variable {P : Program} {w : World} {K : PySem.W.Frag} {mg : Str → Option Value} {base : Heap} {a_row_text a_rows_text a_page_text a_is_whole a_is_within a_is_name a_way_named a_is_way_name a_is_slope_name a_is_hours a_begins_with_text a_is_rule a_is_rules a_is_page a_are_figures a_thing_of a_row_of a_rows_of a_page_of a_read_page awbag awdraw awany awlabel awlabels awpace awhill awmoment awrule awrules awslopes awpage awpages awrules_text awpage_text a_law : Addr} {d_row_text d_rows_text d_page_text d_is_whole d_is_within d_is_name d_way_named d_is_way_name d_is_slope_name d_is_hours d_begins_with_text d_is_rule d_is_rules d_is_page d_are_figures d_thing_of d_row_of d_rows_of d_page_of d_read_page dwbag dwdraw dwany dwlabel dwlabels dwpace dwhill dwmoment dwrule dwrules dwslopes dwpage dwpages dwrules_text dwpage_text d_law : FuncData} (T : Txt K mg a_row_text a_rows_text a_page_text a_is_whole a_is_within a_is_name a_way_named a_is_way_name a_is_slope_name a_is_hours a_begins_with_text a_is_rule a_is_rules a_is_page a_are_figures a_thing_of a_row_of a_rows_of a_page_of a_read_page awbag awdraw awany awlabel awlabels awpace awhill awmoment awrule awrules awslopes awpage awpages awrules_text awpage_text a_law d_row_text d_rows_text d_page_text d_is_whole d_is_within d_is_name d_way_named d_is_way_name d_is_slope_name d_is_hours d_begins_with_text d_is_rule d_is_rules d_is_page d_are_figures d_thing_of d_row_of d_rows_of d_page_of d_read_page dwbag dwdraw dwany dwlabel dwlabels dwpace dwhill dwmoment dwrule dwrules dwslopes dwpage dwpages dwrules_text dwpage_text d_law)
include T
theorem ok_row_text : FnOk P w K mg base CX0 1 a_row_text d_row_text ["things"] (spP (famBag K) F_row_text) := by
  have eb : defBody s_row_text = defBody s_row_text := rfl
  conv at eb => rhs; whnf
  have es : defScope s_row_text = defScope s_row_text := rfl
  conv at es => rhs; whnf
  refine fn_ok3 (N := ["things"]) (ps := ["things"]) (k := 0) (m := m_row_text) rfl T.F_row_text sc_row_text (by decide) eb es fun cdv A outer s H E hr => ?_
  unfold m_row_text
  exact (ss_one (sv_ret (bs_ret (ev_bm (be_bm PySem.F.plainAttrs_str PySem.F.slot_str_join PySem.F.type_str_join mt_join (EV.b ev_str) (ab_cons (EV.b (EF.v (ef_lc (be_lc (LcScope.mk2 (N := ["thing"]) (js := [none]) (defScope s_row_text) ["things"] rfl rfl (by decide +kernel)) rfl (iv_b (EV.b (ev_name 0 (bv 0)))) (fun _ _ _ _ => (gv_name (bg_name (i := 0) (by decide : (["thing"] : List Str).Nodup) rfl (Or.inl rfl)))) (fun _ _ _ _ => ts_nil) (fun _ _ _ _ => (ev_callB (be_callTy call_strA rfl T.m_str PyProof.Rows.boot_str (ab_cons (EV.b (ev_name 0 (bv 0))) ab_nil)) cv_strA)))))) ab_nil)) mv_join))))
theorem ok_rows_text (G_row_text : FnOk P w K mg base CX0 1 a_row_text d_row_text ["things"] (spP (famBag K) F_row_text)) : FnOk P w K mg base CX0 2 a_rows_text d_rows_text ["rows"] (spP (famBag K) F_rows_text) := by
  have eb : defBody s_rows_text = defBody s_rows_text := rfl
  conv at eb => rhs; whnf
  have es : defScope s_rows_text = defScope s_rows_text := rfl
  conv at es => rhs; whnf
  refine fn_ok3 (N := ["rows"]) (ps := ["rows"]) (k := 1) (m := m_rows_text) rfl T.F_rows_text sc_rows_text (by decide) eb es fun cdv A outer s H E hr => ?_
  unfold m_rows_text
  exact (ss_one (sv_ret (bs_ret (ev_if (tv_cmp op_gt ov_gt (EV.b (ev_callB (be_callB call_lenDD rfl T.m_len PySem.boot_len (ab_cons (EV.b (ev_name 0 (bv 0))) ab_nil)) cv_len)) (EV.b ev_int) (nomark _)) (ev_bm (be_bm PySem.F.plainAttrs_str PySem.F.slot_str_join PySem.F.type_str_join mt_join (EV.b ev_str) (ab_cons (EV.b (EF.v (ef_lc (be_lc (LcScope.mk2 (N := ["row"]) (js := [none]) (defScope s_rows_text) ["rows"] rfl rfl (by decide +kernel)) rfl (iv_b (EV.b (ev_name 0 (bv 0)))) (fun _ _ _ _ => (gv_name (bg_name (i := 0) (by decide : (["row"] : List Str).Nodup) rfl (Or.inl rfl)))) (fun _ _ _ _ => ts_nil) (fun _ _ _ _ => (ev_call (be_call G_row_text (hr.mono (by decide)) rfl T.m_row_text T.F_row_text.kp T.b_row_text .nil pass0 (av_cons (ev_name 0 (bv 0)) av_nil)))))))) ab_nil)) mv_join) ev_str))))
theorem ok_page_text (G_row_text : FnOk P w K mg base CX0 1 a_row_text d_row_text ["things"] (spP (famBag K) F_row_text)) (G_rows_text : FnOk P w K mg base CX0 2 a_rows_text d_rows_text ["rows"] (spP (famBag K) F_rows_text)) : FnOk P w K mg base CX0 3 a_page_text d_page_text ["page"] (spP (famBag K) F_page_text) := by
  have eb : defBody s_page_text = defBody s_page_text := rfl
  conv at eb => rhs; whnf
  have es : defScope s_page_text = defScope s_page_text := rfl
  conv at es => rhs; whnf
  refine fn_ok3 (N := ["page"]) (ps := ["page"]) (k := 2) (m := m_page_text) rfl T.F_page_text sc_page_text (by decide) eb es fun cdv A outer s H E hr => ?_
  unfold m_page_text
  exact (ss_cons (sv_if (bs_if (tv_cmp (op_eqD hr.units) (ov_eq false) (EV.b (ev_ix ix_seq ov_ix (EV.b (ev_name 0 (bv 0))) (EV.b ev_int) (fun _ _ => rfl))) (EV.b ev_str) (nomark _)) (ss_one (sv_ret (bs_ret (ev_call (be_call G_row_text (hr.mono (by decide)) rfl T.m_row_text T.F_row_text.kp T.b_row_text .nil pass0 (av_cons (ev_bin op_addD ov_add (EV.b (ev_slice (be_slice sl_E (EV.b (ev_name 0 (bv 0))) ov_none (ov_some (EV.b ev_int))) sv_E)) (EV.b (ev_tup (av_cons (ev_call (be_call G_rows_text (hr.mono (by decide)) rfl T.m_rows_text T.F_rows_text.kp T.b_rows_text .nil pass0 (av_cons (ev_ix ix_seq ov_ix (EV.b (ev_name 0 (bv 0))) (EV.b ev_int) (fun _ _ => rfl)) av_nil))) av_nil)))) av_nil)))))) ss_nil))
    (ss_one (sv_ret (bs_ret (ev_call (be_call G_row_text (hr.mono (by decide)) rfl T.m_row_text T.F_row_text.kp T.b_row_text .nil pass0 (av_cons (ev_name 0 (bv 0)) av_nil)))))))
theorem ok_is_whole : FnOk P w K mg base CX0 1 a_is_whole d_is_whole ["thing"] (spP (famBag K) F_is_whole) := by
  have eb : defBody s_is_whole = defBody s_is_whole := rfl
  conv at eb => rhs; whnf
  have es : defScope s_is_whole = defScope s_is_whole := rfl
  conv at es => rhs; whnf
  refine fn_ok3 (N := ["thing"]) (ps := ["thing"]) (k := 0) (m := m_is_whole) rfl T.F_is_whole sc_is_whole (by decide) eb es fun cdv A outer s H E hr => ?_
  unfold m_is_whole
  exact (ss_one (sv_ret (bs_ret (ev_and (ev_isi (be_callB call_isi rfl T.m_isinstance PyProof.Rows.boot_isinstance (ba_cons (EV.b (ev_name 0 (bv 0))) (ba_cons (be_bltn (v := .ty "int") rfl T.m_int PyProof.Rows.boot_int rfl) ba_nil))) kit_int) (ev_one (ev_not (ev_isi (be_callB call_isi rfl T.m_isinstance PyProof.Rows.boot_isinstance (ba_cons (EV.b (ev_name 0 (bv 0))) (ba_cons (be_bltn (v := .ty "bool") rfl T.m_bool PyProof.Rows.boot_bool rfl) ba_nil))) kit_bool)))))))
theorem ok_is_within (G_is_whole : FnOk P w K mg base CX0 1 a_is_whole d_is_whole ["thing"] (spP (famBag K) F_is_whole)) : FnOk P w K mg base CX0 2 a_is_within d_is_within ["thing", "low", "high"] (spP (famBag K) F_is_within) := by
  have eb : defBody s_is_within = defBody s_is_within := rfl
  conv at eb => rhs; whnf
  have es : defScope s_is_within = defScope s_is_within := rfl
  conv at es => rhs; whnf
  refine fn_ok3 (N := ["thing", "low", "high"]) (ps := ["thing", "low", "high"]) (k := 1) (m := m_is_within) rfl T.F_is_within sc_is_within (by decide) eb es fun cdv A outer s H E hr => ?_
  unfold m_is_within
  exact (ss_one (sv_ret (bs_ret (ev_and (ev_call (be_call G_is_whole (hr.mono (by decide)) rfl T.m_is_whole T.F_is_whole.kp T.b_is_whole .nil pass0 (av_cons (ev_name 0 (bv 0)) av_nil))) (ev_one (ev_chain op_leD ov_leD op_leD ov_leD (EV.b (ev_name 1 (bv 1))) (EV.b (ev_name 0 (bv 0))) (EV.b (ev_name 2 (bv 2)))))))))
theorem ok_is_name : FnOk P w K mg base CX0 1 a_is_name d_is_name ["thing"] (spP (famBag K) F_is_name) := by
  obtain ⟨_, c_MOST_LETTERS⟩ := T.e_MOST_LETTERS
  have eb : defBody s_is_name = defBody s_is_name := rfl
  conv at eb => rhs; whnf
  have es : defScope s_is_name = defScope s_is_name := rfl
  conv at es => rhs; whnf
  refine fn_ok3 (N := ["thing"]) (ps := ["thing"]) (k := 0) (m := m_is_name) rfl T.F_is_name sc_is_name (by decide) eb es fun cdv A outer s H E hr => ?_
  unfold m_is_name
  exact (ss_cons (sv_if (bs_if (WV.t (wv_or (tv_not (tv_val (ev_isi (be_callB call_isi rfl T.m_isinstance PyProof.Rows.boot_isinstance (ba_cons (EV.b (ev_name 0 (bv 0))) (ba_cons (be_bltn (v := .ty "str") rfl T.m_str PyProof.Rows.boot_str rfl) ba_nil))) kit_str))) (wv_or1 (tv_not (tv_chain op_leD ov_leD op_leD ov_leD (EV.b ev_int) (EV.b (ev_callB (be_callB call_lenDD rfl T.m_len PySem.boot_len (ab_cons (EV.b (ev_name 0 (bv 0))) ab_nil)) cv_len)) (EV.b (ev_glob rfl c_MOST_LETTERS))))))) (ss_one (sv_ret (bs_ret ev_bl))) ss_nil))
    (ss_one (sv_ret (bs_ret (ev_callB (be_callB (call_all rfl) rfl T.m_all PyProof.Rows.boot_all (ab_cons (EV.b (EF.v (ef_lc (be_lc (LcScope.mk2 (N := ["sign"]) (js := [none]) (defScope s_is_name) ["thing"] rfl rfl (by decide +kernel)) rfl (iv_b (EV.b (ev_name 0 (bv 0)))) (fun _ _ _ _ => (gv_name (bg_name (i := 0) (by decide : (["sign"] : List Str).Nodup) rfl (Or.inl rfl)))) (fun _ _ _ _ => ts_nil) (fun _ _ _ _ => (ev_chain op_leD ov_leD op_leD ov_leD (EV.b ev_str) (EV.b (ev_name 0 (bv 0))) (EV.b ev_str))))))) ab_nil)) cv_all)))))
theorem ok_way_named : FnOk P w K mg base CX0 1 a_way_named d_way_named ["hill", "name"] (spP (famBag K) F_way_named) := by
  have eb : defBody s_way_named = defBody s_way_named := rfl
  conv at eb => rhs; whnf
  have es : defScope s_way_named = defScope s_way_named := rfl
  conv at es => rhs; whnf
  refine fn_ok3 (N := ["hill", "name", "way"]) (ps := ["hill", "name"]) (k := 0) (m := m_way_named) rfl T.F_way_named sc_way_named (by decide) eb es fun cdv A outer s H E hr => ?_
  unfold m_way_named
  exact (ss_cons (sv_for (bs_for PassesOwn.never rfl (iv_v (ev_ix ix_seq ov_ix (EV.b (ev_name 0 (bv 0))) (EV.b ev_int) (fun _ _ => rfl))) (gs_name (bg_name (i := 2) sc_way_named.nd rfl (Or.inl rfl))) (ss_one (sv_if (bs_if (tv_cmp (op_eqD hr.units) (ov_eq false) (EV.b (ev_ix ix_seq ov_ix (EV.b (ev_name 2 (bv 2))) (EV.b ev_int) (fun _ _ => rfl))) (EV.b (ev_name 1 (bv 1))) (nomark _)) (ss_one (sv_ret (bs_ret (ev_name 2 (bv 2))))) ss_nil)))))
    (ss_one (sv_ret (bs_ret ev_non))))
theorem ok_is_way_name (G_is_name : FnOk P w K mg base CX0 1 a_is_name d_is_name ["thing"] (spP (famBag K) F_is_name)) (G_way_named : FnOk P w K mg base CX0 1 a_way_named d_way_named ["hill", "name"] (spP (famBag K) F_way_named)) : FnOk P w K mg base CX0 2 a_is_way_name d_is_way_name ["hill", "thing"] (spP (famBag K) F_is_way_name) := by
  have eb : defBody s_is_way_name = defBody s_is_way_name := rfl
  conv at eb => rhs; whnf
  have es : defScope s_is_way_name = defScope s_is_way_name := rfl
  conv at es => rhs; whnf
  refine fn_ok3 (N := ["hill", "thing"]) (ps := ["hill", "thing"]) (k := 1) (m := m_is_way_name) rfl T.F_is_way_name sc_is_way_name (by decide) eb es fun cdv A outer s H E hr => ?_
  unfold m_is_way_name
  exact (ss_one (sv_ret (bs_ret (ev_and (ev_call (be_call G_is_name (hr.mono (by decide)) rfl T.m_is_name T.F_is_name.kp T.b_is_name .nil pass0 (av_cons (ev_name 1 (bv 1)) av_nil))) (ev_one (ev_cmp op_notN ov_notN (EV.b (ev_call (be_call G_way_named (hr.mono (by decide)) rfl T.m_way_named T.F_way_named.kp T.b_way_named .nil pass0 (av_cons (ev_name 0 (bv 0)) (av_cons (ev_name 1 (bv 1)) av_nil))))) (EV.b ev_non) (nomark _)))))))
theorem ok_is_slope_name (G_is_way_name : FnOk P w K mg base CX0 2 a_is_way_name d_is_way_name ["hill", "thing"] (spP (famBag K) F_is_way_name)) (G_way_named : FnOk P w K mg base CX0 1 a_way_named d_way_named ["hill", "name"] (spP (famBag K) F_way_named)) : FnOk P w K mg base CX0 3 a_is_slope_name d_is_slope_name ["hill", "thing"] (spP (famBag K) F_is_slope_name) := by
  have eb : defBody s_is_slope_name = defBody s_is_slope_name := rfl
  conv at eb => rhs; whnf
  have es : defScope s_is_slope_name = defScope s_is_slope_name := rfl
  conv at es => rhs; whnf
  refine fn_ok3 (N := ["hill", "thing"]) (ps := ["hill", "thing"]) (k := 2) (m := m_is_slope_name) rfl T.F_is_slope_name sc_is_slope_name (by decide) eb es fun cdv A outer s H E hr => ?_
  unfold m_is_slope_name
  exact (ss_one (sv_ret (bs_ret (ev_and (ev_call (be_call G_is_way_name (hr.mono (by decide)) rfl T.m_is_way_name T.F_is_way_name.kp T.b_is_way_name .nil pass0 (av_cons (ev_name 0 (bv 0)) (av_cons (ev_name 1 (bv 1)) av_nil)))) (ev_one (ev_cmp (op_eqD hr.units) (ov_eq false) (EV.b (ev_ix ix_seq ov_ix (EV.b (ev_call (be_call G_way_named (hr.mono (by decide)) rfl T.m_way_named T.F_way_named.kp T.b_way_named .nil pass0 (av_cons (ev_name 0 (bv 0)) (av_cons (ev_name 1 (bv 1)) av_nil))))) (EV.b ev_int) (fun _ _ => rfl))) (EV.b ev_str) (nomark _)))))))
theorem ok_is_hours (G_is_within : FnOk P w K mg base CX0 2 a_is_within d_is_within ["thing", "low", "high"] (spP (famBag K) F_is_within)) : FnOk P w K mg base CX0 3 a_is_hours d_is_hours ["a", "b"] (spP (famBag K) F_is_hours) := by
  obtain ⟨_, c_MOST_HOUR⟩ := T.e_MOST_HOUR
  have eb : defBody s_is_hours = defBody s_is_hours := rfl
  conv at eb => rhs; whnf
  have es : defScope s_is_hours = defScope s_is_hours := rfl
  conv at es => rhs; whnf
  refine fn_ok3 (N := ["a", "b"]) (ps := ["a", "b"]) (k := 2) (m := m_is_hours) rfl T.F_is_hours sc_is_hours (by decide) eb es fun cdv A outer s H E hr => ?_
  unfold m_is_hours
  exact (ss_one (sv_ret (bs_ret (ev_and (ev_call (be_call G_is_within (hr.mono (by decide)) rfl T.m_is_within T.F_is_within.kp T.b_is_within .nil pass0 (by refine av_cons (ev_name 0 (bv 0)) ?_; refine av_cons ev_int ?_; refine av_cons (ev_glob rfl c_MOST_HOUR) ?_; exact av_nil))) (ev_and (ev_call (be_call G_is_within (hr.mono (by decide)) rfl T.m_is_within T.F_is_within.kp T.b_is_within .nil pass0 (by refine av_cons (ev_name 1 (bv 1)) ?_; refine av_cons ev_int ?_; refine av_cons (ev_glob rfl c_MOST_HOUR) ?_; exact av_nil))) (ev_one (ev_cmp op_lt ov_lt (EV.b (ev_name 0 (bv 0))) (EV.b (ev_name 1 (bv 1))) (nomark _))))))))
theorem ok_begins_with_text : FnOk P w K mg base CX0 1 a_begins_with_text d_begins_with_text ["thing"] (spP (famBag K) F_begins_with_text) := by
  have eb : defBody s_begins_with_text = defBody s_begins_with_text := rfl
  conv at eb => rhs; whnf
  have es : defScope s_begins_with_text = defScope s_begins_with_text := rfl
  conv at es => rhs; whnf
  refine fn_ok3 (N := ["thing"]) (ps := ["thing"]) (k := 0) (m := m_begins_with_text) rfl T.F_begins_with_text sc_begins_with_text (by decide) eb es fun cdv A outer s H E hr => ?_
  unfold m_begins_with_text
  exact (ss_one (sv_ret (bs_ret (ev_and (ev_isi (be_callB call_isi rfl T.m_isinstance PyProof.Rows.boot_isinstance (ba_cons (EV.b (ev_name 0 (bv 0))) (ba_cons (be_bltn (v := .ty "tuple") rfl T.m_tuple PyProof.Rows.boot_tuple rfl) ba_nil))) kit_tuple) (ev_and (ev_cmp op_gt ov_gt (EV.b (ev_callB (be_callB call_lenDD rfl T.m_len PySem.boot_len (ab_cons (EV.b (ev_name 0 (bv 0))) ab_nil)) cv_len)) (EV.b ev_int) (nomark _)) (ev_one (ev_isi (be_callB call_isi rfl T.m_isinstance PyProof.Rows.boot_isinstance (ba_cons (EV.b (ev_ix ix_seq ov_ix (EV.b (ev_name 0 (bv 0))) (EV.b ev_int) (fun _ _ => rfl))) (ba_cons (be_bltn (v := .ty "str") rfl T.m_str PyProof.Rows.boot_str rfl) ba_nil))) kit_str)))))))
theorem ok_is_rule (G_begins_with_text : FnOk P w K mg base CX0 1 a_begins_with_text d_begins_with_text ["thing"] (spP (famBag K) F_begins_with_text)) (G_is_hours : FnOk P w K mg base CX0 3 a_is_hours d_is_hours ["a", "b"] (spP (famBag K) F_is_hours)) (G_is_name : FnOk P w K mg base CX0 1 a_is_name d_is_name ["thing"] (spP (famBag K) F_is_name)) (G_is_whole : FnOk P w K mg base CX0 1 a_is_whole d_is_whole ["thing"] (spP (famBag K) F_is_whole)) (G_is_within : FnOk P w K mg base CX0 2 a_is_within d_is_within ["thing", "low", "high"] (spP (famBag K) F_is_within)) (G_is_way_name : FnOk P w K mg base CX0 2 a_is_way_name d_is_way_name ["hill", "thing"] (spP (famBag K) F_is_way_name)) : FnOk P w K mg base CX0 4 a_is_rule d_is_rule ["hill", "thing"] (spP (famBag K) F_is_rule) := by
  obtain ⟨_, c_MOST_LOOKED⟩ := T.e_MOST_LOOKED
  have eb : defBody s_is_rule = defBody s_is_rule := rfl
  conv at eb => rhs; whnf
  have es : defScope s_is_rule = defScope s_is_rule := rfl
  conv at es => rhs; whnf
  refine fn_ok3 (N := ["hill", "thing", "word"]) (ps := ["hill", "thing"]) (k := 3) (m := m_is_rule) rfl T.F_is_rule sc_is_rule (by decide) eb es fun cdv A outer s H E hr => ?_
  unfold m_is_rule
  exact (ss_cons (sv_if (bs_if (tv_not (tv_val (ev_call (be_call G_begins_with_text (hr.mono (by decide)) rfl T.m_begins_with_text T.F_begins_with_text.kp T.b_begins_with_text .nil pass0 (av_cons (ev_name 1 (bv 1)) av_nil))))) (ss_one (sv_ret (bs_ret ev_bl))) ss_nil))
    (ss_cons (sv_set (bs_set (i := 2) sc_is_rule.nd rfl (Or.inl rfl) (ev_ix ix_seq ov_ix (EV.b (ev_name 1 (bv 1))) (EV.b ev_int) (fun _ _ => rfl))))
    (ss_cons (sv_if (bs_if (tv_cmp (op_eqD hr.units) (ov_eq false) (EV.b (ev_name 2 (bv 2))) (EV.b ev_str) (nomark _)) (ss_one (sv_ret (bs_ret (ev_and (ev_cmp (op_eqD hr.units) (ov_eq false) (EV.b (ev_callB (be_callB call_lenDD rfl T.m_len PySem.boot_len (ab_cons (EV.b (ev_name 1 (bv 1))) ab_nil)) cv_len)) (EV.b ev_int) (nomark _)) (ev_one (ev_call (be_call G_is_hours (hr.mono (by decide)) rfl T.m_is_hours T.F_is_hours.kp T.b_is_hours .nil pass0 (av_cons (ev_ix ix_seq ov_ix (EV.b (ev_name 1 (bv 1))) (EV.b ev_int) (fun _ _ => rfl)) (av_cons (ev_ix ix_seq ov_ix (EV.b (ev_name 1 (bv 1))) (EV.b ev_int) (fun _ _ => rfl)) av_nil))))))))) ss_nil))
    (ss_cons (sv_if (bs_if (WV.t (wv_or (tv_cmp (op_eqD hr.units) (ov_eq false) (EV.b (ev_name 2 (bv 2))) (EV.b ev_str) (nomark _)) (wv_or1 (tv_cmp (op_eqD hr.units) (ov_eq false) (EV.b (ev_name 2 (bv 2))) (EV.b ev_str) (nomark _))))) (ss_one (sv_ret (bs_ret (ev_and (ev_cmp (op_eqD hr.units) (ov_eq false) (EV.b (ev_callB (be_callB call_lenDD rfl T.m_len PySem.boot_len (ab_cons (EV.b (ev_name 1 (bv 1))) ab_nil)) cv_len)) (EV.b ev_int) (nomark _)) (ev_and (ev_call (be_call G_is_name (hr.mono (by decide)) rfl T.m_is_name T.F_is_name.kp T.b_is_name .nil pass0 (av_cons (ev_ix ix_seq ov_ix (EV.b (ev_name 1 (bv 1))) (EV.b ev_int) (fun _ _ => rfl)) av_nil))) (ev_one (ev_call (be_call G_is_whole (hr.mono (by decide)) rfl T.m_is_whole T.F_is_whole.kp T.b_is_whole .nil pass0 (av_cons (ev_ix ix_seq ov_ix (EV.b (ev_name 1 (bv 1))) (EV.b ev_int) (fun _ _ => rfl)) av_nil))))))))) ss_nil))
    (ss_cons (sv_if (bs_if (tv_cmp (op_eqD hr.units) (ov_eq false) (EV.b (ev_name 2 (bv 2))) (EV.b ev_str) (nomark _)) (ss_one (sv_ret (bs_ret (ev_and (ev_cmp (op_eqD hr.units) (ov_eq false) (EV.b (ev_callB (be_callB call_lenDD rfl T.m_len PySem.boot_len (ab_cons (EV.b (ev_name 1 (bv 1))) ab_nil)) cv_len)) (EV.b ev_int) (nomark _)) (ev_one (ev_call (be_call G_is_within (hr.mono (by decide)) rfl T.m_is_within T.F_is_within.kp T.b_is_within .nil pass0 (by refine av_cons (ev_ix ix_seq ov_ix (EV.b (ev_name 1 (bv 1))) (EV.b ev_int) (fun _ _ => rfl)) ?_; refine av_cons ev_int ?_; refine av_cons (ev_glob rfl c_MOST_LOOKED) ?_; exact av_nil)))))))) ss_nil))
    (ss_cons (sv_if (bs_if (tv_cmp (op_eqD hr.units) (ov_eq false) (EV.b (ev_name 2 (bv 2))) (EV.b ev_str) (nomark _)) (ss_one (sv_ret (bs_ret (ev_and (ev_cmp (op_eqD hr.units) (ov_eq false) (EV.b (ev_callB (be_callB call_lenDD rfl T.m_len PySem.boot_len (ab_cons (EV.b (ev_name 1 (bv 1))) ab_nil)) cv_len)) (EV.b ev_int) (nomark _)) (ev_one (ev_call (be_call G_is_way_name (hr.mono (by decide)) rfl T.m_is_way_name T.F_is_way_name.kp T.b_is_way_name .nil pass0 (av_cons (ev_name 0 (bv 0)) (av_cons (ev_ix ix_seq ov_ix (EV.b (ev_name 1 (bv 1))) (EV.b ev_int) (fun _ _ => rfl)) av_nil))))))))) ss_nil))
    (ss_one (sv_ret (bs_ret (ev_and (ev_cmp (op_eqD hr.units) (ov_eq false) (EV.b (ev_name 2 (bv 2))) (EV.b ev_str) (nomark _)) (ev_one (ev_cmp (op_eqD hr.units) (ov_eq false) (EV.b (ev_callB (be_callB call_lenDD rfl T.m_len PySem.boot_len (ab_cons (EV.b (ev_name 1 (bv 1))) ab_nil)) cv_len)) (EV.b ev_int) (nomark _)))))))))))))
theorem ok_is_rules (G_is_rule : FnOk P w K mg base CX0 4 a_is_rule d_is_rule ["hill", "thing"] (spP (famBag K) F_is_rule)) : FnOk P w K mg base CX0 5 a_is_rules d_is_rules ["hill", "thing"] (spP (famBag K) F_is_rules) := by
  obtain ⟨_, c_MOST_RULES⟩ := T.e_MOST_RULES
  have eb : defBody s_is_rules = defBody s_is_rules := rfl
  conv at eb => rhs; whnf
  have es : defScope s_is_rules = defScope s_is_rules := rfl
  conv at es => rhs; whnf
  refine fn_ok3 (N := ["hill", "thing"]) (ps := ["hill", "thing"]) (k := 4) (m := m_is_rules) rfl T.F_is_rules sc_is_rules (by decide) eb es fun cdv A outer s H E hr => ?_
  unfold m_is_rules
  exact (ss_cons (sv_if (bs_if (WV.t (wv_or (tv_not (tv_val (ev_isi (be_callB call_isi rfl T.m_isinstance PyProof.Rows.boot_isinstance (ba_cons (EV.b (ev_name 1 (bv 1))) (ba_cons (be_bltn (v := .ty "tuple") rfl T.m_tuple PyProof.Rows.boot_tuple rfl) ba_nil))) kit_tuple))) (wv_or1 (tv_cmp op_gt ov_gt (EV.b (ev_callB (be_callB call_lenDD rfl T.m_len PySem.boot_len (ab_cons (EV.b (ev_name 1 (bv 1))) ab_nil)) cv_len)) (EV.b (ev_glob rfl c_MOST_RULES)) (nomark _))))) (ss_one (sv_ret (bs_ret ev_bl))) ss_nil))
    (ss_one (sv_ret (bs_ret (ev_callB (be_callB (call_all rfl) rfl T.m_all PyProof.Rows.boot_all (ab_cons (EV.b (EF.v (ef_lc (be_lc (LcScope.mk2 (N := ["rule", "hill"]) (js := [none, some 0]) (defScope s_is_rules) ["hill", "thing"] rfl rfl (by decide +kernel)) rfl (iv_b (EV.b (ev_name 1 (bv 1)))) (fun _ _ _ _ => (gv_name (bg_name (i := 0) (by decide : (["rule", "hill"] : List Str).Nodup) rfl (Or.inl rfl)))) (fun _ _ _ _ => ts_nil) (fun _ _ _ _ => (ev_call (be_call G_is_rule (hr.mono (by decide)) rfl T.m_is_rule T.F_is_rule.kp T.b_is_rule .nil pass0 (av_cons (ev_name 1 (bv 1)) (av_cons (ev_name 0 (bv 0)) av_nil))))))))) ab_nil)) cv_all)))))
theorem ok_is_page (G_begins_with_text : FnOk P w K mg base CX0 1 a_begins_with_text d_begins_with_text ["thing"] (spP (famBag K) F_begins_with_text)) (G_is_within : FnOk P w K mg base CX0 2 a_is_within d_is_within ["thing", "low", "high"] (spP (famBag K) F_is_within)) (G_is_name : FnOk P w K mg base CX0 1 a_is_name d_is_name ["thing"] (spP (famBag K) F_is_name)) (G_is_whole : FnOk P w K mg base CX0 1 a_is_whole d_is_whole ["thing"] (spP (famBag K) F_is_whole)) (G_is_slope_name : FnOk P w K mg base CX0 3 a_is_slope_name d_is_slope_name ["hill", "thing"] (spP (famBag K) F_is_slope_name)) (G_is_way_name : FnOk P w K mg base CX0 2 a_is_way_name d_is_way_name ["hill", "thing"] (spP (famBag K) F_is_way_name)) (G_is_rules : FnOk P w K mg base CX0 5 a_is_rules d_is_rules ["hill", "thing"] (spP (famBag K) F_is_rules)) : FnOk P w K mg base CX0 6 a_is_page d_is_page ["hill", "thing"] (spP (famBag K) F_is_page) := by
  obtain ⟨_, c_MOST_NUMBER⟩ := T.e_MOST_NUMBER
  have eb : defBody s_is_page = defBody s_is_page := rfl
  conv at eb => rhs; whnf
  have es : defScope s_is_page = defScope s_is_page := rfl
  conv at es => rhs; whnf
  refine fn_ok3 (N := ["hill", "thing", "word"]) (ps := ["hill", "thing"]) (k := 5) (m := m_is_page) rfl T.F_is_page sc_is_page (by decide) eb es fun cdv A outer s H E hr => ?_
  unfold m_is_page
  exact (ss_cons (sv_if (bs_if (WV.t (wv_or (tv_not (tv_val (ev_call (be_call G_begins_with_text (hr.mono (by decide)) rfl T.m_begins_with_text T.F_begins_with_text.kp T.b_begins_with_text .nil pass0 (av_cons (ev_name 1 (bv 1)) av_nil))))) (wv_or1 (tv_cmp op_lt ov_lt (EV.b (ev_callB (be_callB call_lenDD rfl T.m_len PySem.boot_len (ab_cons (EV.b (ev_name 1 (bv 1))) ab_nil)) cv_len)) (EV.b ev_int) (nomark _))))) (ss_one (sv_ret (bs_ret ev_bl))) ss_nil))
    (ss_cons (sv_if (bs_if (WV.t (wv_or (tv_not (tv_val (ev_call (be_call G_is_within (hr.mono (by decide)) rfl T.m_is_within T.F_is_within.kp T.b_is_within .nil pass0 (by refine av_cons (ev_ix ix_seq ov_ix (EV.b (ev_name 1 (bv 1))) (EV.b ev_int) (fun _ _ => rfl)) ?_; refine av_cons ev_int ?_; refine av_cons (ev_glob rfl c_MOST_NUMBER) ?_; exact av_nil))))) (wv_or1 (tv_not (tv_val (ev_call (be_call G_is_within (hr.mono (by decide)) rfl T.m_is_within T.F_is_within.kp T.b_is_within .nil pass0 (by refine av_cons (ev_ix ix_seq ov_ix (EV.b (ev_name 1 (bv 1))) (EV.b ev_int) (fun _ _ => rfl)) ?_; refine av_cons ev_int ?_; refine av_cons (ev_ix ix_seq ov_ix (EV.b (ev_name 0 (bv 0))) (EV.b ev_int) (fun _ _ => rfl)) ?_; exact av_nil)))))))) (ss_one (sv_ret (bs_ret ev_bl))) ss_nil))
    (ss_cons (sv_set (bs_set (i := 2) sc_is_page.nd rfl (Or.inl rfl) (ev_ix ix_seq ov_ix (EV.b (ev_name 1 (bv 1))) (EV.b ev_int) (fun _ _ => rfl))))
    (ss_cons (sv_if (bs_if (tv_cmp (op_eqD hr.units) (ov_eq false) (EV.b (ev_name 2 (bv 2))) (EV.b ev_str) (nomark _)) (ss_one (sv_ret (bs_ret (ev_and (ev_cmp (op_eqD hr.units) (ov_eq false) (EV.b (ev_callB (be_callB call_lenDD rfl T.m_len PySem.boot_len (ab_cons (EV.b (ev_name 1 (bv 1))) ab_nil)) cv_len)) (EV.b ev_int) (nomark _)) (ev_and (ev_call (be_call G_is_name (hr.mono (by decide)) rfl T.m_is_name T.F_is_name.kp T.b_is_name .nil pass0 (av_cons (ev_ix ix_seq ov_ix (EV.b (ev_name 1 (bv 1))) (EV.b ev_int) (fun _ _ => rfl)) av_nil))) (ev_one (ev_call (be_call G_is_whole (hr.mono (by decide)) rfl T.m_is_whole T.F_is_whole.kp T.b_is_whole .nil pass0 (av_cons (ev_ix ix_seq ov_ix (EV.b (ev_name 1 (bv 1))) (EV.b ev_int) (fun _ _ => rfl)) av_nil))))))))) ss_nil))
    (ss_cons (sv_if (bs_if (tv_cmp (op_eqD hr.units) (ov_eq false) (EV.b (ev_name 2 (bv 2))) (EV.b ev_str) (nomark _)) (ss_one (sv_ret (bs_ret (ev_and (ev_cmp (op_eqD hr.units) (ov_eq false) (EV.b (ev_callB (be_callB call_lenDD rfl T.m_len PySem.boot_len (ab_cons (EV.b (ev_name 1 (bv 1))) ab_nil)) cv_len)) (EV.b ev_int) (nomark _)) (ev_one (ev_call (be_call G_is_slope_name (hr.mono (by decide)) rfl T.m_is_slope_name T.F_is_slope_name.kp T.b_is_slope_name .nil pass0 (av_cons (ev_name 0 (bv 0)) (av_cons (ev_ix ix_seq ov_ix (EV.b (ev_name 1 (bv 1))) (EV.b ev_int) (fun _ _ => rfl)) av_nil))))))))) ss_nil))
    (ss_cons (sv_if (bs_if (tv_cmp (op_eqD hr.units) (ov_eq false) (EV.b (ev_name 2 (bv 2))) (EV.b ev_str) (nomark _)) (ss_one (sv_ret (bs_ret (ev_and (ev_cmp (op_eqD hr.units) (ov_eq false) (EV.b (ev_callB (be_callB call_lenDD rfl T.m_len PySem.boot_len (ab_cons (EV.b (ev_name 1 (bv 1))) ab_nil)) cv_len)) (EV.b ev_int) (nomark _)) (ev_and (ev_call (be_call G_is_way_name (hr.mono (by decide)) rfl T.m_is_way_name T.F_is_way_name.kp T.b_is_way_name .nil pass0 (av_cons (ev_name 0 (bv 0)) (av_cons (ev_ix ix_seq ov_ix (EV.b (ev_name 1 (bv 1))) (EV.b ev_int) (fun _ _ => rfl)) av_nil)))) (ev_one (ev_call (be_call G_is_rules (hr.mono (by decide)) rfl T.m_is_rules T.F_is_rules.kp T.b_is_rules .nil pass0 (av_cons (ev_name 0 (bv 0)) (av_cons (ev_ix ix_seq ov_ix (EV.b (ev_name 1 (bv 1))) (EV.b ev_int) (fun _ _ => rfl)) av_nil)))))))))) ss_nil))
    (ss_one (sv_ret (bs_ret ev_bl)))))))))
theorem ok_are_figures : FnOk P w K mg base CX0 1 a_are_figures d_are_figures ["word"] (spP (famBag K) F_are_figures) := by
  obtain ⟨_, c_MOST_FIGURES⟩ := T.e_MOST_FIGURES
  have eb : defBody s_are_figures = defBody s_are_figures := rfl
  conv at eb => rhs; whnf
  have es : defScope s_are_figures = defScope s_are_figures := rfl
  conv at es => rhs; whnf
  refine fn_ok3 (N := ["word"]) (ps := ["word"]) (k := 0) (m := m_are_figures) rfl T.F_are_figures sc_are_figures (by decide) eb es fun cdv A outer s H E hr => ?_
  unfold m_are_figures
  exact (ss_cons (sv_if (bs_if (WV.t (wv_or (tv_not (tv_chain op_leD ov_leD op_leD ov_leD (EV.b ev_int) (EV.b (ev_callB (be_callB call_lenDD rfl T.m_len PySem.boot_len (ab_cons (EV.b (ev_name 0 (bv 0))) ab_nil)) cv_len)) (EV.b (ev_glob rfl c_MOST_FIGURES)))) (wv_or1 (tv_not (tv_val (ev_callB (be_callB (call_all rfl) rfl T.m_all PyProof.Rows.boot_all (ab_cons (EV.b (EF.v (ef_lc (be_lc (LcScope.mk2 (N := ["sign"]) (js := [none]) (defScope s_are_figures) ["word"] rfl rfl (by decide +kernel)) rfl (iv_b (EV.b (ev_name 0 (bv 0)))) (fun _ _ _ _ => (gv_name (bg_name (i := 0) (by decide : (["sign"] : List Str).Nodup) rfl (Or.inl rfl)))) (fun _ _ _ _ => ts_nil) (fun _ _ _ _ => (ev_chain op_leD ov_leD op_leD ov_leD (EV.b ev_str) (EV.b (ev_name 0 (bv 0))) (EV.b ev_str))))))) ab_nil)) cv_all)))))) (ss_one (sv_ret (bs_ret ev_bl))) ss_nil))
    (ss_one (sv_ret (bs_ret (ev_or (ev_cmp (op_eqD hr.units) (ov_eq false) (EV.b (ev_name 0 (bv 0))) (EV.b ev_str) (nomark _)) (ev_one (ev_cmp (op_neD hr.units) (ov_eq true) (EV.b (ev_ix ix_seq ov_ix (EV.b (ev_name 0 (bv 0))) (EV.b ev_int) (fun _ _ => rfl))) (EV.b ev_str) (nomark _))))))))
theorem ok_thing_of (G_are_figures : FnOk P w K mg base CX0 1 a_are_figures d_are_figures ["word"] (spP (famBag K) F_are_figures)) : FnOk P w K mg base CX0 2 a_thing_of d_thing_of ["word"] (spP (famBag K) F_thing_of) := by
  have eb : defBody s_thing_of = defBody s_thing_of := rfl
  conv at eb => rhs; whnf
  have es : defScope s_thing_of = defScope s_thing_of := rfl
  conv at es => rhs; whnf
  refine fn_ok3 (N := ["word"]) (ps := ["word"]) (k := 1) (m := m_thing_of) rfl T.F_thing_of sc_thing_of (by decide) eb es fun cdv A outer s H E hr => ?_
  unfold m_thing_of
  exact (ss_cons (sv_if (bs_if (tv_val (ev_call (be_call G_are_figures (hr.mono (by decide)) rfl T.m_are_figures T.F_are_figures.kp T.b_are_figures .nil pass0 (av_cons (ev_name 0 (bv 0)) av_nil)))) (ss_one (sv_ret (bs_ret (ev_callB (be_callTy call_intT rfl T.m_int PyProof.Rows.boot_int (ab_cons (EV.b (ev_name 0 (bv 0))) ab_nil)) cv_intT)))) ss_nil))
    (ss_cons (sv_if (bs_if (WV.t (wv_and (tv_val (ev_bm (be_bm PySem.F.plainAttrs_str PySem.F.slot_str_startswith PySem.F.type_str_startswith mt_starts (EV.b (ev_name 0 (bv 0))) (ab_cons (EV.b ev_str) ab_nil)) mv_starts)) (wv_and (tv_cmp (op_neD hr.units) (ov_eq true) (EV.b (ev_name 0 (bv 0))) (EV.b ev_str) (nomark _)) (wv_and1 (tv_val (ev_call (be_call G_are_figures (hr.mono (by decide)) rfl T.m_are_figures T.F_are_figures.kp T.b_are_figures .nil pass0 (av_cons (ev_slice (be_slice sl_E (EV.b (ev_name 0 (bv 0))) (ov_some (EV.b ev_int)) ov_none) sv_E) av_nil)))))))) (ss_one (sv_ret (bs_ret (ev_neg (be_un un_neg (EV.b (ev_callB (be_callTy call_intT rfl T.m_int PyProof.Rows.boot_int (ab_cons (EV.b (ev_slice (be_slice sl_E (EV.b (ev_name 0 (bv 0))) (ov_some (EV.b ev_int)) ov_none) sv_E)) ab_nil)) cv_intT))))))) ss_nil))
    (ss_one (sv_ret (bs_ret (ev_name 0 (bv 0)))))))
theorem ok_row_of (G_thing_of : FnOk P w K mg base CX0 2 a_thing_of d_thing_of ["word"] (spP (famBag K) F_thing_of)) : FnOk P w K mg base CX0 3 a_row_of d_row_of ["text"] (spP (famBag K) F_row_of) := by
  have eb : defBody s_row_of = defBody s_row_of := rfl
  conv at eb => rhs; whnf
  have es : defScope s_row_of = defScope s_row_of := rfl
  conv at es => rhs; whnf
  refine fn_ok3 (N := ["text"]) (ps := ["text"]) (k := 2) (m := m_row_of) rfl T.F_row_of sc_row_of (by decide) eb es fun cdv A outer s H E hr => ?_
  unfold m_row_of
  exact (ss_one (sv_ret (bs_ret (ev_callB (be_callTy call_tuple_of rfl T.m_tuple PyProof.Rows.boot_tuple (ab_cons (EV.b (EF.v (ef_lc (be_lc (LcScope.mk2 (N := ["word"]) (js := [none]) (defScope s_row_of) ["text"] rfl rfl (by decide +kernel)) rfl (iv_b (EV.b (EF.v (ef_split (be_bm PySem.F.plainAttrs_str PySem.F.slot_str_split PySem.F.type_str_split mt_split (EV.b (ev_name 0 (bv 0))) (ab_cons (EV.b ev_str) ab_nil)))))) (fun _ _ _ _ => (gv_name (bg_name (i := 0) (by decide : (["word"] : List Str).Nodup) rfl (Or.inl rfl)))) (fun _ _ _ _ => ts_nil) (fun _ _ _ _ => (ev_call (be_call G_thing_of (hr.mono (by decide)) rfl T.m_thing_of T.F_thing_of.kp T.b_thing_of .nil pass0 (av_cons (ev_name 0 (bv 0)) av_nil)))))))) ab_nil)) cv_tup))))
theorem ok_rows_of (G_row_of : FnOk P w K mg base CX0 3 a_row_of d_row_of ["text"] (spP (famBag K) F_row_of)) : FnOk P w K mg base CX0 4 a_rows_of d_rows_of ["text"] (spP (famBag K) F_rows_of) := by
  have eb : defBody s_rows_of = defBody s_rows_of := rfl
  conv at eb => rhs; whnf
  have es : defScope s_rows_of = defScope s_rows_of := rfl
  conv at es => rhs; whnf
  refine fn_ok3 (N := ["text"]) (ps := ["text"]) (k := 3) (m := m_rows_of) rfl T.F_rows_of sc_rows_of (by decide) eb es fun cdv A outer s H E hr => ?_
  unfold m_rows_of
  exact (ss_one (sv_ret (bs_ret (ev_if (tv_cmp (op_eqD hr.units) (ov_eq false) (EV.b (ev_name 0 (bv 0))) (EV.b ev_str) (nomark _)) (ev_tup av_nil) (ev_callB (be_callTy call_tuple_of rfl T.m_tuple PyProof.Rows.boot_tuple (ab_cons (EV.b (EF.v (ef_lc (be_lc (LcScope.mk2 (N := ["part"]) (js := [none]) (defScope s_rows_of) ["text"] rfl rfl (by decide +kernel)) rfl (iv_b (EV.b (EF.v (ef_split (be_bm PySem.F.plainAttrs_str PySem.F.slot_str_split PySem.F.type_str_split mt_split (EV.b (ev_name 0 (bv 0))) (ab_cons (EV.b ev_str) ab_nil)))))) (fun _ _ _ _ => (gv_name (bg_name (i := 0) (by decide : (["part"] : List Str).Nodup) rfl (Or.inl rfl)))) (fun _ _ _ _ => ts_nil) (fun _ _ _ _ => (ev_call (be_call G_row_of (hr.mono (by decide)) rfl T.m_row_of T.F_row_of.kp T.b_row_of .nil pass0 (av_cons (ev_name 0 (bv 0)) av_nil)))))))) ab_nil)) cv_tup)))))
theorem ok_page_of (G_row_of : FnOk P w K mg base CX0 3 a_row_of d_row_of ["text"] (spP (famBag K) F_row_of)) (G_rows_of : FnOk P w K mg base CX0 4 a_rows_of d_rows_of ["text"] (spP (famBag K) F_rows_of)) : FnOk P w K mg base CX0 5 a_page_of d_page_of ["text"] (spP (famBag K) F_page_of) := by
  have eb : defBody s_page_of = defBody s_page_of := rfl
  conv at eb => rhs; whnf
  have es : defScope s_page_of = defScope s_page_of := rfl
  conv at es => rhs; whnf
  refine fn_ok3 (N := ["text", "words"]) (ps := ["text"]) (k := 4) (m := m_page_of) rfl T.F_page_of sc_page_of (by decide) eb es fun cdv A outer s H E hr => ?_
  unfold m_page_of
  exact (ss_cons (sv_set (bs_set (i := 1) sc_page_of.nd rfl (Or.inl rfl) (EF.v (ef_split (be_bm PySem.F.plainAttrs_str PySem.F.slot_str_split PySem.F.type_str_split mt_split (EV.b (ev_name 0 (bv 0))) (ab_cons (EV.b ev_str) ab_nil))))))
    (ss_cons (sv_if (bs_if (tv_cmp (op_eqD hr.units) (ov_eq false) (EV.b (ev_ix ix_seq ov_ix (EV.b (ev_name 1 (bv 1))) (EV.b ev_int) (fun _ _ => rfl))) (EV.b ev_str) (nomark _)) (ss_one (sv_ret (bs_ret (ev_bin op_addD ov_add (EV.b (ev_call (be_call G_row_of (hr.mono (by decide)) rfl T.m_row_of T.F_row_of.kp T.b_row_of .nil pass0 (av_cons (ev_bm (be_bm PySem.F.plainAttrs_str PySem.F.slot_str_join PySem.F.type_str_join mt_join (EV.b ev_str) (ab_cons (EV.b (ev_slice (be_slice sl_E (EV.b (ev_name 1 (bv 1))) ov_none (ov_some (EV.b ev_int))) sv_E)) ab_nil)) mv_join) av_nil)))) (EV.b (ev_tup (av_cons (ev_call (be_call G_rows_of (hr.mono (by decide)) rfl T.m_rows_of T.F_rows_of.kp T.b_rows_of .nil pass0 (av_cons (ev_bm (be_bm PySem.F.plainAttrs_str PySem.F.slot_str_join PySem.F.type_str_join mt_join (EV.b ev_str) (ab_cons (EV.b (ev_slice (be_slice sl_E (EV.b (ev_name 1 (bv 1))) (ov_some (EV.b ev_int)) ov_none) sv_E)) ab_nil)) mv_join) av_nil))) av_nil))))))) ss_nil))
    (ss_one (sv_ret (bs_ret (ev_call (be_call G_row_of (hr.mono (by decide)) rfl T.m_row_of T.F_row_of.kp T.b_row_of .nil pass0 (av_cons (ev_name 0 (bv 0)) av_nil))))))))
theorem ok_read_page (G_page_of : FnOk P w K mg base CX0 5 a_page_of d_page_of ["text"] (spP (famBag K) F_page_of)) (G_is_page : FnOk P w K mg base CX0 6 a_is_page d_is_page ["hill", "thing"] (spP (famBag K) F_is_page)) : FnOk P w K mg base CX0 7 a_read_page d_read_page ["hill", "text"] (spP (famBag K) F_read_page) := by
  have eb : defBody s_read_page = defBody s_read_page := rfl
  conv at eb => rhs; whnf
  have es : defScope s_read_page = defScope s_read_page := rfl
  conv at es => rhs; whnf
  refine fn_ok3 (N := ["hill", "text"]) (ps := ["hill", "text"]) (k := 6) (m := m_read_page) rfl T.F_read_page sc_read_page (by decide) eb es fun cdv A outer s H E hr => ?_
  unfold m_read_page
  exact (ss_cons (sv_if (bs_if (WV.t (wv_or (tv_not (tv_val (ev_isi (be_callB call_isi rfl T.m_isinstance PyProof.Rows.boot_isinstance (ba_cons (EV.b (ev_name 1 (bv 1))) (ba_cons (be_bltn (v := .ty "str") rfl T.m_str PyProof.Rows.boot_str rfl) ba_nil))) kit_str))) (wv_or1 (tv_not (tv_val (ev_call (be_call G_is_page (hr.mono (by decide)) rfl T.m_is_page T.F_is_page.kp T.b_is_page .nil pass0 (av_cons (ev_name 0 (bv 0)) (av_cons (ev_call (be_call G_page_of (hr.mono (by decide)) rfl T.m_page_of T.F_page_of.kp T.b_page_of .nil pass0 (av_cons (ev_name 1 (bv 1)) av_nil))) av_nil))))))))) ss_fail ss_nil))
    (ss_one (sv_ret (bs_ret (ev_call (be_call G_page_of (hr.mono (by decide)) rfl T.m_page_of T.F_page_of.kp T.b_page_of .nil pass0 (av_cons (ev_name 1 (bv 1)) av_nil)))))))
theorem ok_law_any (G_law_draw : FnOk P w K mg base CX0 1 awdraw dwdraw ["_law_bag_here", "_law_many"] (spP (famBag K) F_law_draw)) : FnOk P w K mg base CX0 2 awany dwany ["_law_bag_here", "_law_some"] (spP (famBag K) F_law_any) := by
  have eb : defBody s_law_any = defBody s_law_any := rfl
  conv at eb => rhs; whnf
  have es : defScope s_law_any = defScope s_law_any := rfl
  conv at es => rhs; whnf
  refine fn_ok3 (N := ["_law_bag_here", "_law_some"]) (ps := ["_law_bag_here", "_law_some"]) (k := 1) (m := m_law_any) rfl T.F_law_any sc_law_any (by decide) eb es fun cdv A outer s H E hr => ?_
  unfold m_law_any
  exact (ss_one (sv_ret (bs_ret (ev_ix ix_seq ov_ix (EV.b (ev_name 1 (bv 1))) (EV.b (ev_call (be_call G_law_draw (hr.mono (by decide)) rfl T.m_law_draw T.F_law_draw.kp T.b_law_draw .nil pass0 (av_cons (ev_name 0 (bv 0)) (av_cons (ev_callB (be_callB call_lenDD rfl T.m_len PySem.boot_len (ab_cons (EV.b (ev_name 1 (bv 1))) ab_nil)) cv_len) av_nil))))) (fun _ _ => rfl)))))
theorem ok_law_label (G_law_draw : FnOk P w K mg base CX0 1 awdraw dwdraw ["_law_bag_here", "_law_many"] (spP (famBag K) F_law_draw)) : FnOk P w K mg base CX0 2 awlabel dwlabel ["_law_bag_here"] (spP (famBag K) F_law_label) := by
  have eb : defBody s_law_label = defBody s_law_label := rfl
  conv at eb => rhs; whnf
  have es : defScope s_law_label = defScope s_law_label := rfl
  conv at es => rhs; whnf
  refine fn_ok3 (N := ["_law_bag_here", "_law_size"]) (ps := ["_law_bag_here"]) (k := 1) (m := m_law_label) rfl T.F_law_label sc_law_label (by decide) eb es fun cdv A outer s H E hr => ?_
  unfold m_law_label
  exact (ss_cons (sv_set (bs_set (i := 1) sc_law_label.nd rfl (Or.inl rfl) (ev_ix ix_seq ov_ix (EV.b (EF.v (ef_lst (by refine av_cons ev_int ?_; refine av_cons ev_int ?_; refine av_cons ev_int ?_; refine av_cons ev_int ?_; refine av_cons ev_int ?_; refine av_cons ev_int ?_; refine av_cons ev_int ?_; refine av_cons ev_int ?_; exact av_nil)))) (EV.b (ev_call (be_call G_law_draw (hr.mono (by decide)) rfl T.m_law_draw T.F_law_draw.kp T.b_law_draw .nil pass0 (av_cons (ev_name 0 (bv 0)) (av_cons ev_int av_nil))))) (fun _ _ => rfl))))
    (ss_one (sv_ret (bs_ret (ev_bm (be_bm PySem.F.plainAttrs_str PySem.F.slot_str_join PySem.F.type_str_join mt_join (EV.b ev_str) (ab_cons (EV.b (EF.v (ef_lc (be_lc (LcScope.mk2 (N := ["_law_k", "_law_bag_here"]) (js := [none, some 0]) (defScope s_law_label) ["_law_bag_here", "_law_size"] rfl rfl (by decide +kernel)) rfl (iv_rng1 (bi_range1 rfl T.m_range (ab_cons (EV.b (ev_name 1 (bv 1))) ab_nil))) (fun _ _ _ _ => (gv_name (bg_name (i := 0) (by decide : (["_law_k", "_law_bag_here"] : List Str).Nodup) rfl (Or.inl rfl)))) (fun _ _ _ _ => ts_nil) (fun _ _ _ _ => (ev_ix ix_seq ov_ix (EV.b ev_str) (EV.b (ev_call (be_call G_law_draw (hr.mono (by decide)) rfl T.m_law_draw T.F_law_draw.kp T.b_law_draw .nil pass0 (av_cons (ev_name 1 (bv 1)) (av_cons ev_int av_nil))))) (fun _ _ => rfl))))))) ab_nil)) mv_join)))))
theorem ok_law_labels (G_law_draw : FnOk P w K mg base CX0 1 awdraw dwdraw ["_law_bag_here", "_law_many"] (spP (famBag K) F_law_draw)) (G_law_label : FnOk P w K mg base CX0 2 awlabel dwlabel ["_law_bag_here"] (spP (famBag K) F_law_label)) : FnOk P w K mg base CX0 3 awlabels dwlabels ["_law_bag_here", "_law_many"] (spP (famBag K) F_law_labels) := by
  have eb : defBody s_law_labels = defBody s_law_labels := rfl
  conv at eb => rhs; whnf
  have es : defScope s_law_labels = defScope s_law_labels := rfl
  conv at es => rhs; whnf
  refine fn_ok3 (N := ["_law_bag_here", "_law_many", "_law_letters", "_law_found", "_law_stem", "_law_k", "_law_name", "_law_turn"]) (ps := ["_law_bag_here", "_law_many"]) (k := 2) (m := m_law_labels) rfl T.F_law_labels sc_law_labels (by decide) eb es fun cdv A outer s H E hr => ?_
  unfold m_law_labels
  exact (ss_cons (sv_parVO (bs_par (i := 2) (j := 3) rfl sc_law_labels.nd rfl rfl (by decide) rfl rfl (ba_cons ev_str (ba_cons (ef_lst av_nil) ba_nil)) rfl))
    (ss_cons (sv_set (bs_set (i := 4) sc_law_labels.nd rfl (Or.inl rfl) (ev_if (tv_cmp (op_eqD hr.units) (ov_eq false) (EV.b (ev_call (be_call G_law_draw (hr.mono (by decide)) rfl T.m_law_draw T.F_law_draw.kp T.b_law_draw .nil pass0 (av_cons (ev_name 0 (bv 0)) (av_cons ev_int av_nil))))) (EV.b ev_int) (nomark _)) (ev_slice (be_slice sl_E (EV.b (ev_call (be_call G_law_label (hr.mono (by decide)) rfl T.m_law_label T.F_law_label.kp T.b_law_label .nil pass0 (av_cons (ev_name 0 (bv 0)) av_nil)))) ov_none (ov_some (EV.b ev_int))) sv_E) ev_str)))
    (ss_cons (sv_for (bs_for PassesOwn.never rfl (iv_rng1 (bi_range1 rfl T.m_range (ab_cons (EV.b (ev_name 1 (bv 1))) ab_nil))) (gs_name (bg_name (i := 5) sc_law_labels.nd rfl (Or.inl rfl))) (ss_cons (sv_set (bs_set (i := 6) sc_law_labels.nd rfl (Or.inl rfl) (ev_slice (be_slice sl_E (EV.b (ev_bin op_addD ov_add (EV.b (ev_name 4 (bv 4))) (EV.b (ev_call (be_call G_law_label (hr.mono (by decide)) rfl T.m_law_label T.F_law_label.kp T.b_law_label .nil pass0 (av_cons (ev_name 0 (bv 0)) av_nil)))))) ov_none (ov_some (EV.b ev_int))) sv_E)))
    (ss_cons (sv_for (bs_for PassesOwn.never rfl (iv_rng1 (bi_range1 rfl T.m_range (ab_cons (EV.b ev_int) ab_nil))) (gs_name (bg_name (i := 7) sc_law_labels.nd rfl (Or.inl rfl))) (ss_one (sv_if (bs_if (tv_cmp op_inD (ov_in false) (EV.b (ev_name 6 (bv 6))) (eb_name 3 (bv 3)) rfl) (ss_one (sv_set (bs_set (i := 6) sc_law_labels.nd rfl (Or.inl rfl) (ev_bin op_addD ov_add (EV.b (ev_slice (be_slice sl_E (EV.b (ev_name 6 (bv 6))) ov_none (ov_some (EV.b (ev_neg (be_un un_neg (EV.b ev_int)))))) sv_E)) (EV.b (ev_ix ix_seq ov_ix (EV.b (ev_name 2 (bv 2))) (EV.b (ev_bin op_mod ov_mod (EV.b (ev_bin op_addD ov_add (EV.b (ev_bm (be_bm PySem.F.plainAttrs_str PySem.F.slot_str_index PySem.F.type_str_index mt_index (EV.b (ev_name 2 (bv 2))) (ab_cons (EV.b (ev_ix ix_seq ov_ix (EV.b (ev_name 6 (bv 6))) (EV.b (ev_neg (be_un un_neg (EV.b ev_int)))) (fun _ _ => rfl))) ab_nil)) mv_index)) (EV.b ev_int))) (EV.b ev_int))) (fun _ _ => rfl))))))) ss_nil)))))
    (ss_one (sv_app (k := 3) (bs_expr (be_bm PySem.F.plainAttrs_list PySem.F.slot_list_append PySem.F.type_list_append mt_append (bv 3) (ba_cons (ev_name 6 (bv 6)) ba_nil)))))))))
    (ss_one (sv_ret (bs_ret (ev_name 3 (bv 3))))))))
theorem ok_law_pace (G_law_draw : FnOk P w K mg base CX0 1 awdraw dwdraw ["_law_bag_here", "_law_many"] (spP (famBag K) F_law_draw)) : FnOk P w K mg base CX0 2 awpace dwpace ["_law_bag_here", "_law_scale"] (spP (famBag K) F_law_pace) := by
  have eb : defBody s_law_pace = defBody s_law_pace := rfl
  conv at eb => rhs; whnf
  have es : defScope s_law_pace = defScope s_law_pace := rfl
  conv at es => rhs; whnf
  refine fn_ok3 (N := ["_law_bag_here", "_law_scale"]) (ps := ["_law_bag_here", "_law_scale"]) (k := 1) (m := m_law_pace) rfl T.F_law_pace sc_law_pace (by decide) eb es fun cdv A outer s H E hr => ?_
  unfold m_law_pace
  exact (ss_one (sv_ret (bs_ret (ev_ix ix_seq ov_ix (EV.b (EF.v (ef_lst (by refine av_cons ev_int ?_; refine av_cons ev_int ?_; refine av_cons (ev_name 1 (bv 1)) ?_; refine av_cons ev_int ?_; refine av_cons (ev_bin op_mulE ov_mulE (EV.b ev_int) (EV.b (ev_name 1 (bv 1)))) ?_; refine av_cons (ev_bin op_mulE ov_mulE (EV.b ev_int) (EV.b (ev_name 1 (bv 1)))) ?_; refine av_cons (ev_bin op_mulE ov_mulE (EV.b ev_int) (EV.b (ev_name 1 (bv 1)))) ?_; refine av_cons (ev_bin op_addD ov_add (EV.b (ev_name 1 (bv 1))) (EV.b ev_int)) ?_; exact av_nil)))) (EV.b (ev_call (be_call G_law_draw (hr.mono (by decide)) rfl T.m_law_draw T.F_law_draw.kp T.b_law_draw .nil pass0 (av_cons (ev_name 0 (bv 0)) (av_cons ev_int av_nil))))) (fun _ _ => rfl)))))
theorem ok_law_hill (G_law_labels : FnOk P w K mg base CX0 3 awlabels dwlabels ["_law_bag_here", "_law_many"] (spP (famBag K) F_law_labels)) (G_law_draw : FnOk P w K mg base CX0 1 awdraw dwdraw ["_law_bag_here", "_law_many"] (spP (famBag K) F_law_draw)) (G_law_any : FnOk P w K mg base CX0 2 awany dwany ["_law_bag_here", "_law_some"] (spP (famBag K) F_law_any)) (G_law_pace : FnOk P w K mg base CX0 2 awpace dwpace ["_law_bag_here", "_law_scale"] (spP (famBag K) F_law_pace)) : FnOk P w K mg base CX0 4 awhill dwhill ["_law_bag_here"] (spP (famBag K) F_law_hill) := by
  have eb : defBody s_law_hill = defBody s_law_hill := rfl
  conv at eb => rhs; whnf
  have es : defScope s_law_hill = defScope s_law_hill := rfl
  conv at es => rhs; whnf
  refine fn_ok3 (N := ["_law_bag_here", "_law_many", "_law_scale", "_law_spots", "_law_ways", "_law_name", "_law_kind", "_law_start", "_law_end", "_law_paces", "_law_dark"]) (ps := ["_law_bag_here"]) (k := 3) (m := m_law_hill) rfl T.F_law_hill sc_law_hill (by decide) eb es fun cdv A outer s H E hr => ?_
  unfold m_law_hill
  exact (ss_cons (sv_set (bs_set (i := 1) sc_law_hill.nd rfl (Or.inl rfl) (ev_if (tv_cmp (op_eqD hr.units) (ov_eq false) (EV.b (ev_call (be_call G_law_draw (hr.mono (by decide)) rfl T.m_law_draw T.F_law_draw.kp T.b_law_draw .nil pass0 (av_cons (ev_name 0 (bv 0)) (av_cons ev_int av_nil))))) (EV.b ev_int) (nomark _)) ev_int (ev_bin op_addD ov_add (EV.b ev_int) (EV.b (ev_call (be_call G_law_draw (hr.mono (by decide)) rfl T.m_law_draw T.F_law_draw.kp T.b_law_draw .nil pass0 (av_cons (ev_name 0 (bv 0)) (av_cons ev_int av_nil)))))))))
    (ss_cons (sv_par (bs_par (i := 2) (j := 3) rfl sc_law_hill.nd rfl rfl (by decide) rfl rfl (av_cons (ev_ix ix_seq ov_ix (EV.b (EF.v (ef_lst (by refine av_cons ev_int ?_; refine av_cons ev_int ?_; refine av_cons ev_int ?_; exact av_nil)))) (EV.b (ev_call (be_call G_law_draw (hr.mono (by decide)) rfl T.m_law_draw T.F_law_draw.kp T.b_law_draw .nil pass0 (av_cons (ev_name 0 (bv 0)) (av_cons ev_int av_nil))))) (fun _ _ => rfl)) (av_cons (ev_call (be_call G_law_labels (hr.mono (by decide)) rfl T.m_law_labels T.F_law_labels.kp T.b_law_labels .nil pass0 (av_cons (ev_name 0 (bv 0)) (av_cons (ev_bin op_addD ov_add (EV.b ev_int) (EV.b (ev_call (be_call G_law_draw (hr.mono (by decide)) rfl T.m_law_draw T.F_law_draw.kp T.b_law_draw .nil pass0 (av_cons (ev_name 0 (bv 0)) (av_cons ev_int av_nil)))))) av_nil)))) av_nil)) rfl))
    (ss_cons (sv_own (bs_set (i := 4) sc_law_hill.nd rfl (Or.inl rfl) (ef_lst av_nil)))
    (ss_cons (sv_for (bs_for PassesOwn.never rfl (iv_v (ev_call (be_call G_law_labels (hr.mono (by decide)) rfl T.m_law_labels T.F_law_labels.kp T.b_law_labels .nil pass0 (av_cons (ev_name 0 (bv 0)) (av_cons (ev_name 1 (bv 1)) av_nil))))) (gs_name (bg_name (i := 5) sc_law_hill.nd rfl (Or.inl rfl))) (ss_cons (sv_par3 (bs_par3 (i := 6) (j := 7) (k := 8) rfl sc_law_hill.nd rfl rfl rfl (by decide) (by decide) (by decide) rfl rfl rfl (by refine av_cons (ev_call (be_call G_law_draw (hr.mono (by decide)) rfl T.m_law_draw T.F_law_draw.kp T.b_law_draw .nil pass0 (av_cons (ev_name 0 (bv 0)) (av_cons ev_int av_nil)))) ?_; refine av_cons (ev_call (be_call G_law_any (hr.mono (by decide)) rfl T.m_law_any T.F_law_any.kp T.b_law_any .nil pass0 (av_cons (ev_name 0 (bv 0)) (av_cons (ev_name 3 (bv 3)) av_nil)))) ?_; refine av_cons (ev_call (be_call G_law_any (hr.mono (by decide)) rfl T.m_law_any T.F_law_any.kp T.b_law_any .nil pass0 (av_cons (ev_name 0 (bv 0)) (av_cons (ev_name 3 (bv 3)) av_nil)))) ?_; exact av_nil) rfl))
    (ss_cons (sv_set (bs_set (i := 9) sc_law_hill.nd rfl (Or.inl rfl) (ev_tup (av_cons (ev_call (be_call G_law_pace (hr.mono (by decide)) rfl T.m_law_pace T.F_law_pace.kp T.b_law_pace .nil pass0 (av_cons (ev_name 0 (bv 0)) (av_cons (ev_name 2 (bv 2)) av_nil)))) (av_cons (ev_call (be_call G_law_pace (hr.mono (by decide)) rfl T.m_law_pace T.F_law_pace.kp T.b_law_pace .nil pass0 (av_cons (ev_name 0 (bv 0)) (av_cons (ev_name 2 (bv 2)) av_nil)))) av_nil)))))
    (ss_one (sv_app (k := 4) (bs_expr (be_bm PySem.F.plainAttrs_list PySem.F.slot_list_append PySem.F.type_list_append mt_append (bv 4) (ba_cons (ev_bin op_addD ov_add (EV.b (ev_tup (by refine av_cons (ev_name 5 (bv 5)) ?_; refine av_cons (ev_ix ix_seq ov_ix (EV.b (EF.v (ef_lst (by refine av_cons ev_str ?_; refine av_cons ev_str ?_; refine av_cons ev_str ?_; refine av_cons ev_str ?_; exact av_nil)))) (EV.b (ev_name 6 (bv 6))) (fun _ _ => rfl)) ?_; refine av_cons (ev_name 7 (bv 7)) ?_; refine av_cons (ev_name 8 (bv 8)) ?_; exact av_nil))) (EV.b (ev_name 9 (bv 9)))) ba_nil)))))))))
    (ss_cons (sv_set (bs_set (i := 10) sc_law_hill.nd rfl (Or.inl rfl) (ev_ix ix_seq ov_ix (EV.b (EF.v (ef_lst (by refine av_cons ev_int ?_; refine av_cons ev_int ?_; refine av_cons (ev_bin op_mulE ov_mulE (EV.b (ev_name 2 (bv 2))) (EV.b (ev_bin op_addD ov_add (EV.b ev_int) (EV.b (ev_call (be_call G_law_draw (hr.mono (by decide)) rfl T.m_law_draw T.F_law_draw.kp T.b_law_draw .nil pass0 (av_cons (ev_name 0 (bv 0)) (av_cons ev_int av_nil)))))))) ?_; refine av_cons (ev_bin op_mulE ov_mulE (EV.b (ev_name 2 (bv 2))) (EV.b (ev_bin op_addD ov_add (EV.b ev_int) (EV.b (ev_call (be_call G_law_draw (hr.mono (by decide)) rfl T.m_law_draw T.F_law_draw.kp T.b_law_draw .nil pass0 (av_cons (ev_name 0 (bv 0)) (av_cons ev_int av_nil)))))))) ?_; exact av_nil)))) (EV.b (ev_call (be_call G_law_draw (hr.mono (by decide)) rfl T.m_law_draw T.F_law_draw.kp T.b_law_draw .nil pass0 (av_cons (ev_name 0 (bv 0)) (av_cons ev_int av_nil))))) (fun _ _ => rfl))))
    (ss_one (sv_ret (bs_ret (ev_tup (by refine av_cons (ev_callB (be_callTy call_tuple_of rfl T.m_tuple PyProof.Rows.boot_tuple (ab_cons (EV.b (ev_name 4 (bv 4))) ab_nil)) cv_tup) ?_; refine av_cons (ev_call (be_call G_law_any (hr.mono (by decide)) rfl T.m_law_any T.F_law_any.kp T.b_law_any .nil pass0 (av_cons (ev_name 0 (bv 0)) (av_cons (ev_name 3 (bv 3)) av_nil)))) ?_; refine av_cons (ev_name 10 (bv 10)) ?_; exact av_nil))))))))))
theorem ok_law_moment (G_law_draw : FnOk P w K mg base CX0 1 awdraw dwdraw ["_law_bag_here", "_law_many"] (spP (famBag K) F_law_draw)) : FnOk P w K mg base CX0 2 awmoment dwmoment ["_law_bag_here", "_law_hill_here"] (spP (famBag K) F_law_moment) := by
  have eb : defBody s_law_moment = defBody s_law_moment := rfl
  conv at eb => rhs; whnf
  have es : defScope s_law_moment = defScope s_law_moment := rfl
  conv at es => rhs; whnf
  refine fn_ok3 (N := ["_law_bag_here", "_law_hill_here"]) (ps := ["_law_bag_here", "_law_hill_here"]) (k := 1) (m := m_law_moment) rfl T.F_law_moment sc_law_moment (by decide) eb es fun cdv A outer s H E hr => ?_
  unfold m_law_moment
  exact (ss_one (sv_ret (bs_ret (ev_ix ix_seq ov_ix (EV.b (EF.v (ef_lst (by refine av_cons ev_int ?_; refine av_cons (ev_ix ix_seq ov_ix (EV.b (ev_name 1 (bv 1))) (EV.b ev_int) (fun _ _ => rfl)) ?_; refine av_cons (ev_call (be_call G_law_draw (hr.mono (by decide)) rfl T.m_law_draw T.F_law_draw.kp T.b_law_draw .nil pass0 (av_cons (ev_name 0 (bv 0)) (av_cons (ev_bin op_addD ov_add (EV.b (ev_ix ix_seq ov_ix (EV.b (ev_name 1 (bv 1))) (EV.b ev_int) (fun _ _ => rfl))) (EV.b ev_int)) av_nil)))) ?_; refine av_cons (ev_bin op_fdiv ov_fdiv (EV.b (ev_ix ix_seq ov_ix (EV.b (ev_name 1 (bv 1))) (EV.b ev_int) (fun _ _ => rfl))) (EV.b ev_int)) ?_; exact av_nil)))) (EV.b (ev_call (be_call G_law_draw (hr.mono (by decide)) rfl T.m_law_draw T.F_law_draw.kp T.b_law_draw .nil pass0 (av_cons (ev_name 0 (bv 0)) (av_cons ev_int av_nil))))) (fun _ _ => rfl)))))
theorem ok_law_rule (G_law_draw : FnOk P w K mg base CX0 1 awdraw dwdraw ["_law_bag_here", "_law_many"] (spP (famBag K) F_law_draw)) (G_law_moment : FnOk P w K mg base CX0 2 awmoment dwmoment ["_law_bag_here", "_law_hill_here"] (spP (famBag K) F_law_moment)) (G_law_any : FnOk P w K mg base CX0 2 awany dwany ["_law_bag_here", "_law_some"] (spP (famBag K) F_law_any)) : FnOk P w K mg base CX0 3 awrule dwrule ["_law_bag_here", "_law_hill_here"] (spP (famBag K) F_law_rule) := by
  have eb : defBody s_law_rule = defBody s_law_rule := rfl
  conv at eb => rhs; whnf
  have es : defScope s_law_rule = defScope s_law_rule := rfl
  conv at es => rhs; whnf
  refine fn_ok3 (N := ["_law_bag_here", "_law_hill_here", "_law_way", "_law_number", "_law_a"]) (ps := ["_law_bag_here", "_law_hill_here"]) (k := 2) (m := m_law_rule) rfl T.F_law_rule sc_law_rule (by decide) eb es fun cdv A outer s H E hr => ?_
  unfold m_law_rule
  exact (ss_cons (sv_par (bs_par (i := 2) (j := 3) rfl sc_law_rule.nd rfl rfl (by decide) rfl rfl (av_cons (ev_call (be_call G_law_draw (hr.mono (by decide)) rfl T.m_law_draw T.F_law_draw.kp T.b_law_draw .nil pass0 (av_cons (ev_name 0 (bv 0)) (av_cons ev_int av_nil)))) (av_cons (ev_bin op_sub ov_sub (EV.b (ev_call (be_call G_law_draw (hr.mono (by decide)) rfl T.m_law_draw T.F_law_draw.kp T.b_law_draw .nil pass0 (av_cons (ev_name 0 (bv 0)) (av_cons ev_int av_nil))))) (EV.b ev_int)) av_nil)) rfl))
    (ss_cons (sv_if (bs_if (tv_cmp (op_eqD hr.units) (ov_eq false) (EV.b (ev_call (be_call G_law_draw (hr.mono (by decide)) rfl T.m_law_draw T.F_law_draw.kp T.b_law_draw .nil pass0 (av_cons (ev_name 0 (bv 0)) (av_cons ev_int av_nil))))) (EV.b ev_int) (nomark _)) (ss_one (sv_set (bs_set (i := 3) sc_law_rule.nd rfl (Or.inl rfl) (ev_bin op_mulE ov_mulE (EV.b (ev_bin op_sub ov_sub (EV.b (ev_bin op_pow ov_pow (EV.b ev_int) (EV.b ev_int))) (EV.b ev_int))) (EV.b (ev_ix ix_seq ov_ix (EV.b (EF.v (ef_lst (av_cons ev_int (av_cons (ev_neg (be_un un_neg (EV.b ev_int))) av_nil))))) (EV.b (ev_call (be_call G_law_draw (hr.mono (by decide)) rfl T.m_law_draw T.F_law_draw.kp T.b_law_draw .nil pass0 (av_cons (ev_name 0 (bv 0)) (av_cons ev_int av_nil))))) (fun _ _ => rfl))))))) ss_nil))
    (ss_cons (sv_if (bs_if (tv_cmp (op_eqD hr.units) (ov_eq false) (EV.b (ev_name 2 (bv 2))) (EV.b ev_int) (nomark _)) (ss_cons (sv_set (bs_set (i := 4) sc_law_rule.nd rfl (Or.inl rfl) (ev_call (be_call G_law_moment (hr.mono (by decide)) rfl T.m_law_moment T.F_law_moment.kp T.b_law_moment .nil pass0 (av_cons (ev_name 0 (bv 0)) (av_cons (ev_name 1 (bv 1)) av_nil))))))
    (ss_one (sv_ret (bs_ret (ev_tup (by refine av_cons ev_str ?_; refine av_cons (ev_name 4 (bv 4)) ?_; refine av_cons (ev_call (be_call G_law_any (hr.mono (by decide)) rfl T.m_law_any T.F_law_any.kp T.b_law_any .nil pass0 (av_cons (ev_name 0 (bv 0)) (av_cons (EF.v (ef_lst (by refine av_cons (ev_bin op_addD ov_add (EV.b (ev_name 4 (bv 4))) (EV.b ev_int)) ?_; refine av_cons ev_int ?_; refine av_cons (ev_bin op_addD ov_add (EV.b (ev_bin op_addD ov_add (EV.b (ev_name 4 (bv 4))) (EV.b ev_int))) (EV.b (ev_call (be_call G_law_draw (hr.mono (by decide)) rfl T.m_law_draw T.F_law_draw.kp T.b_law_draw .nil pass0 (av_cons (ev_name 0 (bv 0)) (av_cons (ev_bin op_sub ov_sub (EV.b ev_int) (EV.b (ev_name 4 (bv 4)))) av_nil)))))) ?_; exact av_nil))) av_nil)))) ?_; exact av_nil)))))) ss_nil))
    (ss_cons (sv_if (bs_if (tv_cmp op_lt ov_lt (EV.b (ev_name 2 (bv 2))) (EV.b ev_int) (nomark _)) (ss_one (sv_ret (bs_ret (ev_tup (by refine av_cons (ev_ix ix_seq ov_ix (EV.b (EF.v (ef_lst (by refine av_cons ev_str ?_; refine av_cons ev_str ?_; refine av_cons ev_str ?_; exact av_nil)))) (EV.b (ev_bin op_sub ov_sub (EV.b (ev_name 2 (bv 2))) (EV.b ev_int))) (fun _ _ => rfl)) ?_; refine av_cons (ev_call (be_call G_law_any (hr.mono (by decide)) rfl T.m_law_any T.F_law_any.kp T.b_law_any .nil pass0 (av_cons (ev_name 0 (bv 0)) (av_cons (EF.v (ef_lst (by refine av_cons ev_str ?_; refine av_cons ev_str ?_; refine av_cons ev_str ?_; refine av_cons ev_str ?_; exact av_nil))) av_nil)))) ?_; refine av_cons (ev_name 3 (bv 3)) ?_; exact av_nil))))) ss_nil))
    (ss_cons (sv_if (bs_if (tv_cmp (op_eqD hr.units) (ov_eq false) (EV.b (ev_name 2 (bv 2))) (EV.b ev_int) (nomark _)) (ss_one (sv_ret (bs_ret (ev_tup (av_cons ev_str (av_cons (ev_call (be_call G_law_any (hr.mono (by decide)) rfl T.m_law_any T.F_law_any.kp T.b_law_any .nil pass0 (av_cons (ev_name 0 (bv 0)) (av_cons (EF.v (ef_lst (by refine av_cons ev_int ?_; refine av_cons ev_int ?_; refine av_cons (ev_bin op_addD ov_add (EV.b ev_int) (EV.b (ev_call (be_call G_law_draw (hr.mono (by decide)) rfl T.m_law_draw T.F_law_draw.kp T.b_law_draw .nil pass0 (av_cons (ev_name 0 (bv 0)) (av_cons ev_int av_nil)))))) ?_; refine av_cons (ev_bin op_addD ov_add (EV.b ev_int) (EV.b (ev_bin op_fdiv ov_fdiv (EV.b (ev_ix ix_seq ov_ix (EV.b (ev_name 1 (bv 1))) (EV.b ev_int) (fun _ _ => rfl))) (EV.b ev_int)))) ?_; exact av_nil))) av_nil)))) av_nil)))))) ss_nil))
    (ss_one (sv_ret (bs_ret (ev_if (tv_cmp op_lt ov_lt (EV.b (ev_name 2 (bv 2))) (EV.b ev_int) (nomark _)) (ev_tup (av_cons ev_str (av_cons (ev_ix ix_seq ov_ix (EV.b (ev_call (be_call G_law_any (hr.mono (by decide)) rfl T.m_law_any T.F_law_any.kp T.b_law_any .nil pass0 (av_cons (ev_name 0 (bv 0)) (av_cons (ev_ix ix_seq ov_ix (EV.b (ev_name 1 (bv 1))) (EV.b ev_int) (fun _ _ => rfl)) av_nil))))) (EV.b ev_int) (fun _ _ => rfl)) av_nil))) (ev_tup (av_cons ev_str av_nil)))))))))))
theorem ok_law_rules (G_law_rule : FnOk P w K mg base CX0 3 awrule dwrule ["_law_bag_here", "_law_hill_here"] (spP (famBag K) F_law_rule)) (G_law_draw : FnOk P w K mg base CX0 1 awdraw dwdraw ["_law_bag_here", "_law_many"] (spP (famBag K) F_law_draw)) : FnOk P w K mg base CX0 4 awrules dwrules ["_law_bag_here", "_law_hill_here"] (spP (famBag K) F_law_rules) := by
  have eb : defBody s_law_rules = defBody s_law_rules := rfl
  conv at eb => rhs; whnf
  have es : defScope s_law_rules = defScope s_law_rules := rfl
  conv at es => rhs; whnf
  refine fn_ok3 (N := ["_law_bag_here", "_law_hill_here"]) (ps := ["_law_bag_here", "_law_hill_here"]) (k := 3) (m := m_law_rules) rfl T.F_law_rules sc_law_rules (by decide) eb es fun cdv A outer s H E hr => ?_
  unfold m_law_rules
  exact (ss_one (sv_ret (bs_ret (ev_callB (be_callTy call_tuple_of rfl T.m_tuple PyProof.Rows.boot_tuple (ab_cons (EV.b (EF.v (ef_lc (be_lc (LcScope.mk2 (N := ["_law_k", "_law_bag_here", "_law_hill_here"]) (js := [none, some 0, some 1]) (defScope s_law_rules) ["_law_bag_here", "_law_hill_here"] rfl rfl (by decide +kernel)) rfl (iv_rng1 (bi_range1 rfl T.m_range (ab_cons (EV.b (ev_ix ix_seq ov_ix (EV.b (EF.v (ef_lst (by refine av_cons ev_int ?_; refine av_cons ev_int ?_; refine av_cons ev_int ?_; refine av_cons ev_int ?_; refine av_cons ev_int ?_; refine av_cons ev_int ?_; refine av_cons ev_int ?_; refine av_cons ev_int ?_; exact av_nil)))) (EV.b (ev_call (be_call G_law_draw (hr.mono (by decide)) rfl T.m_law_draw T.F_law_draw.kp T.b_law_draw .nil pass0 (av_cons (ev_name 0 (bv 0)) (av_cons ev_int av_nil))))) (fun _ _ => rfl))) ab_nil))) (fun _ _ _ _ => (gv_name (bg_name (i := 0) (by decide : (["_law_k", "_law_bag_here", "_law_hill_here"] : List Str).Nodup) rfl (Or.inl rfl)))) (fun _ _ _ _ => ts_nil) (fun _ _ _ _ => (ev_call (be_call G_law_rule (hr.mono (by decide)) rfl T.m_law_rule T.F_law_rule.kp T.b_law_rule .nil pass0 (av_cons (ev_name 1 (bv 1)) (av_cons (ev_name 2 (bv 2)) av_nil))))))))) ab_nil)) cv_tup))))
theorem ok_law_slopes : FnOk P w K mg base CX0 1 awslopes dwslopes ["_law_hill_here"] (spP (famBag K) F_law_slopes) := by
  have eb : defBody s_law_slopes = defBody s_law_slopes := rfl
  conv at eb => rhs; whnf
  have es : defScope s_law_slopes = defScope s_law_slopes := rfl
  conv at es => rhs; whnf
  refine fn_ok3 (N := ["_law_hill_here"]) (ps := ["_law_hill_here"]) (k := 0) (m := m_law_slopes) rfl T.F_law_slopes sc_law_slopes (by decide) eb es fun cdv A outer s H E hr => ?_
  unfold m_law_slopes
  exact (ss_one (sv_ret (bs_ret (EF.v (ef_lc (be_lc (LcScope.mk2 (N := ["_law_way"]) (js := [none]) (defScope s_law_slopes) ["_law_hill_here"] rfl rfl (by decide +kernel)) rfl (iv_b (EV.b (ev_ix ix_seq ov_ix (EV.b (ev_name 0 (bv 0))) (EV.b ev_int) (fun _ _ => rfl)))) (fun _ _ _ _ => (gv_name (bg_name (i := 0) (by decide : (["_law_way"] : List Str).Nodup) rfl (Or.inl rfl)))) (fun _ _ _ _ => (ts_one (tv_cmp (op_eqD hr.units) (ov_eq false) (EV.b (ev_ix ix_seq ov_ix (EV.b (ev_name 0 (bv 0))) (EV.b ev_int) (fun _ _ => rfl))) (EV.b ev_str) (nomark _)))) (fun _ _ _ _ => (ev_ix ix_seq ov_ix (EV.b (ev_name 0 (bv 0))) (EV.b ev_int) (fun _ _ => rfl)))))))))
theorem ok_law_page (G_law_draw : FnOk P w K mg base CX0 1 awdraw dwdraw ["_law_bag_here", "_law_many"] (spP (famBag K) F_law_draw)) (G_law_moment : FnOk P w K mg base CX0 2 awmoment dwmoment ["_law_bag_here", "_law_hill_here"] (spP (famBag K) F_law_moment)) (G_law_slopes : FnOk P w K mg base CX0 1 awslopes dwslopes ["_law_hill_here"] (spP (famBag K) F_law_slopes)) (G_law_any : FnOk P w K mg base CX0 2 awany dwany ["_law_bag_here", "_law_some"] (spP (famBag K) F_law_any)) (G_law_rules : FnOk P w K mg base CX0 4 awrules dwrules ["_law_bag_here", "_law_hill_here"] (spP (famBag K) F_law_rules)) : FnOk P w K mg base CX0 5 awpage dwpage ["_law_bag_here", "_law_hill_here", "_law_number"] (spP (famBag K) F_law_page) := by
  have eb : defBody s_law_page = defBody s_law_page := rfl
  conv at eb => rhs; whnf
  have es : defScope s_law_page = defScope s_law_page := rfl
  conv at es => rhs; whnf
  refine fn_ok3 (N := ["_law_bag_here", "_law_hill_here", "_law_number", "_law_way", "_law_moment_here", "_law_slopes_here", "_law_value"]) (ps := ["_law_bag_here", "_law_hill_here", "_law_number"]) (k := 4) (m := m_law_page) rfl T.F_law_page sc_law_page (by decide) eb es fun cdv A outer s H E hr => ?_
  unfold m_law_page
  exact (ss_cons (sv_par3 (bs_par3 (i := 3) (j := 4) (k := 5) rfl sc_law_page.nd rfl rfl rfl (by decide) (by decide) (by decide) rfl rfl rfl (by refine av_cons (ev_call (be_call G_law_draw (hr.mono (by decide)) rfl T.m_law_draw T.F_law_draw.kp T.b_law_draw .nil pass0 (av_cons (ev_name 0 (bv 0)) (av_cons ev_int av_nil)))) ?_; refine av_cons (ev_call (be_call G_law_moment (hr.mono (by decide)) rfl T.m_law_moment T.F_law_moment.kp T.b_law_moment .nil pass0 (av_cons (ev_name 0 (bv 0)) (av_cons (ev_name 1 (bv 1)) av_nil)))) ?_; refine av_cons (ev_call (be_call G_law_slopes (hr.mono (by decide)) rfl T.m_law_slopes T.F_law_slopes.kp T.b_law_slopes .nil pass0 (av_cons (ev_name 1 (bv 1)) av_nil))) ?_; exact av_nil) rfl))
    (ss_cons (sv_if (bs_if (WV.t (wv_and (tv_cmp (op_eqD hr.units) (ov_eq false) (EV.b (ev_name 3 (bv 3))) (EV.b ev_int) (nomark _)) (wv_and1 (tv_cmp (op_neD hr.units) (ov_eq true) (EV.b (ev_name 5 (bv 5))) (EV.b (EF.v (ef_lst av_nil))) (nomark _))))) (ss_one (sv_ret (bs_ret (ev_tup (by refine av_cons ev_str ?_; refine av_cons (ev_name 2 (bv 2)) ?_; refine av_cons (ev_name 4 (bv 4)) ?_; refine av_cons (ev_call (be_call G_law_any (hr.mono (by decide)) rfl T.m_law_any T.F_law_any.kp T.b_law_any .nil pass0 (av_cons (ev_name 0 (bv 0)) (av_cons (ev_name 5 (bv 5)) av_nil)))) ?_; exact av_nil))))) ss_nil))
    (ss_cons (sv_if (bs_if (tv_cmp (op_eqD hr.units) (ov_eq false) (EV.b (ev_name 3 (bv 3))) (EV.b ev_int) (nomark _)) (ss_one (sv_ret (bs_ret (ev_tup (by refine av_cons ev_str ?_; refine av_cons (ev_name 2 (bv 2)) ?_; refine av_cons (ev_name 4 (bv 4)) ?_; refine av_cons (ev_ix ix_seq ov_ix (EV.b (ev_call (be_call G_law_any (hr.mono (by decide)) rfl T.m_law_any T.F_law_any.kp T.b_law_any .nil pass0 (av_cons (ev_name 0 (bv 0)) (av_cons (ev_ix ix_seq ov_ix (EV.b (ev_name 1 (bv 1))) (EV.b ev_int) (fun _ _ => rfl)) av_nil))))) (EV.b ev_int) (fun _ _ => rfl)) ?_; refine av_cons (ev_call (be_call G_law_rules (hr.mono (by decide)) rfl T.m_law_rules T.F_law_rules.kp T.b_law_rules .nil pass0 (av_cons (ev_name 0 (bv 0)) (av_cons (ev_name 1 (bv 1)) av_nil)))) ?_; exact av_nil))))) ss_nil))
    (ss_cons (sv_set (bs_set (i := 6) sc_law_page.nd rfl (Or.inl rfl) (ev_ix ix_seq ov_ix (EV.b (EF.v (ef_lst (by refine av_cons (ev_bin op_sub ov_sub (EV.b (ev_call (be_call G_law_draw (hr.mono (by decide)) rfl T.m_law_draw T.F_law_draw.kp T.b_law_draw .nil pass0 (av_cons (ev_name 0 (bv 0)) (av_cons ev_int av_nil))))) (EV.b ev_int)) ?_; refine av_cons (ev_bin op_sub ov_sub (EV.b (ev_bin op_pow ov_pow (EV.b ev_int) (EV.b ev_int))) (EV.b ev_int)) ?_; refine av_cons (ev_bin op_sub ov_sub (EV.b ev_int) (EV.b (ev_bin op_pow ov_pow (EV.b ev_int) (EV.b ev_int)))) ?_; refine av_cons ev_int ?_; exact av_nil)))) (EV.b (ev_call (be_call G_law_draw (hr.mono (by decide)) rfl T.m_law_draw T.F_law_draw.kp T.b_law_draw .nil pass0 (av_cons (ev_name 0 (bv 0)) (av_cons ev_int av_nil))))) (fun _ _ => rfl))))
    (ss_one (sv_ret (bs_ret (ev_tup (by refine av_cons ev_str ?_; refine av_cons (ev_name 2 (bv 2)) ?_; refine av_cons (ev_name 4 (bv 4)) ?_; refine av_cons (ev_call (be_call G_law_any (hr.mono (by decide)) rfl T.m_law_any T.F_law_any.kp T.b_law_any .nil pass0 (av_cons (ev_name 0 (bv 0)) (av_cons (EF.v (ef_lst (by refine av_cons ev_str ?_; refine av_cons ev_str ?_; refine av_cons ev_str ?_; refine av_cons ev_str ?_; exact av_nil))) av_nil)))) ?_; refine av_cons (ev_name 6 (bv 6)) ?_; exact av_nil)))))))))
theorem ok_law_pages (G_law_any : FnOk P w K mg base CX0 2 awany dwany ["_law_bag_here", "_law_some"] (spP (famBag K) F_law_any)) (G_law_page : FnOk P w K mg base CX0 5 awpage dwpage ["_law_bag_here", "_law_hill_here", "_law_number"] (spP (famBag K) F_law_page)) (G_law_draw : FnOk P w K mg base CX0 1 awdraw dwdraw ["_law_bag_here", "_law_many"] (spP (famBag K) F_law_draw)) : FnOk P w K mg base CX0 6 awpages dwpages ["_law_bag_here", "_law_hill_here", "_law_many"] (spP (famBag K) F_law_pages) := by
  have eb : defBody s_law_pages = defBody s_law_pages := rfl
  conv at eb => rhs; whnf
  have es : defScope s_law_pages = defScope s_law_pages := rfl
  conv at es => rhs; whnf
  refine fn_ok3 (N := ["_law_bag_here", "_law_hill_here", "_law_many", "_law_numbers", "_law_pages_here", "_law_k", "_law_number", "_law_turn"]) (ps := ["_law_bag_here", "_law_hill_here", "_law_many"]) (k := 5) (m := m_law_pages) rfl T.F_law_pages sc_law_pages (by decide) eb es fun cdv A outer s H E hr => ?_
  unfold m_law_pages
  exact (ss_cons (sv_parO0 (bs_par (i := 3) (j := 4) rfl sc_law_pages.nd rfl rfl (by decide) rfl rfl (ba_cons (ef_lst av_nil) (ba_cons (ef_lst av_nil) ba_nil)) rfl))
    (ss_cons (sv_for (bs_for PassesOwn.never rfl (iv_rng1 (bi_range1 rfl T.m_range (ab_cons (EV.b (ev_name 2 (bv 2))) ab_nil))) (gs_name (bg_name (i := 5) sc_law_pages.nd rfl (Or.inl rfl))) (ss_cons (sv_set (bs_set (i := 6) sc_law_pages.nd rfl (Or.inl rfl) (ev_call (be_call G_law_any (hr.mono (by decide)) rfl T.m_law_any T.F_law_any.kp T.b_law_any .nil pass0 (av_cons (ev_name 0 (bv 0)) (av_cons (EF.v (ef_lst (by refine av_cons (ev_name 5 (bv 5)) ?_; refine av_cons (ev_bin op_sub ov_sub (EV.b ev_int) (EV.b (ev_name 5 (bv 5)))) ?_; refine av_cons (ev_bin op_sub ov_sub (EV.b ev_int) (EV.b (ev_name 5 (bv 5)))) ?_; refine av_cons (ev_call (be_call G_law_draw (hr.mono (by decide)) rfl T.m_law_draw T.F_law_draw.kp T.b_law_draw .nil pass0 (av_cons (ev_name 0 (bv 0)) (av_cons ev_int av_nil)))) ?_; exact av_nil))) av_nil))))))
    (ss_cons (sv_for (bs_for PassesOwn.never rfl (iv_rng1 (bi_range1 rfl T.m_range (ab_cons (EV.b (ev_name 2 (bv 2))) ab_nil))) (gs_name (bg_name (i := 7) sc_law_pages.nd rfl (Or.inl rfl))) (ss_one (sv_if (bs_if (tv_cmp op_inD (ov_in false) (EV.b (ev_name 6 (bv 6))) (eb_name 3 (bv 3)) rfl) (ss_one (sv_set (bs_set (i := 6) sc_law_pages.nd rfl (Or.inl rfl) (ev_bin op_mod ov_mod (EV.b (ev_bin op_addD ov_add (EV.b (ev_name 6 (bv 6))) (EV.b ev_int))) (EV.b ev_int))))) ss_nil)))))
    (ss_cons (sv_app (k := 3) (bs_expr (be_bm PySem.F.plainAttrs_list PySem.F.slot_list_append PySem.F.type_list_append mt_append (bv 3) (ba_cons (ev_name 6 (bv 6)) ba_nil))))
    (ss_one (sv_app (k := 4) (bs_expr (be_bm PySem.F.plainAttrs_list PySem.F.slot_list_append PySem.F.type_list_append mt_append (bv 4) (ba_cons (ev_call (be_call G_law_page (hr.mono (by decide)) rfl T.m_law_page T.F_law_page.kp T.b_law_page .nil pass0 (by refine av_cons (ev_name 0 (bv 0)) ?_; refine av_cons (ev_name 1 (bv 1)) ?_; refine av_cons (ev_name 6 (bv 6)) ?_; exact av_nil))) ba_nil))))))))))
    (ss_one (sv_ret (bs_ret (ev_name 4 (bv 4)))))))
theorem ok_law_rules_text : FnOk P w K mg base CX0 1 awrules_text dwrules_text ["_law_rules_here"] (spP (famBag K) F_law_rules_text) := by
  have eb : defBody s_law_rules_text = defBody s_law_rules_text := rfl
  conv at eb => rhs; whnf
  have es : defScope s_law_rules_text = defScope s_law_rules_text := rfl
  conv at es => rhs; whnf
  refine fn_ok3 (N := ["_law_rules_here", "_law_texts"]) (ps := ["_law_rules_here"]) (k := 0) (m := m_law_rules_text) rfl T.F_law_rules_text sc_law_rules_text (by decide) eb es fun cdv A outer s H E hr => ?_
  unfold m_law_rules_text
  exact (ss_cons (sv_set (asg_v (asg_lc (bs_lc (k := 1) sc_law_rules_text.nd rfl (Or.inl rfl) (LcScope.mk2 (N := ["_law_rule_here"]) (js := [none]) (defScope s_law_rules_text) ["_law_rules_here", "_law_texts"] rfl rfl (by decide +kernel)) rfl (iv_b (EV.b (ev_name 0 (bv 0)))) (fun _ _ _ _ => (gv_name (bg_name (i := 0) (by decide : (["_law_rule_here"] : List Str).Nodup) rfl (Or.inl rfl)))) (fun _ _ _ _ => ts_nil) (fun _ _ _ _ => (ev_bm (be_bm PySem.F.plainAttrs_str PySem.F.slot_str_join PySem.F.type_str_join mt_join (EV.b ev_str) (ab_cons (EV.b (EF.v (ef_lc (be_lc (LcScope.mk2 (N := ["_law_thing"]) (js := [none]) _ ["_law_rule_here"] rfl rfl rfl) rfl (iv_b (EV.b (ev_name 0 (bv 0)))) (fun _ _ _ _ => (gv_name (bg_name (i := 0) (by decide : (["_law_thing"] : List Str).Nodup) rfl (Or.inl rfl)))) (fun _ _ _ _ => ts_nil) (fun _ _ _ _ => (ev_callB (be_callTy call_strA rfl T.m_str PyProof.Rows.boot_str (ab_cons (EV.b (ev_name 0 (bv 0))) ab_nil)) cv_strA)))))) ab_nil)) mv_join))))))
    (ss_one (sv_ret (bs_ret (ev_if (tv_cmp (op_neD hr.units) (ov_eq true) (EV.b (ev_name 1 (bv 1))) (EV.b (EF.v (ef_lst av_nil))) (nomark _)) (ev_bm (be_bm PySem.F.plainAttrs_str PySem.F.slot_str_join PySem.F.type_str_join mt_join (EV.b ev_str) (ab_cons (EV.b (ev_name 1 (bv 1))) ab_nil)) mv_join) ev_str)))))
theorem ok_law_page_text (G_law_rules_text : FnOk P w K mg base CX0 1 awrules_text dwrules_text ["_law_rules_here"] (spP (famBag K) F_law_rules_text)) : FnOk P w K mg base CX0 2 awpage_text dwpage_text ["_law_page_here"] (spP (famBag K) F_law_page_text) := by
  have eb : defBody s_law_page_text = defBody s_law_page_text := rfl
  conv at eb => rhs; whnf
  have es : defScope s_law_page_text = defScope s_law_page_text := rfl
  conv at es => rhs; whnf
  refine fn_ok3 (N := ["_law_page_here", "_law_text"]) (ps := ["_law_page_here"]) (k := 1) (m := m_law_page_text) rfl T.F_law_page_text sc_law_page_text (by decide) eb es fun cdv A outer s H E hr => ?_
  unfold m_law_page_text
  exact (ss_cons (sv_set (bs_set (i := 1) sc_law_page_text.nd rfl (Or.inl rfl) (ev_bm (be_bm PySem.F.plainAttrs_str PySem.F.slot_str_join PySem.F.type_str_join mt_join (EV.b ev_str) (ab_cons (EV.b (EF.v (ef_lst (by refine av_cons (ev_ix ix_seq ov_ix (EV.b (ev_name 0 (bv 0))) (EV.b ev_int) (fun _ _ => rfl)) ?_; refine av_cons (ev_callB (be_callTy call_strA rfl T.m_str PyProof.Rows.boot_str (ab_cons (EV.b (ev_ix ix_seq ov_ix (EV.b (ev_name 0 (bv 0))) (EV.b ev_int) (fun _ _ => rfl))) ab_nil)) cv_strA) ?_; refine av_cons (ev_callB (be_callTy call_strA rfl T.m_str PyProof.Rows.boot_str (ab_cons (EV.b (ev_ix ix_seq ov_ix (EV.b (ev_name 0 (bv 0))) (EV.b ev_int) (fun _ _ => rfl))) ab_nil)) cv_strA) ?_; refine av_cons (ev_ix ix_seq ov_ix (EV.b (ev_name 0 (bv 0))) (EV.b ev_int) (fun _ _ => rfl)) ?_; exact av_nil)))) ab_nil)) mv_join)))
    (ss_cons (sv_if (bs_if (tv_cmp (op_eqD hr.units) (ov_eq false) (EV.b (ev_ix ix_seq ov_ix (EV.b (ev_name 0 (bv 0))) (EV.b ev_int) (fun _ _ => rfl))) (EV.b ev_str) (nomark _)) (ss_one (sv_ret (bs_ret (ev_name 1 (bv 1))))) ss_nil))
    (ss_one (sv_ret (bs_ret (ev_bin op_addD ov_add (EV.b (ev_bin op_addD ov_add (EV.b (ev_name 1 (bv 1))) (EV.b ev_str))) (EV.b (ev_if (tv_cmp (op_eqD hr.units) (ov_eq false) (EV.b (ev_ix ix_seq ov_ix (EV.b (ev_name 0 (bv 0))) (EV.b ev_int) (fun _ _ => rfl))) (EV.b ev_str) (nomark _)) (ev_callB (be_callTy call_strA rfl T.m_str PyProof.Rows.boot_str (ab_cons (EV.b (ev_ix ix_seq ov_ix (EV.b (ev_name 0 (bv 0))) (EV.b ev_int) (fun _ _ => rfl))) ab_nil)) cv_strA) (ev_call (be_call G_law_rules_text (hr.mono (by decide)) rfl T.m_law_rules_text T.F_law_rules_text.kp T.b_law_rules_text .nil pass0 (av_cons (ev_ix ix_seq ov_ix (EV.b (ev_name 0 (bv 0))) (EV.b ev_int) (fun _ _ => rfl)) av_nil)))))))))))
theorem ok_law (G_law_bag : FnOk P w K mg base CX0 1 awbag dwbag ["_law_script"] (spBag K)) (G_law_hill : FnOk P w K mg base CX0 4 awhill dwhill ["_law_bag_here"] (spP (famBag K) F_law_hill)) (G_law_pages : FnOk P w K mg base CX0 6 awpages dwpages ["_law_bag_here", "_law_hill_here", "_law_many"] (spP (famBag K) F_law_pages)) (G_page_text : FnOk P w K mg base CX0 3 a_page_text d_page_text ["page"] (spP (famBag K) F_page_text)) (G_law_page_text : FnOk P w K mg base CX0 2 awpage_text dwpage_text ["_law_page_here"] (spP (famBag K) F_law_page_text)) (G_read_page : FnOk P w K mg base CX0 7 a_read_page d_read_page ["hill", "text"] (spP (famBag K) F_read_page)) (hm : ∀ c : Nat, (10 : Int) ≤ c → (c : Int) ≤ max 10 20 → (seqP (forP (bindN 2) b_law (intsP 0 c)) r_law ((List.replicate 6 un).set 1 (.val .bag))).wp 1000000 fun f _ => f = .rt (.bl true)) : FnOk P w K mg base CX0 8 a_law d_law ["_law_script"] (spLaw K) := by
  have eb : defBody s_law = defBody s_law := rfl
  conv at eb => rhs; whnf; arg 2; whnf
  have es : defScope s_law = defScope s_law := rfl
  conv at es => rhs; whnf
  refine L2.law_ok2 (N := ["_law_script", "_law_bag_here", "_law_turn", "_law_hill_here", "_law_pages_here", "_law_texts"]) (k := 7) (b := 1) (bd := (bindN 2)) (mb := b_law) (m' := r_law) (lo := 10) (hi := 20) T.F_law sc_law eb es (fun cdv A outer s H E hr => ?_) (fun cdv A outer s H E hr => ?_) (fun cdv A outer s H E hr => ?_) (by decide) (by decide) hm (by decide) (by decide) (by decide)
  · exact (bs_set (i := 1) sc_law.nd rfl (Or.inl rfl) (be_call G_law_bag (hr.mono (by decide)) rfl T.m_law_bag T.F_law_bag.kp T.b_law_bag .nil pass0 (ba_cons (bv 0) ba_nil)))
  · unfold b_law
    exact (bs_for PassesOwn.never rfl (bi_range1 rfl T.m_range (ba_cons (be_callB (call_max2 rfl) rfl T.m_max PyProof.Rows.boot_max (ba_cons ⟨pe_int⟩ (ba_cons (be_callB (call_min2 rfl) rfl T.m_min PyProof.Rows.boot_min (ba_cons ⟨pe_int⟩ (ba_cons (be_callB call_lenDD rfl T.m_len PySem.boot_len (ba_cons (bv 0) ba_nil)) ba_nil))) ba_nil))) ba_nil)) (gs_name (bg_name (i := 2) sc_law.nd rfl (Or.inl rfl))) (ss_cons (sv_set (bs_set (i := 3) sc_law.nd rfl (Or.inr rfl) (ev_call (be_call G_law_hill (hr.mono (by decide)) rfl T.m_law_hill T.F_law_hill.kp T.b_law_hill .nil pass0 (av_cons (ev_name 1 (bv 1)) av_nil)))))
    (ss_cons (sv_set (bs_set (i := 4) sc_law.nd rfl (Or.inl rfl) (ev_call (be_call G_law_pages (hr.mono (by decide)) rfl T.m_law_pages T.F_law_pages.kp T.b_law_pages .nil pass0 (by refine av_cons (ev_name 1 (bv 1)) ?_; refine av_cons (ev_name 3 (bv 3)) ?_; refine av_cons ev_int ?_; exact av_nil)))))
    (ss_cons (sv_set (asg_v (asg_lc (bs_lc (k := 5) sc_law.nd rfl (Or.inl rfl) (LcScope.mk2 (N := ["_law_page_here"]) (js := [none]) (defScope s_law) ["_law_script", "_law_bag_here", "_law_turn", "_law_hill_here", "_law_pages_here", "_law_texts"] rfl rfl (by decide +kernel)) rfl (iv_b (EV.b (ev_name 4 (bv 4)))) (fun _ _ _ _ => (gv_name (bg_name (i := 0) (by decide : (["_law_page_here"] : List Str).Nodup) rfl (Or.inl rfl)))) (fun _ _ _ _ => ts_nil) (fun _ _ _ _ => (ev_call (be_call G_page_text (hr.mono (by decide)) rfl T.m_page_text T.F_page_text.kp T.b_page_text .nil pass0 (av_cons (ev_name 0 (bv 0)) av_nil))))))))
    (ss_cons (sv_if (bs_if (tv_cmp (op_neD hr.units) (ov_eq true) (EV.b (ev_name 5 (bv 5))) (EV.b (EF.v (ef_lc (be_lc (LcScope.mk2 (N := ["_law_page_here"]) (js := [none]) (defScope s_law) ["_law_script", "_law_bag_here", "_law_turn", "_law_hill_here", "_law_pages_here", "_law_texts"] rfl rfl (by decide +kernel)) rfl (iv_b (EV.b (ev_name 4 (bv 4)))) (fun _ _ _ _ => (gv_name (bg_name (i := 0) (by decide : (["_law_page_here"] : List Str).Nodup) rfl (Or.inl rfl)))) (fun _ _ _ _ => ts_nil) (fun _ _ _ _ => (ev_call (be_call G_law_page_text (hr.mono (by decide)) rfl T.m_law_page_text T.F_law_page_text.kp T.b_law_page_text .nil pass0 (av_cons (ev_name 0 (bv 0)) av_nil)))))))) (nomark _)) (ss_one (sv_ret (bs_ret ev_bl))) ss_nil))
    (ss_one (sv_if (bs_if (tv_cmp (op_neD hr.units) (ov_eq true) (EV.b (ev_callB (be_callB (call_reprX hr.gd hr.units) rfl T.m_repr PyProof.Rows.boot_repr (ab_cons (EV.b (EF.v (ef_lc (be_lc (LcScope.mk2 (N := ["_law_text", "_law_hill_here"]) (js := [none, some 3]) (defScope s_law) ["_law_script", "_law_bag_here", "_law_turn", "_law_hill_here", "_law_pages_here", "_law_texts"] rfl rfl (by decide +kernel)) rfl (iv_b (EV.b (ev_name 5 (bv 5)))) (fun _ _ _ _ => (gv_name (bg_name (i := 0) (by decide : (["_law_text", "_law_hill_here"] : List Str).Nodup) rfl (Or.inl rfl)))) (fun _ _ _ _ => ts_nil) (fun _ _ _ _ => (ev_call (be_call G_read_page (hr.mono (by decide)) rfl T.m_read_page T.F_read_page.kp T.b_read_page .nil pass0 (av_cons (ev_name 1 (bv 1)) (av_cons (ev_name 0 (bv 0)) av_nil))))))))) ab_nil)) cv_reprX)) (EV.b (ev_callB (be_callB (call_reprX hr.gd hr.units) rfl T.m_repr PyProof.Rows.boot_repr (ab_cons (EV.b (ev_name 4 (bv 4))) ab_nil)) cv_reprX)) (nomark _)) (ss_one (sv_ret (bs_ret ev_bl))) ss_nil))))))))
  · unfold r_law
    exact (ss_one (sv_ret (bs_ret ev_bl)))
end
noncomputable def nameOk (x : Str) : Bool := decide (1 ≤ x.length ∧ x.length ≤ 8) && x.cps.toList.all (fun c => decide (97 ≤ c ∧ c ≤ 122))
noncomputable def isName : PV → Bool
  | .str x => nameOk x
  | _ => false
def Fine (y : PV) : Prop := y ≠ .bag ∧ ∀ x, y = .str x → x.length ≤ 100000
theorem le_sign (c d : Nat) : (!decide (([d] : List Nat) < [c])) = decide (c ≤ d) := by
  by_cases h : c ≤ d
  · rw [decide_eq_true h]
    have : ¬ ([d] : List Nat) < [c] := by
      intro z
      rw [List.cons_lt_cons_iff] at z
      rcases z with z | ⟨_, z⟩
      · omega
      · exact absurd z (List.not_lt_nil [])
    simp [this]
  · rw [decide_eq_false h]
    have : ([d] : List Nat) < [c] := by rw [List.cons_lt_cons_iff]; left; omega
    simp [this]
theorem bls_map (f : Nat → Bool) : ∀ cs : List Nat, blsOf (cs.map fun c => PV.bl (f c)) = some (cs.map f)
  | [] => rfl
  | c :: cs => by simp [blsOf, bls_map f cs]
theorem lenS {x : Str} (h : x.length ≤ 100000) : lenO [.str x] = .ret (.int x.length) := by simp [lenO, h]
theorem signs_all (x : Str) : lcM (bindN 0) allTs (chain leOD leOD (fun _ => M.ret (.str "a")) (fun ρ => getV ρ 0) (fun _ => M.ret (.str "z"))) (signsP x) [un] = .ret (x.cps.toList.map fun c => .bl (decide (97 ≤ c ∧ c ≤ 122))) := by
  have h := lcM_map (k := 0) (te := chain leOD leOD (fun _ => M.ret (.str "a")) (fun ρ => getV ρ 0) (fun _ => M.ret (.str "z"))) (f := fun y => match y with | .str z => .bl (leS "a" z && leS z "z") | _ => .non) (ρ := [un]) (signsP x) [un] (fun _ => rfl) (fun y hy => by
    unfold signsP at hy
    obtain ⟨c, _, rfl⟩ := List.mem_map.mp hy
    simp [chain, leOD, getV]
    cases leS "a" ⟨#[c]⟩ <;> simp)
  rw [h, signsP, List.map_map]
  congr 2
  funext c
  have e1 : leS "a" ⟨#[c]⟩ = decide (97 ≤ c) := le_sign 97 c
  have e2 : leS ⟨#[c]⟩ "z" = decide (c ≤ 122) := le_sign c 122
  simp only [Function.comp, e1, e2]
  by_cases a : 97 ≤ c <;> by_cases b : c ≤ 122 <;> simp [a, b]
theorem name_str (x : Str) (h : x.length ≤ 100000) : F_is_name [.str x] = .ret (.bl (nameOk x)) := by
  unfold F_is_name m_is_name nameOk
  have h1 := lenS h
  have h2 := signs_all x
  have h3 : (signsP x).length = x.length := by simp [signsP, Str.length]
  by_cases c1 : 1 ≤ x.length
  · by_cases c2 : x.length ≤ 8
    · have d1 : decide ((1 : Int) ≤ x.length) = true := decide_eq_true (by omega)
      have d2 : decide ((x.length : Int) ≤ 8) = true := decide_eq_true (by omega)
      simp [seqP, setP, ownP, parP, par3P, unpP, ifP, retP, bin2, consA, asB, notP, andP, orP, notV, andV, orV, ifV, chain, lstV, mkLst, mkTup, fnP, startP, finP, isiO, inst, tyN, getV, getB, capP, Ent.freeze, bindT, bindsN, M.ofO, List.replicate, mkLC, iterO, allO, leOD, ltO, gtO, geO, numB, subO, xor, h1, c1, c2, d1, d2, h3, h]
      simp only [getV] at h2
      rw [h2]
      simp [allO, M.ofO, bls_map, finP, List.all_map, Function.comp_def]
    · have d1 : decide ((1 : Int) ≤ x.length) = true := decide_eq_true (by omega)
      have d2 : decide ((x.length : Int) ≤ 8) = false := decide_eq_false (by omega)
      simp [seqP, setP, ownP, parP, par3P, unpP, ifP, retP, bin2, consA, asB, notP, andP, orP, notV, andV, orV, ifV, chain, lstV, mkLst, mkTup, fnP, startP, finP, isiO, inst, tyN, getV, getB, capP, Ent.freeze, bindT, bindsN, M.ofO, List.replicate, mkLC, iterO, allO, leOD, ltO, gtO, geO, numB, subO, xor, h1, c1, c2, d1, d2]
  · have d1 : decide ((1 : Int) ≤ x.length) = false := decide_eq_false (by omega)
    simp [seqP, setP, ownP, parP, par3P, unpP, ifP, retP, bin2, consA, asB, notP, andP, orP, notV, andV, orV, ifV, chain, lstV, mkLst, mkTup, fnP, startP, finP, isiO, inst, tyN, getV, getB, capP, Ent.freeze, bindT, bindsN, M.ofO, List.replicate, mkLC, iterO, allO, leOD, ltO, gtO, geO, numB, subO, xor, h1, c1, d1]
theorem eqI (i j : Int) : eqO false (.int i) (.int j) = .ret (.bl (i == j)) := by
  show M.ret (PV.bl (xor false (i == j))) = _
  simp
theorem name_is {y : PV} (h : Fine y) : F_is_name [y] = .ret (.bl (isName y)) := by
  cases y with
  | str x => exact name_str x (h.2 x rfl)
  | bag => exact absurd rfl h.1
  | _ => rfl
noncomputable def inW (lo hi : Int) : PV → Bool
  | .int i => decide (lo ≤ i) && decide (i ≤ hi)
  | _ => false
theorem whole_is {y : PV} (h : y ≠ .bag) : F_is_whole [y] = .ret (.bl (match y with | .int _ => true | _ => false)) := by
  cases y with
  | bag => exact absurd rfl h
  | _ => rfl
theorem within_is {y : PV} {lo hi : Int} (h : y ≠ .bag) : F_is_within [y, .int lo, .int hi] = .ret (.bl (inW lo hi y)) := by
  have h1 := whole_is h
  unfold F_is_within m_is_within
  cases y with
  | bag => exact absurd rfl h
  | int i =>
    simp [seqP, setP, ownP, parP, par3P, unpP, ifP, retP, bin2, consA, asB, notP, andP, orP, notV, andV, orV, ifV, chain, lstV, mkLst, mkTup, fnP, startP, finP, isiO, inst, tyN, getV, getB, capP, Ent.freeze, bindT, bindsN, M.ofO, List.replicate, mkLC, iterO, allO, leOD, ltO, gtO, geO, numB, subO, xor, h1, inW]
    by_cases c : lo ≤ i <;> simp [c, finP]
  | _ => rfl
theorem eqS (x y : Str) : eqO false (.str x) (.str y) = .ret (.bl (x == y)) := by
  show M.ret (PV.bl (xor false (x == y))) = _
  simp
noncomputable def isNum : PV → Bool
  | .int _ => true
  | _ => false
theorem num_is {y : PV} (h : y ≠ .bag) : F_is_whole [y] = .ret (.bl (isNum y)) := by
  cases y with
  | bag => exact absurd rfl h
  | _ => rfl
noncomputable def ltI : PV → PV → Bool
  | .int a, .int b => decide (a < b)
  | _, _ => false
noncomputable def hoursOk (a b : PV) : Bool := inW 0 1000001 a && (inW 0 1000001 b && ltI a b)
theorem hours_is {a b : PV} (ha : a ≠ .bag) (hb : b ≠ .bag) : F_is_hours [a, b] = .ret (.bl (hoursOk a b)) := by
  have h1 := within_is (lo := 0) (hi := 1000001) ha
  have h2 := within_is (lo := 0) (hi := 1000001) hb
  unfold F_is_hours m_is_hours hoursOk
  cases e1 : inW 0 1000001 a with
  | false => simp [seqP, setP, ownP, parP, par3P, unpP, ifP, retP, bin2, consA, asB, notP, andP, orP, notV, andV, orV, ifV, chain, lstV, mkLst, mkTup, fnP, startP, finP, isiO, inst, tyN, getV, getB, capP, Ent.freeze, bindT, bindsN, M.ofO, List.replicate, mkLC, iterO, allO, leOD, ltO, gtO, geO, numB, subO, xor, h1, e1]
  | true =>
    cases e2 : inW 0 1000001 b with
    | false => simp [seqP, setP, ownP, parP, par3P, unpP, ifP, retP, bin2, consA, asB, notP, andP, orP, notV, andV, orV, ifV, chain, lstV, mkLst, mkTup, fnP, startP, finP, isiO, inst, tyN, getV, getB, capP, Ent.freeze, bindT, bindsN, M.ofO, List.replicate, mkLC, iterO, allO, leOD, ltO, gtO, geO, numB, subO, xor, h1, h2, e1, e2]
    | true =>
      cases a <;> simp [inW] at e1
      cases b <;> simp [inW] at e2
      simp [seqP, setP, ownP, parP, par3P, unpP, ifP, retP, bin2, consA, asB, notP, andP, orP, notV, andV, orV, ifV, chain, lstV, mkLst, mkTup, fnP, startP, finP, isiO, inst, tyN, getV, getB, capP, Ent.freeze, bindT, bindsN, M.ofO, List.replicate, mkLC, iterO, allO, leOD, ltO, gtO, geO, numB, subO, xor, h1, h2, inW, e1, e2, ltI]
def HillOk (h : PV) (ps : List (Str × List PV)) (dark : Int) : Prop := ∃ home, h = .tup [.tup (ps.map fun p => .tup (.str p.1 :: p.2)), home, .int dark] ∧ ps ≠ [] ∧ ps.length ≤ 100 ∧ (∀ p ∈ ps, nameOk p.1 = true) ∧ 1 ≤ dark ∧ dark ≤ 1000000
noncomputable def nmIn (ps : List (Str × List PV)) : PV → Bool
  | .str x => ps.any fun p => p.1 == x
  | _ => false
theorem loop_named (x : Str) (h : PV) : ∀ (ps : List (Str × List PV)) (e : Ent), ∃ f, forP (bindN 2) (ifP (asB (bin2 (eqO false) (bin2 ixO (fun ρ => getV ρ 2) (fun _ => M.ret (.int 0))) (fun ρ => getV ρ 1)))
    (retP (fun ρ => getV ρ 2))
    (fun ρ => M.ret (.nx ρ))) (ps.map fun p => .tup (.str p.1 :: p.2)) [.val h, .val (.str x), e] = .ret f ∧ (if nmIn ps (.str x) = true then ∃ l, f = .rt (.tup l) else ∃ e', f = .nx [.val h, .val (.str x), e'])
  | [], e => ⟨_, rfl, by simp [nmIn]⟩
  | p :: ps, e => by
    obtain ⟨f, hf, hr⟩ := loop_named x h ps (.val (.tup (.str p.1 :: p.2)))
    have i0 : atI (PV.str p.1 :: p.2) 0 = some (.str p.1) := by unfold atI ixN; simp
    rw [List.map_cons, forP]
    cases c : p.1 == x with
    | true =>
      refine ⟨.rt (.tup (.str p.1 :: p.2)), ?_, ?_⟩
      · simp [seqP, setP, ownP, parP, par3P, unpP, ifP, retP, bin2, consA, asB, notP, andP, orP, notV, andV, orV, ifV, chain, lstV, mkLst, mkTup, fnP, startP, finP, isiO, inst, tyN, getV, getB, capP, Ent.freeze, bindT, bindsN, M.ofO, List.replicate, mkLC, iterO, allO, leOD, ltO, gtO, geO, numB, subO, xor, bindN, ixO, i0, eqS, c]
      · rw [if_pos (by simp [nmIn, c])]; exact ⟨_, rfl⟩
    | false =>
      refine ⟨f, ?_, ?_⟩
      · have hf' := hf
        simp [seqP, setP, ownP, parP, par3P, unpP, ifP, retP, bin2, consA, asB, notP, andP, orP, notV, andV, orV, ifV, chain, lstV, mkLst, mkTup, fnP, startP, finP, isiO, inst, tyN, getV, getB, capP, Ent.freeze, bindT, bindsN, M.ofO, List.replicate, mkLC, iterO, allO, leOD, ltO, gtO, geO, numB, subO, xor, bindN, ixO, i0, eqS, c] at hf' ⊢
        exact hf'
      · have e1 : nmIn (p :: ps) (.str x) = nmIn ps (.str x) := by simp [nmIn, c]
        rw [e1]; exact hr
theorem wayname_is {h a : PV} {ps : List (Str × List PV)} {dark : Int} (H : HillOk h ps dark) (ha : Fine a) : F_is_way_name [h, a] = .ret (.bl (nmIn ps a)) := by
  obtain ⟨home, rfl, hne, hl, hok, _⟩ := H
  have h1 := name_is ha
  unfold F_is_way_name m_is_way_name
  cases a with
  | bag => exact absurd rfl ha.1
  | str x =>
    cases c : nameOk x with
    | false =>
      have e : nmIn ps (.str x) = false := by
        cases d : nmIn ps (.str x) with
        | false => rfl
        | true =>
          unfold nmIn at d
          obtain ⟨p, hp, e⟩ := List.any_eq_true.mp d
          have := hok p hp
          rw [eq_of_beq e, c] at this
          cases this
      rw [e]
      have h1' : F_is_name [.str x] = .ret (.bl false) := by rw [h1]; simp [isName, c]
      simp [seqP, setP, ownP, parP, par3P, unpP, ifP, retP, bin2, consA, asB, notP, andP, orP, notV, andV, orV, ifV, chain, lstV, mkLst, mkTup, fnP, startP, finP, isiO, inst, tyN, getV, getB, capP, Ent.freeze, bindT, bindsN, M.ofO, List.replicate, mkLC, iterO, allO, leOD, ltO, gtO, geO, numB, subO, xor, h1']
    | true =>
      have h1' : F_is_name [.str x] = .ret (.bl true) := by rw [h1]; simp [isName, c]
      obtain ⟨f, hf, hr⟩ := loop_named x (.tup [.tup (ps.map fun p => .tup (.str p.1 :: p.2)), home, .int dark]) ps .un
      have i0 : atI [PV.tup (ps.map fun p => .tup (.str p.1 :: p.2)), home, PV.int dark] 0 = some (.tup (ps.map fun p => .tup (.str p.1 :: p.2))) := rfl
      have hw : ∃ y, F_way_named [.tup [.tup (ps.map fun p => .tup (.str p.1 :: p.2)), home, .int dark], .str x] = .ret y ∧ isN y = !nmIn ps (.str x) := by
        unfold F_way_named m_way_named
        by_cases d : nmIn ps (.str x) = true
        · rw [if_pos d] at hr
          obtain ⟨l, rfl⟩ := hr
          refine ⟨.tup l, ?_, by rw [d]; rfl⟩
          simp [seqP, setP, ownP, parP, par3P, unpP, ifP, retP, bin2, consA, asB, notP, andP, orP, notV, andV, orV, ifV, chain, lstV, mkLst, mkTup, fnP, startP, finP, isiO, inst, tyN, getV, getB, capP, Ent.freeze, bindT, bindsN, M.ofO, List.replicate, mkLC, iterO, allO, leOD, ltO, gtO, geO, numB, subO, xor, bindN] at hf
          simp [seqP, setP, ownP, parP, par3P, unpP, ifP, retP, bin2, consA, asB, notP, andP, orP, notV, andV, orV, ifV, chain, lstV, mkLst, mkTup, fnP, startP, finP, isiO, inst, tyN, getV, getB, capP, Ent.freeze, bindT, bindsN, M.ofO, List.replicate, mkLC, iterO, allO, leOD, ltO, gtO, geO, numB, subO, xor, mkFor, ixO, i0, bindN, hf]
        · rw [if_neg d] at hr
          obtain ⟨e', rfl⟩ := hr
          refine ⟨.non, ?_, by simp at d; rw [d]; rfl⟩
          simp [seqP, setP, ownP, parP, par3P, unpP, ifP, retP, bin2, consA, asB, notP, andP, orP, notV, andV, orV, ifV, chain, lstV, mkLst, mkTup, fnP, startP, finP, isiO, inst, tyN, getV, getB, capP, Ent.freeze, bindT, bindsN, M.ofO, List.replicate, mkLC, iterO, allO, leOD, ltO, gtO, geO, numB, subO, xor, bindN] at hf
          simp [seqP, setP, ownP, parP, par3P, unpP, ifP, retP, bin2, consA, asB, notP, andP, orP, notV, andV, orV, ifV, chain, lstV, mkLst, mkTup, fnP, startP, finP, isiO, inst, tyN, getV, getB, capP, Ent.freeze, bindT, bindsN, M.ofO, List.replicate, mkLC, iterO, allO, leOD, ltO, gtO, geO, numB, subO, xor, mkFor, ixO, i0, bindN, hf]
      obtain ⟨y, hy, hn⟩ := hw
      simp [seqP, setP, ownP, parP, par3P, unpP, ifP, retP, bin2, consA, asB, notP, andP, orP, notV, andV, orV, ifV, chain, lstV, mkLst, mkTup, fnP, startP, finP, isiO, inst, tyN, getV, getB, capP, Ent.freeze, bindT, bindsN, M.ofO, List.replicate, mkLC, iterO, allO, leOD, ltO, gtO, geO, numB, subO, xor, h1', hy, isO, hn]
  | _ => rfl
noncomputable def hrsB : List PV → Bool
  | [a, b] => hoursOk a b
  | _ => false
noncomputable def ruleB (ps : List (Str × List PV)) (w : Str) (r : List PV) : Bool :=
  if (w == "hours") = true then hrsB r
  else if (w == "least" || w == "most") = true then (match r with | [a, b] => isName a && isNum b | _ => false)
  else if (w == "looked") = true then (match r with | [a] => inW 1 1000000 a | _ => false)
  else if (w == "with") = true then (match r with | [a] => nmIn ps a | _ => false)
  else w == "never" && r.isEmpty
noncomputable def ruleOk (ps : List (Str × List PV)) : PV → Bool
  | .tup (.str w :: r) => ruleB ps w r
  | _ => false
def FineT (y : PV) : Prop := y ≠ .bag ∧ ∀ l, y = .tup l → ∀ z ∈ l, Fine z
theorem at0 (a : PV) (r : List PV) : atI (a :: r) 0 = some a := by unfold atI ixN; simp
noncomputable def startsT : PV → Bool
  | .tup (.str _ :: _) => true
  | _ => false
theorem begins_is {y : PV} (h : FineT y) : F_begins_with_text [y] = .ret (.bl (startsT y)) := by
  unfold F_begins_with_text m_begins_with_text startsT
  cases y with
  | bag => exact absurd rfl h.1
  | tup l =>
    cases l with
    | nil => simp [seqP, setP, ownP, parP, par3P, unpP, ifP, retP, bin2, consA, asB, notP, andP, orP, notV, andV, orV, ifV, chain, lstV, mkLst, mkTup, fnP, startP, finP, isiO, inst, tyN, getV, getB, capP, Ent.freeze, bindT, bindsN, M.ofO, List.replicate, mkLC, iterO, allO, leOD, ltO, gtO, geO, numB, subO, xor, lenO]
    | cons a r =>
      have d : decide ((0 : Int) < ↑r.length + 1) = true := decide_eq_true (by omega)
      cases a with
      | bag => exact absurd rfl (h.2 _ rfl .bag (by simp)).1
      | _ => simp [seqP, setP, ownP, parP, par3P, unpP, ifP, retP, bin2, consA, asB, notP, andP, orP, notV, andV, orV, ifV, chain, lstV, mkLst, mkTup, fnP, startP, finP, isiO, inst, tyN, getV, getB, capP, Ent.freeze, bindT, bindsN, M.ofO, List.replicate, mkLC, iterO, allO, leOD, ltO, gtO, geO, numB, subO, xor, lenO, ixO, at0, d]
  | _ => simp [seqP, setP, ownP, parP, par3P, unpP, ifP, retP, bin2, consA, asB, notP, andP, orP, notV, andV, orV, ifV, chain, lstV, mkLst, mkTup, fnP, startP, finP, isiO, inst, tyN, getV, getB, capP, Ent.freeze, bindT, bindsN, M.ofO, List.replicate, mkLC, iterO, allO, leOD, ltO, gtO, geO, numB, subO, xor]
theorem seq_nx {m k : PEnv → M Fl} {ρ ρ' : PEnv} {Y : M PV} (h : m ρ = .ret (.nx ρ')) (h' : (k ρ').bind finP = Y) : (seqP m k ρ).bind finP = Y := by
  unfold seqP; rw [h]; exact h'
theorem seq_rt {m k : PEnv → M Fl} {ρ : PEnv} {y : PV} (h : m ρ = .ret (.rt y)) : (seqP m k ρ).bind finP = .ret y := by
  unfold seqP; rw [h]; rfl
theorem if_f {c : PEnv → M Bool} {a b : PEnv → M Fl} {ρ : PEnv} (h : c ρ = .ret false) : ifP c a b ρ = b ρ := by unfold ifP; rw [h]; rfl
theorem if_t {c : PEnv → M Bool} {a b : PEnv → M Fl} {ρ : PEnv} (h : c ρ = .ret true) : ifP c a b ρ = a ρ := by unfold ifP; rw [h]; rfl
theorem ifv_t {c : PEnv → M Bool} {a b : PEnv → M PV} {ρ : PEnv} (h : c ρ = .ret true) : ifV c a b ρ = a ρ := by unfold ifV; rw [h]; rfl
theorem ifv_f {c : PEnv → M Bool} {a b : PEnv → M PV} {ρ : PEnv} (h : c ρ = .ret false) : ifV c a b ρ = b ρ := by unfold ifV; rw [h]; rfl
theorem ret_y {m : PEnv → M PV} {ρ : PEnv} {y : PV} (h : m (ρ.map Ent.freeze) = .ret y) : retP m ρ = .ret (.rt y) := by unfold retP; rw [h]; rfl
theorem fin_y {m : PEnv → M Fl} {ρ : PEnv} {y : PV} (h : m ρ = .ret (.rt y)) : (m ρ).bind finP = .ret y := by rw [h]; rfl
theorem c_eq {ρ : PEnv} {w z : Str} {h y : Ent} {t : List Ent} (hρ : ρ = h :: y :: .val (.str w) :: t) : asB (bin2 (eqO false) (fun ρ => getV ρ 2) (fun _ => M.ret (.str z))) ρ = .ret (w == z) := by
  subst hρ; simp [asB, bin2, getV, eqS]
theorem c_or {a b : PEnv → M Bool} {ρ : PEnv} {x y : Bool} (ha : a ρ = .ret x) (hb : b ρ = .ret y) : orP a b ρ = .ret (x || y) := by
  unfold orP; rw [ha]; cases x <;> simp [hb]
theorem v_and {a b : PEnv → M PV} {ρ : PEnv} {x y : Bool} (ha : a ρ = .ret (.bl x)) (hb : x = true → b ρ = .ret (.bl y)) : andV a b ρ = .ret (.bl (x && y)) := by
  cases x <;> simp [andV, asB, ha, hb]
theorem c_len {ρ : PEnv} {l : List PV} {h : Ent} {t : List Ent} {k : Nat} (hρ : ρ = h :: .val (.tup l) :: t) : bin2 (eqO false) (fun ρ => ((consA (fun ρ => getV ρ 1) (fun _ => M.ret [])) ρ).bind lenO) (fun _ => M.ret (.int k)) ρ = .ret (.bl (l.length == k)) := by
  subst hρ
  simp only [bin2, consA, getV, List.getElem?_cons_succ, List.getElem?_cons_zero, rZ, lenO, eqI]
  congr 2
  rw [Bool.eq_iff_iff]; simp
  omega
theorem rule_is {h y : PV} {ps : List (Str × List PV)} {dark : Int} (H : HillOk h ps dark) (hy : FineT y) : F_is_rule [h, y] = .ret (.bl (ruleOk ps y)) := by
  have hb := begins_is hy
  unfold F_is_rule m_is_rule
  show (seqP _ _ [val h, val y, un]).bind finP = _
  by_cases hs : ∃ w r, y = .tup (.str w :: r)
  · obtain ⟨w, r, rfl⟩ := hs
    have hf := hy.2 _ rfl
    refine seq_nx (ρ' := [val h, val (.tup (.str w :: r)), un]) (if_f (by simp [notP, asB, consA, getV, hb, startsT])) ?_
    refine seq_nx (ρ' := [val h, val (.tup (.str w :: r)), val (.str w)]) (by simp [setP, bin2, ixO, getV, at0, M.ofO]) ?_
    show _ = M.ret (PV.bl (ruleB ps w r))
    unfold ruleB
    cases c1 : w == "hours" with
    | true =>
      refine seq_rt ((if_t ((c_eq rfl).trans (by rw [c1]))).trans (ret_y ?_))
      rw [if_pos rfl]
      match r, hf with
      | [], _ => exact v_and (y := false) (c_len rfl) (fun h => by simp at h)
      | [a], _ => exact v_and (y := false) (c_len rfl) (fun h => by simp at h)
      | [a, b], hf =>
        have h1 := hours_is (hf a (by simp)).1 (hf b (by simp)).1
        have i1 : atI [PV.str w, a, b] 1 = some a := rfl
        have i2 : atI [PV.str w, a, b] 2 = some b := rfl
        exact v_and (y := hoursOk a b) (c_len rfl) (fun _ => by simp [consA, bin2, ixO, getV, Ent.freeze, i1, i2, M.ofO, h1])
      | a :: b :: d :: r, _ => exact (v_and (y := false) (c_len rfl) (fun h => by simp at h)).trans (by simp [hrsB])
    | false =>
      refine seq_nx (if_f ((c_eq rfl).trans (by rw [c1]))) ?_
      rw [if_neg (by simp)]
      cases c2 : (w == "least" || w == "most") with
      | true =>
        refine seq_rt ((if_t ((c_or (c_eq rfl) (c_eq rfl)).trans (by rw [c2]))).trans (ret_y ?_))
        rw [if_pos rfl]
        match r, hf with
        | [], _ => exact v_and (y := false) (c_len rfl) (fun h => by simp at h)
        | [a], _ => exact v_and (y := false) (c_len rfl) (fun h => by simp at h)
        | [a, b], hf =>
          have h1 := name_is (hf a (by simp))
          have h2 := num_is (hf b (by simp)).1
          have i1 : atI [PV.str w, a, b] 1 = some a := rfl
          have i2 : atI [PV.str w, a, b] 2 = some b := rfl
          exact v_and (y := isName a && isNum b) (c_len rfl) (fun _ => v_and (by simp [consA, bin2, ixO, getV, Ent.freeze, i1, M.ofO, h1]) (fun _ => by simp [consA, bin2, ixO, getV, Ent.freeze, i2, M.ofO, h2]))
        | a :: b :: d :: r, _ => exact (v_and (y := false) (c_len rfl) (fun h => by simp at h)).trans (by simp)
      | false =>
        refine seq_nx (if_f ((c_or (c_eq rfl) (c_eq rfl)).trans (by rw [c2]))) ?_
        rw [if_neg (by simp)]
        cases c3 : w == "looked" with
        | true =>
          refine seq_rt ((if_t ((c_eq rfl).trans (by rw [c3]))).trans (ret_y ?_))
          rw [if_pos rfl]
          match r, hf with
          | [], _ => exact v_and (y := false) (c_len rfl) (fun h => by simp at h)
          | [a], hf =>
            have h1 := within_is (lo := 1) (hi := 1000000) (hf a (by simp)).1
            have i1 : atI [PV.str w, a] 1 = some a := rfl
            exact v_and (y := inW 1 1000000 a) (c_len rfl) (fun _ => by simp [consA, bin2, ixO, getV, Ent.freeze, i1, M.ofO, h1])
          | a :: b :: r, _ => exact (v_and (y := false) (c_len rfl) (fun h => by simp at h)).trans (by simp)
        | false =>
          refine seq_nx (if_f ((c_eq rfl).trans (by rw [c3]))) ?_
          rw [if_neg (by simp)]
          cases c4 : w == "with" with
          | true =>
            refine seq_rt ((if_t ((c_eq rfl).trans (by rw [c4]))).trans (ret_y ?_))
            rw [if_pos rfl]
            match r, hf with
            | [], _ => exact v_and (y := false) (c_len rfl) (fun h => by simp at h)
            | [a], hf =>
              have h1 := wayname_is H (hf a (by simp))
              have i1 : atI [PV.str w, a] 1 = some a := rfl
              exact v_and (y := nmIn ps a) (c_len rfl) (fun _ => by simp [consA, bin2, ixO, getV, Ent.freeze, i1, M.ofO, h1])
            | a :: b :: r, _ => exact (v_and (y := false) (c_len rfl) (fun h => by simp at h)).trans (by simp)
          | false =>
            refine seq_nx (if_f ((c_eq rfl).trans (by rw [c4]))) ?_
            rw [if_neg (by simp)]
            refine fin_y (ret_y (v_and (x := w == "never") (y := r.isEmpty) (by simp [bin2, getV, Ent.freeze, eqS]) fun _ => (c_len (k := 1) rfl).trans ?_))
            cases r <;> simp
  · have e : startsT y = false := by
      unfold startsT
      split
      · exact (hs ⟨_, _, rfl⟩).elim
      · rfl
    rw [e] at hb
    have e2 : ruleOk ps y = false := by
      unfold ruleOk
      split
      · exact (hs ⟨_, _, rfl⟩).elim
      · rfl
    rw [e2]
    exact seq_rt ((if_t (by simp [notP, asB, consA, getV, hb])).trans (ret_y rfl))
def FineTT (y : PV) : Prop := y ≠ .bag ∧ ∀ l, y = .tup l → ∀ z ∈ l, FineT z
noncomputable def rulesOk (ps : List (Str × List PV)) : PV → Bool
  | .tup l => decide (l.length ≤ 6) && l.all (ruleOk ps)
  | _ => false
theorem bls_mapV (f : PV → Bool) : ∀ cs : List PV, blsOf (cs.map fun c => PV.bl (f c)) = some (cs.map f)
  | [] => rfl
  | c :: cs => by simp [blsOf, bls_mapV f cs]
theorem all_look {te : PEnv → M PV} {h : PV} {ps : List (Str × List PV)} {l : List PV} (hl : l.length ≤ 6) (ht : ∀ y ∈ l, te [.val y, .val h] = .ret (.bl (ruleOk ps y))) : (lcM (bindN 0) allTs te l [un, val h]).bind (fun zs => allO [.lst zs]) = .ret (.bl (l.all (ruleOk ps))) := by
  rw [lcM_map (k := 0) (f := fun y => .bl (ruleOk ps y)) (ρ := [un, val h]) l [un, val h] (fun _ => rfl) (fun y hy => ht y hy)]
  simp only [rZ, allO, bls_mapV, M.ofO]
  simp [List.all_map, Function.comp_def]
theorem rules_is {h y : PV} {ps : List (Str × List PV)} {dark : Int} (H : HillOk h ps dark) (hy : FineTT y) : F_is_rules [h, y] = .ret (.bl (rulesOk ps y)) := by
  unfold F_is_rules m_is_rules
  show (seqP _ _ [val h, val y]).bind finP = _
  cases y with
  | bag => exact absurd rfl hy.1
  | tup l =>
    have hf := hy.2 l rfl
    by_cases c : l.length ≤ 6
    · have d : decide ((6 : Int) < l.length) = false := decide_eq_false (by omega)
      refine seq_nx (ρ' := [val h, val (.tup l)]) (if_f (by simp [notP, orP, asB, bin2, consA, lenO, getV, isiO, inst, tyN, M.ofO, gtO, numB, d])) ?_
      refine fin_y (ret_y ?_)
      have q := all_look (h := h) (ps := ps) (te := fun ρ => ((consA (fun ρ => getV ρ 1) (consA (fun ρ => getV ρ 0) (fun _ => M.ret []))) ρ).bind F_is_rule) c (fun y hy' => by simp [consA, getV, rule_is H (hf y hy')])
      have c' : l.length ≤ 100000 := by omega
      simp only [rulesOk, decide_eq_true c, Bool.true_and]
      rw [← q]
      simp [consA, lstV, mkLC, getV, iterO, capP, Ent.freeze, c']
      simp only [M.bZ, rZ]
    simp only [M.bZ, rZ]
    · have d : decide ((6 : Int) < l.length) = true := decide_eq_true (by omega)
      have e : rulesOk ps (.tup l) = false := by simp [rulesOk, c]
      rw [e]
      exact seq_rt ((if_t (by simp [notP, orP, asB, bin2, consA, lenO, getV, isiO, inst, tyN, M.ofO, gtO, numB, d])).trans (ret_y rfl))
  | _ => exact seq_rt ((if_t (by simp [notP, orP, asB, getV, isiO, inst, tyN, M.ofO])).trans (ret_y rfl))
theorem gV0 (y : PV) (ρ : PEnv) : getV (.val y :: ρ) 0 = .ret y := rfl
theorem gVs (e : Ent) (ρ : PEnv) (i : Nat) : getV (e :: ρ) (i + 1) = getV ρ i := rfl
theorem gB0 (y : PV) (ρ : PEnv) : getB (.val y :: ρ) 0 = .ret y := rfl
theorem gB0o (l : List PV) (ρ : PEnv) : getB (.own l :: ρ) 0 = .ret (.lst l) := rfl
theorem gBs (e : Ent) (ρ : PEnv) (i : Nat) : getB (e :: ρ) (i + 1) = getB ρ i := rfl
theorem atI_in {α : Type} {l : List α} {d : Int} (h0 : 0 ≤ d) (h1 : d < l.length) : ∃ y ∈ l, atI l d = some y := by
  have hd : d.toNat < l.length := by omega
  have e : d = ((d.toNat : Nat) : Int) := by omega
  refine ⟨l[d.toNat], List.getElem_mem hd, ?_⟩
  have q := atI_nat (List.getElem?_eq_getElem hd)
  rw [← e] at q
  exact q
theorem gen_any {l : List PV} (h0 : 0 < l.length) (h1 : l.length ≤ 100000) : Gen (F_law_any [.bag, .lst l]) 1 (fun y => y ∈ l) := by
  unfold F_law_any m_law_any
  simp [seqP, setP, ownP, parP, par3P, unpP, ifP, retP, bin2, consA, asB, notP, andP, orP, notV, andV, orV, ifV, chain, lstV, mkLst, mkTup, fnP, startP, finP, isiO, inst, tyN, gV0, gVs, gB0, gB0o, gBs, capP, Ent.freeze, bindT, bindsN, M.ofO, List.replicate, mkLC, iterO, allO, leOD, ltO, gtO, geO, numB, subO, xor, lenO, F_law_draw]
  simp only [M.bZ]
  refine Gen.le (Gen.bind (Gen.draw (by omega) (by omega)) (d := 0) ?_) (Nat.le_refl _)
  rintro _ ⟨d, rfl, d0, d1⟩
  obtain ⟨y, hy, e⟩ := atI_in d0 d1
  refine Gen.eq (y := y) ?_ hy
  simp [ixO, e, M.ofO, finP]
theorem ones_len : ∀ (ys : List Str), (∀ z ∈ ys, z.length = 1) → (ys.map (·.length)).sum = ys.length
  | [], _ => rfl
  | y :: r, h => by
    have := ones_len r fun z hz => h z (List.mem_cons_of_mem _ hz)
    rw [List.map_cons, List.sum_cons, this, h y List.mem_cons_self, List.length_cons]
    omega
theorem join_ones (ys : List Str) (h : ∀ z ∈ ys, z.length = 1) : (Txt.join (Str.ofString "") ys).length = ys.length := by
  show (Builtin.Str.glued (Str.ofString "") ys).length = _
  rw [PySem.size_glued]
  have e : (Str.ofString "").length = 0 := by decide
  rw [e]
  have := ones_len ys h
  omega
def Lets (x : Str) : Prop := ∀ c ∈ x.cps.toList, 97 ≤ c ∧ c ≤ 122
def One (y : PV) : Prop := ∃ c : Nat, y = .str ⟨#[c]⟩ ∧ 97 ≤ c ∧ c ≤ 122
theorem strs_one : ∀ (l : List PV), (∀ y ∈ l, One y) → ∃ ys, strsOf l = some ys ∧ ys.length = l.length ∧ ∀ z ∈ ys, z.length = 1 ∧ Lets z
  | [], _ => ⟨[], rfl, rfl, fun z hz => by simp at hz⟩
  | y :: l, h => by
    obtain ⟨ys, e1, e2, e3⟩ := strs_one l fun y hy => h y (List.mem_cons_of_mem _ hy)
    obtain ⟨c, rfl, hc⟩ := h y List.mem_cons_self
    exact ⟨⟨#[c]⟩ :: ys, by simp [strsOf, e1], by simp [e2], fun u hu => by
      rcases List.mem_cons.mp hu with rfl | hu
      · exact ⟨rfl, fun d hd => by simp at hd; subst hd; exact hc⟩
      · exact e3 u hu⟩
theorem fold_lets (sep : Str) (hs : Lets sep) : ∀ (ys : List Str) (acc : Array Nat), (∀ z ∈ ys, Lets z) → (∀ c ∈ acc.toList, 97 ≤ c ∧ c ≤ 122) → ∀ c ∈ (ys.foldl (fun acc p => acc ++ sep.cps ++ p.cps) acc).toList, 97 ≤ c ∧ c ≤ 122
  | [], acc, _, ha => ha
  | y :: ys, acc, h, ha => by
    rw [List.foldl_cons]
    refine fold_lets sep hs ys _ (fun z hz => h z (List.mem_cons_of_mem _ hz)) fun c hc => ?_
    rw [Array.toList_append, Array.toList_append, List.mem_append, List.mem_append] at hc
    rcases hc with (hc | hc) | hc
    · exact ha c hc
    · exact hs c hc
    · exact h y List.mem_cons_self c hc
theorem join_lets (ys : List Str) (h : ∀ z ∈ ys, Lets z) : Lets (Txt.join (Str.ofString "") ys) := by
  have he : Lets (Str.ofString "") := fun c hc => by
    have : (Str.ofString "").cps.toList = [] := by decide
    rw [this] at hc; simp at hc
  show Lets (Builtin.Str.glued (Str.ofString "") ys)
  unfold Builtin.Str.glued
  cases ys with
  | nil => exact fun c hc => by simp [Str.empty] at hc
  | cons y ys => exact fold_lets _ he ys _ (fun z hz => h z (List.mem_cons_of_mem _ hz)) (h y List.mem_cons_self)
theorem abc_at (d : Int) (h0 : 0 ≤ d) (h1 : d < 26) : atI (Str.ofString "abcdefghijklmnopqrstuvwxyz").cps.toList d = some (97 + d.toNat) := by
  have e : ∀ k : Fin 26, atI (Str.ofString "abcdefghijklmnopqrstuvwxyz").cps.toList ((k.val : Nat) : Int) = some (97 + k.val) := by decide +kernel
  have := e ⟨d.toNat, by omega⟩
  simp only at this
  rw [show ((d.toNat : Nat) : Int) = d by omega] at this
  exact this
theorem abc_ix (d : Int) (h0 : 0 ≤ d) (h1 : d < 26) : ixO (.str "abcdefghijklmnopqrstuvwxyz") (.int d) = .ret (.str ⟨#[97 + d.toNat]⟩) := by
  have hz : (Str.ofString "abcdefghijklmnopqrstuvwxyz").length ≤ 100000 := by decide +kernel
  simp [ixO, abc_at d h0 h1, M.ofO, hz]
theorem gen_sign {ρ : PEnv} (h : getV ρ 1 = .ret .bag) : Gen (bin2 ixO (fun _ => M.ret (.str "abcdefghijklmnopqrstuvwxyz")) (fun ρ => (getV ρ 1).bind fun a => drawF [a, .int 26]) ρ) 1 One := by
  simp only [bin2, h, rZ]
  refine Gen.le (Gen.bind (Gen.draw (by omega) (by omega)) (d := 0) ?_) (Nat.le_refl _)
  rintro _ ⟨d, rfl, d0, d1⟩
  exact Gen.eq (abc_ix d d0 d1) ⟨_, rfl, by omega, by omega⟩
def Label (y : PV) : Prop := ∃ z : Str, y = .str z ∧ 1 ≤ z.length ∧ z.length ≤ 8 ∧ Lets z
theorem gen_label : Gen (F_law_label [.bag]) 9 Label := by
  unfold F_law_label m_law_label
  simp [seqP, setP, ownP, parP, par3P, unpP, ifP, retP, bin2, consA, asB, notP, andP, orP, notV, andV, orV, ifV, chain, lstV, mkLst, mkTup, fnP, startP, finP, isiO, inst, tyN, gV0, gVs, gB0, gB0o, gBs, capP, Ent.freeze, bindT, bindsN, M.ofO, List.replicate, mkLC, iterO, allO, leOD, ltO, gtO, geO, numB, subO, xor, lenO, F_law_draw]
  simp only [M.bZ]
  refine Gen.le (Gen.bind (Gen.draw (by omega) (by omega)) (d := 8) ?_) (Nat.le_refl _)
  rintro _ ⟨d, rfl, d0, d1⟩
  obtain ⟨y, hy, e⟩ := atI_in (l := [PV.int 2, PV.int 1, PV.int 3, PV.int 8, PV.int 4, PV.int 1, PV.int 5, PV.int 2]) d0 d1
  obtain ⟨k, rfl, k0, k1⟩ : ∃ k : Int, y = .int k ∧ 1 ≤ k ∧ k ≤ 8 := by
    simp only [List.mem_cons, List.not_mem_nil, or_false] at hy
    rcases hy with rfl | rfl | rfl | rfl | rfl | rfl | rfl | rfl <;> exact ⟨_, rfl, by decide, by decide⟩
  simp [ixO, e, M.ofO, seqP, setP, ownP, parP, par3P, unpP, ifP, retP, bin2, consA, asB, notP, andP, orP, notV, andV, orV, ifV, chain, lstV, mkLst, mkTup, fnP, startP, finP, isiO, inst, tyN, gV0, gVs, gB0, gB0o, gBs, capP, Ent.freeze, bindT, bindsN, M.ofO, List.replicate, mkLC, iterO, allO, leOD, ltO, gtO, geO, numB, subO, xor, bmP, tyP, rng1O, (by omega : -1000000 ≤ k ∧ k ≤ 100000)]
  have hlen : (intsP 0 k.toNat).length = k.toNat := by simp [intsP]
  simp [hlen, (by omega : k.toNat ≤ 100000)]
  simp only [M.bZ]
  refine Gen.le (Gen.bind (Gen.lc (ρ := [un, val PV.bag]) (c := 1) (Pr := One) _ _ (fun _ => rfl) (fun y hy => gen_sign rfl)) (d := 0) ?_) (by rw [hlen]; omega)
  rintro zs ⟨z1, z2⟩
  obtain ⟨ys, e1, e2, e3⟩ := strs_one zs z2
  have e4 := ones_len ys fun z hz => (e3 z hz).1
  have e5 : (Str.ofString "").length = 0 := by decide
  have e6 := join_ones ys fun z hz => (e3 z hz).1
  refine Gen.eq (y := .str (Txt.join (Str.ofString "") ys)) ?_ ⟨_, rfl, by rw [e6, e2, z1, hlen]; omega, by rw [e6, e2, z1, hlen]; omega, join_lets ys fun z hz => (e3 z hz).2⟩
  have hs : (ys.map (·.length)).sum + ys.length * (Str.ofString "").length ≤ 16777216 := by rw [e4, e5, e2, z1, hlen]; omega
  simp only [rZ, joinO, e1, M.ofO, if_pos hs, finP]
theorem cut_to (x : Str) (j : Int) (c : Nat) (hc : (c : Int) = if j < 0 then max 0 (j + x.length) else min j x.length) : Txt.slice x none (some j) = ⟨(x.cps.toList.take c).toArray⟩ := by
  have hle : c ≤ x.length := by split at hc <;> omega
  have e : Builtin.Str.strSliceIndices none (some j) 1 x.length = Builtin.Str.strSliceIndices (some ((0 : Nat) : Int)) (some (c : Int)) 1 x.length := by
    unfold Builtin.Str.strSliceIndices
    simp
    congr 1 <;> omega
  have e2 := StrLaws.sliceText_nat x (Nat.zero_le c) hle
  have e3 : Txt.slice x none (some j) = StrLaws.sliceText x (some ((0 : Nat) : Int)) (some (c : Int)) := by
    unfold Txt.slice StrLaws.sliceText
    rw [e]
  rw [e3, e2, List.drop_zero, Nat.sub_zero]
theorem cut_lets {x : Str} (h : Lets x) (c : Nat) : Lets ⟨(x.cps.toList.take c).toArray⟩ := fun d hd => h d (List.mem_of_mem_take (by simpa using hd))
theorem cut_len (x : Str) (c : Nat) : (⟨(x.cps.toList.take c).toArray⟩ : Str).length = min c x.length := by
  show (x.cps.toList.take c).toArray.size = _
  rw [List.size_toArray, List.length_take]
  simp [Str.length]
theorem app_lets {x y : Str} (hx : Lets x) (hy : Lets y) : Lets (x ++ y) := fun c hc => by
  have : c ∈ x.cps.toList ++ y.cps.toList := by
    rw [← Array.toList_append]; exact hc
  rcases List.mem_append.mp this with h | h
  · exact hx c h
  · exact hy c h
theorem app_len (x y : Str) : (x ++ y).length = x.length + y.length := Array.size_append
theorem index_abc (c : Nat) (h : 97 ≤ c ∧ c ≤ 122) : indexO (.str "abcdefghijklmnopqrstuvwxyz") [.str ⟨#[c]⟩] = .ret (.int ((c - 97 : Nat) : Int)) := by
  have e : ∀ k : Fin 26, Builtin.Str.occurrences (Str.ofString "abcdefghijklmnopqrstuvwxyz") ⟨#[97 + k.val]⟩ 0 (Str.ofString "abcdefghijklmnopqrstuvwxyz").length 1 = [k.val] := by decide +kernel
  have q := e ⟨c - 97, by omega⟩
  simp only at q
  rw [show 97 + (c - 97) = c by omega] at q
  unfold indexO
  simp only [q]
def Good (z : Str) : Prop := 1 ≤ z.length ∧ z.length ≤ 8 ∧ Lets z
theorem Good.ok {z : Str} (h : Good z) : nameOk z = true := by
  unfold nameOk
  rw [Bool.and_eq_true]
  refine ⟨decide_eq_true ⟨h.1, h.2.1⟩, List.all_eq_true.mpr fun c hc => decide_eq_true (h.2.2 c hc)⟩
theorem slE_to {x : Str} {j : Int} (h : x.length ≤ 100000) (c : Nat) (hc : (c : Int) = if j < 0 then max 0 (j + x.length) else min j x.length) : slE (.str x) none (some j) = .ret (.str ⟨(x.cps.toList.take c).toArray⟩) := by
  unfold slE
  dsimp only
  rw [if_pos h, cut_to x j c hc]
noncomputable def nmS (p : List Nat) (c : Nat) : Str := ⟨(p ++ [c]).toArray⟩
def Lp (p : List Nat) : Prop := p.length ≤ 7 ∧ ∀ c ∈ p, 97 ≤ c ∧ c ≤ 122
theorem nmS_len (p : List Nat) (c : Nat) : (nmS p c).length = p.length + 1 := by
  show (p ++ [c]).toArray.size = _
  simp
theorem nmS_good {p : List Nat} {c : Nat} (h : Lp p) (h1 : 97 ≤ c) (h2 : c ≤ 122) : Good (nmS p c) := by
  refine ⟨by rw [nmS_len]; omega, by rw [nmS_len]; have := h.1; omega, fun d hd => ?_⟩
  have hd' : d ∈ p ++ [c] := hd
  rcases List.mem_append.mp hd' with w | w
  · exact h.2 d w
  · rw [List.mem_singleton.mp w]; exact ⟨h1, h2⟩
theorem Good.split {z : Str} (h : Good z) : ∃ p c, z = nmS p c ∧ Lp p ∧ 97 ≤ c ∧ c ≤ 122 := by
  obtain ⟨h1, h2, h3⟩ := h
  have hl : z.cps.toList.length = z.length := by simp [Str.length]
  have hne : z.cps.toList ≠ [] := fun e => by rw [e] at hl; simp at hl; omega
  have e := List.dropLast_concat_getLast hne
  refine ⟨z.cps.toList.dropLast, z.cps.toList.getLast hne, ?_, ⟨by rw [List.length_dropLast]; omega, fun c hc => h3 c (List.dropLast_subset _ hc)⟩, h3 _ (List.getLast_mem hne)⟩
  unfold nmS
  rw [e]
theorem nmS_inj {p : List Nat} {c d : Nat} (h : nmS p c = nmS p d) : c = d := by
  unfold nmS at h
  have h' := congrArg (fun z : Str => z.cps.toList) h
  simpa using h'
noncomputable def nxt (c i : Nat) : Nat := 97 + (c - 97 + i) % 26
theorem turned {p : List Nat} {c : Nat} (hp : Lp p) (hc : 97 ≤ c ∧ c ≤ 122) : bin2 addO (sl3 slE (fun _ => M.ret (.str (nmS p c))) (fun _ => M.ret none) (fun ρ => ((fun ρ => ((fun _ => M.ret (.int 1)) ρ).bind negO) ρ).bind fun y => (intM y).bind fun i => M.ret (some i))) (bin2 ixO (fun _ => M.ret (.str "abcdefghijklmnopqrstuvwxyz")) (bin2 modO (bin2 addO (bmP "str" indexO (fun _ => M.ret (.str "abcdefghijklmnopqrstuvwxyz")) (consA (bin2 ixO (fun _ => M.ret (.str (nmS p c))) (fun ρ => ((fun _ => M.ret (.int 1)) ρ).bind negO)) (fun _ => M.ret []))) (fun _ => M.ret (.int 1))) (fun _ => M.ret (.int 26)))) [] = .ret (.str (nmS p (nxt c 1))) := by
  have hl := nmS_len p c
  have hp7 := hp.1
  have hL : (nmS p c).cps.toList = p ++ [c] := rfl
  have e1 := slE_to (x := nmS p c) (j := -1) (by omega) p.length (by rw [if_pos (by omega)]; omega)
  rw [hL, List.take_left' rfl] at e1
  have ec : atI (nmS p c).cps.toList (-1) = some c := by
    rw [hL]
    unfold atI ixN
    rw [if_neg (by omega), if_pos (by simp; omega)]
    have : (-1 + ((p ++ [c]).length : Int)).toNat = p.length := by simp; omega
    rw [this]
    simp
  have e2 := index_abc c hc
  have e3 : ixO (.str (nmS p c)) (.int (-1)) = .ret (.str ⟨#[c]⟩) := by
    simp [ixO, ec, M.ofO, (by omega : (nmS p c).length ≤ 100000)]
  have e4 : modO (.int (((c - 97 : Nat) : Int) + 1)) (.int 26) = .ret (.int ((((c - 97 : Nat) : Int) + 1) % 26)) := by
    unfold modO numO; simp
  have e5 := abc_ix ((((c - 97 : Nat) : Int) + 1) % 26) (by omega) (by omega)
  have hk : 97 + ((((c - 97 : Nat) : Int) + 1) % 26).toNat = nxt c 1 := by unfold nxt; omega
  rw [hk] at e5
  have e6 : (⟨p.toArray⟩ : Str) ++ ⟨#[nxt c 1]⟩ = nmS p (nxt c 1) := by
    show (⟨p.toArray ++ #[nxt c 1]⟩ : Str) = ⟨(p ++ [nxt c 1]).toArray⟩
    congr 1
    apply Array.ext'
    simp
  have e7 : (⟨p.toArray⟩ : Str).length = p.length := by show p.toArray.size = _; simp
  simp only [bin2, sl3, negO, rZ, intM, e1, bmP, tyP, consA, e3, e2, addO, e4, e5]
  simp only [M.ofO, beq_self_eq_true, if_true, rZ, e2, addO, e4, e5]
  rw [if_pos]
  · rw [e6]
  · rw [e7]
    show _ + 1 ≤ _
    omega
theorem nxt_nxt (c i : Nat) (h : 97 ≤ c) : nxt (nxt c i) 1 = nxt c (i + 1) := by unfold nxt; omega
theorem nxt_in (c i : Nat) : 97 ≤ nxt c i ∧ nxt c i ≤ 122 := by unfold nxt; omega
theorem pigeon : ∀ (l m : List Str), l.Nodup → (∀ x ∈ l, x ∈ m) → l.length ≤ m.length
  | [], m, _, _ => Nat.zero_le _
  | x :: l, m, nd, h => by
    have hx := h x List.mem_cons_self
    have nd' := List.nodup_cons.mp nd
    have q := pigeon l (m.erase x) nd'.2 fun y hy => (List.mem_erase_of_ne (fun (e : y = x) => nd'.1 (e ▸ hy))).mpr (h y (List.mem_cons_of_mem _ hy))
    rw [List.length_erase_of_mem hx] at q
    have : 0 < m.length := List.length_pos_of_mem hx
    simp only [List.length_cons]
    omega
theorem all_turns {p : List Nat} {c : Nat} {zs : List Str} (hc : 97 ≤ c ∧ c ≤ 122) (h : ∀ i < 26, nmS p (nxt c i) ∈ zs) : 26 ≤ zs.length := by
  have q := pigeon ((List.range 26).map fun i => nmS p (nxt c i)) zs ?_ ?_
  · simpa using q
  · refine List.Pairwise.map _ (fun a b (hab : a ∈ List.range 26 ∧ b ∈ List.range 26 ∧ a ≠ b) e => ?_) ?_ (R := fun a b => a ∈ List.range 26 ∧ b ∈ List.range 26 ∧ a ≠ b)
    · have e' := nmS_inj e
      have h1 := List.mem_range.mp hab.1
      have h2 := List.mem_range.mp hab.2.1
      have h3 := hab.2.2
      unfold nxt at e'
      omega
    · exact List.Pairwise.imp_of_mem (fun ha hb hn => ⟨ha, hb, hn⟩) List.nodup_range
  · intro x hx
    obtain ⟨i, hi, rfl⟩ := List.mem_map.mp hx
    exact h i (List.mem_range.mp hi)
theorem gseqF {m k : PEnv → M Fl} {ρ : PEnv} {c d : Nat} {I : PEnv → Prop} {Pr : PV → Prop} (h : Gen (m ρ) c fun f => ∃ ρ', f = .nx ρ' ∧ I ρ') (h' : ∀ ρ', I ρ' → Gen ((k ρ').bind finP) d Pr) : Gen ((seqP m k ρ).bind finP) (c + d) Pr := by
  unfold seqP
  rw [M.bZ]
  refine Gen.bind h fun f hf => ?_
  obtain ⟨ρ', rfl, hi⟩ := hf
  exact h' ρ' hi
theorem gseq {m k : PEnv → M Fl} {ρ : PEnv} {c d : Nat} {I : PEnv → Prop} {Pr : Fl → Prop} (h : Gen (m ρ) c fun f => ∃ ρ', f = .nx ρ' ∧ I ρ') (h' : ∀ ρ', I ρ' → Gen (k ρ') d Pr) : Gen (seqP m k ρ) (c + d) Pr := by
  unfold seqP
  refine Gen.bind h fun f hf => ?_
  obtain ⟨ρ', rfl, hi⟩ := hf
  exact h' ρ' hi
theorem gnx {m : PEnv → M Fl} {ρ ρ' : PEnv} {I : PEnv → Prop} (h : m ρ = .ret (.nx ρ')) (hi : I ρ') : Gen (m ρ) 0 fun f => ∃ ρ', f = .nx ρ' ∧ I ρ' := Gen.eq h ⟨ρ', rfl, hi⟩
theorem forN {k : Nat} {mb : PEnv → M Fl} {c : Nat} {Iv : Nat → PEnv → Prop} : ∀ (l : List PV) (i : Nat) (ρ : PEnv), Iv i ρ → (∀ y ∈ l, ∀ j < i + l.length, ∀ ρ, Iv j ρ → Gen (mb (ρ.set k (.val y))) c fun f => ∃ ρ', f = .nx ρ' ∧ Iv (j + 1) ρ') → Gen (forP (bindN k) mb l ρ) (l.length * c) fun f => ∃ ρ', f = .nx ρ' ∧ Iv (i + l.length) ρ'
  | [], i, ρ, h, _ => Gen.le (Gen.ret ⟨ρ, rfl, h⟩) (by simp)
  | y :: l, i, ρ, h, hb => by
    unfold forP
    simp only [bindN, rZ]
    refine Gen.le (Gen.bind (hb y List.mem_cons_self i (by simp) ρ h) fun f hf => ?_) (d := (y :: l).length * c) (Nat.le_of_eq (?_ : c + l.length * c = _))
    · obtain ⟨ρ', rfl, h'⟩ := hf
      have q := forN l (i + 1) ρ' h' fun y' hy j hj => hb y' (List.mem_cons_of_mem _ hy) j (by simp only [List.length_cons]; omega)
      rw [show i + (y :: l).length = i + 1 + l.length by simp only [List.length_cons]; omega]
      exact q
    · simp only [List.length_cons, Nat.succ_mul]; omega
theorem forI {k : Nat} {mb : PEnv → M Fl} {c : Nat} {Iv : Nat → PEnv → Prop} (L : List PV) (hb : ∀ (j : Nat) (y : PV), L[j]? = some y → ∀ ρ, Iv j ρ → Gen (mb (ρ.set k (.val y))) c fun f => ∃ ρ', f = .nx ρ' ∧ Iv (j + 1) ρ') : ∀ (l : List PV) (i : Nat) (ρ : PEnv), L.drop i = l → i ≤ L.length → Iv i ρ → Gen (forP (bindN k) mb l ρ) (l.length * c) fun f => ∃ ρ', f = .nx ρ' ∧ Iv L.length ρ'
  | [], i, ρ, e, hi, h => by
    have : L.length ≤ i := by rw [List.drop_eq_nil_iff] at e; exact e
    have e' : i = L.length := by omega
    subst e'
    exact Gen.le (Gen.ret ⟨ρ, rfl, h⟩) (by simp)
  | y :: l, i, ρ, e, hi, h => by
    unfold forP
    simp only [bindN, rZ]
    have hget : L[i]? = some y := by
      have : (L.drop i)[0]? = some y := by rw [e]; rfl
      rw [List.getElem?_drop] at this
      simpa using this
    have hlt : i < L.length := (List.getElem?_eq_some_iff.mp hget).1
    have hdrop : L.drop (i + 1) = l := by
      have : (L.drop i).drop 1 = l := by rw [e]; rfl
      rw [List.drop_drop] at this
      exact this
    refine Gen.le (Gen.bind (hb i y hget ρ h) fun f hf => ?_) (d := (y :: l).length * c) (Nat.le_of_eq (?_ : c + l.length * c = _))
    · obtain ⟨ρ', rfl, h'⟩ := hf
      exact forI L hb l (i + 1) ρ' hdrop hlt h'
    · simp only [List.length_cons, Nat.succ_mul]; omega
noncomputable def inN (zs : List Str) (x : Str) : Bool := zs.any fun z => z == x
theorem inN_iff {zs : List Str} {x : Str} : inN zs x = true ↔ x ∈ zs := by
  unfold inN
  rw [List.any_eq_true]
  constructor
  · rintro ⟨z, hz, e⟩; rw [← eq_of_beq e]; exact hz
  · intro h; exact ⟨x, h, beq_self_eq_true x⟩
theorem flat_strs (zs : List Str) : (zs.map PV.str).all flatP = true := by
  rw [List.all_eq_true]
  intro y hy
  obtain ⟨z, _, rfl⟩ := List.mem_map.mp hy
  rfl
theorem in_names (x : Str) (zs : List Str) (b : Bool) : inO b (.str x) (.lst (zs.map PV.str)) = .ret (.bl (xor b (inN zs x))) := by
  have e : memF (.str x) (zs.map PV.str) = inN zs x := by
    unfold memF inN
    rw [List.any_map]
    rfl
  unfold inO
  dsimp only
  rw [flat_strs, e]
  simp [flatP, toV, flatV]
def Names (y : PV) (k : Nat) : Prop := ∃ zs : List Str, y = .lst (zs.map PV.str) ∧ zs.length = k ∧ (∀ z ∈ zs, Good z) ∧ zs.Nodup
theorem gen_labels {k : Int} (k0 : 1 ≤ k) (k1 : k ≤ 12) : Gen (F_law_labels [.bag, .int k]) 200 (fun y => Names y k.toNat) := by
  unfold F_law_labels m_law_labels
  show Gen ((seqP _ _ [val .bag, val (.int k), un, un, un, un, un, un]).bind finP) 200 _
  refine Gen.le (gseqF (d := 199) (I := fun ρ => ρ = [val .bag, val (.int k), val (.str "abcdefghijklmnopqrstuvwxyz"), Ent.own [], un, un, un, un]) (gnx (by simp [parVO, mkLst]) rfl) ?_) (by decide)
  rintro _ rfl
  refine Gen.le (gseqF (c := 10) (d := 189) (I := fun ρ => ∃ st : Str, st.length ≤ 8 ∧ Lets st ∧ ρ = [val .bag, val (.int k), val (.str "abcdefghijklmnopqrstuvwxyz"), Ent.own [], val (.str st), un, un, un]) ?_ ?_) (by decide)
  · simp only [setP, ifV, asB, bin2, consA, gV0, gVs, rZ, F_law_draw, M.bZ]
    refine Gen.le (Gen.bind (Gen.draw (by omega) (by omega)) (d := 9) ?_) (Nat.le_refl _)
    rintro _ ⟨d, rfl, d0, d1⟩
    rw [eqI]
    by_cases c : d = 0
    · subst c
      simp only [rZ, beq_self_eq_true, if_true, sl3, consA, gV0, gVs, M.bZ]
      refine Gen.le (Gen.bind gen_label (d := 0) ?_) (Nat.le_refl _)
      rintro _ ⟨z, rfl, z1, z2, z3⟩
      have e := slE_to (x := z) (j := 5) (by omega) (min 5 z.length) (by rw [if_neg (by omega)]; omega)
      refine Gen.eq (y := .nx [val .bag, val (.int k), val (.str "abcdefghijklmnopqrstuvwxyz"), Ent.own [], val (.str ⟨(z.cps.toList.take (min 5 z.length)).toArray⟩), un, un, un]) ?_ ⟨_, rfl, _, ?_, cut_lets z3 _, rfl⟩
      · simp only [rZ, intM, e]; rfl
      · rw [cut_len]; omega
    · have c' : (d == 0) = false := by simpa using c
      refine Gen.le (Gen.eq (y := .nx [val .bag, val (.int k), val (.str "abcdefghijklmnopqrstuvwxyz"), Ent.own [], val (.str ""), un, un, un]) ?_ ⟨_, rfl, _, by decide, ?_, rfl⟩) (by decide)
      · simp [c']
      · intro x hx
        have : (Str.ofString "").cps.toList = [] := by decide
        rw [this] at hx; simp at hx
  · rintro _ ⟨st, st1, st2, rfl⟩
    have hint : (intsP 0 k.toNat).length = k.toNat := by simp [intsP]
    refine Gen.le (gseqF (c := k.toNat * 9) (d := 0) (I := fun ρ => ∃ zs e5 e6 e7, ρ = [val .bag, val (.int k), val (.str "abcdefghijklmnopqrstuvwxyz"), Ent.own (List.map PV.str zs), val (.str st), e5, e6, e7] ∧ zs.length = k.toNat ∧ (∀ z ∈ zs, Good z) ∧ zs.Nodup) ?_ ?_) (by omega)
    · simp only [mkFor, consA, gV0, gVs, rZ, rng1O, if_pos (by omega : -1000000 ≤ k ∧ k ≤ 100000)]
      refine Gen.mono (forN (k := 5) (c := 9) (Iv := fun i ρ => ∃ zs e5 e6 e7, ρ = [val .bag, val (.int k), val (.str "abcdefghijklmnopqrstuvwxyz"), Ent.own (List.map PV.str zs), val (.str st), e5, e6, e7] ∧ zs.length = i ∧ (∀ z ∈ zs, Good z) ∧ zs.Nodup) (intsP 0 k.toNat) 0 [val .bag, val (.int k), val (.str "abcdefghijklmnopqrstuvwxyz"), Ent.own [], val (.str st), un, un, un] ⟨[], _, _, _, rfl, rfl, fun z hz => by simp at hz, List.nodup_nil⟩ ?_) (by rw [hint]; exact Nat.le_refl _) ?_
      rotate_left
      · intro f hf; rw [hint, Nat.zero_add] at hf; exact hf
      · rintro y hy j hj _ ⟨zs, e5, e6, e7, rfl, hzl, hzg, hzn⟩
        rw [hint] at hj
        show Gen (seqP _ _ [val .bag, val (.int k), val (.str "abcdefghijklmnopqrstuvwxyz"), Ent.own (List.map PV.str zs), val (.str st), val y, e6, e7]) 9 _
        refine Gen.le (gseq (c := 9) (d := 0) (I := fun ρ => ∃ n, Good n ∧ ρ = [val .bag, val (.int k), val (.str "abcdefghijklmnopqrstuvwxyz"), Ent.own (List.map PV.str zs), val (.str st), val y, val (.str n), e7]) ?_ ?_) (Nat.le_refl _)
        · simp only [setP, sl3, bin2, consA, gV0, gVs, rZ, M.bZ]
          refine Gen.le (Gen.bind gen_label (d := 0) ?_) (Nat.le_refl _)
          rintro _ ⟨z, rfl, z1, z2, z3⟩
          have l1 := app_len st z
          have e := slE_to (x := st ++ z) (j := 8) (by omega) (min 8 (st ++ z).length) (by rw [if_neg (by omega)]; omega)
          have l2 := cut_len (st ++ z) (min 8 (st ++ z).length)
          refine Gen.eq (y := .nx [val .bag, val (.int k), val (.str "abcdefghijklmnopqrstuvwxyz"), Ent.own (List.map PV.str zs), val (.str st), val y, val (.str ⟨((st ++ z).cps.toList.take (min 8 (st ++ z).length)).toArray⟩), e7]) ?_ ⟨_, rfl, _, ⟨by rw [l2]; omega, by rw [l2]; omega, cut_lets (app_lets st2 z3) _⟩, rfl⟩
          simp only [addO, if_pos (by omega : st.length + z.length ≤ 100000), rZ, intM, e]
          rfl
        · rintro _ ⟨n, hn, rfl⟩
          obtain ⟨p, c, rfl, hp, hc⟩ := hn.split
          refine Gen.le (gseq (c := 0) (d := 0) (I := fun ρ => ∃ n e7, Good n ∧ n ∉ zs ∧ ρ = [val .bag, val (.int k), val (.str "abcdefghijklmnopqrstuvwxyz"), Ent.own (List.map PV.str zs), val (.str st), val y, val (.str n), e7]) ?_ ?_) (Nat.le_refl _)
          · simp only [mkFor, consA, rZ, rng1O, if_pos (by omega : -1000000 ≤ (26 : Int) ∧ (26 : Int) ≤ 100000)]
            have h26 : (intsP 0 (26 : Int).toNat).length = 26 := by simp [intsP]
            refine Gen.mono (forI (k := 7) (c := 0) (Iv := fun i ρ => ∃ n e7, ((Good n ∧ n ∉ zs) ∨ (n = nmS p (nxt c i) ∧ ∀ i' < i, nmS p (nxt c i') ∈ zs)) ∧ ρ = [val .bag, val (.int k), val (.str "abcdefghijklmnopqrstuvwxyz"), Ent.own (List.map PV.str zs), val (.str st), val y, val (.str n), e7]) (intsP 0 (26 : Int).toNat) ?_ (intsP 0 (26 : Int).toNat) 0 _ rfl (Nat.zero_le _) ⟨nmS p c, e7, .inr ⟨by congr 1; unfold nxt; omega, fun i' h => by omega⟩, rfl⟩) (by simp) ?_
            · rintro i t ht _ ⟨n, e7, hn, rfl⟩
              have hb := in_names n zs false
              show Gen (ifP _ _ _ [val .bag, val (.int k), val (.str "abcdefghijklmnopqrstuvwxyz"), Ent.own (List.map PV.str zs), val (.str st), val y, val (.str n), val t]) 0 _
              by_cases hin : n ∈ zs
              · rw [inN_iff.mpr hin] at hb
                rcases hn with ⟨_, hn⟩ | ⟨rfl, hn⟩
                · exact absurd hin hn
                have hq := turned hp (nxt_in c i)
                rw [nxt_nxt c i hc.1] at hq
                refine gnx (I := fun ρ => ∃ n e7, ((Good n ∧ n ∉ zs) ∨ (n = nmS p (nxt c (i + 1)) ∧ ∀ i' < i + 1, nmS p (nxt c i') ∈ zs)) ∧ ρ = _) ((if_t (by simp only [asB, bin2, gV0, gVs, gB0o, gBs, rZ, hb]; rfl)).trans ?_) ⟨nmS p (nxt c (i + 1)), val t, .inr ⟨rfl, fun i' h' => ?_⟩, rfl⟩
                · simp only [bin2, sl3, bmP, consA, rZ] at hq
                  simp only [setP, bin2, sl3, bmP, consA, gV0, gVs, rZ, hq]
                  rfl
                · by_cases e : i' = i
                  · rw [e]; exact hin
                  · exact hn i' (by omega)
              · have hb' : inN zs n = false := by
                  cases d : inN zs n with
                  | false => rfl
                  | true => exact absurd (inN_iff.mp d) hin
                rw [hb'] at hb
                refine gnx (I := fun ρ => ∃ n e7, ((Good n ∧ n ∉ zs) ∨ (n = nmS p (nxt c (i + 1)) ∧ ∀ i' < i + 1, nmS p (nxt c i') ∈ zs)) ∧ ρ = _) (if_f (by simp only [asB, bin2, gV0, gVs, gB0o, gBs, rZ, hb]; rfl)) ⟨n, _, .inl ⟨?_, hin⟩, rfl⟩
                rcases hn with ⟨hn, _⟩ | ⟨rfl, _⟩
                · exact hn
                · exact nmS_good hp (nxt_in c i).1 (nxt_in c i).2
            · rintro f ⟨ρ', rfl, n, e7, hn, rfl⟩
              rw [h26] at hn
              refine ⟨_, rfl, n, e7, ?_⟩
              rcases hn with ⟨h1, h2⟩ | ⟨_, h2⟩
              · exact ⟨h1, h2, rfl⟩
              · exact absurd (all_turns hc h2) (by omega)
          · rintro _ ⟨n, e7, hn, hnz, rfl⟩
            refine Gen.eq (y := .nx [val .bag, val (.int k), val (.str "abcdefghijklmnopqrstuvwxyz"), Ent.own (List.map PV.str (zs ++ [n])), val (.str st), val y, val (.str n), e7]) ?_ ⟨_, rfl, zs ++ [n], _, _, _, rfl, by simp [hzl], fun z hz => ?_, ?_⟩
            · simp [appP, gV0, gVs, hzl, (by omega : j < 100000)]
            · rcases List.mem_append.mp hz with h | h
              · exact hzg z h
              · rw [List.mem_singleton.mp h]; exact hn
            · rw [List.nodup_append]
              refine ⟨hzn, by simp, fun a ha b hb e => ?_⟩
              rw [List.mem_singleton.mp hb] at e
              exact hnz (e ▸ ha)
    · rintro _ ⟨zs, e5, e6, e7, rfl, hzl, hzg, hzn⟩
      exact Gen.eq (fin_y (ret_y rfl)) ⟨zs, rfl, hzl, hzg, hzn⟩
theorem mulI {a b : Int} (h0 : -1000000000000 < a) (h1 : a < 1000000000000) : mulE (.int a) (.int b) = .ret (.int (a * b)) := by
  have e : (2 : Int) ^ 64 = 18446744073709551616 := by decide
  unfold mulE mulO
  dsimp only
  rw [if_pos (show CMul a b from Or.inl ⟨by omega, by omega⟩)]
theorem mkL3 (a b c : PV) : mkLst [a, b, c] = .ret [a, b, c] := by simp [mkLst]
theorem mkL4 (a b c d : PV) : mkLst [a, b, c, d] = .ret [a, b, c, d] := by simp [mkLst]
theorem mkT1 (a : PV) : mkTup [a] = .ret (.tup [a]) := by simp [mkTup]
theorem mkT2 (a b : PV) : mkTup [a, b] = .ret (.tup [a, b]) := by simp [mkTup]
theorem mkT3 (a b c : PV) : mkTup [a, b, c] = .ret (.tup [a, b, c]) := by simp [mkTup]
theorem gen_pace {sc : Int} (h0 : 1 ≤ sc) (h1 : sc ≤ 33333) : Gen (F_law_pace [.bag, .int sc]) 1 (fun y => ∃ i, y = .int i ∧ 0 ≤ i ∧ i ≤ 1000000) := by
  unfold F_law_pace m_law_pace
  have e2 : mulE (.int 2) (.int sc) = .ret (.int (2 * sc)) := mulI (by omega) (by omega)
  have e3 : mulE (.int 3) (.int sc) = .ret (.int (3 * sc)) := mulI (by omega) (by omega)
  have e5 : mulE (.int 5) (.int sc) = .ret (.int (5 * sc)) := mulI (by omega) (by omega)
  have e1 : addO (.int sc) (.int 1) = .ret (.int (sc + 1)) := rfl
  simp [seqP, setP, ownP, parP, par3P, unpP, ifP, retP, bin2, consA, asB, notP, andP, orP, notV, andV, orV, ifV, chain, lstV, mkLst, mkTup, fnP, startP, finP, isiO, inst, tyN, gV0, gVs, gB0, gB0o, gBs, capP, Ent.freeze, bindT, bindsN, M.ofO, List.replicate, mkLC, iterO, allO, leOD, ltO, gtO, geO, numB, subO, xor, F_law_draw, e1, e2, e3, e5]
  simp only [M.bZ]
  refine Gen.le (Gen.bind (Gen.draw (by omega) (by omega)) (d := 0) ?_) (Nat.le_refl _)
  rintro _ ⟨d, rfl, d0, d1⟩
  obtain ⟨y, hy, e⟩ := atI_in (l := [PV.int 0, PV.int 1000000, PV.int sc, PV.int 1, PV.int (2 * sc), PV.int (3 * sc), PV.int (5 * sc), PV.int (sc + 1)]) d0 d1
  refine Gen.eq (y := y) (by simp [ixO, e, M.ofO, finP]) ?_
  simp only [List.mem_cons, List.not_mem_nil, or_false] at hy
  rcases hy with rfl | rfl | rfl | rfl | rfl | rfl | rfl | rfl <;> exact ⟨_, rfl, by omega, by omega⟩
def WayR (r : List PV) : Prop := ∃ (k a b : Str) (i j : Int), r = [.str k, .str a, .str b, .int i, .int j] ∧ a.length ≤ 8 ∧ b.length ≤ 8 ∧ (k = "slope" ∨ k = "lift" ∨ k = "path") ∧ 0 ≤ i ∧ i ≤ 1000000 ∧ 0 ≤ j ∧ j ≤ 1000000 ∧ nameOk a = true ∧ nameOk b = true
def HillU (h : PV) (ps : List (Str × List PV)) (dark : Int) : Prop := HillOk h ps dark ∧ (ps.map (·.1)).Nodup ∧ (∀ p ∈ ps, WayR p.2) ∧ ps.length ≤ 12 ∧ ∃ hm : Str, h = .tup [.tup (ps.map fun p => .tup (.str p.1 :: p.2)), .str hm, .int dark] ∧ hm.length ≤ 8 ∧ nameOk hm = true
theorem gen_hill : Gen (F_law_hill [.bag]) 1000 (fun h => ∃ ps dark, HillU h ps dark) := by
  unfold F_law_hill m_law_hill
  show Gen ((seqP _ _ [val .bag, un, un, un, un, un, un, un, un, un, un]).bind finP) 1000 _
  refine Gen.le (gseqF (c := 2) (d := 998) (I := fun ρ => ∃ many : Int, 1 ≤ many ∧ many ≤ 12 ∧ ρ = [val .bag, val (.int many), un, un, un, un, un, un, un, un, un]) ?_ ?_) (by decide)
  · simp only [setP, ifV, asB, bin2, consA, gV0, gVs, rZ, F_law_draw, M.bZ]
    refine Gen.le (Gen.bind (Gen.draw (by omega) (by omega)) (d := 1) ?_) (Nat.le_refl _)
    rintro _ ⟨d, rfl, d0, d1⟩
    rw [eqI]
    by_cases c : d = 7
    · subst c
      exact Gen.le (Gen.eq (y := .nx _) rfl ⟨_, rfl, 12, by decide, by decide, rfl⟩) (by decide)
    · have c' : (d == 7) = false := by simpa using c
      simp only [rZ, c', Bool.false_eq_true, if_false, M.bZ]
      refine Gen.le (Gen.bind (Gen.draw (by omega) (by omega)) (d := 0) ?_) (Nat.le_refl _)
      rintro _ ⟨d, rfl, d0, d1⟩
      exact Gen.eq (y := .nx _) rfl ⟨_, rfl, 1 + d, by omega, by omega, rfl⟩
  rintro _ ⟨many, m0, m1, rfl⟩
  refine Gen.le (gseqF (c := 202) (d := 796) (I := fun ρ => ∃ (sc : Int) (sp : List PV), 1 ≤ sc ∧ sc ≤ 33333 ∧ 0 < sp.length ∧ sp.length ≤ 5 ∧ (∀ y ∈ sp, ∃ a : Str, y = .str a ∧ Good a) ∧ ρ = [val .bag, val (.int many), val (.int sc), val (.lst sp), un, un, un, un, un, un, un]) ?_ ?_) (by decide)
  · simp only [parP, bin2, lstV, consA, gV0, gVs, rZ, F_law_draw, M.bZ, mkL3]
    refine Gen.le (Gen.bind (Gen.draw (by omega) (by omega)) (d := 201) ?_) (Nat.le_refl _)
    rintro _ ⟨d, rfl, d0, d1⟩
    obtain ⟨y, hy, e⟩ := atI_in (l := [PV.int 1, PV.int 7, PV.int 33333]) d0 d1
    obtain ⟨sc, rfl, s0, s1⟩ : ∃ sc : Int, y = .int sc ∧ 1 ≤ sc ∧ sc ≤ 33333 := by
      simp only [List.mem_cons, List.not_mem_nil, or_false] at hy
      rcases hy with rfl | rfl | rfl <;> exact ⟨_, rfl, by decide, by decide⟩
    simp only [ixO, e, M.ofO, rZ]
    refine Gen.le (Gen.bind (Gen.draw (by omega) (by omega)) (d := 200) ?_) (Nat.le_refl _)
    rintro _ ⟨d, rfl, d0, d1⟩
    simp only [addO, rZ]
    refine Gen.le (Gen.bind (gen_labels (k := 1 + d) (by omega) (by omega)) (d := 0) ?_) (Nat.le_refl _)
    rintro _ ⟨zs, rfl, zl, zg, _⟩
    exact Gen.eq (y := .nx _) rfl ⟨_, rfl, sc, zs.map PV.str, s0, s1, by rw [List.length_map]; omega, by rw [List.length_map]; omega, fun y hy => by obtain ⟨a, ha, rfl⟩ := List.mem_map.mp hy; exact ⟨a, rfl, zg a ha⟩, rfl⟩
  rintro _ ⟨sc, sp, s0, s1, p0, p1, spg, rfl⟩
  refine Gen.le (gseqF (c := 0) (d := 796) (I := fun ρ => ρ = [val .bag, val (.int many), val (.int sc), val (.lst sp), Ent.own [], un, un, un, un, un, un]) (gnx (by simp [ownP, mkLst]) rfl) ?_) (by decide)
  rintro _ rfl
  refine Gen.le (gseqF (c := 200 + 60) (d := 536) (I := fun ρ => ∃ (ps : List (Str × List PV)) (e5 e6 e7 e8 e9 : Ent), ps ≠ [] ∧ ps.length ≤ 12 ∧ (∀ p ∈ ps, nameOk p.1 = true) ∧ (ps.map (·.1)).Nodup ∧ (∀ p ∈ ps, WayR p.2) ∧ ρ = [val .bag, val (.int many), val (.int sc), val (.lst sp), Ent.own (ps.map fun p => .tup (.str p.1 :: p.2)), e5, e6, e7, e8, e9, un]) ?_ ?_) (by decide)
  · simp only [mkFor, consA, gV0, gVs, rZ, M.bZ]
    refine Gen.bind (gen_labels m0 m1) ?_
    rintro _ ⟨zs, rfl, zl, zg, zn⟩
    simp only [iterO, rZ]
    refine Gen.mono (forI (k := 5) (c := 5) (Iv := fun i ρ => ∃ (ps : List (Str × List PV)) (e5 e6 e7 e8 e9 : Ent), ps.map (·.1) = zs.take i ∧ (∀ p ∈ ps, WayR p.2) ∧ ρ = [val .bag, val (.int many), val (.int sc), val (.lst sp), Ent.own (ps.map fun p => .tup (.str p.1 :: p.2)), e5, e6, e7, e8, e9, un]) (zs.map PV.str) ?_ (zs.map PV.str) 0 _ rfl (Nat.zero_le _) ⟨[], _, _, _, _, _, by simp, fun p hp => by simp at hp, rfl⟩) (by rw [List.length_map]; omega) ?_
    rotate_left
    · rintro f ⟨ρ', rfl, ps, e5, e6, e7, e8, e9, hm, hg, rfl⟩
      rw [List.length_map, List.take_length] at hm
      have hl : ps.length = zs.length := by rw [← hm, List.length_map]
      exact ⟨_, rfl, ps, e5, e6, e7, e8, e9, fun h => by subst h; simp at hl; omega, by omega, fun p hp => (zg p.1 (by rw [← hm]; exact List.mem_map.mpr ⟨p, hp, rfl⟩)).ok, by rw [hm]; exact zn, hg, rfl⟩
    · rintro j y hy _ ⟨ps, e5, e6, e7, e8, e9, hm, hg, rfl⟩
      rw [List.getElem?_map] at hy
      obtain ⟨z, hz, rfl⟩ := Option.map_eq_some_iff.mp hy
      have hj : j < zs.length := (List.getElem?_eq_some_iff.mp hz).1
      have hl : ps.length = j := by rw [← List.length_map (as := ps) (f := (·.1)), hm, List.length_take]; omega
      show Gen (seqP _ _ [val .bag, val (.int many), val (.int sc), val (.lst sp), Ent.own (ps.map fun p => .tup (.str p.1 :: p.2)), val (.str z), e6, e7, e8, e9, un]) 5 _
      refine Gen.le (gseq (c := 3) (d := 2) (I := fun ρ => ∃ (kd : Int) (a b : PV), 0 ≤ kd ∧ kd < 4 ∧ a ∈ sp ∧ b ∈ sp ∧ ρ = [val .bag, val (.int many), val (.int sc), val (.lst sp), Ent.own (ps.map fun p => .tup (.str p.1 :: p.2)), val (.str z), val (.int kd), val a, val b, e9, un]) ?_ ?_) (by decide)
      · simp only [par3P, consA, gV0, gVs, rZ, F_law_draw, M.bZ]
        refine Gen.le (Gen.bind (Gen.draw (by omega) (by omega)) (d := 2) ?_) (Nat.le_refl _)
        rintro _ ⟨d, rfl, d0, d1⟩
        refine Gen.le (Gen.bind (gen_any p0 (by omega)) (d := 1) ?_) (Nat.le_refl _)
        intro a ha
        refine Gen.le (Gen.bind (gen_any p0 (by omega)) (d := 0) ?_) (Nat.le_refl _)
        intro b hb
        exact Gen.eq (y := .nx _) rfl ⟨_, rfl, d, a, b, d0, d1, ha, hb, rfl⟩
      rintro _ ⟨kd, a, b, kd0, kd1, ha, hb, rfl⟩
      obtain ⟨a, rfl, hag⟩ := spg a ha
      obtain ⟨b, rfl, hbg⟩ := spg b hb
      refine Gen.le (gseq (c := 2) (d := 0) (I := fun ρ => ∃ (p q : Int), 0 ≤ p ∧ p ≤ 1000000 ∧ 0 ≤ q ∧ q ≤ 1000000 ∧ ρ = [val .bag, val (.int many), val (.int sc), val (.lst sp), Ent.own (ps.map fun p => .tup (.str p.1 :: p.2)), val (.str z), val (.int kd), val (.str a), val (.str b), val (.tup [.int p, .int q]), un]) ?_ ?_) (by decide)
      · simp only [setP, consA, gV0, gVs, rZ, M.bZ]
        refine Gen.le (Gen.bind (gen_pace s0 s1) (d := 1) ?_) (Nat.le_refl _)
        rintro _ ⟨p, rfl, hp0, hp1⟩
        refine Gen.le (Gen.bind (gen_pace s0 s1) (d := 0) ?_) (Nat.le_refl _)
        rintro _ ⟨q, rfl, hq0, hq1⟩
        exact Gen.eq (y := .nx _) (by rw [mkT2]; rfl) ⟨_, rfl, p, q, hp0, hp1, hq0, hq1, rfl⟩
      rintro _ ⟨p, q, hp0, hp1, hq0, hq1, rfl⟩
      obtain ⟨ki, hki, ek⟩ := atI_in (l := [PV.str "slope", PV.str "lift", PV.str "path", PV.str "slope"]) kd0 kd1
      obtain ⟨kn, rfl, hkn⟩ : ∃ kn : Str, ki = .str kn ∧ (kn = "slope" ∨ kn = "lift" ∨ kn = "path") := by
        simp only [List.mem_cons, List.not_mem_nil, or_false] at hki
        rcases hki with rfl | rfl | rfl | rfl
        · exact ⟨_, rfl, .inl rfl⟩
        · exact ⟨_, rfl, .inr (.inl rfl)⟩
        · exact ⟨_, rfl, .inr (.inr rfl)⟩
        · exact ⟨_, rfl, .inl rfl⟩
      refine Gen.eq (y := .nx [val .bag, val (.int many), val (.int sc), val (.lst sp), Ent.own ((ps ++ [(z, [PV.str kn, PV.str a, PV.str b, PV.int p, PV.int q])]).map fun p => .tup (.str p.1 :: p.2)), val (.str z), val (.int kd), val (.str a), val (.str b), val (.tup [.int p, .int q]), un]) ?_ ⟨_, rfl, ps ++ [(z, [PV.str kn, PV.str a, PV.str b, PV.int p, PV.int q])], _, _, _, _, _, ?_, fun r hr => ?_, rfl⟩
      · simp [appP, bin2, consA, lstV, gV0, gVs, mkLst, mkTup, ixO, ek, M.ofO, addO, hl, (by omega : j < 100000)]
      · rw [List.map_append, hm, List.take_succ, hz]
        rfl
      · rcases List.mem_append.mp hr with h | h
        · exact hg r h
        · rw [List.mem_singleton.mp h]
          exact ⟨kn, a, b, p, q, rfl, hag.2.1, hbg.2.1, hkn, hp0, hp1, hq0, hq1, hag.ok, hbg.ok⟩
  rintro _ ⟨ps, e5, e6, e7, e8, e9, hne, hl, hg, hnd, hwr, rfl⟩
  refine Gen.le (gseqF (c := 3) (d := 1) (I := fun ρ => ∃ (dark : Int), 1 ≤ dark ∧ dark ≤ 1000000 ∧ ρ = [val .bag, val (.int many), val (.int sc), val (.lst sp), Ent.own (ps.map fun p => .tup (.str p.1 :: p.2)), e5, e6, e7, e8, e9, val (.int dark)]) ?_ ?_) (by decide)
  · simp only [setP, bin2, lstV, consA, gV0, gVs, rZ, F_law_draw, M.bZ]
    refine Gen.le (Gen.bind (Gen.draw (by omega) (by omega)) (d := 2) ?_) (Nat.le_refl _)
    rintro _ ⟨d, rfl, d0, d1⟩
    simp only [addO, rZ, mulI (by omega : -1000000000000 < sc) (by omega : sc < 1000000000000)]
    refine Gen.le (Gen.bind (Gen.draw (by omega) (by omega)) (d := 1) ?_) (Nat.le_refl _)
    rintro _ ⟨f, rfl, f0, f1⟩
    simp only [addO, rZ, mulI (by omega : -1000000000000 < sc) (by omega : sc < 1000000000000), mkL4]
    refine Gen.le (Gen.bind (Gen.draw (by omega) (by omega)) (d := 0) ?_) (Nat.le_refl _)
    rintro _ ⟨g, rfl, g0, g1⟩
    obtain ⟨y, hy, e⟩ := atI_in (l := [PV.int 1000000, PV.int 1, PV.int (sc * (1 + d)), PV.int (sc * (5 + f))]) g0 g1
    obtain ⟨dark, rfl, k0, k1⟩ : ∃ dark : Int, y = .int dark ∧ 1 ≤ dark ∧ dark ≤ 1000000 := by
      have a1 : 1 ≤ sc * (1 + d) := Int.le_trans (by omega : (1 : Int) ≤ 1 * (1 + d)) (Int.mul_le_mul_of_nonneg_right s0 (by omega))
      have a2 : sc * (1 + d) ≤ 1000000 := Int.le_trans (Int.mul_le_mul s1 (by omega : 1 + d ≤ 30) (by omega) (by omega)) (by decide)
      have a3 : 1 ≤ sc * (5 + f) := Int.le_trans (by omega : (1 : Int) ≤ 1 * (5 + f)) (Int.mul_le_mul_of_nonneg_right s0 (by omega))
      have a4 : sc * (5 + f) ≤ 1000000 := Int.le_trans (Int.mul_le_mul s1 (by omega : 5 + f ≤ 14) (by omega) (by omega)) (by decide)
      simp only [List.mem_cons, List.not_mem_nil, or_false] at hy
      rcases hy with rfl | rfl | rfl | rfl
      · exact ⟨_, rfl, by decide, by decide⟩
      · exact ⟨_, rfl, by decide, by decide⟩
      · exact ⟨_, rfl, a1, a2⟩
      · exact ⟨_, rfl, a3, a4⟩
    exact Gen.eq (y := .nx _) (by simp only [ixO, e, M.ofO, rZ]; rfl) ⟨_, rfl, dark, k0, k1, rfl⟩
  rintro _ ⟨dark, k0, k1, rfl⟩
  simp only [retP, List.map, Ent.freeze, consA, gV0, gVs, rZ, M.bZ, tupO]
  refine Gen.le (Gen.bind (gen_any p0 (by omega)) (d := 0) ?_) (Nat.le_refl _)
  intro home hhome
  obtain ⟨hm, rfl, hhg⟩ := spg home hhome
  refine Gen.eq (y := .tup [.tup (ps.map fun p => .tup (.str p.1 :: p.2)), .str hm, .int dark]) (by simp only [rZ, mkT3]; rfl) ⟨ps, dark, ⟨.str hm, rfl, hne, by omega, hg, k0, k1⟩, hnd, hwr, hl, hm, rfl, hhg.2.1, hhg.ok⟩
theorem hill0 {h : PV} {ps : List (Str × List PV)} {dark : Int} (H : HillOk h ps dark) : ixO h (.int 0) = .ret (.tup (ps.map fun p => .tup (.str p.1 :: p.2))) ∧ ixO h (.int 2) = .ret (.int dark) := by
  obtain ⟨home, rfl, _⟩ := H
  exact ⟨rfl, rfl⟩
theorem fdivI {a b : Int} (h0 : 0 < b) (h1 : b < 1000) : fdivO (.int a) (.int b) = .ret (.int (a / b)) := by
  unfold fdivO numO
  dsimp only
  rw [if_pos (show CDiv a b from ⟨h0, by omega⟩)]
theorem gen_moment {h : PV} {ps : List (Str × List PV)} {dark : Int} (H : HillOk h ps dark) : Gen (F_law_moment [.bag, h]) 2 (fun y => ∃ i : Int, y = .int i ∧ 0 ≤ i ∧ i ≤ dark) := by
  obtain ⟨_, h2⟩ := hill0 H
  obtain ⟨_, _, _, _, _, k0, k1⟩ := H
  unfold F_law_moment m_law_moment
  show Gen ((retP _ [val .bag, val h]).bind finP) 2 _
  have e1 : addO (.int dark) (.int 1) = .ret (.int (dark + 1)) := rfl
  have e2 : fdivO (.int dark) (.int 2) = .ret (.int (dark / 2)) := fdivI (by omega) (by omega)
  simp only [retP, List.map, Ent.freeze, bin2, lstV, consA, gV0, gVs, rZ, h2, e1, e2, F_law_draw, M.bZ]
  refine Gen.le (Gen.bind (Gen.draw (by omega) (by omega)) (d := 1) ?_) (Nat.le_refl _)
  rintro _ ⟨d, rfl, d0, d1⟩
  simp only [rZ, mkL4]
  refine Gen.le (Gen.bind (Gen.draw (by omega) (by omega)) (d := 0) ?_) (Nat.le_refl _)
  rintro _ ⟨g, rfl, g0, g1⟩
  obtain ⟨y, hy, e⟩ := atI_in (l := [PV.int 0, PV.int dark, PV.int d, PV.int (dark / 2)]) g0 g1
  obtain ⟨i, rfl, i0, i1⟩ : ∃ i : Int, y = .int i ∧ 0 ≤ i ∧ i ≤ dark := by
    simp only [List.mem_cons, List.not_mem_nil, or_false] at hy
    rcases hy with rfl | rfl | rfl | rfl <;> exact ⟨_, rfl, by omega, by omega⟩
  exact Gen.eq (y := .int i) (by simp only [ixO, e, M.ofO, rZ]; rfl) ⟨i, rfl, i0, i1⟩
theorem fine_int (i : Int) : Fine (.int i) := ⟨fun h => (by cases h), fun x h => (by cases h)⟩
theorem fine_str (x : Str) (h : x.length ≤ 100000) : Fine (.str x) := ⟨fun h => (by cases h), fun y e => (by cases e; exact h)⟩
def postOk (y : PV) : Prop := y = .str "wind" ∨ y = .str "snow" ∨ y = .str "a" ∨ y = .str "zzzzzzzz"
inductive RuleX (ps : List (Str × List PV)) : PV → Prop
  | hours (a b : Int) : 0 ≤ a → a < b → b ≤ 1000001 → RuleX ps (.tup [.str "hours", .int a, .int b])
  | least (y : PV) (n : Int) : postOk y → -(10 ^ 60) < n → n < 10 ^ 60 → RuleX ps (.tup [.str "least", y, .int n])
  | most (y : PV) (n : Int) : postOk y → -(10 ^ 60) < n → n < 10 ^ 60 → RuleX ps (.tup [.str "most", y, .int n])
  | looked (n : Int) : 1 ≤ n → n ≤ 1000000 → RuleX ps (.tup [.str "looked", .int n])
  | withW (p : Str × List PV) : p ∈ ps → RuleX ps (.tup [.str "with", .str p.1])
  | never : RuleX ps (.tup [.str "never"])
theorem gen_rule {h : PV} {ps : List (Str × List PV)} {dark : Int} (H : HillOk h ps dark) : Gen (F_law_rule [.bag, h]) 10 (RuleX ps) := by
  obtain ⟨h0, h2⟩ := hill0 H
  have H' := H
  obtain ⟨_, _, hne, hpl, hpo, k0, k1⟩ := H'
  unfold F_law_rule m_law_rule
  show Gen ((seqP _ _ [val .bag, val h, un, un, un]).bind finP) 10 _
  refine Gen.le (gseqF (c := 2) (d := 8) (I := fun ρ => ∃ w n : Int, 0 ≤ w ∧ w < 8 ∧ -(10 ^ 60) < n ∧ n < 10 ^ 60 ∧ ρ = [val .bag, val h, val (.int w), val (.int n), un]) ?_ ?_) (by decide)
  · simp only [parP, bin2, consA, gV0, gVs, rZ, F_law_draw, M.bZ]
    refine Gen.le (Gen.bind (Gen.draw (by omega) (by omega)) (d := 1) ?_) (Nat.le_refl _)
    rintro _ ⟨w, rfl, w0, w1⟩
    refine Gen.le (Gen.bind (Gen.draw (by omega) (by omega)) (d := 0) ?_) (Nat.le_refl _)
    rintro _ ⟨n, rfl, n0, n1⟩
    exact Gen.eq (y := .nx _) rfl ⟨_, rfl, w, n - 3, w0, w1, by omega, by omega, rfl⟩
  rintro _ ⟨w, n, w0, w1, n0, n1, rfl⟩
  refine Gen.le (gseqF (c := 2) (d := 6) (I := fun ρ => ∃ n : Int, -(10 ^ 60) < n ∧ n < 10 ^ 60 ∧ ρ = [val .bag, val h, val (.int w), val (.int n), un]) ?_ ?_) (by decide)
  · simp only [ifP, asB, bin2, consA, gV0, gVs, rZ, F_law_draw, M.bZ]
    refine Gen.le (Gen.bind (Gen.draw (by omega) (by omega)) (d := 1) ?_) (Nat.le_refl _)
    rintro _ ⟨d, rfl, d0, d1⟩
    rw [eqI]
    by_cases c : d = 0
    · subst c
      have ep : powO (.int 10) (.int 60) = .ret (.int (10 ^ 60)) := by
        unfold powO numO
        dsimp only
        rw [if_pos (by decide +kernel)]
        rfl
      have es : subO (.int (10 ^ 60)) (.int 1) = .ret (.int (10 ^ 60 - 1)) := rfl
      have el : mkLst [.int 1, .int (-1)] = .ret [.int 1, .int (-1)] := by simp [mkLst]
      simp only [rZ, beq_self_eq_true, if_true, setP, bin2, lstV, consA, gV0, gVs, negO, ep, es, el, M.bZ]
      refine Gen.le (Gen.bind (Gen.draw (by omega) (by omega)) (d := 0) ?_) (Nat.le_refl _)
      rintro _ ⟨g, rfl, g0, g1⟩
      obtain ⟨y, hy, e⟩ := atI_in (l := [PV.int 1, PV.int (-1)]) g0 g1
      obtain ⟨i, rfl, i0, i1⟩ : ∃ i : Int, y = .int i ∧ -2 < i ∧ i < 2 := by
        simp only [List.mem_cons, List.not_mem_nil, or_false] at hy
        rcases hy with rfl | rfl <;> exact ⟨_, rfl, by decide, by decide⟩
      have em : mulE (.int (10 ^ 60 - 1)) (.int i) = .ret (.int ((10 ^ 60 - 1) * i)) := by
        have e64 : (2 : Int) ^ 64 = 18446744073709551616 := by decide
        unfold mulE mulO
        dsimp only
        rw [if_pos (show CMul _ i from Or.inr ⟨by omega, by omega⟩)]
      exact Gen.eq (y := .nx _) (by simp only [ixO, e, M.ofO, rZ, em]; rfl) ⟨_, rfl, _, by omega, by omega, rfl⟩
    · have c' : (d == 0) = false := by simpa using c
      refine Gen.le (Gen.eq (y := .nx _) (by simp only [rZ, c', Bool.false_eq_true, if_false]) ⟨_, rfl, n, n0, n1, rfl⟩) (by decide)
  rintro _ ⟨n, n0, n1, rfl⟩
  have hw0 : asB (bin2 (eqO false) (fun ρ => getV ρ 2) (fun _ => M.ret (.int 0))) [val .bag, val h, val (.int w), val (.int n), un] = .ret (w == 0) := by simp [asB, bin2, getV, eqI]
  have hw4 : asB (bin2 (eqO false) (fun ρ => getV ρ 2) (fun _ => M.ret (.int 4))) [val .bag, val h, val (.int w), val (.int n), un] = .ret (w == 4) := by simp [asB, bin2, getV, eqI]
  have hl4 : asB (bin2 ltO (fun ρ => getV ρ 2) (fun _ => M.ret (.int 4))) [val .bag, val h, val (.int w), val (.int n), un] = .ret (decide (w < 4)) := by simp [asB, bin2, getV, ltO, numB]
  have hl7 : asB (bin2 ltO (fun ρ => getV ρ 2) (fun _ => M.ret (.int 7))) [val .bag, val h, val (.int w), val (.int n), un] = .ret (decide (w < 7)) := by simp [asB, bin2, getV, ltO, numB]
  by_cases c0 : w = 0
  · subst c0
    unfold seqP
    rw [if_t hw0]
    show Gen ((M.bind (seqP _ _ [val .bag, val h, val (.int 0), val (.int n), un]) _).bind finP) 6 _
    unfold seqP
    simp only [setP, consA, gV0, gVs, rZ, M.bZ]
    refine Gen.le (Gen.bind (gen_moment H) (d := 2) ?_) (by decide)
    rintro _ ⟨a, rfl, a0, a1⟩
    simp only [rZ, List.set_cons_succ, List.set_cons_zero, retP, List.map, Ent.freeze, consA, bin2, lstV, gV0, gVs, addO, subO, F_law_draw, M.bZ]
    refine Gen.le (Gen.bind (Gen.draw (by omega) (by omega)) (d := 1) ?_) (by decide)
    rintro _ ⟨b, rfl, b0, b1⟩
    simp only [rZ, addO, mkL3]
    refine Gen.le (Gen.bind (gen_any (by simp) (by simp)) (d := 0) ?_) (by decide)
    intro y hy
    simp only [List.mem_cons, List.not_mem_nil, or_false] at hy
    obtain ⟨e, rfl, e0, e1⟩ : ∃ e : Int, y = .int e ∧ a < e ∧ e ≤ 1000001 := by
      rcases hy with rfl | rfl | rfl <;> exact ⟨_, rfl, by omega, by omega⟩
    exact Gen.eq (y := .tup [.str "hours", .int a, .int e]) (by simp only [rZ, mkT3]; rfl) (.hours a e a0 e0 e1)
  · have c0' : (w == 0) = false := by simpa using c0
    refine Gen.le (gseqF (c := 0) (d := 6) (I := fun ρ => ρ = [val .bag, val h, val (.int w), val (.int n), un]) (gnx (if_f (by rw [hw0, c0'])) rfl) ?_) (by decide)
    rintro _ rfl
    by_cases c4 : w < 4
    · unfold seqP
      rw [if_t (by rw [hl4, decide_eq_true c4])]
      obtain ⟨v, hv, ev⟩ := atI_in (l := [PV.str "least", PV.str "most", PV.str "least"]) (d := w - 1) (by omega) (by simp; omega)
      obtain ⟨wd, rfl, hwd⟩ : ∃ wd : Str, v = .str wd ∧ (wd = "least" ∨ wd = "most") := by
        simp only [List.mem_cons, List.not_mem_nil, or_false] at hv
        rcases hv with rfl | rfl | rfl
        · exact ⟨_, rfl, .inl rfl⟩
        · exact ⟨_, rfl, .inr rfl⟩
        · exact ⟨_, rfl, .inl rfl⟩
      simp only [retP, List.map, Ent.freeze, consA, bin2, lstV, gV0, gVs, rZ, mkL3, mkL4, subO, ixO, ev, M.ofO, M.bZ]
      refine Gen.le (Gen.bind (gen_any (by simp) (by simp)) (d := 0) ?_) (by decide)
      intro y hy
      simp only [List.mem_cons, List.not_mem_nil, or_false] at hy
      refine Gen.eq (y := .tup [.str wd, y, .int n]) (by simp only [rZ, mkT3]; rfl) ?_
      rcases hwd with rfl | rfl
      · exact .least y n hy n0 n1
      · exact .most y n hy n0 n1
    · refine Gen.le (gseqF (c := 0) (d := 6) (I := fun ρ => ρ = [val .bag, val h, val (.int w), val (.int n), un]) (gnx (if_f (by rw [hl4, decide_eq_false c4])) rfl) ?_) (by decide)
      rintro _ rfl
      by_cases c5 : w = 4
      · subst c5
        unfold seqP
        rw [if_t hw4]
        have ef : fdivO (.int dark) (.int 3) = .ret (.int (dark / 3)) := fdivI (by omega) (by omega)
        simp only [retP, List.map, Ent.freeze, consA, bin2, lstV, gV0, gVs, rZ, F_law_draw, M.bZ]
        refine Gen.le (Gen.bind (Gen.draw (by omega) (by omega)) (d := 1) ?_) (by decide)
        rintro _ ⟨b, rfl, b0, b1⟩
        simp only [rZ, addO, h2, ef, mkL4]
        refine Gen.le (Gen.bind (gen_any (by simp) (by simp)) (d := 0) ?_) (by decide)
        intro y hy
        simp only [List.mem_cons, List.not_mem_nil, or_false] at hy
        obtain ⟨e, rfl, e0, e1⟩ : ∃ e : Int, y = .int e ∧ 1 ≤ e ∧ e ≤ 1000000 := by
          rcases hy with rfl | rfl | rfl | rfl <;> exact ⟨_, rfl, by omega, by omega⟩
        exact Gen.eq (y := .tup [.str "looked", .int e]) (by simp only [rZ, mkT2]; rfl) (.looked e e0 e1)
      · have c5' : (w == 4) = false := by simpa using c5
        refine Gen.le (gseqF (c := 0) (d := 6) (I := fun ρ => ρ = [val .bag, val h, val (.int w), val (.int n), un]) (gnx (if_f (by rw [hw4, c5'])) rfl) ?_) (by decide)
        rintro _ rfl
        unfold retP
        simp only [List.map, Ent.freeze]
        by_cases c7 : w < 7
        · rw [ifv_t (by rw [hl7, decide_eq_true c7])]
          simp only [consA, bin2, gV0, gVs, rZ, h0, M.bZ]
          have hany : Gen (F_law_any [.bag, .tup (ps.map fun p => .tup (.str p.1 :: p.2))]) 1 (fun y => ∃ p ∈ ps, y = .tup (.str p.1 :: p.2)) := by
            unfold F_law_any m_law_any
            have hlen : lenO [.tup (ps.map fun p => PV.tup (.str p.1 :: p.2))] = .ret (.int ps.length) := by simp [lenO]
            show Gen ((retP _ [val .bag, val (.tup (ps.map fun p => .tup (.str p.1 :: p.2)))]).bind finP) 1 _
            simp only [retP, List.map, Ent.freeze, consA, bin2, gV0, gVs, rZ, F_law_draw, M.bZ]
            simp only [hlen, rZ]
            have hpos : 0 < ps.length := List.length_pos_iff.mpr hne
            refine Gen.le (Gen.bind (Gen.draw (by omega) (by omega)) (d := 0) ?_) (by decide)
            rintro _ ⟨d, rfl, d0, d1⟩
            obtain ⟨y, hy, e⟩ := atI_in (l := ps.map fun p => PV.tup (.str p.1 :: p.2)) d0 (by rw [List.length_map]; exact d1)
            obtain ⟨p, hp, rfl⟩ := List.mem_map.mp hy
            exact Gen.eq (y := .tup (.str p.1 :: p.2)) (by simp only [ixO, e, M.ofO, rZ]; rfl) ⟨p, hp, rfl⟩
          refine Gen.le (Gen.bind hany (d := 0) ?_) (by decide)
          rintro _ ⟨p, hp, rfl⟩
          exact Gen.eq (y := .tup [.str "with", .str p.1]) (by simp only [ixO, at0, M.ofO, rZ, mkT2]; rfl) (.withW p hp)
        · rw [ifv_f (by rw [hl7, decide_eq_false c7])]
          exact Gen.le (Gen.eq (y := .tup [.str "never"]) (by simp only [consA, rZ, mkT1]; rfl) .never) (by decide)
theorem loop_find (x : Str) (h : PV) : ∀ (ps : List (Str × List PV)) (e : Ent), ∃ e', forP (bindN 2) (ifP (asB (bin2 (eqO false) (bin2 ixO (fun ρ => getV ρ 2) (fun _ => M.ret (.int 0))) (fun ρ => getV ρ 1)))
    (retP (fun ρ => getV ρ 2))
    (fun ρ => M.ret (.nx ρ))) (ps.map fun p => .tup (.str p.1 :: p.2)) [.val h, .val (.str x), e] = .ret (match ps.find? (fun p => p.1 == x) with | some p => .rt (.tup (.str p.1 :: p.2)) | none => .nx [.val h, .val (.str x), e'])
  | [], e => ⟨e, rfl⟩
  | p :: ps, e => by
    obtain ⟨e', hf⟩ := loop_find x h ps (.val (.tup (.str p.1 :: p.2)))
    refine ⟨e', ?_⟩
    rw [List.map_cons, forP, List.find?_cons]
    cases c : p.1 == x with
    | true => simp [bindN, ifP, asB, bin2, getV, retP, Ent.freeze, ixO, at0, M.ofO, eqS, c]
    | false =>
      have hf' := hf
      simp [bindN, ifP, asB, bin2, getV, retP, Ent.freeze, ixO, at0, M.ofO, eqS, c] at hf' ⊢
      exact hf'
theorem named_is {h : PV} {ps : List (Str × List PV)} {dark : Int} (H : HillOk h ps dark) (x : Str) : F_way_named [h, .str x] = .ret (match ps.find? (fun p => p.1 == x) with | some p => .tup (.str p.1 :: p.2) | none => .non) := by
  obtain ⟨home, rfl, _⟩ := H
  obtain ⟨e', hf⟩ := loop_find x (.tup [.tup (ps.map fun p => .tup (.str p.1 :: p.2)), home, .int dark]) ps .un
  have i0 : ixO (.tup [.tup (ps.map fun p => .tup (.str p.1 :: p.2)), home, .int dark]) (.int 0) = .ret (.tup (ps.map fun p => .tup (.str p.1 :: p.2))) := rfl
  unfold F_way_named m_way_named
  show (seqP _ _ [val (.tup [.tup (ps.map fun p => .tup (.str p.1 :: p.2)), home, .int dark]), val (.str x), un]).bind finP = _
  unfold seqP mkFor
  simp only [bin2, gV0, rZ, i0, iterO]
  rw [hf]
  cases ps.find? (fun p => p.1 == x) <;> rfl
noncomputable def isSl : List PV → Bool
  | .str k :: _ => k == "slope"
  | _ => false
noncomputable def slIn (ps : List (Str × List PV)) : PV → Bool
  | .str x => ps.any fun p => isSl p.2 && p.1 == x
  | _ => false
theorem sl_none {x : Str} : ∀ {ps : List (Str × List PV)}, x ∉ ps.map (·.1) → (ps.any fun p => isSl p.2 && p.1 == x) = false
  | [], _ => rfl
  | p :: ps, h => by
    rw [List.map_cons, List.mem_cons, not_or] at h
    rw [List.any_cons, sl_none h.2]
    have : (p.1 == x) = false := by
      cases c : p.1 == x with
      | false => rfl
      | true => exact absurd (eq_of_beq c).symm h.1
    rw [this]; simp
theorem sl_find {x : Str} : ∀ {ps : List (Str × List PV)}, (ps.map (·.1)).Nodup → slIn ps (.str x) = (match ps.find? (fun p => p.1 == x) with | some p => isSl p.2 | none => false)
  | [], _ => rfl
  | p :: ps, h => by
    rw [List.map_cons, List.nodup_cons] at h
    have ih := sl_find (x := x) h.2
    rw [List.find?_cons]
    unfold slIn at ih ⊢
    dsimp only at ih ⊢
    rw [List.any_cons]
    cases c : p.1 == x with
    | true =>
      rw [sl_none (eq_of_beq c ▸ h.1)]
      simp
    | false => simp only [Bool.and_false, Bool.false_or]; exact ih
theorem nm_find {x : Str} : ∀ (ps : List (Str × List PV)), nmIn ps (.str x) = (ps.find? (fun p => p.1 == x)).isSome
  | [] => rfl
  | p :: ps => by
    rw [List.find?_cons]
    have ih := nm_find (x := x) ps
    unfold nmIn at ih ⊢
    dsimp only at ih ⊢
    rw [List.any_cons]
    cases c : p.1 == x with
    | true => rfl
    | false => simpa using ih
theorem slope_is {h a : PV} {ps : List (Str × List PV)} {dark : Int} (U : HillU h ps dark) (ha : Fine a) : F_is_slope_name [h, a] = .ret (.bl (slIn ps a)) := by
  have h1 := wayname_is U.1 ha
  unfold F_is_slope_name m_is_slope_name
  show (retP _ [val h, val a]).bind finP = _
  cases a with
  | bag => exact absurd rfl ha.1
  | str x =>
    have h2 := named_is U.1 x
    have e := nm_find (x := x) ps
    rw [sl_find U.2.1]
    cases c : ps.find? (fun p => p.1 == x) with
    | none =>
      rw [c] at e
      refine fin_y (ret_y ((v_and (x := false) (y := false) ?_ fun h => by cases h).trans rfl))
      simp only [List.map, Ent.freeze, consA, gV0, gVs, rZ, h1, e]; rfl
    | some p =>
      rw [c] at e h2
      obtain ⟨k, a, b, i, j, hr, _⟩ := U.2.2.1 p (List.mem_of_find?_eq_some c)
      refine fin_y (ret_y ((v_and (x := true) (y := isSl p.2) ?_ fun _ => ?_).trans rfl))
      · simp only [List.map, Ent.freeze, consA, gV0, gVs, rZ, h1, e]; rfl
      · have e1 : atI (PV.str p.1 :: p.2) 1 = some (.str k) := by rw [hr]; rfl
        simp only [List.map, Ent.freeze, bin2, consA, gV0, gVs, rZ, h2, ixO, e1, M.ofO, eqS]
        rw [hr]; rfl
  | _ =>
    refine fin_y (ret_y ((v_and (x := false) (y := false) ?_ fun h => by cases h).trans rfl))
    simp only [List.map, Ent.freeze, consA, gV0, gVs, rZ, h1, nmIn]
noncomputable def slopesOf (ps : List (Str × List PV)) : List Str := (ps.filter fun p => isSl p.2).map (·.1)
theorem slopes_is {h : PV} {ps : List (Str × List PV)} {dark : Int} (U : HillU h ps dark) : F_law_slopes [h] = .ret (.lst ((slopesOf ps).map PV.str)) := by
  obtain ⟨h0, _⟩ := hill0 U.1
  have hlen := U.2.2.2.1
  unfold F_law_slopes m_law_slopes
  show (retP _ [val h]).bind finP = _
  refine fin_y (ret_y ?_)
  have q := lcM_filter (k := 0) (tt := asB (bin2 (eqO false) (bin2 ixO (fun ρ => getV ρ 0) (fun _ => M.ret (.int 1))) (fun _ => M.ret (.str "slope")))) (te := bin2 ixO (fun ρ => getV ρ 0) (fun _ => M.ret (.int 0))) (p := fun y => match y with | .tup (_ :: r) => isSl r | _ => false) (f := fun y => match y with | .tup (a :: _) => a | _ => .non) (ρ := [un]) (ps.map fun p => PV.tup (.str p.1 :: p.2)) [un] (fun _ => rfl) (fun y hy => by
    obtain ⟨p, hp, rfl⟩ := List.mem_map.mp hy
    obtain ⟨k, a, b, i, j, hr, _⟩ := U.2.2.1 p hp
    have e1 : atI (PV.str p.1 :: p.2) 1 = some (.str k) := by rw [hr]; rfl
    simp only [asB, bin2, getV, List.set_cons_zero, List.getElem?_cons_zero, rZ, ixO, e1, M.ofO, eqS]
    rw [hr]; rfl) (fun y hy _ => by
    obtain ⟨p, hp, rfl⟩ := List.mem_map.mp hy
    simp only [bin2, getV, List.set_cons_zero, List.getElem?_cons_zero, rZ, ixO, at0, M.ofO])
  have hl : (ps.map fun p => PV.tup (.str p.1 :: p.2)).length ≤ 100000 := by rw [List.length_map]; omega
  simp only [lstV, mkLC, bin2, List.map, Ent.freeze, gV0, rZ, h0, iterO, if_pos hl]
  have ec : capP [none] [val h] = [un] := rfl
  rw [ec, q]
  simp only [rZ, slopesOf, List.filter_map, List.map_map]
  rfl
def FineE (y : PV) : Prop := Fine y ∧ FineT y ∧ FineTT y
def FineP (y : PV) : Prop := y ≠ .bag ∧ ∀ l, y = .tup l → ∀ z ∈ l, FineE z
theorem FineP.t {y : PV} (h : FineP y) : FineT y := ⟨h.1, fun l e z hz => (h.2 l e z hz).1⟩
noncomputable def ruR (ps : List (Str × List PV)) (c : PV) : List PV → Bool
  | [v] => nmIn ps c && rulesOk ps v
  | _ => false
noncomputable def pageB (ps : List (Str × List PV)) (w : Str) (c : PV) (r : List PV) : Bool :=
  if (w == "read") = true then (match r with | [v] => isName c && isNum v | _ => false)
  else if (w == "look") = true then (match r with | [] => slIn ps c | _ => false)
  else if (w == "rule") = true then ruR ps c r
  else false
noncomputable def pageOk (ps : List (Str × List PV)) (dark : Int) : PV → Bool
  | .tup (.str w :: a :: b :: c :: r) => inW 0 999999 a && inW 0 dark b && pageB ps w c r
  | _ => false
theorem at1 (a b : PV) (r : List PV) : atI (a :: b :: r) 1 = some b := atI_nat (j := 1) rfl
theorem at2 (a b c : PV) (r : List PV) : atI (a :: b :: c :: r) 2 = some c := atI_nat (j := 2) rfl
theorem at3 (a b c d : PV) (r : List PV) : atI (a :: b :: c :: d :: r) 3 = some d := atI_nat (j := 3) rfl
theorem at4 (a b c d e : PV) (r : List PV) : atI (a :: b :: c :: d :: e :: r) 4 = some e := atI_nat (j := 4) rfl
theorem c_not {a : PEnv → M Bool} {ρ : PEnv} {x : Bool} (ha : a ρ = .ret x) : notP a ρ = .ret (!x) := by unfold notP; rw [ha]; rfl
theorem page_is {h y : PV} {ps : List (Str × List PV)} {dark : Int} (U : HillU h ps dark) (hy : FineP y) : F_is_page [h, y] = .ret (.bl (pageOk ps dark y)) := by
  obtain ⟨_, hd⟩ := hill0 U.1
  have hb := begins_is hy.t
  unfold F_is_page m_is_page
  show (seqP _ _ [val h, val y, un]).bind finP = _
  by_cases hs : ∃ w r, y = .tup (.str w :: r)
  · obtain ⟨w, r, rfl⟩ := hs
    have hf := hy.2 _ rfl
    have b1 : notP (asB (fun ρ => ((consA (fun ρ => getV ρ 1) (fun _ => M.ret [])) ρ).bind F_begins_with_text)) [val h, val (.tup (.str w :: r)), un] = .ret false := by simp [notP, asB, consA, getV, hb, startsT]
    have b2 : asB (bin2 ltO (fun ρ => ((consA (fun ρ => getV ρ 1) (fun _ => M.ret [])) ρ).bind lenO) (fun _ => M.ret (.int 4))) [val h, val (.tup (.str w :: r)), un] = .ret (decide (((PV.str w :: r).length : Int) < 4)) := by simp [asB, bin2, consA, getV, lenO, ltO, numB]
    match r, hf, b1, b2 with
    | [], _, b1, b2 => exact seq_rt ((if_t ((c_or b1 b2).trans rfl)).trans (ret_y rfl))
    | [a], _, b1, b2 => exact seq_rt ((if_t ((c_or b1 b2).trans rfl)).trans (ret_y rfl))
    | [a, b], _, b1, b2 => exact seq_rt ((if_t ((c_or b1 b2).trans rfl)).trans (ret_y rfl))
    | a :: b :: c :: r, hf, b1, b2 =>
      have b2' := b2.trans (show _ = M.ret false by rw [decide_eq_false (by simp only [List.length_cons]; omega)])
      refine seq_nx (ρ' := [val h, val (.tup (.str w :: a :: b :: c :: r)), un]) (if_f ((c_or b1 b2').trans rfl)) ?_
      have fa := (hf a (by simp)).1
      have fb := (hf b (by simp)).1
      have fc := (hf c (by simp)).1
      have w1 := within_is (lo := 0) (hi := 999999) fa.1
      have w2 := within_is (lo := 0) (hi := dark) fb.1
      have t1 := c_not (ρ := [val h, val (.tup (.str w :: a :: b :: c :: r)), un]) (a := asB (fun ρ => ((consA (bin2 ixO (fun ρ => getV ρ 1) (fun _ => M.ret (.int 1))) (consA (fun _ => M.ret (.int 0)) (consA (fun _ => M.ret (.int 999999)) (fun _ => M.ret [])))) ρ).bind F_is_within)) (x := inW 0 999999 a) (by simp [asB, consA, bin2, getV, ixO, at1, M.ofO, w1])
      have t2 := c_not (ρ := [val h, val (.tup (.str w :: a :: b :: c :: r)), un]) (a := asB (fun ρ => ((consA (bin2 ixO (fun ρ => getV ρ 1) (fun _ => M.ret (.int 2))) (consA (fun _ => M.ret (.int 0)) (consA (bin2 ixO (fun ρ => getV ρ 0) (fun _ => M.ret (.int 2))) (fun _ => M.ret [])))) ρ).bind F_is_within)) (x := inW 0 dark b) (by
        have e2 : ixO (.tup (.str w :: a :: b :: c :: r)) (.int 2) = .ret b := by simp [ixO, at2, M.ofO]
        simp [asB, consA, bin2, getV, hd, e2, w2])
      have t := c_or t1 t2
      show _ = M.ret (PV.bl (inW 0 999999 a && inW 0 dark b && pageB ps w c r))
      cases g : (inW 0 999999 a && inW 0 dark b) with
      | false =>
        refine seq_rt ((if_t (t.trans ?_)).trans (ret_y rfl))
        rw [← Bool.not_and, g]; rfl
      | true =>
        refine seq_nx (ρ' := [val h, val (.tup (.str w :: a :: b :: c :: r)), un]) (if_f (t.trans (by rw [← Bool.not_and, g]; rfl))) ?_
        refine seq_nx (ρ' := [val h, val (.tup (.str w :: a :: b :: c :: r)), val (.str w)]) (by simp [setP, bin2, ixO, getV, at0, M.ofO]) ?_
        rw [Bool.true_and]
        unfold pageB
        cases c1 : w == "read" with
        | true =>
          refine seq_rt ((if_t ((c_eq rfl).trans (by rw [c1]))).trans (ret_y ?_))
          rw [if_pos rfl]
          match r, hf with
          | [], _ => exact v_and (y := false) (c_len rfl) (fun h => by simp at h)
          | [v], hf =>
            have h1 := name_is fc
            have h2 := num_is (hf v (by simp)).1.1
            exact v_and (y := isName c && isNum v) (c_len rfl) (fun _ => v_and (by simp [consA, bin2, ixO, getV, Ent.freeze, at3, M.ofO, h1]) (fun _ => by simp [consA, bin2, ixO, getV, Ent.freeze, at4, M.ofO, h2]))
          | v :: u :: r, _ => exact (v_and (y := false) (c_len rfl) (fun h => by simp at h)).trans (by simp [ruR])
        | false =>
          refine seq_nx (if_f ((c_eq rfl).trans (by rw [c1]))) ?_
          rw [if_neg (by simp)]
          cases c2 : w == "look" with
          | true =>
            refine seq_rt ((if_t ((c_eq rfl).trans (by rw [c2]))).trans (ret_y ?_))
            rw [if_pos rfl]
            match r, hf with
            | [], _ =>
              have h1 := slope_is U fc
              exact v_and (y := slIn ps c) (c_len rfl) (fun _ => by simp [consA, bin2, ixO, getV, Ent.freeze, at3, M.ofO, h1])
            | v :: r, _ => exact (v_and (y := false) (c_len rfl) (fun h => by simp at h)).trans (by simp [ruR])
          | false =>
            refine seq_nx (if_f ((c_eq rfl).trans (by rw [c2]))) ?_
            rw [if_neg (by simp)]
            cases c3 : w == "rule" with
            | true =>
              refine seq_rt ((if_t ((c_eq rfl).trans (by rw [c3]))).trans (ret_y ?_))
              rw [if_pos rfl]
              match r, hf with
              | [], _ => exact v_and (y := false) (c_len rfl) (fun h => by simp at h)
              | [v], hf =>
                have h1 := wayname_is U.1 fc
                have h2 := rules_is U.1 (hf v (by simp)).2.2
                exact v_and (y := ruR ps c [v]) (c_len rfl) (fun _ => v_and (y := rulesOk ps v) (by simp [consA, bin2, ixO, getV, Ent.freeze, at3, M.ofO, h1]) (fun _ => by simp [consA, bin2, ixO, getV, Ent.freeze, at4, M.ofO, h2]))
              | v :: u :: r, _ => exact (v_and (y := false) (c_len rfl) (fun h => by simp at h)).trans (by simp [ruR])
            | false =>
              refine seq_nx (if_f ((c_eq rfl).trans (by rw [c3]))) ?_
              rw [if_neg (by simp)]
              exact fin_y (ret_y rfl)
  · have e : startsT y = false := by
      unfold startsT
      split
      · exact (hs ⟨_, _, rfl⟩).elim
      · rfl
    rw [e] at hb
    have e2 : pageOk ps dark y = false := by
      unfold pageOk
      split
      · exact (hs ⟨_, _, rfl⟩).elim
      · rfl
    rw [e2]
    exact seq_rt ((if_t (by simp [orP, notP, asB, consA, getV, hb])).trans (ret_y rfl))
def RulesX (ps : List (Str × List PV)) (y : PV) : Prop := ∃ l : List PV, y = .tup l ∧ l.length ≤ 6 ∧ ∀ z ∈ l, RuleX ps z
theorem gen_rules {h : PV} {ps : List (Str × List PV)} {dark : Int} (H : HillOk h ps dark) : Gen (F_law_rules [.bag, h]) 61 (RulesX ps) := by
  unfold F_law_rules m_law_rules
  show Gen ((retP _ [val .bag, val h]).bind finP) 61 _
  have e8 : ∀ a b c d e f g i : PV, mkLst [a, b, c, d, e, f, g, i] = .ret [a, b, c, d, e, f, g, i] := by intros; simp [mkLst]
  simp only [retP, List.map, Ent.freeze, consA, bin2, lstV, mkLC, gV0, gVs, rZ, e8, F_law_draw, M.bZ]
  refine Gen.le (Gen.bind (Gen.draw (by omega) (by omega)) (d := 60) ?_) (by decide)
  rintro _ ⟨d, rfl, d0, d1⟩
  obtain ⟨y, hy, e⟩ := atI_in (l := [PV.int 1, PV.int 2, PV.int 0, PV.int 3, PV.int 6, PV.int 1, PV.int 2, PV.int 4]) d0 d1
  obtain ⟨k, rfl, k0, k1⟩ : ∃ k : Int, y = .int k ∧ 0 ≤ k ∧ k ≤ 6 := by
    simp only [List.mem_cons, List.not_mem_nil, or_false] at hy
    rcases hy with rfl | rfl | rfl | rfl | rfl | rfl | rfl | rfl <;> exact ⟨_, rfl, by decide, by decide⟩
  have hlen : (intsP 0 k.toNat).length = k.toNat := by simp [intsP]
  simp only [ixO, e, M.ofO, rZ, rng1O, if_pos (by omega : -1000000 ≤ k ∧ k ≤ 100000), hlen, if_pos (by omega : k.toNat ≤ 100000)]
  refine Gen.le (Gen.bind (Gen.lc (ρ := [un, val PV.bag, val h]) (c := 10) (Pr := RuleX ps) _ _ (fun _ => rfl) (fun y hy => ?_)) (d := 0) ?_) (by rw [hlen]; omega)
  · simp only [List.set_cons_zero, gV0, gVs, rZ]
    exact gen_rule H
  · rintro zs ⟨z1, z2⟩
    exact Gen.eq (y := .tup zs) (by simp only [rZ, tupO]; rfl) ⟨zs, rfl, by rw [z1, hlen]; omega, z2⟩
theorem fapp {m m' : List PV} {Pr : PV → Prop} (h : ∀ z ∈ m, Pr z) (h' : ∀ z ∈ m', Pr z) : ∀ z ∈ m ++ m', Pr z := fun z hz => by
  rcases List.mem_append.mp hz with w | w
  · exact h z w
  · exact h' z w
theorem fone {a : PV} {Pr : PV → Prop} (h : Pr a) : ∀ z ∈ [a], Pr z := fun z hz => by rw [List.mem_singleton.mp hz]; exact h
theorem ftup {m : List PV} (h : ∀ z ∈ m, Fine z) : FineT (.tup m) := ⟨fun e => (by cases e), fun m' e => (by cases e; exact h)⟩
theorem fine_tup (l : List PV) : Fine (.tup l) := ⟨fun h => (by cases h), fun x h => (by cases h)⟩
theorem ftt {m : List PV} (h : ∀ z ∈ m, FineT z) : FineTT (.tup m) := ⟨fun e => (by cases e), fun m' e => (by cases e; exact h)⟩
inductive PageX (ps : List (Str × List PV)) (dark n : Int) : PV → Prop
  | look (m : Int) (z : Str) : 0 ≤ m → m ≤ dark → z ∈ slopesOf ps → PageX ps dark n (.tup [.str "look", .int n, .int m, .str z])
  | rule (m : Int) (p : Str × List PV) (r : PV) : 0 ≤ m → m ≤ dark → p ∈ ps → RulesX ps r → PageX ps dark n (.tup [.str "rule", .int n, .int m, .str p.1, r])
  | read (m : Int) (y : PV) (v : Int) : 0 ≤ m → m ≤ dark → postOk y → -(10 ^ 60) < v → v < 10 ^ 60 → PageX ps dark n (.tup [.str "read", .int n, .int m, y, .int v])
theorem ok_len {x : Str} (h : nameOk x = true) : x.length ≤ 8 := by
  unfold nameOk at h
  rw [Bool.and_eq_true] at h
  exact (of_decide_eq_true h.1).2
theorem gen_anyT {ps : List (Str × List PV)} (hne : ps ≠ []) (hl : ps.length ≤ 100) : Gen (F_law_any [.bag, .tup (ps.map fun p => .tup (.str p.1 :: p.2))]) 1 (fun y => ∃ p ∈ ps, y = .tup (.str p.1 :: p.2)) := by
  unfold F_law_any m_law_any
  have hlen : lenO [.tup (ps.map fun p => PV.tup (.str p.1 :: p.2))] = .ret (.int ps.length) := by simp [lenO]
  show Gen ((retP _ [val .bag, val (.tup (ps.map fun p => .tup (.str p.1 :: p.2)))]).bind finP) 1 _
  simp only [retP, List.map, Ent.freeze, consA, bin2, gV0, gVs, rZ, F_law_draw, M.bZ]
  simp only [hlen, rZ]
  have hpos : 0 < ps.length := List.length_pos_iff.mpr hne
  refine Gen.le (Gen.bind (Gen.draw (by omega) (by omega)) (d := 0) ?_) (by decide)
  rintro _ ⟨d, rfl, d0, d1⟩
  obtain ⟨y, hy, e⟩ := atI_in (l := ps.map fun p => PV.tup (.str p.1 :: p.2)) d0 (by rw [List.length_map]; exact d1)
  obtain ⟨p, hp, rfl⟩ := List.mem_map.mp hy
  exact Gen.eq (y := .tup (.str p.1 :: p.2)) (by simp only [ixO, e, M.ofO, rZ]; rfl) ⟨p, hp, rfl⟩
theorem mkT4 (a b c d : PV) : mkTup [a, b, c, d] = .ret (.tup [a, b, c, d]) := by simp [mkTup]
theorem mkT5 (a b c d e : PV) : mkTup [a, b, c, d, e] = .ret (.tup [a, b, c, d, e]) := by simp [mkTup]
theorem mkL0 : mkLst [] = .ret [] := by simp [mkLst]
theorem mkT0 : mkTup [] = .ret (.tup []) := by simp [mkTup]
theorem neL (l : List PV) : eqO true (.lst l) (.lst []) = .ret (.bl (!l.isEmpty)) := by cases l <;> rfl
theorem gen_page {h : PV} {ps : List (Str × List PV)} {dark : Int} (U : HillU h ps dark) (n : Int) : Gen (F_law_page [.bag, h, .int n]) 70 (PageX ps dark n) := by
  have H := U.1
  obtain ⟨h0, h2⟩ := hill0 H
  have hs := slopes_is U
  obtain ⟨_, _, hne, hpl, hpo, k0, k1⟩ := U.1
  unfold F_law_page m_law_page
  show Gen ((seqP _ _ [val .bag, val h, val (.int n), un, un, un, un]).bind finP) 70 _
  refine Gen.le (gseqF (c := 3) (d := 67) (I := fun ρ => ∃ w m : Int, 0 ≤ m ∧ m ≤ dark ∧ ρ = [val .bag, val h, val (.int n), val (.int w), val (.int m), val (.lst ((slopesOf ps).map PV.str)), un]) ?_ ?_) (by decide)
  · simp only [par3P, consA, gV0, gVs, rZ, F_law_draw, M.bZ]
    refine Gen.le (Gen.bind (Gen.draw (by omega) (by omega)) (d := 2) ?_) (by decide)
    rintro _ ⟨w, rfl, w0, w1⟩
    refine Gen.le (Gen.bind (gen_moment H) (d := 0) ?_) (by decide)
    rintro _ ⟨m, rfl, m0, m1⟩
    exact Gen.eq (y := .nx _) (by simp only [hs, rZ]; rfl) ⟨_, rfl, w, m, m0, m1, rfl⟩
  rintro _ ⟨w, m, m0, m1, rfl⟩
  have hc : ∀ k : Int, asB (bin2 (eqO false) (fun ρ => getV ρ 3) (fun _ => M.ret (.int k))) [val .bag, val h, val (.int n), val (.int w), val (.int m), val (.lst ((slopesOf ps).map PV.str)), un] = .ret (w == k) := by intro k; simp [asB, bin2, getV, eqI]
  have hd : asB (bin2 (eqO true) (fun ρ => getV ρ 5) (lstV (fun ρ => ((fun _ => M.ret []) ρ).bind mkLst))) [val .bag, val h, val (.int n), val (.int w), val (.int m), val (.lst ((slopesOf ps).map PV.str)), un] = .ret (!(slopesOf ps).isEmpty) := by
    simp only [asB, bin2, lstV, gV0, gVs, rZ, mkL0, neL]
    simp
  have hand : ∀ {a b : PEnv → M Bool} {ρ : PEnv} {x y : Bool}, a ρ = .ret x → b ρ = .ret y → andP a b ρ = .ret (x && y) := by
    intro a b ρ x y ha hb
    unfold andP; rw [ha]; cases x <;> simp [hb]
  have hcc := hand (hc 0) hd
  cases g : (w == 0 && !(slopesOf ps).isEmpty) with
  | true =>
    rw [g] at hcc
    rw [Bool.and_eq_true] at g
    have hpos : 0 < ((slopesOf ps).map PV.str).length := by
      rw [List.length_map]
      exact List.length_pos_iff.mpr (fun e => by rw [e] at g; simp at g)
    have hle : ((slopesOf ps).map PV.str).length ≤ 100000 := by
      unfold slopesOf
      have := List.length_filter_le (fun p : Str × List PV => isSl p.2) ps
      simp only [List.length_map]
      omega
    unfold seqP
    rw [if_t hcc]
    simp only [retP, List.map, Ent.freeze, consA, gV0, gVs, rZ, M.bZ]
    refine Gen.le (Gen.bind (gen_any hpos hle) (d := 0) ?_) (by decide)
    intro y hy
    obtain ⟨z, hz, rfl⟩ := List.mem_map.mp hy
    exact Gen.eq (y := .tup [.str "look", .int n, .int m, .str z]) (by simp only [rZ, mkT4]; rfl) (.look m z m0 m1 hz)
  | false =>
    rw [g] at hcc
    refine Gen.le (gseqF (c := 0) (d := 67) (I := fun ρ => ρ = [val .bag, val h, val (.int n), val (.int w), val (.int m), val (.lst ((slopesOf ps).map PV.str)), un]) (gnx (if_f hcc) rfl) ?_) (by decide)
    rintro _ rfl
    by_cases c1 : w = 1
    · unfold seqP
      rw [if_t (by rw [hc 1, c1]; rfl)]
      simp only [retP, List.map, Ent.freeze, consA, bin2, gV0, gVs, rZ, h0, M.bZ]
      refine Gen.le (Gen.bind (gen_anyT hne hpl) (d := 61) ?_) (by decide)
      rintro _ ⟨p, hp, rfl⟩
      simp only [ixO, at0, M.ofO, rZ]
      refine Gen.le (Gen.bind (gen_rules H) (d := 0) ?_) (by decide)
      intro r hr
      exact Gen.eq (y := .tup [.str "rule", .int n, .int m, .str p.1, r]) (by simp only [rZ, mkT5]; rfl) (.rule m p r m0 m1 hp hr)
    · have c1' : (w == 1) = false := by simpa using c1
      refine Gen.le (gseqF (c := 0) (d := 67) (I := fun ρ => ρ = [val .bag, val h, val (.int n), val (.int w), val (.int m), val (.lst ((slopesOf ps).map PV.str)), un]) (gnx (if_f (by rw [hc 1, c1'])) rfl) ?_) (by decide)
      rintro _ rfl
      have ep : powO (.int 10) (.int 60) = .ret (.int (10 ^ 60)) := by
        unfold powO numO
        dsimp only
        rw [if_pos (by decide +kernel)]
        rfl
      have es1 : subO (.int (10 ^ 60)) (.int 1) = .ret (.int (10 ^ 60 - 1)) := rfl
      have es2 : subO (.int 1) (.int (10 ^ 60)) = .ret (.int (1 - 10 ^ 60)) := rfl
      refine Gen.le (gseqF (c := 2) (d := 1) (I := fun ρ => ∃ v : Int, -(10 ^ 60) < v ∧ v < 10 ^ 60 ∧ ρ = [val .bag, val h, val (.int n), val (.int w), val (.int m), val (.lst ((slopesOf ps).map PV.str)), val (.int v)]) ?_ ?_) (by decide)
      · simp only [setP, bin2, lstV, consA, gV0, gVs, rZ, F_law_draw, M.bZ]
        refine Gen.le (Gen.bind (Gen.draw (by omega) (by omega)) (d := 1) ?_) (by decide)
        rintro _ ⟨d, rfl, d0, d1⟩
        have es3 : subO (.int d) (.int 3) = .ret (.int (d - 3)) := rfl
        simp only [rZ, ep, es1, es2, es3, mkL4]
        refine Gen.le (Gen.bind (Gen.draw (by omega) (by omega)) (d := 0) ?_) (by decide)
        rintro _ ⟨g, rfl, g0, g1⟩
        obtain ⟨y, hy, e⟩ := atI_in (l := [PV.int (d - 3), PV.int (10 ^ 60 - 1), PV.int (1 - 10 ^ 60), PV.int 0]) g0 g1
        obtain ⟨v, rfl, v0, v1⟩ : ∃ v : Int, y = .int v ∧ -(10 ^ 60) < v ∧ v < 10 ^ 60 := by
          simp only [List.mem_cons, List.not_mem_nil, or_false] at hy
          rcases hy with rfl | rfl | rfl | rfl <;> exact ⟨_, rfl, by omega, by omega⟩
        exact Gen.eq (y := .nx _) (by simp only [ixO, e, M.ofO, rZ]; rfl) ⟨_, rfl, v, v0, v1, rfl⟩
      rintro _ ⟨v, v0, v1, rfl⟩
      simp only [retP, List.map, Ent.freeze, consA, lstV, gV0, gVs, rZ, mkL4, M.bZ]
      refine Gen.le (Gen.bind (gen_any (by simp) (by simp)) (d := 0) ?_) (by decide)
      intro y hy
      simp only [List.mem_cons, List.not_mem_nil, or_false] at hy
      exact Gen.eq (y := .tup [.str "read", .int n, .int m, y, .int v]) (by simp only [rZ, mkT5]; rfl) (.read m y v m0 m1 hy v0 v1)
def PagesT (ps : List (Str × List PV)) (dark : Int) (l : List PV) : Prop := ∀ z ∈ l, ∃ n, 0 ≤ n ∧ n ≤ 999999 ∧ PageX ps dark n z
theorem in_ints (x : Int) (ns : List Int) : ∃ b, inO false (.int x) (.lst (ns.map PV.int)) = .ret (.bl b) := by
  have hf : (ns.map PV.int).all flatP = true := by
    rw [List.all_eq_true]
    intro y hy
    obtain ⟨z, _, rfl⟩ := List.mem_map.mp hy
    rfl
  refine ⟨memF (.int x) (ns.map PV.int), ?_⟩
  unfold inO
  dsimp only
  rw [hf]
  simp [flatP, toV, flatV]
theorem gen_pages {h : PV} {ps : List (Str × List PV)} {dark : Int} (U : HillU h ps dark) {k : Int} (k0 : 0 ≤ k) (k1 : k ≤ 30) : Gen (F_law_pages [.bag, h, .int k]) (k.toNat * 72) (fun y => ∃ l, y = .lst l ∧ l.length = k.toNat ∧ PagesT ps dark l) := by
  unfold F_law_pages m_law_pages
  show Gen ((seqP _ _ [val .bag, val h, val (.int k), un, un, un, un, un]).bind finP) _ _
  refine Gen.le (gseqF (c := 0) (d := k.toNat * 72) (I := fun ρ => ρ = [val .bag, val h, val (.int k), Ent.own [], Ent.own [], un, un, un]) (gnx (by simp [parO0, mkLst]) rfl) ?_) (by omega)
  rintro _ rfl
  have hint : (intsP 0 k.toNat).length = k.toNat := by simp [intsP]
  have er : rng1O [.int k] = .ret (intsP 0 k.toNat) := by simp only [rng1O, if_pos (by omega : -1000000 ≤ k ∧ k ≤ 100000)]
  refine Gen.le (gseqF (c := k.toNat * 72) (d := 0) (I := fun ρ => ∃ (ns : List Int) (l : List PV) (e5 e6 e7 : Ent), l.length = k.toNat ∧ PagesT ps dark l ∧ ρ = [val .bag, val h, val (.int k), Ent.own (ns.map PV.int), Ent.own l, e5, e6, e7]) ?_ ?_) (by omega)
  · simp only [mkFor, consA, gV0, gVs, rZ, er]
    refine Gen.mono (forN (k := 5) (c := 72) (Iv := fun i ρ => ∃ (ns : List Int) (l : List PV) (e5 e6 e7 : Ent), ns.length = i ∧ l.length = i ∧ PagesT ps dark l ∧ ρ = [val .bag, val h, val (.int k), Ent.own (ns.map PV.int), Ent.own l, e5, e6, e7]) (intsP 0 k.toNat) 0 _ ⟨[], [], _, _, _, rfl, rfl, fun z hz => by simp at hz, rfl⟩ ?_) (by rw [hint]; exact Nat.le_refl _) ?_
    rotate_left
    · rintro f ⟨ρ', rfl, ns, l, e5, e6, e7, _, hl, hp, rfl⟩
      rw [hint, Nat.zero_add] at hl
      exact ⟨_, rfl, ns, l, e5, e6, e7, hl, hp, rfl⟩
    · rintro y hy j hj _ ⟨ns, l, e5, e6, e7, hn, hl, hp, rfl⟩
      rw [hint] at hj
      obtain ⟨q, hq0, rfl⟩ := List.mem_map.mp hy
      show Gen (seqP _ _ [val .bag, val h, val (.int k), Ent.own (ns.map PV.int), Ent.own l, val (.int (0 + (q : Nat))), e6, e7]) 72 _
      refine Gen.le (gseq (c := 2) (d := 70) (I := fun ρ => ∃ n : Int, 0 ≤ n ∧ n ≤ 999999 ∧ ρ = [val .bag, val h, val (.int k), Ent.own (ns.map PV.int), Ent.own l, val (.int (0 + (q : Nat))), val (.int n), e7]) ?_ ?_) (by decide)
      · have s1 : subO (.int 999999) (.int (0 + (q : Nat))) = .ret (.int (999999 - (0 + (q : Nat)))) := rfl
        have s2 : subO (.int 60) (.int (0 + (q : Nat))) = .ret (.int (60 - (0 + (q : Nat)))) := rfl
        simp only [setP, bin2, lstV, consA, gV0, gVs, rZ, s1, s2, F_law_draw, M.bZ]
        refine Gen.le (Gen.bind (Gen.draw (by omega) (by omega)) (d := 1) ?_) (by decide)
        rintro _ ⟨d, rfl, d0, d1⟩
        simp only [rZ, mkL4]
        refine Gen.le (Gen.bind (gen_any (by simp) (by simp)) (d := 0) ?_) (by decide)
        intro y hy
        have hq : q < 30 := by simp only [List.mem_range] at hq0; omega
        obtain ⟨n, rfl, n0, n1⟩ : ∃ n : Int, y = .int n ∧ 0 ≤ n ∧ n ≤ 999999 := by
          simp only [List.mem_cons, List.not_mem_nil, or_false] at hy
          rcases hy with rfl | rfl | rfl | rfl <;> exact ⟨_, rfl, by omega, by omega⟩
        exact Gen.eq (y := .nx _) rfl ⟨_, rfl, n, n0, n1, rfl⟩
      rintro _ ⟨n, n0, n1, rfl⟩
      refine Gen.le (gseq (c := 0) (d := 70) (I := fun ρ => ∃ (n : Int) (e7 : Ent), 0 ≤ n ∧ n ≤ 999999 ∧ ρ = [val .bag, val h, val (.int k), Ent.own (ns.map PV.int), Ent.own l, val (.int (0 + (q : Nat))), val (.int n), e7]) ?_ ?_) (by decide)
      · simp only [mkFor, consA, gV0, gVs, rZ, er]
        refine Gen.le (Gen.for_ (c := 0) (Iv := fun ρ => ∃ (n : Int) (e7 : Ent), 0 ≤ n ∧ n ≤ 999999 ∧ ρ = [val .bag, val h, val (.int k), Ent.own (ns.map PV.int), Ent.own l, val (.int (0 + (q : Nat))), val (.int n), e7]) _ _ ⟨n, e7, n0, n1, rfl⟩ ?_) (by simp)
        rintro t ht _ ⟨n, e7, n0, n1, rfl⟩
        obtain ⟨b, hb⟩ := in_ints n ns
        have ea : addO (.int n) (.int 1) = .ret (.int (n + 1)) := rfl
        have em : modO (.int (n + 1)) (.int 1000000) = .ret (.int ((n + 1) % 1000000)) := by unfold modO numO; simp
        show Gen (ifP _ _ _ [val .bag, val h, val (.int k), Ent.own (ns.map PV.int), Ent.own l, val (.int (0 + (q : Nat))), val (.int n), val t]) 0 _
        cases b with
        | false => exact gnx (I := fun ρ => ∃ (n : Int) (e7 : Ent), 0 ≤ n ∧ n ≤ 999999 ∧ ρ = _) (if_f (by simp only [asB, bin2, gV0, gVs, gB0o, gBs, rZ, hb])) ⟨n, _, n0, n1, rfl⟩
        | true =>
          refine gnx (I := fun ρ => ∃ (n : Int) (e7 : Ent), 0 ≤ n ∧ n ≤ 999999 ∧ ρ = _) ((if_t (by simp only [asB, bin2, gV0, gVs, gB0o, gBs, rZ, hb])).trans ?_) ⟨(n + 1) % 1000000, val t, by omega, by omega, rfl⟩
          simp only [setP, bin2, gV0, gVs, rZ, ea, em]
          rfl
      rintro _ ⟨n, e7, n0, n1, rfl⟩
      refine Gen.le (gseq (c := 0) (d := 70) (I := fun ρ => ρ = [val .bag, val h, val (.int k), Ent.own ((ns ++ [n]).map PV.int), Ent.own l, val (.int (0 + (q : Nat))), val (.int n), e7]) (gnx (by simp [appP, gV0, gVs, hn, (by omega : j < 100000)]) rfl) ?_) (by decide)
      rintro _ rfl
      have hlt : l.length < 100000 := by omega
      simp only [appP, List.getElem?_cons_succ, List.getElem?_cons_zero, consA, gV0, gVs, rZ, M.bZ]
      refine Gen.le (Gen.bind (gen_page U n) (d := 0) ?_) (by decide)
      intro z hz
      exact Gen.eq (y := .nx _) (by rw [if_pos hlt]; rfl) ⟨_, rfl, ns ++ [n], l ++ [z], _, _, _, by simp [hn], by simp [hl], fapp hp (fone ⟨n, n0, n1, hz⟩), rfl⟩
  · rintro _ ⟨ns, l, e5, e6, e7, hl, hp, rfl⟩
    exact Gen.eq (fin_y (ret_y rfl)) ⟨l, rfl, hl, hp⟩
end K64
namespace L2
open Ent (val un)
noncomputable def jn (s : List Nat) : List (List Nat) → List Nat
  | [] => []
  | [x] => x
  | x :: y :: r => x ++ s ++ jn s (y :: r)
noncomputable def ofL (l : List Nat) : Str := ⟨l.toArray⟩
theorem ofL_toL (z : Str) : ofL z.cps.toList = z := by cases z; simp [ofL]
theorem toL_ofL (l : List Nat) : (ofL l).cps.toList = l := by simp [ofL]
theorem len_ofL (l : List Nat) : (ofL l).length = l.length := by simp [ofL, Str.length]
theorem str_ext {a b : Str} (h : a.cps.toList = b.cps.toList) : a = b := by rw [← ofL_toL a, h, ofL_toL]
theorem app_toL (a b : Str) : (a ++ b).cps.toList = a.cps.toList ++ b.cps.toList := by
  show (a.cps ++ b.cps).toList = _; simp
theorem fold_jn (s : List Nat) : ∀ (ps : List Str) (a : Array Nat) (sep : Str), sep.cps.toList = s → (List.foldl (fun acc p => acc ++ sep.cps ++ p.cps) a ps).toList = jn s (a.toList :: ps.map (·.cps.toList))
  | [], a, sep, e => rfl
  | p :: ps, a, sep, e => by
    rw [List.foldl_cons, fold_jn s ps _ sep e]
    cases ps with
    | nil => simp [jn, e]
    | cons q qs => simp [jn, e]
theorem join_toL (sep : Str) (ps : List Str) : (Txt.join sep ps).cps.toList = jn sep.cps.toList (ps.map (·.cps.toList)) := by
  cases ps with
  | nil => simp [Txt.join, Builtin.Str.glued, jn, Str.empty]
  | cons p ps => exact fold_jn _ ps p.cps sep rfl
theorem jn_snoc (s y : List Nat) : ∀ (xs : List (List Nat)), xs ≠ [] → jn s (xs ++ [y]) = jn s xs ++ s ++ y
  | [x], _ => rfl
  | x :: x2 :: xs, _ => by
    show x ++ s ++ jn s (x2 :: (xs ++ [y])) = x ++ s ++ jn s (x2 :: xs) ++ s ++ y
    rw [show x2 :: (xs ++ [y]) = (x2 :: xs) ++ [y] from rfl, jn_snoc s y (x2 :: xs) (by simp)]
    simp
theorem jn_app (s : List Nat) (y : List (List Nat)) (hy : y ≠ []) : ∀ (xs : List (List Nat)), jn s (xs ++ [jn s y]) = jn s (xs ++ y)
  | [] => by simp [jn]
  | [x] => by cases y with
    | nil => exact absurd rfl hy
    | cons a b => rfl
  | x :: x2 :: xs => by
    show x ++ s ++ jn s ((x2 :: xs) ++ [jn s y]) = x ++ s ++ jn s ((x2 :: xs) ++ y)
    rw [jn_app s y hy (x2 :: xs)]
theorem cut_at (c : Nat) : ∀ z : List Nat, ∃ ps : List (List Nat), ps ≠ [] ∧ (∀ p ∈ ps, c ∉ p) ∧ jn [c] ps = z
  | [] => ⟨[[]], by simp, by simp, rfl⟩
  | a :: z => by
    obtain ⟨ps, h1, h2, h3⟩ := cut_at c z
    by_cases e : a = c
    · subst e
      refine ⟨[] :: ps, by simp, fun p hp => ?_, ?_⟩
      · rcases List.mem_cons.mp hp with rfl | hp
        · simp
        · exact h2 p hp
      · cases ps with
        | nil => exact absurd rfl h1
        | cons q qs => show [] ++ [a] ++ jn [a] (q :: qs) = _; rw [h3]; rfl
    · cases ps with
      | nil => exact absurd rfl h1
      | cons q qs =>
        refine ⟨(a :: q) :: qs, by simp, fun p hp => ?_, ?_⟩
        · rcases List.mem_cons.mp hp with rfl | hp
          · intro h; rcases List.mem_cons.mp h with rfl | h
            · exact e rfl
            · exact h2 q (by simp) h
          · exact h2 p (by simp [hp])
        · rw [← h3]; cases qs <;> simp [jn]
section
open StrLaws
theorem at_iff {x sep : Str} {k : Nat} : At x sep x.length k ↔ k + sep.length ≤ x.length ∧ (x.cps.toList.drop k).take sep.length = sep.cps.toList := by
  unfold At Builtin.Str.subAt
  refine and_congr_right fun h => ?_
  rw [beq_iff_eq, ← Array.toList_inj, Array.toList_extract]
  simp [List.extract, Nat.add_sub_cancel_left]
theorem at_c0 {x sep : Str} {k c0 : Nat} {tl : List Nat} (hs : sep.cps.toList = c0 :: tl) (h : At x sep x.length k) : x.cps.toList[k]? = some c0 := by
  obtain ⟨h1, h2⟩ := at_iff.mp h
  have e : ((x.cps.toList.drop k).take sep.length)[0]? = some c0 := by rw [h2, hs]; rfl
  have l : 0 < sep.length := by show 0 < sep.cps.size; rw [← Array.length_toList, hs]; simp
  rw [List.getElem?_take_of_lt l, List.getElem?_drop] at e
  simpa using e
theorem sub_toL (x : Str) (i j : Nat) : (Builtin.Str.strSub x i j).cps.toList = (x.cps.toList.drop i).take (j - i) := by
  simp [Builtin.Str.strSub, List.extract]
theorem len_toL (x : Str) : x.length = x.cps.toList.length := by simp [Str.length]
theorem parts_jn {sep : Str} {c0 : Nat} {tl : List Nat} (hs : sep.cps.toList = c0 :: tl) : ∀ (ws : List (List Nat)) (w : List Nat) (x : Str) (pre : List Nat) (cuts : List Nat) (f : Nat), x.cps.toList = pre ++ jn (c0 :: tl) (w :: ws) → (∀ u ∈ w :: ws, c0 ∉ u) → ChainG x sep x.length pre.length cuts f → (∀ k, f ≤ k → ¬At x sep x.length k) → partsFrom x sep.length pre.length cuts = (w :: ws).map ofL
  | [], w, x, pre, cuts, f, ex, hw, hc, hf => by
    have ex' : x.cps.toList = pre ++ w := ex
    cases cuts with
    | nil =>
      rw [partsFrom.eq_1]
      have : Builtin.Str.strSub x pre.length x.length = ofL w := str_ext (by rw [sub_toL, toL_ofL, ex', len_toL, ex']; simp)
      rw [this]; rfl
    | cons c r =>
      rw [ChainG.eq_2] at hc
      have a := at_c0 hs hc.2.1
      rw [ex', List.getElem?_append_right hc.1] at a
      exact absurd (List.mem_of_getElem? a) (hw w (by simp))
  | w2 :: ws, w, x, pre, cuts, f, ex, hw, hc, hf => by
    have ex' : x.cps.toList = pre ++ (w ++ ((c0 :: tl) ++ jn (c0 :: tl) (w2 :: ws))) := by rw [ex]; simp [jn]
    have ls : sep.length = (c0 :: tl).length := by rw [len_toL, hs]
    have hat : At x sep x.length (pre.length + w.length) := by
      refine at_iff.mpr ⟨?_, ?_⟩
      · rw [len_toL x, ex', ls]; simp only [List.length_append]; omega
      · rw [ex', hs, ls]; simp
    cases cuts with
    | nil =>
      rw [ChainG.eq_1] at hc
      exact absurd hat (hf _ (by omega))
    | cons c r =>
      rw [ChainG.eq_2] at hc
      obtain ⟨c1, c2, c3, c4⟩ := hc
      have hcv : c = pre.length + w.length := by
        rcases Nat.lt_trichotomy c (pre.length + w.length) with h | h | h
        · have a := at_c0 hs c2
          rw [ex', List.getElem?_append_right c1, List.getElem?_append_left (by omega)] at a
          exact absurd (List.mem_of_getElem? a) (hw w (by simp))
        · exact h
        · exact absurd hat (c3 _ (by omega) h)
      subst hcv
      rw [partsFrom.eq_2]
      have e1 : Builtin.Str.strSub x pre.length (pre.length + w.length) = ofL w := str_ext (by rw [sub_toL, toL_ofL, ex']; simp)
      have el : pre.length + w.length + sep.length = (pre ++ (w ++ (c0 :: tl))).length := by rw [ls]; simp only [List.length_append]; omega
      rw [e1, el]
      rw [el] at c4
      rw [parts_jn hs ws w2 x (pre ++ (w ++ (c0 :: tl))) r f (by rw [ex']; simp) (fun u hu => hw u (by simp at hu ⊢; exact .inr hu)) c4 hf]
      rfl
theorem kind_pos (z : Str) : 1 ≤ Builtin.Str.strKind z := by unfold Builtin.Str.strKind; split; exact Nat.le_refl 1; split <;> decide
theorem split_from {z c : Str} (l0 : 1 ≤ c.length) (hk : Builtin.Str.strKind c = 1) : splitP z c = partsFrom z c.length 0 (cuts z c) := by
  obtain ⟨f, h1, h2⟩ := occ_tight z c l0
  have em : cuts z c = [] → partsFrom z c.length 0 (cuts z c) = [z] := fun e => by
    rw [e, partsFrom.eq_1]
    refine congrArg (fun y => [y]) (str_ext ?_)
    rw [sub_toL, len_toL]
    exact List.take_length
  unfold splitP
  by_cases c1 : z.length < c.length
  · have e : cuts z c = [] := by
      cases h : cuts z c with
      | nil => rfl
      | cons a r =>
        have h1' : ChainG z c z.length 0 (cuts z c) f := h1
        rw [h, ChainG.eq_2] at h1'
        have := h1'.2.1.1; omega
    rw [if_pos (.inl (by simp [c1])), em e]
  · by_cases c2 : (cuts z c).isEmpty = true
    · rw [if_pos (.inr c2), em (List.isEmpty_iff.mp c2)]
    · have := kind_pos z
      rw [if_neg (by rintro (h | h); (simp [c1, hk] at h; omega); exact c2 h), partsBetween_eq]
theorem split_jn {z c : Str} {c0 : Nat} {tl : List Nat} {ws : List (List Nat)} (hk : Builtin.Str.strKind c = 1) (hs : c.cps.toList = c0 :: tl) (hw : ∀ u ∈ ws, c0 ∉ u) (h0 : ws ≠ []) (ez : z.cps.toList = jn (c0 :: tl) ws) : splitP z c = ws.map ofL := by
  have l0 : 1 ≤ c.length := by rw [len_toL, hs]; simp
  obtain ⟨f, h1, h2⟩ := occ_tight z c l0
  rw [split_from l0 hk]
  cases ws with
  | nil => exact absurd rfl h0
  | cons w ws => exact parts_jn hs ws w z [] (cuts z c) f ez hw h1 h2
end
theorem int_reads {m : Nat} (hl : (Str.ofString (toString (m : Int))).length ≤ 4300) : intText? (Str.ofString (toString (m : Int))) = some (m : Int) := by
  have hd : NumText.AllDigits (Str.ofString (toString (m : Int))).cps.toList := fun c hc => by
    rw [PySem.W.KIN.signs_num] at hc
    obtain ⟨ch, hch, e⟩ := List.mem_map.mp hc
    have r := PyProof.Rows.digit_range (Nat.isDigit_of_mem_toDigits (by decide) (by decide) hch)
    rw [← e]; exact r
  have hne : (Str.ofString (toString (m : Int))).cps.toList ≠ [] := by
    rw [PySem.W.KIN.signs_num]; intro e
    have h := PySem.toDigits_len_ge 10 m
    rw [List.map_eq_nil_iff.mp e] at h
    exact absurd h (by decide)
  have e := intText_digits hd hne hl
  rw [PySem.W.KIN.signs_num, PySem.W.KIN.val_back] at e
  exact e
noncomputable def dg (m : Nat) : List Nat := (Nat.toDigits 10 m).map Char.toNat
theorem dg_toL (m : Nat) : (Str.ofString (toString (m : Int))).cps.toList = dg m := PySem.W.KIN.signs_num m
theorem dg_fig {m c : Nat} (h : c ∈ dg m) : 48 ≤ c ∧ c ≤ 57 := by
  obtain ⟨ch, hch, e⟩ := List.mem_map.mp h
  rw [← e]
  exact PyProof.Rows.digit_range (Nat.isDigit_of_mem_toDigits (by decide) (by decide) hch)
theorem dg_len {m k : Nat} (k0 : 0 < k) (h : m < 10 ^ k) : (dg m).length ≤ k := by
  rw [dg, List.length_map]
  exact (Nat.length_toDigits_le_iff (by decide) k0).mpr h
theorem dg_pos (m : Nat) : 1 ≤ (dg m).length := by
  rw [dg, List.length_map]; exact PySem.toDigits_len_ge 10 m
theorem dg_step {m : Nat} (h : 10 ≤ m) : dg m = dg (m / 10) ++ [(Nat.digitChar (m % 10)).toNat] := by
  rw [dg, dg, Nat.toDigits_of_base_le (by decide) h, List.map_append]; rfl
theorem dg_small : ∀ m : Nat, m < 10 → dg m = [48 + m] := by decide
theorem dg_head : ∀ (m : Nat), m ≠ 0 → ∃ c r, dg m = c :: r ∧ c ≠ 48 := fun m => by
  induction m using Nat.strongRecOn with
  | ind m ih =>
    intro h0
    by_cases h : m < 10
    · exact ⟨48 + m, [], dg_small m h, by omega⟩
    · obtain ⟨c, r, e, hc⟩ := ih (m / 10) (by omega) (by omega)
      exact ⟨c, r ++ [(Nat.digitChar (m % 10)).toNat], by rw [dg_step (by omega), e]; rfl, hc⟩
theorem neg_toL (m : Nat) (h : m ≠ 0) : (Str.ofString (toString (-(m : Int)))).cps.toList = 45 :: dg m := by
  obtain ⟨k, rfl⟩ : ∃ k, m = k + 1 := ⟨m - 1, by omega⟩
  have e : toString (-((k + 1 : Nat) : Int)) = "-" ++ toString ((k + 1 : Nat) : Int) := rfl
  rw [e, PyProof.Rows.signs_ofString, String.toList_append, List.map_append, ← PyProof.Rows.signs_ofString (toString ((k + 1 : Nat) : Int)), dg_toL]
  rfl
end L2
namespace K64
open L2
open L2.Ent (val un)
noncomputable def figC (c : Nat) : Bool := leS "0" ⟨#[c]⟩ && leS ⟨#[c]⟩ "9"
theorem figC_is (c : Nat) : figC c = (decide (48 ≤ c) && decide (c ≤ 57)) := by
  have e0 : ("0" : Str).cps.toList = [48] := by decide +kernel
  have e9 : ("9" : Str).cps.toList = [57] := by decide +kernel
  unfold figC leS
  rw [e0, e9]
  rw [Bool.eq_iff_iff]
  simp [List.cons_lt_cons_iff]
noncomputable def figS : PV → PV
  | .str z => .bl (leS "0" z && leS z "9")
  | y => y
theorem figs_lc (z : Str) : lcM (bindN 0) allTs (chain leOD leOD (fun _ => M.ret (.str "0")) (fun ρ => getV ρ 0) (fun _ => M.ret (.str "9"))) (signsP z) [.un] = .ret ((signsP z).map figS) := by
  refine lcM_map (ρ := [.un]) _ _ (fun _ => rfl) fun y hy => ?_
  obtain ⟨c, _, rfl⟩ := List.mem_map.mp hy
  show chain leOD leOD _ _ _ [val (.str ⟨#[c]⟩)] = _
  cases h : leS "0" ⟨#[c]⟩ <;> simp [chain, getV, leOD, h, figS]
noncomputable def figB (l : List Nat) : Bool := decide (1 ≤ l.length ∧ l.length ≤ 60) && l.all figC && (l == [48] || l.head? != some 48)
theorem bls_figs (l : List Nat) : blsOf ((l.map fun c => PV.str ⟨#[c]⟩).map figS) = some (l.map figC) := by
  induction l with
  | nil => rfl
  | cons a l ih => simp [blsOf, figS, figC] at ih ⊢; simp [ih]
theorem all_figs (z : Str) (hz : z.length ≤ 100000) : (((consA (lstV (mkLC [none] (fun ρ => ((fun ρ => getV ρ 0) ρ).bind iterO) (bindN 0) allTs (chain leOD leOD (fun _ => M.ret (.str "0")) (fun ρ => getV ρ 0) (fun _ => M.ret (.str "9"))))) (fun _ => M.ret [])) [val (.str z)]).bind allO) = .ret (.bl (z.cps.toList.all figC)) := by
  have e := lc_as (js := [none]) (mi := fun ρ => ((fun ρ => getV ρ 0) ρ).bind iterO) (bd := bindN 0) (tt := allTs) (te := chain leOD leOD (fun _ => M.ret (.str "0")) (fun ρ => getV ρ 0) (fun _ => M.ret (.str "9"))) (ρ := [val (.str z)]) (l := signsP z) [.un] rfl (by simpa [signsP, Str.length] using hz) rfl
  simp only [consA, lstV, e, figs_lc, rZ]
  have b : blsOf ((signsP z).map figS) = some (z.cps.toList.map figC) := bls_figs z.cps.toList
  simp [allO, b, M.ofO, List.all_map]
theorem str_beq (x y : Str) : (x == y) = (x.cps.toList == y.cps.toList) := by
  rw [Bool.eq_iff_iff]
  constructor
  · intro h; rw [eq_of_beq h]; exact beq_self_eq_true _
  · intro h; rw [str_ext (eq_of_beq h)]; exact beq_self_eq_true _
theorem neS (x y : Str) : eqO true (.str x) (.str y) = .ret (.bl (!(x == y))) := by
  show M.ret (PV.bl (xor true (x == y))) = _
  simp
theorem as_b {m : PEnv → M PV} {ρ : PEnv} {x : Bool} (h : m ρ = .ret (.bl x)) : asB m ρ = .ret x := by unfold asB; rw [h]; rfl
theorem v_or {a b : PEnv → M PV} {ρ : PEnv} {x y : Bool} (ha : a ρ = .ret (.bl x)) (hb : x = false → b ρ = .ret (.bl y)) : orV a b ρ = .ret (.bl (x || y)) := by
  cases x with
  | true => unfold orV; rw [as_b ha]; rfl
  | false => have h2 := hb rfl; unfold orV; rw [as_b ha]; exact h2
theorem fig_len (z : Str) (hz : z.length ≤ 100000) : asB (chain leOD leOD (fun _ => M.ret (.int 1)) (fun ρ => ((consA (fun ρ => getV ρ 0) (fun _ => M.ret [])) ρ).bind lenO) (fun _ => M.ret (.int 60))) [val (.str z)] = .ret (decide (1 ≤ z.length ∧ z.length ≤ 60)) := by
  have h1 := lenS hz
  by_cases c1 : 1 ≤ z.length
  · by_cases c2 : z.length ≤ 60
    · have d1 : decide ((1 : Int) ≤ z.length) = true := decide_eq_true (by omega)
      have d2 : decide ((z.length : Int) ≤ 60) = true := decide_eq_true (by omega)
      simp [asB, chain, consA, getV, leOD, h1, c1, c2, d1, d2]
    · have d1 : decide ((1 : Int) ≤ z.length) = true := decide_eq_true (by omega)
      have d2 : decide ((z.length : Int) ≤ 60) = false := decide_eq_false (by omega)
      simp [asB, chain, consA, getV, leOD, h1, c1, c2, d1, d2]
  · have d1 : decide ((1 : Int) ≤ z.length) = false := decide_eq_false (by omega)
    simp [asB, chain, consA, getV, leOD, h1, c1, d1]
theorem head_is {z : Str} (hz : z.length ≤ 100000) (h1 : 1 ≤ z.length) : ∃ c r, z.cps.toList = c :: r ∧ ixO (.str z) (.int 0) = .ret (.str ⟨#[c]⟩) := by
  have : z.cps.toList ≠ [] := by intro e; rw [len_toL, e] at h1; simp at h1
  cases e : z.cps.toList with
  | nil => exact absurd e this
  | cons c r =>
    refine ⟨c, r, rfl, ?_⟩
    have a : atI (c :: r) 0 = some c := atI_nat (j := 0) rfl
    simp [ixO, hz, e, a, M.ofO]
theorem figs_is (z : Str) (hz : z.length ≤ 100000) : F_are_figures [.str z] = .ret (.bl (figB z.cps.toList)) := by
  unfold F_are_figures m_are_figures
  show (seqP _ _ [val (.str z)]).bind finP = _
  have t1 := c_not (fig_len z hz)
  have t2 := c_not (a := asB fun ρ => ((consA (lstV (mkLC [none] (fun ρ => ((fun ρ => getV ρ 0) ρ).bind iterO) (bindN 0) allTs (chain leOD leOD (fun _ => M.ret (.str "0")) (fun ρ => getV ρ 0) (fun _ => M.ret (.str "9"))))) (fun _ => M.ret [])) ρ).bind allO) (ρ := [val (.str z)]) (x := z.cps.toList.all figC) (as_b (all_figs z hz))
  have t := c_or t1 t2
  have el : z.cps.toList.length = z.length := (len_toL z).symm
  cases g : (!decide (1 ≤ z.length ∧ z.length ≤ 60) || !z.cps.toList.all figC) with
  | true =>
    refine (seq_rt ((if_t (t.trans (by rw [g]))).trans (ret_y rfl))).trans ?_
    have : figB z.cps.toList = false := by
      unfold figB; rw [el]
      cases a : decide (1 ≤ z.length ∧ z.length ≤ 60) <;> cases b : z.cps.toList.all figC <;> simp_all
    rw [this]
  | false =>
    have a : decide (1 ≤ z.length ∧ z.length ≤ 60) = true := by
      cases a : decide (1 ≤ z.length ∧ z.length ≤ 60) with
      | true => rfl
      | false => rw [a] at g; cases g
    have b : z.cps.toList.all figC = true := by
      cases b : z.cps.toList.all figC with
      | true => rfl
      | false => rw [a, b] at g; cases g
    refine seq_nx (ρ' := [val (.str z)]) (if_f (t.trans (by rw [g]))) ?_
    obtain ⟨c, r, e, hi⟩ := head_is hz (of_decide_eq_true a).1
    have e0 : ("0" : Str).cps.toList = [48] := by decide +kernel
    have k1 : (z == "0") = (z.cps.toList == [48]) := by rw [str_beq, e0]
    have k2 : ((⟨#[c]⟩ : Str) == "0") = (c == 48) := by rw [str_beq, e0]; simp
    refine (fin_y (ret_y (v_or (x := z == "0") (y := !(c == 48)) (by simp only [List.map, Ent.freeze, bin2, gV0, rZ, eqS]) fun _ => by simp only [List.map, Ent.freeze, bin2, gV0, rZ, hi, neS, k2]))).trans ?_
    unfold figB
    rw [el, a, b, k1, e]
    by_cases q : c = 48
    · subst q; simp
    · have q1 : (c == 48) = false := beq_eq_false_iff_ne.mpr q
      have q2 : (some c != some 48) = true := by simp [bne, q1, q]
      rw [List.head?_cons, q2, q1]; simp
noncomputable def tx : PV → Str
  | .int i => Str.ofString (toString i)
  | .str z => z
  | _ => ""
noncomputable def wl (y : PV) : List Nat := (tx y).cps.toList
def Th (y : PV) : Prop := (∃ i : Int, y = .int i ∧ -(10 ^ 60) < i ∧ i < 10 ^ 60) ∨ ∃ z, y = .str z ∧ nameOk z = true
theorem int_cases {i : Int} (h0 : -(10 ^ 60) < i) (h1 : i < 10 ^ 60) : ∃ m : Nat, m < 10 ^ 60 ∧ (i = (m : Int) ∨ (m ≠ 0 ∧ i = -(m : Int))) := by
  rcases Int.le_total 0 i with h | h
  · exact ⟨i.toNat, by omega, .inl (by omega)⟩
  · by_cases z : i = 0
    · exact ⟨0, by decide, .inl (by omega)⟩
    · exact ⟨(-i).toNat, by omega, .inr ⟨by omega, by omega⟩⟩
theorem wl_int {m : Nat} : wl (.int (m : Int)) = dg m := dg_toL m
theorem wl_neg {m : Nat} (h : m ≠ 0) : wl (.int (-(m : Int))) = 45 :: dg m := neg_toL m h
theorem name_signs {z : Str} (h : nameOk z = true) : 1 ≤ z.length ∧ z.length ≤ 8 ∧ ∀ c ∈ z.cps.toList, 97 ≤ c ∧ c ≤ 122 := by
  unfold nameOk at h
  rw [Bool.and_eq_true, decide_eq_true_eq, List.all_eq_true] at h
  exact ⟨h.1.1, h.1.2, fun c hc => of_decide_eq_true (h.2 c hc)⟩
theorem wl_ok {y : PV} (h : Th y) : (wl y).length ≤ 61 ∧ wl y ≠ [] ∧ ∀ c ∈ wl y, 45 ≤ c ∧ c ≤ 122 := by
  rcases h with ⟨i, rfl, i0, i1⟩ | ⟨z, rfl, hz⟩
  · obtain ⟨m, hm, rfl | ⟨m0, rfl⟩⟩ := int_cases i0 i1
    · rw [wl_int]
      have := dg_len (k := 60) (by decide) hm
      have p := dg_pos m
      refine ⟨by omega, fun e => by rw [e] at p; simp at p, fun c hc => ?_⟩
      have := dg_fig hc; omega
    · rw [wl_neg m0]
      have := dg_len (k := 60) (by decide) hm
      refine ⟨by simp only [List.length_cons]; omega, by simp, fun c hc => ?_⟩
      rcases List.mem_cons.mp hc with rfl | hc
      · decide
      · have := dg_fig hc; omega
  · obtain ⟨l0, l1, hc⟩ := name_signs hz
    have e : wl (.str z) = z.cps.toList := rfl
    rw [e]
    rw [len_toL] at l0 l1
    refine ⟨by omega, fun e => by rw [e] at l0; simp at l0, fun c h => ?_⟩
    have := hc c h; omega
theorem str_is {y : PV} (h : Th y) : strA [y] = .ret (.str (tx y)) := by
  rcases h with ⟨i, rfl, i0, i1⟩ | ⟨z, rfl, hz⟩
  · have : i.natAbs < 10 ^ 61 := by omega
    simp only [strA, if_pos this, tx]
  · rfl
theorem fig_dg {m : Nat} (h : m < 10 ^ 60) : figB (dg m) = true := by
  have l0 := dg_pos m
  have l1 := dg_len (k := 60) (by decide) h
  have a : (dg m).all figC = true := List.all_eq_true.mpr fun c hc => by
    have := dg_fig hc
    rw [figC_is, decide_eq_true this.1, decide_eq_true this.2]; rfl
  unfold figB
  rw [decide_eq_true ⟨l0, l1⟩, a]
  by_cases z : m = 0
  · rw [z]; decide
  · obtain ⟨c, r, e, hc⟩ := dg_head m z
    rw [e]
    simp [hc]
theorem fig_not {c : Nat} {r : List Nat} (h : c < 48 ∨ 57 < c) : figB (c :: r) = false := by
  have : figC c = false := by
    rw [figC_is]
    rcases h with h | h
    · rw [decide_eq_false (by omega : ¬ 48 ≤ c)]; rfl
    · rw [decide_eq_false (by omega : ¬ c ≤ 57), Bool.and_false]
  unfold figB
  rw [List.all_cons, this]
  simp
theorem starts_is (z : Str) : startsO (.str z) [.str "-"] = .ret (.bl (z.cps.toList.head? == some 45)) := by
  have e : ("-" : Str).cps = #[45] := by decide +kernel
  have l : ("-" : Str).length = 1 := by decide +kernel
  show M.ret (PV.bl (decide (0 + ("-" : Str).length ≤ z.length) && (z.cps.extract 0 (0 + ("-" : Str).length) == ("-" : Str).cps))) = _
  rw [l, e, len_toL]
  have k : (z.cps.extract 0 (0 + 1) == #[45]) = ((z.cps.toList.take 1) == [45]) := by
    rw [Bool.eq_iff_iff, beq_iff_eq, beq_iff_eq, ← Array.toList_inj, Array.toList_extract]
    simp [List.extract]
  rw [k]
  cases z.cps.toList with
  | nil => rfl
  | cons a r => simp
theorem from1 {z : Str} {c : Nat} {l : List Nat} (h : z.cps.toList = c :: l) (hz : z.length ≤ 100000) : slE (.str z) (some 1) none = .ret (.str (ofL l)) := by
  have e : z.length = l.length + 1 := by rw [len_toL, h]; rfl
  have k := slice_from_eq (x := z) (i := 1) (b := z.length) (by decide) (by omega) rfl
  simp only [slE, if_pos hz]
  rw [k, h]
  congr 2
  unfold ofL
  congr 2
  rw [e]
  simp
theorem reads {m : Nat} (h : m < 10 ^ 60) : intT [.str (Str.ofString (toString (m : Int)))] = .ret (.int m) := by
  have l : (Str.ofString (toString (m : Int))).length ≤ 60 := by
    rw [len_toL, dg_toL]; exact dg_len (by decide) h
  simp only [intT, if_pos (show (Str.ofString (toString (m : Int))).length ≤ 640 by omega), int_reads (m := m) (by omega), M.ofO, rZ]
theorem th_len {y : PV} (h : Th y) : (tx y).length ≤ 61 := by rw [len_toL]; exact (wl_ok h).1
theorem c_and {a b : PEnv → M Bool} {ρ : PEnv} {x y : Bool} (ha : a ρ = .ret x) (hb : x = true → b ρ = .ret y) : andP a b ρ = .ret (x && y) := by
  cases x with
  | false => unfold andP; rw [ha]; rfl
  | true => have h2 := hb rfl; unfold andP; rw [ha]; exact h2
theorem bm_s {op : PV → List PV → M PV} {mo : PEnv → M PV} {ml : PEnv → M (List PV)} {ρ : PEnv} {x : Str} {l : List PV} (h : mo ρ = .ret (.str x)) (hl : ml ρ = .ret l) : bmP "str" op mo ml ρ = op (.str x) l := by
  unfold bmP; rw [h]
  simp only [rZ, tyP, if_true, hl]
theorem thing_is {y : PV} (h : Th y) : F_thing_of [.str (tx y)] = .ret y := by
  have hl : (tx y).length ≤ 100000 := Nat.le_trans (th_len h) (by decide)
  have f1 := figs_is (tx y) hl
  have s1 := starts_is (tx y)
  unfold F_thing_of m_thing_of
  show (seqP _ _ [val (.str (tx y))]).bind finP = _
  have g1 : asB (fun ρ => ((consA (fun ρ => getV ρ 0) (fun _ => M.ret [])) ρ).bind F_are_figures) [val (.str (tx y))] = .ret (figB (wl y)) := by
    exact as_b ((call1 (gV0 _ _)).trans f1)
  rcases h with ⟨i, rfl, i0, i1⟩ | ⟨z, rfl, hz⟩
  · obtain ⟨m, hm, rfl | ⟨m0, rfl⟩⟩ := int_cases i0 i1
    · rw [wl_int, fig_dg hm] at g1
      refine seq_rt ((if_t g1).trans (ret_y ?_))
      exact (call1 (gV0 _ _)).trans (reads hm)
    · rw [wl_neg m0, fig_not (by decide)] at g1
      refine seq_nx (if_f g1) ?_
      have et : (tx (.int (-(m : Int)))).cps.toList = 45 :: dg m := wl_neg m0
      have sl := from1 et hl
      have eo : ofL (dg m) = Str.ofString (toString (m : Int)) := str_ext (by rw [toL_ofL, dg_toL])
      have lo : (ofL (dg m)).length ≤ 100000 := by
        rw [len_ofL]; exact Nat.le_trans (dg_len (k := 60) (by decide) hm) (by decide)
      have f2 := figs_is (ofL (dg m)) lo
      rw [toL_ofL, fig_dg hm] at f2
      have ne : (tx (.int (-(m : Int))) == "-0") = false := by
        rw [str_beq, et]
        have e : ("-0" : Str).cps.toList = [45, 48] := by decide +kernel
        obtain ⟨c, r, e', hc⟩ := dg_head m m0
        rw [e, e']
        simp [hc]
      refine seq_rt ((if_t ((c_and (x := true) (y := true) ?_ fun _ => c_and (x := true) (y := true) ?_ fun _ => ?_).trans rfl)).trans (ret_y ?_))
      · have : bmP "str" startsO (fun ρ => getV ρ 0) (consA (fun _ => M.ret (.str "-")) (fun _ => M.ret [])) [val (.str (tx (.int (-(m : Int)))))] = .ret (.bl true) := by
          rw [bm_s (gV0 _ _) rfl, s1, et]; rfl
        exact as_b this
      · have : bin2 (eqO true) (fun ρ => getV ρ 0) (fun _ => M.ret (.str "-0")) [val (.str (tx (.int (-(m : Int)))))] = .ret (.bl true) := by
          simp only [bin2, gV0, rZ, neS, ne, Bool.not_false]
        exact as_b this
      · refine as_b ?_
        simp only [consA, sl3, gV0, rZ, intM, sl, f2]
      · simp only [List.map, Ent.freeze, consA, sl3, gV0, rZ, intM, sl]
        rw [eo, reads hm]
        rfl
  · obtain ⟨l0, l1, hc⟩ := name_signs hz
    have l0' := l0
    rw [len_toL] at l0
    cases e : z.cps.toList with
    | nil => rw [e] at l0; simp at l0
    | cons c r =>
      have hb := hc c (by rw [e]; simp)
      have ew : wl (.str z) = c :: r := e
      rw [ew, fig_not (by omega)] at g1
      refine seq_nx (if_f g1) ?_
      refine seq_nx (ρ' := [val (.str z)]) (if_f ((c_and (x := false) (y := false) ?_ fun h => by cases h).trans rfl)) ?_
      · have : bmP "str" startsO (fun ρ => getV ρ 0) (consA (fun _ => M.ret (.str "-")) (fun _ => M.ret [])) [val (.str z)] = .ret (.bl false) := by
          rw [bm_s (gV0 _ _) rfl, show startsO (.str z) [.str "-"] = .ret (.bl ((c :: r).head? == some 45)) by rw [← e]; exact s1]
          have : c ≠ 45 := by omega
          simp [this]
        exact as_b this
      · exact fin_y (ret_y rfl)
theorem jn_len (s : List Nat) (k : Nat) : ∀ (xs : List (List Nat)), (∀ x ∈ xs, x.length ≤ k) → (jn s xs).length ≤ xs.length * (k + s.length)
  | [], _ => by simp [jn]
  | [x], h => by
    have := h x (by simp)
    simp [jn]; omega
  | x :: y :: r, h => by
    have h1 := h x (by simp)
    have h2 := jn_len s k (y :: r) (fun z hz => h z (by simp at hz ⊢; exact .inr hz))
    have e : (jn s (x :: y :: r)).length = x.length + s.length + (jn s (y :: r)).length := by simp [jn]; omega
    have e2 : (x :: y :: r).length * (k + s.length) = (k + s.length) + (y :: r).length * (k + s.length) := by
      rw [List.length_cons (a := x), Nat.add_mul, Nat.one_mul, Nat.add_comm]
    omega
theorem jn_parts (c : Nat) (s : List Nat) : ∀ (xs : List (List Nat)), (xs.map List.length).sum + xs.length ≤ (jn (c :: s) xs).length + 1
  | [] => by simp [jn]
  | [x] => by simp [jn]
  | x :: y :: r => by
    have h := jn_parts c s (y :: r)
    have e : (jn (c :: s) (x :: y :: r)).length = x.length + (s.length + 1) + (jn (c :: s) (y :: r)).length := by simp [jn]; omega
    simp only [List.map_cons, List.sum_cons, List.length_cons] at h ⊢
    rw [e]; omega
theorem jn_in {s : List Nat} {c : Nat} : ∀ {xs : List (List Nat)}, c ∈ jn s xs → c ∈ s ∨ ∃ x ∈ xs, c ∈ x
  | [], h => by simp [jn] at h
  | [x], h => .inr ⟨x, by simp, h⟩
  | x :: y :: r, h => by
    have h : c ∈ x ++ s ++ jn s (y :: r) := h
    rw [List.mem_append, List.mem_append] at h
    rcases h with (h | h) | h
    · exact .inr ⟨x, by simp, h⟩
    · exact .inl h
    · rcases jn_in h with h | ⟨z, hz, h⟩
      · exact .inl h
      · exact .inr ⟨z, by simp at hz ⊢; exact .inr hz, h⟩
theorem strs_map {α : Type} (f : α → Str) : ∀ (l : List α), strsOf (l.map fun y => PV.str (f y)) = some (l.map f)
  | [] => rfl
  | y :: l => by simp [strsOf, strs_map f l]
theorem join_is {α : Type} (sep : Str) (f : α → Str) {l : List α} {k : Nat} (hl : l.length ≤ k) (hf : ∀ y ∈ l, (f y).length ≤ 10000) (hk : k * (10000 + sep.length) ≤ 16777216) : joinO (.str sep) [.lst (l.map fun y => PV.str (f y))] = .ret (.str (ofL (jn sep.cps.toList (l.map fun y => (f y).cps.toList)))) := by
  have hs : ∀ (m : List α), (∀ y ∈ m, (f y).length ≤ 10000) → ((m.map f).map (·.length)).sum + m.length * sep.length ≤ m.length * (10000 + sep.length) := by
    intro m
    induction m with
    | nil => simp
    | cons a m ih =>
      intro h
      have h1 := h a (by simp)
      have h2 := ih (fun y hy => h y (by simp [hy]))
      simp only [List.map_cons, List.sum_cons, List.length_cons, Nat.add_mul, Nat.one_mul] at h2 ⊢
      omega
  have hb := hs l hf
  have hm : l.length * (10000 + sep.length) ≤ k * (10000 + sep.length) := Nat.mul_le_mul_right _ hl
  have e : Txt.join sep (l.map f) = ofL (jn sep.cps.toList (l.map fun y => (f y).cps.toList)) := by
    refine str_ext ?_
    rw [join_toL, toL_ofL, List.map_map]; rfl
  simp only [joinO, strs_map, M.ofO, rZ]
  rw [if_pos (by rw [List.length_map]; omega), e]
noncomputable def rowL (l : List PV) : List Nat := jn [32] (l.map wl)
noncomputable def rowT (l : List PV) : Str := ofL (rowL l)
theorem blank : (" " : Str).cps.toList = [32] := by decide +kernel
theorem comma : (", " : Str).cps.toList = [44, 32] := by decide +kernel
def Tw (y : PV) : Prop := Th y ∨ ∃ z : Str, y = .str z ∧ z.length ≤ 10000
theorem Tw.len {y : PV} (h : Tw y) : (tx y).length ≤ 10000 := by
  rcases h with h | ⟨z, rfl, hz⟩
  · exact Nat.le_trans (th_len h) (by decide)
  · exact hz
theorem Tw.str {y : PV} (h : Tw y) : strA [y] = .ret (.str (tx y)) := by
  rcases h with h | ⟨z, rfl, hz⟩
  · exact str_is h
  · rfl
theorem words_lc {l : List PV} (h : ∀ y ∈ l, Tw y) : lcM (bindN 0) allTs (fun ρ => ((consA (fun ρ => getV ρ 0) (fun _ => M.ret [])) ρ).bind strA) l [.un] = .ret (l.map fun y => PV.str (tx y)) :=
  lcM_map (ρ := [.un]) _ _ (fun _ => rfl) fun y hy => (call1 (gV0 _ _)).trans (h y hy).str
theorem row_join {l : List PV} (h : ∀ y ∈ l, Tw y) (hl : l.length ≤ 100) : joinO (.str " ") [.lst (l.map fun y => PV.str (tx y))] = .ret (.str (rowT l)) := by
  rw [join_is " " tx hl (fun y hy => (h y hy).len) (by decide), blank]; rfl
theorem row_is {l : List PV} (h : ∀ y ∈ l, Tw y) (hl : l.length ≤ 100) : F_row_text [.tup l] = .ret (.str (rowT l)) := by
  unfold F_row_text m_row_text
  show (retP _ [val (.tup l)]).bind finP = _
  have e := lc_as (js := [none]) (mi := fun ρ => ((fun ρ => getV ρ 0) ρ).bind iterO) (bd := bindN 0) (tt := allTs) (te := fun ρ => ((consA (fun ρ => getV ρ 0) (fun _ => M.ret [])) ρ).bind strA) (ρ := [val (.tup l)]) (l := l) [.un] rfl (by omega) rfl
  refine fin_y (ret_y ((bm_s rfl ?_).trans (row_join h hl)))
  have : lstV (mkLC [none] (fun ρ => ((fun ρ => getV ρ 0) ρ).bind iterO) (bindN 0) allTs (fun ρ => ((consA (fun ρ => getV ρ 0) (fun _ => M.ret [])) ρ).bind strA)) [val (.tup l)] = .ret (.lst (l.map fun y => PV.str (tx y))) := lst_r (e.trans (words_lc h))
  show consA _ _ [val (.tup l)] = _
  rw [con1, this]; rfl
noncomputable def rowsL (ls : List (List PV)) : List Nat := if ls = [] then [45] else jn [44, 32] (ls.map rowL)
noncomputable def rowsT (ls : List (List PV)) : Str := ofL (rowsL ls)
theorem rowL_len {l : List PV} (h : ∀ y ∈ l, Th y) (hl : l.length ≤ 10) : (rowL l).length ≤ 620 := by
  have := jn_len [32] 61 (l.map wl) (fun x hx => by
    obtain ⟨y, hy, rfl⟩ := List.mem_map.mp hx
    exact (wl_ok (h y hy)).1)
  simp only [List.length_map, List.length_cons, List.length_nil] at this
  unfold rowL
  omega
def Rw (l : List PV) : Prop := l ≠ [] ∧ l.length ≤ 10 ∧ ∀ y ∈ l, Th y
theorem rowsL_len {ls : List (List PV)} (h : ∀ l ∈ ls, Rw l) (hl : ls.length ≤ 10) : (rowsL ls).length ≤ 6220 := by
  unfold rowsL
  split
  · simp
  · have := jn_len [44, 32] 620 (ls.map rowL) (fun x hx => by
      obtain ⟨y, hy, rfl⟩ := List.mem_map.mp hx
      exact rowL_len (h y hy).2.2 (h y hy).2.1)
    simp only [List.length_map, List.length_cons, List.length_nil] at this
    omega
theorem rows_join {ls : List (List PV)} (h : ∀ l ∈ ls, Rw l) (hl : ls.length ≤ 10) (h0 : ls ≠ []) : joinO (.str ", ") [.lst (ls.map fun y => PV.str (rowT y))] = .ret (.str (rowsT ls)) := by
  rw [join_is ", " rowT hl (fun y hy => by
    show (ofL (rowL y)).length ≤ 10000
    rw [len_ofL]; exact Nat.le_trans (rowL_len (h y hy).2.2 (h y hy).2.1) (by decide)) (by decide), comma]
  unfold rowsT rowsL
  rw [if_neg h0]
  have : (fun y => (rowT y).cps.toList) = rowL := funext fun y => toL_ofL _
  rw [this]
theorem Rw.w {l : List PV} (h : Rw l) : ∀ y ∈ l, Tw y := fun y hy => .inl (h.2.2 y hy)
theorem rows_is {ls : List (List PV)} (h : ∀ l ∈ ls, Rw l) (hl : ls.length ≤ 10) : F_rows_text [.tup (ls.map PV.tup)] = .ret (.str (rowsT ls)) := by
  unfold F_rows_text m_rows_text
  show (retP _ [val (.tup (ls.map PV.tup))]).bind finP = _
  refine fin_y (ret_y ?_)
  show ifV _ _ _ [val (.tup (ls.map PV.tup))] = _
  have t : asB (bin2 gtO (fun ρ => ((consA (fun ρ => getV ρ 0) (fun _ => M.ret [])) ρ).bind lenO) (fun _ => M.ret (.int 0))) [val (.tup (ls.map PV.tup))] = .ret (decide (ls ≠ [])) := by
    refine as_b ?_
    simp only [bin2, consA, gV0, rZ, lenT, gtI, List.length_map]
    congr 2
    cases ls with
    | nil => rfl
    | cons a r => simp only [List.length_cons]; rw [decide_eq_true (by omega)]; simp
  by_cases h0 : ls = []
  · subst h0
    rw [ifv_f t]
    rfl
  · rw [decide_eq_true h0] at t
    rw [ifv_t t]
    have e := lc_as (js := [none]) (mi := fun ρ => ((fun ρ => getV ρ 0) ρ).bind iterO) (bd := bindN 0) (tt := allTs) (te := fun ρ => ((consA (fun ρ => getV ρ 0) (fun _ => M.ret [])) ρ).bind F_row_text) (ρ := [val (.tup (ls.map PV.tup))]) (l := ls.map PV.tup) [.un] rfl (by rw [List.length_map]; omega) rfl
    have k : lcM (bindN 0) allTs (fun ρ => ((consA (fun ρ => getV ρ 0) (fun _ => M.ret [])) ρ).bind F_row_text) (ls.map PV.tup) [.un] = .ret ((ls.map PV.tup).map fun y => match y with | .tup l => PV.str (rowT l) | y => y) :=
      lcM_map (ρ := [.un]) _ _ (fun _ => rfl) fun y hy => by
        obtain ⟨l, hm, rfl⟩ := List.mem_map.mp hy
        exact (call1 (gV0 _ _)).trans (row_is (h l hm).w (Nat.le_trans (h l hm).2.1 (by decide)))
    rw [List.map_map] at k
    have g := lst_r (e.trans k)
    refine (bm_s rfl ?_).trans (rows_join h hl h0)
    rw [con1, g]; rfl
theorem lc_two {α : Type} {k : Nat} {te : PEnv → M PV} {g f : α → PV} {ρ : PEnv} : ∀ (l : List α) (ρ' : PEnv), (∀ e, ρ'.set k e = ρ.set k e) → (∀ y ∈ l, te (ρ.set k (.val (g y))) = .ret (f y)) → lcM (bindN k) allTs te (l.map g) ρ' = .ret (l.map f)
  | [], ρ', _, _ => rfl
  | y :: l, ρ', hρ, h => by
    rw [List.map_cons]
    unfold lcM
    simp only [bindN, allTs, rZ, if_true]
    rw [hρ, h y List.mem_cons_self, lc_two (f := f) (ρ := ρ) l _ (fun e => by rw [List.set_set]) fun y' hy => h y' (List.mem_cons_of_mem _ hy)]
    rfl
theorem sp_is {z c : Str} {ws : List (List Nat)} {c0 : Nat} {tl : List Nat} {ρ : PEnv} {mo : PEnv → M PV} (hm : mo ρ = .ret (.str z)) (hk : Builtin.Str.strKind c = 1) (hs : c.cps.toList = c0 :: tl) (hw : ∀ u ∈ ws, c0 ∉ u) (h0 : ws ≠ []) (ez : z.cps.toList = jn (c0 :: tl) ws) (hz : z.length ≤ 90000) : spM mo (consA (fun _ => M.ret (.str c)) (fun _ => M.ret [])) ρ = .ret (ws.map fun u => PV.str (ofL u)) := by
  have e := split_jn hk hs hw h0 ez
  have l0 : c.length ≠ 0 := by rw [len_toL, hs]; simp
  have lp : (splitP z c).length ≤ 100000 := by
    have := jn_parts c0 tl ws
    rw [← ez, ← len_toL] at this
    rw [e, List.length_map]; omega
  unfold spM
  rw [hm]
  simp only [rZ, tyP, if_true, consA, splitO]
  rw [if_pos ⟨l0, by omega, lp⟩, e, List.map_map]
  rfl
theorem kind1 : Builtin.Str.strKind " " = 1 := by decide +kernel
theorem kind2 : Builtin.Str.strKind ", " = 1 := by decide +kernel
theorem no_blank {y : PV} (h : Th y) : 32 ∉ wl y := fun hc => by have := (wl_ok h).2.2 32 hc; omega
theorem no_comma {y : PV} (h : Th y) : 44 ∉ wl y := fun hc => by have := (wl_ok h).2.2 44 hc; omega
theorem ofL_wl (y : PV) : ofL (wl y) = tx y := ofL_toL _
theorem lc_nn {l : List PV} {mi : PEnv → M (List PV)} {te : PEnv → M PV} {ρ : PEnv} {α : Type} {g f : α → PV} {ls : List α} (hm : mi ρ = .ret (ls.map g)) (hl : ls.length ≤ 100000) (h : ∀ y ∈ ls, te [.val (g y)] = .ret (f y)) : lstV (mkLC [none] mi (bindN 0) allTs te) ρ = .ret (.lst (ls.map f)) := by
  have e := lc_as (js := [none]) (mi := mi) (bd := bindN 0) (tt := allTs) (te := te) (ρ := ρ) (l := ls.map g) [.un] hm (by rw [List.length_map]; exact hl) rfl
  exact lst_r (e.trans (lc_two (ρ := [.un]) ls [.un] (fun _ => rfl) h))
theorem rowof_is {l : List PV} (h : Rw l) : F_row_of [.str (rowT l)] = .ret (.tup l) := by
  unfold F_row_of m_row_of
  show (retP _ [val (.str (rowT l))]).bind finP = _
  refine fin_y (ret_y ?_)
  have s := sp_is (z := rowT l) (c := " ") (ws := l.map wl) (c0 := 32) (tl := []) (ρ := [val (.str (rowT l))]) (mo := fun ρ => getV ρ 0) rfl kind1 blank (fun u hu => by
    obtain ⟨y, hy, rfl⟩ := List.mem_map.mp hu
    exact no_blank (h.2.2 y hy)) (by simpa using h.1) (toL_ofL _) (by
      show (ofL (rowL l)).length ≤ _
      rw [len_ofL]; exact Nat.le_trans (rowL_len h.2.2 h.2.1) (by decide))
  have g := lc_nn (l := l) (mi := fun ρ => ((lstV (spM (fun ρ => getV ρ 0) (consA (fun _ => M.ret (.str " ")) (fun _ => M.ret [])))) ρ).bind iterO) (te := fun ρ => ((consA (fun ρ => getV ρ 0) (fun _ => M.ret [])) ρ).bind F_thing_of) (ρ := [val (.str (rowT l))]) (ls := l) (g := fun y => .str (tx y)) (f := id) (by
    show M.bind _ _ = _
    rw [lst_r s]
    simp only [rZ, iterO, List.map_map]
    rfl) (by have := h.2.1; omega) fun y hy => (call1 (gV0 _ _)).trans (thing_is (h.2.2 y hy))
  refine (call1 g).trans ?_
  rw [List.map_id]; rfl
theorem rowL_head {l : List PV} (h : Rw l) : ∃ y r, l = y :: r ∧ ∃ q, rowL l = wl y ++ q := by
  cases l with
  | nil => exact absurd rfl h.1
  | cons y r =>
    refine ⟨y, r, rfl, ?_⟩
    cases r with
    | nil => exact ⟨[], by simp [rowL, jn]⟩
    | cons x r => exact ⟨[32] ++ rowL (x :: r), by simp [rowL, jn]⟩
def Rn (l : List PV) : Prop := Rw l ∧ ∃ z r, l = .str z :: r ∧ nameOk z = true
theorem rows_head {ls : List (List PV)} (h : ∀ l ∈ ls, Rn l) (h0 : ls ≠ []) : ∃ c q, rowsL ls = c :: q ∧ 97 ≤ c := by
  cases ls with
  | nil => exact absurd rfl h0
  | cons l ls =>
    obtain ⟨hw, z, r, rfl, hz⟩ := h l (by simp)
    obtain ⟨y, r', e, q, eq⟩ := rowL_head hw
    cases e
    obtain ⟨l0, _, hc⟩ := name_signs hz
    cases ez : z.cps.toList with
    | nil => rw [len_toL, ez] at l0; simp at l0
    | cons c t =>
      have ew : wl (.str z) = c :: t := ez
      have : ∃ q', rowsL ((.str z :: r) :: ls) = rowL (.str z :: r) ++ q' := by
        unfold rowsL
        rw [if_neg (by simp)]
        cases ls with
        | nil => exact ⟨[], by simp [jn]⟩
        | cons a b => exact ⟨[44, 32] ++ jn [44, 32] ((a :: b).map rowL), by simp [jn]⟩
      obtain ⟨q', e'⟩ := this
      exact ⟨c, t ++ q ++ q', by rw [e', eq, ew]; simp, (hc c (by rw [ez]; simp)).1⟩
theorem rowsof_is {ls : List (List PV)} (h : ∀ l ∈ ls, Rn l) (hl : ls.length ≤ 10) : F_rows_of [.str (rowsT ls)] = .ret (.tup (ls.map PV.tup)) := by
  unfold F_rows_of m_rows_of
  show (retP _ [val (.str (rowsT ls))]).bind finP = _
  refine fin_y (ret_y ?_)
  show ifV _ _ _ [val (.str (rowsT ls))] = _
  have em : ("-" : Str).cps.toList = [45] := by decide +kernel
  have t : asB (bin2 (eqO false) (fun ρ => getV ρ 0) (fun _ => M.ret (.str "-"))) [val (.str (rowsT ls))] = .ret (decide (ls = [])) := by
    refine as_b ?_
    simp only [bin2, gV0, rZ, eqS]
    congr 2
    rw [str_beq, em]
    show ((ofL (rowsL ls)).cps.toList == [45]) = _
    rw [toL_ofL]
    by_cases h0 : ls = []
    · subst h0; rfl
    · obtain ⟨c, q, e, hc⟩ := rows_head h h0
      rw [e, decide_eq_false h0]
      have : c ≠ 45 := by omega
      simp [this]
  by_cases h0 : ls = []
  · subst h0
    rw [decide_eq_true rfl] at t
    rw [ifv_t t]
    simp only [rZ, mkT0]; rfl
  · rw [decide_eq_false h0] at t
    rw [ifv_f t]
    have s := sp_is (z := rowsT ls) (c := ", ") (ws := ls.map rowL) (c0 := 44) (tl := [32]) (ρ := [val (.str (rowsT ls))]) (mo := fun ρ => getV ρ 0) rfl kind2 comma (fun u hu hc => by
      obtain ⟨l, hm, rfl⟩ := List.mem_map.mp hu
      rcases jn_in hc with hc | ⟨x, hx, hc⟩
      · simp at hc
      · obtain ⟨y, hy, rfl⟩ := List.mem_map.mp hx
        exact no_comma ((h l hm).1.2.2 y hy) hc) (by simpa using h0) (by
        show (ofL (rowsL ls)).cps.toList = _
        rw [toL_ofL]; unfold rowsL; rw [if_neg h0]) (by
        show (ofL (rowsL ls)).length ≤ _
        rw [len_ofL]; exact Nat.le_trans (rowsL_len (fun l hm => (h l hm).1) hl) (by decide))
    have g := lc_nn (l := []) (mi := fun ρ => ((lstV (spM (fun ρ => getV ρ 0) (consA (fun _ => M.ret (.str ", ")) (fun _ => M.ret [])))) ρ).bind iterO) (te := fun ρ => ((consA (fun ρ => getV ρ 0) (fun _ => M.ret [])) ρ).bind F_row_of) (ρ := [val (.str (rowsT ls))]) (ls := ls) (g := fun l => .str (rowT l)) (f := PV.tup) (by
      show M.bind _ _ = _
      rw [lst_r s]
      simp only [rZ, iterO, List.map_map]
      rfl) (by omega) fun l hm => (call1 (gV0 _ _)).trans (rowof_is (h l hm).1)
    exact call1 g
inductive Pg : List PV → Prop
  | flat (w : Str) (a b : Int) (r : List PV) : (w = "look" ∨ w = "read") → Rw (.str w :: .int a :: .int b :: r) → (w = "look" → ∃ c, r = [.str c]) → (w = "read" → ∃ c v, r = [.str c, .int v]) → Pg (.str w :: .int a :: .int b :: r)
  | rule (a b : Int) (c : Str) (ls : List (List PV)) : Rw [.str "rule", .int a, .int b, .str c] → ls.length ≤ 6 → (∀ l ∈ ls, Rn l) → Pg [.str "rule", .int a, .int b, .str c, .tup (ls.map PV.tup)]
noncomputable def pgT : List PV → Str
  | [.str w, a, b, c, .tup rs] => rowT [.str w, a, b, c, .str (rowsT (rs.map fun r => match r with | .tup l => l | _ => []))]
  | l => rowT l
theorem untup (ls : List (List PV)) : (ls.map PV.tup).map (fun r => match r with | .tup l => l | _ => []) = ls := by
  rw [List.map_map]
  exact (List.map_congr_left fun l _ => rfl).trans (List.map_id ls)
theorem pgT_rule (a b : Int) (c : Str) (ls : List (List PV)) : pgT [.str "rule", .int a, .int b, .str c, .tup (ls.map PV.tup)] = rowT [.str "rule", .int a, .int b, .str c, .str (rowsT ls)] := by
  show rowT [_, _, _, _, .str (rowsT ((ls.map PV.tup).map _))] = _
  rw [untup]
theorem w_rule (w : Str) (r : List PV) (h : w = "look" ∨ w = "read") : asB (bin2 (eqO false) (bin2 ixO (fun ρ => getV ρ 0) (fun _ => M.ret (.int 0))) (fun _ => M.ret (.str "rule"))) [val (.tup (.str w :: r))] = .ret false := by
  refine as_b ?_
  simp only [bin2, gV0, rZ, ixO, at0, M.ofO, eqS]
  rcases h with rfl | rfl <;> rfl
theorem tw_rule {a b : Int} {c : Str} {ls : List (List PV)} (h : Rw [.str "rule", .int a, .int b, .str c]) (hl : ls.length ≤ 6) (hr : ∀ l ∈ ls, Rn l) : ∀ y ∈ ([.str "rule", .int a, .int b, .str c, .str (rowsT ls)] : List PV), Tw y := fun y hy => by
  have hy : y ∈ ([.str "rule", .int a, .int b, .str c] : List PV) ++ [.str (rowsT ls)] := hy
  rcases List.mem_append.mp hy with hy | hy
  · exact h.w y hy
  · rw [List.mem_singleton.mp hy]
    refine .inr ⟨_, rfl, ?_⟩
    show (ofL (rowsL ls)).length ≤ _
    rw [len_ofL]; exact Nat.le_trans (rowsL_len (fun l hm => (hr l hm).1) (by omega)) (by decide)
theorem pagetext_is {l : List PV} (h : Pg l) : F_page_text [.tup l] = .ret (.str (pgT l)) := by
  unfold F_page_text m_page_text
  cases h with
  | flat w a b r hw hr h1 h2 =>
    show (seqP _ _ [val (.tup (.str w :: .int a :: .int b :: r))]).bind finP = _
    refine seq_nx (if_f (w_rule w _ hw)) (fin_y (ret_y ?_))
    refine (call1 (gV0 _ _)).trans ((row_is hr.w (by have := hr.2.1; omega)).trans ?_)
    rcases hw with rfl | rfl
    · obtain ⟨c, rfl⟩ := h1 rfl; rfl
    · obtain ⟨c, v, rfl⟩ := h2 rfl; rfl
  | rule a b c ls hw hl hr =>
    show (seqP _ _ [val (.tup [.str "rule", .int a, .int b, .str c, .tup (ls.map PV.tup)])]).bind finP = _
    refine seq_rt ((if_t (as_b (by simp only [bin2, gV0, rZ, ixO, at0, M.ofO, eqS]; rfl))).trans (ret_y ?_))
    have rs := rows_is (fun l hm => (hr l hm).1) (Nat.le_trans hl (by decide))
    have e4 : atI [PV.str "rule", .int a, .int b, .str c, .tup (ls.map PV.tup)] 4 = some (.tup (ls.map PV.tup)) := at4 _ _ _ _ _ _
    have ad : addO (.tup (cutP [PV.str "rule", .int a, .int b, .str c, .tup (ls.map PV.tup)] none (some 4))) (.tup [.str (rowsT ls)]) = .ret (.tup [.str "rule", .int a, .int b, .str c, .str (rowsT ls)]) := rfl
    rw [pgT_rule]
    refine (call1 (y := .tup [.str "rule", .int a, .int b, .str c, .str (rowsT ls)]) ?_).trans (row_is (tw_rule hw hl hr) (by simp))
    simp only [List.map, Ent.freeze, bin2, sl3, consA, gV0, rZ, intM, slE, ixO, e4, M.ofO, rs, mkT1, ad]
theorem rows2_is {ls : List (List PV)} (h : ∀ l ∈ ls, Rw l) (hl : ls.length ≤ 10) : F_law_rules_text [.tup (ls.map PV.tup)] = .ret (.str (rowsT ls)) := by
  unfold F_law_rules_text m_law_rules_text
  show (seqP _ _ [val (.tup (ls.map PV.tup)), un]).bind finP = _
  have g := lc_nn (l := []) (mi := fun ρ => ((fun ρ => getV ρ 0) ρ).bind iterO) (te := bmP "str" joinO (fun _ => M.ret (.str " ")) (consA (lstV (mkLC [none] (fun ρ => ((fun ρ => getV ρ 0) ρ).bind iterO) (bindN 0) allTs (fun ρ => ((consA (fun ρ => getV ρ 0) (fun _ => M.ret [])) ρ).bind strA))) (fun _ => M.ret []))) (ρ := [val (.tup (ls.map PV.tup)), un]) (ls := ls) (g := PV.tup) (f := fun l => .str (rowT l)) rfl (by omega) fun l hm => by
    have e := lc_as (js := [none]) (mi := fun ρ => ((fun ρ => getV ρ 0) ρ).bind iterO) (bd := bindN 0) (tt := allTs) (te := fun ρ => ((consA (fun ρ => getV ρ 0) (fun _ => M.ret [])) ρ).bind strA) (ρ := [val (.tup l)]) (l := l) [.un] rfl (by have := (h l hm).2.1; omega) rfl
    have g := lst_r (e.trans (words_lc (h l hm).w))
    refine (bm_s rfl ?_).trans (row_join (h l hm).w (by have := (h l hm).2.1; omega))
    rw [con1, g]; rfl
  refine seq_nx (ρ' := [val (.tup (ls.map PV.tup)), val (.lst (ls.map fun l => .str (rowT l)))]) (by unfold setP; rw [g]; rfl) ?_
  refine fin_y (ret_y ?_)
  show ifV _ _ _ [val (.tup (ls.map PV.tup)), val (.lst (ls.map fun l => .str (rowT l)))] = _
  have t : asB (bin2 (eqO true) (fun ρ => getV ρ 1) (lstV (fun ρ => ((fun _ => M.ret []) ρ).bind mkLst))) [val (.tup (ls.map PV.tup)), val (.lst (ls.map fun l => .str (rowT l)))] = .ret (!(ls.map fun l => PV.str (rowT l)).isEmpty) := by
    refine as_b ?_
    simp only [bin2, gV0, gVs, rZ, lstV, mkL0, neL]
  by_cases h0 : ls = []
  · subst h0
    rw [ifv_f t]; rfl
  · have : (!(ls.map fun l => PV.str (rowT l)).isEmpty) = true := by cases ls <;> simp_all
    rw [this] at t
    rw [ifv_t t]
    exact (bm_s rfl rfl).trans (rows_join h hl h0)
theorem snoc_T {f : List PV} (hf : f ≠ []) (y : PV) : (rowT f ++ " ") ++ tx y = rowT (f ++ [y]) := by
  refine str_ext ?_
  rw [app_toL, app_toL, blank]
  show (ofL (rowL f)).cps.toList ++ [32] ++ wl y = (ofL (rowL (f ++ [y]))).cps.toList
  rw [toL_ofL, toL_ofL]
  unfold rowL
  rw [List.map_append, List.map_cons, List.map_nil, jn_snoc _ _ _ (by simpa using hf)]
theorem row4_len {l : List PV} (h : Rw l) : (rowT l).length ≤ 620 := by
  show (ofL (rowL l)).length ≤ _
  rw [len_ofL]; exact rowL_len h.2.2 h.2.1
theorem adds {f : List PV} (hf : Rw f) {y : PV} (hy : Tw y) : bin2 addO (bin2 addO (fun _ => M.ret (.str (rowT f))) (fun _ => M.ret (.str " "))) (fun _ => M.ret (.str (tx y))) [] = .ret (.str (rowT (f ++ [y]))) := by
  have l1 := row4_len hf
  have l2 := hy.len
  have l3 : (" " : Str).length = 1 := by decide +kernel
  have l4 : (rowT f ++ " ").length = (rowT f).length + 1 := by
    rw [len_toL, app_toL, blank, len_toL]; simp
  simp only [bin2, rZ, addO]
  rw [if_pos (by rw [l3]; omega)]
  simp only [rZ, addO]
  rw [if_pos (by rw [l4]; omega), snoc_T hf.1]
theorem adds2 {f : List PV} {r : List PV} {y z : PV} {m : PEnv → M PV} {ρ : PEnv} (hf : Rw f) (hy : Tw y) (e : ρ = [val z, val (.str (rowT f))]) (hm : m ρ = .ret (.str (tx y))) : bin2 addO (bin2 addO (fun ρ => getV ρ 1) (fun _ => M.ret (.str " "))) m ρ = .ret (.str (rowT (f ++ [y]))) := by
  have := adds hf hy
  subst e
  simp only [bin2, gVs, gV0, rZ, hm] at this ⊢
  exact this
theorem first4 {w c : Str} {a b : Int} {r : List PV} (h : Rw [.str w, .int a, .int b, .str c]) : setP 1 (bmP "str" joinO (fun _ => M.ret (.str " ")) (consA (lstV (fun ρ => ((consA (bin2 ixO (fun ρ => getV ρ 0) (fun _ => M.ret (.int 0))) (consA (fun ρ => ((consA (bin2 ixO (fun ρ => getV ρ 0) (fun _ => M.ret (.int 1))) (fun _ => M.ret [])) ρ).bind strA) (consA (fun ρ => ((consA (bin2 ixO (fun ρ => getV ρ 0) (fun _ => M.ret (.int 2))) (fun _ => M.ret [])) ρ).bind strA) (consA (bin2 ixO (fun ρ => getV ρ 0) (fun _ => M.ret (.int 3))) (fun _ => M.ret []))))) ρ).bind mkLst)) (fun _ => M.ret []))) [val (.tup (.str w :: .int a :: .int b :: .str c :: r)), un] = .ret (.nx [val (.tup (.str w :: .int a :: .int b :: .str c :: r)), val (.str (rowT [.str w, .int a, .int b, .str c]))]) := by
  have s1 := str_is (h.2.2 (.int a) (by simp))
  have s2 := str_is (h.2.2 (.int b) (by simp))
  have j := row_join (l := [.str w, .int a, .int b, .str c]) h.w (by simp)
  have e : lstV (fun ρ => ((consA (bin2 ixO (fun ρ => getV ρ 0) (fun _ => M.ret (.int 0))) (consA (fun ρ => ((consA (bin2 ixO (fun ρ => getV ρ 0) (fun _ => M.ret (.int 1))) (fun _ => M.ret [])) ρ).bind strA) (consA (fun ρ => ((consA (bin2 ixO (fun ρ => getV ρ 0) (fun _ => M.ret (.int 2))) (fun _ => M.ret [])) ρ).bind strA) (consA (bin2 ixO (fun ρ => getV ρ 0) (fun _ => M.ret (.int 3))) (fun _ => M.ret []))))) ρ).bind mkLst) [val (.tup (.str w :: .int a :: .int b :: .str c :: r)), un] = .ret (.lst [.str w, .str (tx (.int a)), .str (tx (.int b)), .str c]) := by
    simp only [lstV, consA, bin2, gV0, rZ, ixO, at0, at1, at2, at3, M.ofO, s1, s2, mkL4]
  unfold setP
  rw [(bm_s rfl (by rw [con1, e]; rfl)).trans j]
  rfl
theorem w_is (k w : Str) (r : List PV) (e : Ent) : asB (bin2 (eqO false) (bin2 ixO (fun ρ => getV ρ 0) (fun _ => M.ret (.int 0))) (fun _ => M.ret (.str k))) [val (.tup (.str w :: r)), e] = .ret (w == k) := by
  refine as_b ?_
  simp only [bin2, gV0, rZ, ixO, at0, M.ofO, eqS]
theorem Rw.take4 {w c : Str} {a b : Int} {r : List PV} (h : Rw (.str w :: .int a :: .int b :: .str c :: r)) : Rw [.str w, .int a, .int b, .str c] := ⟨by simp, by simp, fun y hy => h.2.2 y (by simp at hy ⊢; rcases hy with h | h | h | h <;> simp [h])⟩
theorem pagetext2_is {l : List PV} (h : Pg l) : F_law_page_text [.tup l] = .ret (.str (pgT l)) := by
  unfold F_law_page_text m_law_page_text
  cases h with
  | flat w a b r hw hr h1 h2 =>
    rcases hw with rfl | rfl
    · obtain ⟨c, rfl⟩ := h1 rfl
      show (seqP _ _ [val (.tup [.str "look", .int a, .int b, .str c]), un]).bind finP = _
      refine seq_nx (first4 hr.take4) ?_
      exact seq_rt ((if_t (w_is _ _ _ _)).trans (ret_y rfl))
    · obtain ⟨c, v, rfl⟩ := h2 rfl
      show (seqP _ _ [val (.tup [.str "read", .int a, .int b, .str c, .int v]), un]).bind finP = _
      refine seq_nx (first4 hr.take4) ?_
      refine seq_nx (if_f (w_is _ _ _ _)) (fin_y (ret_y ?_))
      have hv := hr.2.2 (.int v) (by simp)
      refine (adds2 (r := []) (y := .int v) hr.take4 (.inl hv) rfl ?_).trans rfl
      rw [ifv_t (w_is _ _ _ _)]
      show M.bind _ _ = _
      simp only [List.map, Ent.freeze, consA, bin2, gV0, rZ, ixO, at4, M.ofO, str_is hv]
  | rule a b c ls hw hl hr =>
    show (seqP _ _ [val (.tup [.str "rule", .int a, .int b, .str c, .tup (ls.map PV.tup)]), un]).bind finP = _
    refine seq_nx (first4 hw) ?_
    refine seq_nx (if_f (w_is _ _ _ _)) (fin_y (ret_y ?_))
    have ht := tw_rule hw hl hr (.str (rowsT ls)) (by simp)
    have rs := rows2_is (fun l hm => (hr l hm).1) (Nat.le_trans hl (by decide))
    rw [pgT_rule]
    refine (adds2 (r := []) (y := .str (rowsT ls)) hw ht rfl ?_).trans rfl
    rw [ifv_f (w_is _ _ _ _)]
    show M.bind _ _ = _
    simp only [List.map, Ent.freeze, consA, bin2, gV0, rZ, ixO, at4, M.ofO, rs]
    rfl
theorem join_parts {ps : List (List Nat)} (h : (jn [32] ps).length ≤ 90000) : joinO (.str " ") [.lst (ps.map fun u => PV.str (ofL u))] = .ret (.str (ofL (jn [32] ps))) := by
  have hp := jn_parts 32 [] ps
  have e : Txt.join " " (ps.map ofL) = ofL (jn [32] ps) := by
    refine str_ext ?_
    rw [join_toL, toL_ofL, blank, List.map_map]
    exact congrArg (jn [32]) ((List.map_congr_left fun u _ => toL_ofL u).trans (List.map_id _))
  have es : ((ps.map ofL).map (·.length)).sum = (ps.map List.length).sum := by
    rw [List.map_map]
    exact congrArg List.sum (List.map_congr_left fun u _ => len_ofL u)
  have l3 : (" " : Str).length = 1 := by decide +kernel
  simp only [joinO, strs_map, M.ofO, rZ]
  rw [if_pos (by rw [es, List.length_map, l3]; omega), e]
theorem cut_a (A B : List PV) (h : A.length = 4) : cutP (A ++ B) none (some 4) = A := by
  unfold cutP
  have e : HT.sIx (A ++ B).length (A ++ B).length (some 4) = 4 := by
    simp only [HT.sIx, List.length_append, h]; first | omega | (simp; done) | (simp; omega)
  have e0 : HT.sIx (A ++ B).length 0 none = 0 := rfl
  rw [e, e0, List.drop_zero, Nat.sub_zero, ← h, List.take_left']
  rfl
theorem cut_b (A B : List PV) (h : A.length = 4) : cutP (A ++ B) (some 4) none = B := by
  unfold cutP
  have e : HT.sIx (A ++ B).length 0 (some 4) = 4 := by
    simp only [HT.sIx, List.length_append, h]; first | omega | (simp; done) | (simp; omega)
  have e0 : HT.sIx (A ++ B).length (A ++ B).length none = (A ++ B).length := rfl
  rw [e, e0, ← h, List.drop_left' rfl, List.length_append, Nat.add_sub_cancel_left, List.take_length]
theorem bin_r {op : PV → PV → M PV} {a b : PEnv → M PV} {ρ : PEnv} {x y : PV} (ha : a ρ = .ret x) (hb : b ρ = .ret y) : bin2 op a b ρ = op x y := by unfold bin2; rw [ha]; simp only [rZ]; rw [hb]; rfl
theorem rowT_len {l : List PV} (h : ∀ y ∈ l, Tw y) (hl : l.length ≤ 6) : (rowT l).length ≤ 60006 := by
  show (ofL (rowL l)).length ≤ _
  rw [len_ofL]
  have := jn_len [32] 10000 (l.map wl) (fun x hx => by
    obtain ⟨y, hy, rfl⟩ := List.mem_map.mp hx
    have := (h y hy).len
    rw [len_toL] at this
    exact this)
  simp only [List.length_map, List.length_cons, List.length_nil] at this
  unfold rowL
  omega
theorem pageof_is {l : List PV} (h : Pg l) : F_page_of [.str (pgT l)] = .ret (.tup l) := by
  unfold F_page_of m_page_of
  cases h with
  | flat w a b r hw hr h1 h2 =>
    have ep : pgT (.str w :: .int a :: .int b :: r) = rowT (.str w :: .int a :: .int b :: r) := by
      rcases hw with rfl | rfl
      · obtain ⟨c, rfl⟩ := h1 rfl; rfl
      · obtain ⟨c, v, rfl⟩ := h2 rfl; rfl
    rw [ep]
    have s := sp_is (z := rowT (.str w :: .int a :: .int b :: r)) (c := " ") (ws := (.str w :: .int a :: .int b :: r).map wl) (c0 := 32) (tl := []) (ρ := [val (.str (rowT (.str w :: .int a :: .int b :: r))), un]) (mo := fun ρ => getV ρ 0) rfl kind1 blank (fun u hu => by
      obtain ⟨y, hy, rfl⟩ := List.mem_map.mp hu
      exact no_blank (hr.2.2 y hy)) (by simp) (show (ofL (rowL _)).cps.toList = _ by rw [toL_ofL]; rfl) (Nat.le_trans (row4_len hr) (by decide))
    have g := lst_r s
    show (seqP _ _ [val (.str (rowT (.str w :: .int a :: .int b :: r))), un]).bind finP = _
    refine seq_nx (ρ' := [val (.str (rowT (.str w :: .int a :: .int b :: r))), val (.lst (((.str w :: .int a :: .int b :: r).map wl).map fun u => PV.str (ofL u)))]) (by unfold setP; rw [g]; rfl) ?_
    have t : asB (bin2 (eqO false) (bin2 ixO (fun ρ => getV ρ 1) (fun _ => M.ret (.int 0))) (fun _ => M.ret (.str "rule"))) [val (.str (rowT (.str w :: .int a :: .int b :: r))), val (.lst (((.str w :: .int a :: .int b :: r).map wl).map fun u => PV.str (ofL u)))] = .ret false := by
      refine as_b ?_
      rw [List.map_cons, List.map_cons]
      simp only [bin2, gV0, gVs, rZ, ixO, at0, M.ofO, ofL_wl, tx, eqS]
      rcases hw with rfl | rfl <;> rfl
    refine seq_nx (if_f t) (fin_y (ret_y ?_))
    exact (call1 (gV0 _ _)).trans (rowof_is hr)
  | rule a b c ls hw hl hr =>
    rw [pgT_rule]
    obtain ⟨ps, p0, p1, p2⟩ := cut_at 32 (rowsL ls)
    obtain ⟨z, hz⟩ : ∃ z, z = rowT [.str "rule", .int a, .int b, .str c, .str (rowsT ls)] := ⟨_, rfl⟩
    have lz : z.length ≤ 60006 := hz ▸ rowT_len (tw_rule hw hl hr) (by simp)
    have ez : z.cps.toList = jn [32] (([.str "rule", .int a, .int b, .str c] : List PV).map wl ++ ps) := by
      rw [hz]
      show (ofL (rowL _)).cps.toList = _
      rw [toL_ofL, ← jn_app _ _ p0, p2]
      have : wl (.str (rowsT ls)) = rowsL ls := toL_ofL _
      show jn [32] (([.str "rule", .int a, .int b, .str c] : List PV).map wl ++ [wl (.str (rowsT ls))]) = _
      rw [this]
    rw [← hz]
    have s := sp_is (z := z) (c := " ") (ws := ([.str "rule", .int a, .int b, .str c] : List PV).map wl ++ ps) (c0 := 32) (tl := []) (ρ := [val (.str z), un]) (mo := fun ρ => getV ρ 0) rfl kind1 blank (fun u hu => by
      rcases List.mem_append.mp hu with hu | hu
      · obtain ⟨y, hy, rfl⟩ := List.mem_map.mp hu
        exact no_blank (hw.2.2 y hy)
      · exact p1 u hu) (by simp) ez (by omega)
    rw [List.map_append] at s
    obtain ⟨A, hA⟩ : ∃ A, A = (([.str "rule", .int a, .int b, .str c] : List PV).map wl).map fun u => PV.str (ofL u) := ⟨_, rfl⟩
    obtain ⟨B, hB⟩ : ∃ B, B = ps.map fun u => PV.str (ofL u) := ⟨_, rfl⟩
    rw [← hA, ← hB] at s
    have lA : A.length = 4 := by rw [hA]; rfl
    have g := lst_r s
    show (seqP _ _ [val (.str z), un]).bind finP = _
    refine seq_nx (ρ' := [val (.str z), val (.lst (A ++ B))]) (by unfold setP; rw [g]; rfl) ?_
    have t : asB (bin2 (eqO false) (bin2 ixO (fun ρ => getV ρ 1) (fun _ => M.ret (.int 0))) (fun _ => M.ret (.str "rule"))) [val (.str z), val (.lst (A ++ B))] = .ret true := by
      refine as_b ?_
      rw [hA, List.map_cons, List.map_cons, List.cons_append]
      simp only [bin2, gV0, gVs, rZ, ixO, at0, M.ofO, ofL_wl, tx, eqS]
      rfl
    have jA : joinO (.str " ") [.lst A] = .ret (.str (rowT [.str "rule", .int a, .int b, .str c])) := by
      rw [hA, join_parts (by
        show (rowL [.str "rule", .int a, .int b, .str c]).length ≤ _
        exact Nat.le_trans (rowL_len hw.2.2 hw.2.1) (by decide))]
      rfl
    have jB : joinO (.str " ") [.lst B] = .ret (.str (rowsT ls)) := by
      rw [hB, join_parts (by rw [p2]; exact Nat.le_trans (rowsL_len (fun l hm => (hr l hm).1) (by omega)) (by decide)), p2]
      rfl
    have r1 := rowof_is hw
    have r2 := rowsof_is hr (Nat.le_trans hl (by decide))
    refine seq_rt ((if_t t).trans (ret_y ?_))
    have b1 : bmP "str" joinO (fun _ => M.ret (.str " ")) (consA (sl3 slE (fun ρ => getV ρ 1) (fun _ => M.ret none) (fun ρ => ((fun _ => M.ret (.int 4)) ρ).bind fun y => (intM y).bind fun i => M.ret (some i))) (fun _ => M.ret [])) [val (.str z), val (.lst (A ++ B))] = .ret (.str (rowT [.str "rule", .int a, .int b, .str c])) := by
      refine (bm_s rfl ?_).trans jA
      simp only [consA, sl3, gV0, gVs, rZ, intM, slE, cut_a A B lA]
    have b2 : bmP "str" joinO (fun _ => M.ret (.str " ")) (consA (sl3 slE (fun ρ => getV ρ 1) (fun ρ => ((fun _ => M.ret (.int 4)) ρ).bind fun y => (intM y).bind fun i => M.ret (some i)) (fun _ => M.ret none)) (fun _ => M.ret [])) [val (.str z), val (.lst (A ++ B))] = .ret (.str (rowsT ls)) := by
      refine (bm_s rfl ?_).trans jB
      simp only [consA, sl3, gV0, gVs, rZ, intM, slE, cut_b A B lA]
    have c1 := (call1 (F := F_row_of) b1).trans r1
    have c2 := (call1 (F := F_rows_of) b2).trans r2
    exact (bin_r c1 ((call1 c2).trans (mkT1 _))).trans rfl
theorem readpage_is {h : PV} {l : List PV} {ps : List (Str × List PV)} {dark : Int} (U : HillU h ps dark) (hp : Pg l) (hf : FineP (.tup l)) (ok : pageOk ps dark (.tup l) = true) : F_read_page [h, .str (pgT l)] = .ret (.tup l) := by
  have e1 := pageof_is hp
  have e2 := page_is U hf
  unfold F_read_page m_read_page
  show (seqP _ _ [val h, val (.str (pgT l))]).bind finP = _
  have c1 := call1 (ρ := [val h, val (.str (pgT l))]) (f := fun ρ => getV ρ 1) (F := F_page_of) (y := .str (pgT l)) rfl
  rw [e1] at c1
  refine seq_nx (ρ' := [val h, val (.str (pgT l))]) (if_f ((c_or (c_not (x := true) (as_b rfl)) (c_not (x := true) (as_b ?_))).trans rfl)) (fin_y (ret_y c1))
  rw [ok] at e2
  rw [show consA (fun ρ => getV ρ 0) (consA (fun ρ => ((consA (fun ρ => getV ρ 1) (fun _ => M.ret [])) ρ).bind F_page_of) (fun _ => M.ret [])) [val h, val (.str (pgT l))] = .ret [h, .tup l] by
    show M.bind _ _ = _
    rw [show (fun ρ : PEnv => getV ρ 0) [val h, val (.str (pgT l))] = .ret h from rfl]
    simp only [rZ]
    rw [con1, c1]; rfl]
  exact e2
theorem th_int {i : Int} (h0 : -1000002 ≤ i) (h1 : i ≤ 1000002) : Th (.int i) := .inl ⟨i, rfl, by omega, by omega⟩
theorem th_big {i : Int} (h0 : -(10 ^ 60) < i) (h1 : i < 10 ^ 60) : Th (.int i) := .inl ⟨i, rfl, h0, h1⟩
theorem th_str {z : Str} (h : nameOk z = true) : Th (.str z) := .inr ⟨z, rfl, h⟩
theorem Th.fine {y : PV} (h : Th y) : Fine y ∧ FineT y ∧ FineTT y := by
  rcases h with ⟨i, rfl, _⟩ | ⟨z, rfl, hz⟩
  · exact ⟨fine_int i, ⟨fun e => (by cases e), fun l e => (by cases e)⟩, ⟨fun e => (by cases e), fun l e => (by cases e)⟩⟩
  · exact ⟨fine_str z (Nat.le_trans (ok_len hz) (by decide)), ⟨fun e => (by cases e), fun l e => (by cases e)⟩, ⟨fun e => (by cases e), fun l e => (by cases e)⟩⟩
theorem post_th {y : PV} (h : postOk y) : ∃ z, y = .str z ∧ nameOk z = true := by
  rcases h with rfl | rfl | rfl | rfl <;> exact ⟨_, rfl, by decide +kernel⟩
theorem rw_of {l : List PV} (h0 : l ≠ []) (hl : l.length ≤ 10) (h : ∀ y ∈ l, Th y) : Rw l := ⟨h0, hl, h⟩
theorem th_cons {y : PV} {l : List PV} (h : Th y) (hl : ∀ y ∈ l, Th y) : ∀ x ∈ y :: l, Th x := fun x hx => by
  rcases List.mem_cons.mp hx with rfl | hx
  · exact h
  · exact hl x hx
theorem th_nil : ∀ x ∈ ([] : List PV), Th x := fun x hx => by simp at hx
theorem nm_in {ps : List (Str × List PV)} {p : Str × List PV} (h : p ∈ ps) : nmIn ps (.str p.1) = true := by
  show (ps.any fun q => q.1 == p.1) = true
  exact List.any_eq_true.mpr ⟨p, h, beq_self_eq_true _⟩
theorem rule_x {h z : PV} {ps : List (Str × List PV)} {dark : Int} (H : HillOk h ps dark) (hz : RuleX ps z) : ∃ l, z = .tup l ∧ Rn l ∧ ruleOk ps z = true := by
  obtain ⟨_, _, _, _, hn, _⟩ := H
  cases hz with
  | hours a b h0 h1 h2 =>
    refine ⟨_, rfl, ⟨rw_of (by simp) (by simp) (th_cons (th_str (by decide +kernel)) (th_cons (th_int (by omega) (by omega)) (th_cons (th_int (by omega) (by omega)) th_nil))), _, _, rfl, by decide +kernel⟩, ?_⟩
    show (inW 0 1000001 (.int a) && (inW 0 1000001 (.int b) && ltI (.int a) (.int b))) = true
    simp only [inW, ltI]
    rw [decide_eq_true h0, decide_eq_true (by omega : a ≤ 1000001), decide_eq_true (by omega : 0 ≤ b), decide_eq_true h2, decide_eq_true h1]; rfl
  | least y n hy n0 n1 =>
    obtain ⟨w, rfl, hw⟩ := post_th hy
    refine ⟨_, rfl, ⟨rw_of (by simp) (by simp) (th_cons (th_str (by decide +kernel)) (th_cons (th_str hw) (th_cons (th_big n0 n1) th_nil))), _, _, rfl, by decide +kernel⟩, ?_⟩
    show (nameOk w && true) = true
    rw [hw]; rfl
  | most y n hy n0 n1 =>
    obtain ⟨w, rfl, hw⟩ := post_th hy
    refine ⟨_, rfl, ⟨rw_of (by simp) (by simp) (th_cons (th_str (by decide +kernel)) (th_cons (th_str hw) (th_cons (th_big n0 n1) th_nil))), _, _, rfl, by decide +kernel⟩, ?_⟩
    show (nameOk w && true) = true
    rw [hw]; rfl
  | looked n n0 n1 =>
    refine ⟨_, rfl, ⟨rw_of (by simp) (by simp) (th_cons (th_str (by decide +kernel)) (th_cons (th_int (by omega) (by omega)) th_nil)), _, _, rfl, by decide +kernel⟩, ?_⟩
    show inW 1 1000000 (.int n) = true
    simp only [inW]
    rw [decide_eq_true n0, decide_eq_true n1]; rfl
  | withW p hp =>
    exact ⟨_, rfl, ⟨rw_of (by simp) (by simp) (th_cons (th_str (by decide +kernel)) (th_cons (th_str (hn p hp)) th_nil)), _, _, rfl, by decide +kernel⟩, nm_in hp⟩
  | never => exact ⟨_, rfl, ⟨rw_of (by simp) (by simp) (th_cons (th_str (by decide +kernel)) th_nil), _, _, rfl, by decide +kernel⟩, rfl⟩
theorem list_of {α : Type} {f : α → PV} {P : α → Prop} : ∀ (l : List PV), (∀ z ∈ l, ∃ q, z = f q ∧ P q) → ∃ qs : List α, l = qs.map f ∧ ∀ q ∈ qs, P q
  | [], _ => ⟨[], rfl, by simp⟩
  | z :: l, h => by
    obtain ⟨q, rfl, hq⟩ := h z (by simp)
    obtain ⟨qs, rfl, hs⟩ := list_of l (fun z hz => h z (by simp [hz]))
    refine ⟨q :: qs, rfl, fun x hx => ?_⟩
    rcases List.mem_cons.mp hx with rfl | hx
    · exact hq
    · exact hs x hx
theorem rules_x {h r : PV} {ps : List (Str × List PV)} {dark : Int} (H : HillOk h ps dark) (hr : RulesX ps r) : ∃ ls : List (List PV), r = .tup (ls.map PV.tup) ∧ ls.length ≤ 6 ∧ (∀ l ∈ ls, Rn l) ∧ rulesOk ps r = true := by
  obtain ⟨l, rfl, hl, hz⟩ := hr
  obtain ⟨ls, rfl, hs⟩ := list_of (f := PV.tup) (P := fun q => Rn q ∧ ruleOk ps (.tup q) = true) l (fun z hm => by
    obtain ⟨q, rfl, h1, h2⟩ := rule_x H (hz z hm)
    exact ⟨q, rfl, h1, h2⟩)
  rw [List.length_map] at hl
  refine ⟨ls, rfl, hl, fun l hm => (hs l hm).1, ?_⟩
  show (decide ((ls.map PV.tup).length ≤ 6) && (ls.map PV.tup).all (ruleOk ps)) = true
  rw [List.length_map, decide_eq_true hl, Bool.true_and]
  exact List.all_eq_true.mpr fun z hz => by
    obtain ⟨q, hq, rfl⟩ := List.mem_map.mp hz
    exact (hs q hq).2
structure PgU (ps : List (Str × List PV)) (dark : Int) (l : List PV) : Prop where
  pg : Pg l
  fine : FineP (.tup l)
  ok : pageOk ps dark (.tup l) = true
  sm : SmX 84553 3 false (.tup l)
theorem th_sm {y : PV} (h : Th y) : SmX 82 0 false y := by
  rcases h with ⟨i, rfl, i0, i1⟩ | ⟨z, rfl, hz⟩
  · exact (smX_int (by omega) false).mono (by decide) (by decide)
  · exact smX_str (k := 8) (ok_len hz) (fun c hc => Nat.lt_of_le_of_lt ((name_signs hz).2.2 c hc).2 (by decide)) false
theorem fineP_of {l : List PV} (h : ∀ y ∈ l, Th y ∨ ∃ ls : List (List PV), y = .tup (ls.map PV.tup) ∧ ∀ q ∈ ls, Rn q) : FineP (.tup l) := by
  refine ⟨fun e => (by cases e), fun l' e z hz => ?_⟩
  cases e
  rcases h z hz with h | ⟨ls, rfl, hs⟩
  · exact h.fine
  · refine ⟨fine_tup _, ftup fun q hq => ?_, ftt fun q hq => ?_⟩
    · obtain ⟨x, _, rfl⟩ := List.mem_map.mp hq
      exact fine_tup x
    · obtain ⟨x, hx, rfl⟩ := List.mem_map.mp hq
      exact ftup fun y hy => ((hs x hx).1.2.2 y hy).fine.1
theorem sm_of {l : List PV} (hl : l.length ≤ 10) (h : ∀ y ∈ l, Th y ∨ ∃ ls : List (List PV), y = .tup (ls.map PV.tup) ∧ ls.length ≤ 10 ∧ ∀ q ∈ ls, Rn q) : SmX 84553 3 false (.tup l) := by
  refine smX_tup (c := 8453) (dp := 2) (n := 10) (fun y hy => ?_) hl
  rcases h y hy with h | ⟨ls, rfl, l10, hs⟩
  · exact (th_sm h).mono (by decide) (by decide)
  · refine smX_tup (c := 843) (dp := 1) (n := 10) (fun q hq => ?_) (by rw [List.length_map]; exact l10)
    obtain ⟨x, hx, rfl⟩ := List.mem_map.mp hq
    exact smX_tup (c := 82) (dp := 0) (n := 10) (fun y hy => th_sm ((hs x hx).1.2.2 y hy)) (hs x hx).1.2.1
theorem inW_t {lo hi i : Int} (h0 : lo ≤ i) (h1 : i ≤ hi) : inW lo hi (.int i) = true := by
  simp only [inW]; rw [decide_eq_true h0, decide_eq_true h1]; rfl
theorem sl_in {ps : List (Str × List PV)} {z : Str} (h : z ∈ slopesOf ps) : slIn ps (.str z) = true ∧ ∃ p ∈ ps, z = p.1 := by
  unfold slopesOf at h
  obtain ⟨p, hp, rfl⟩ := List.mem_map.mp h
  obtain ⟨h1, h2⟩ := List.mem_filter.mp hp
  refine ⟨?_, p, h1, rfl⟩
  show (ps.any fun q => isSl q.2 && q.1 == p.1) = true
  exact List.any_eq_true.mpr ⟨p, h1, by rw [h2, beq_self_eq_true]; rfl⟩
theorem page_x {h z : PV} {ps : List (Str × List PV)} {dark n : Int} (U : HillU h ps dark) (n0 : 0 ≤ n) (n1 : n ≤ 999999) (hz : PageX ps dark n z) : ∃ l, z = .tup l ∧ PgU ps dark l := by
  have H := U.1
  obtain ⟨_, _, _, _, hn, d0, d1⟩ := U.1
  have tn : Th (.int n) := th_int (by omega) (by omega)
  cases hz with
  | look m z m0 m1 hs =>
    obtain ⟨hs, p, hp, rfl⟩ := sl_in hs
    have ht : ∀ y ∈ ([.str "look", .int n, .int m, .str p.1] : List PV), Th y := th_cons (th_str (by decide +kernel)) (th_cons tn (th_cons (th_int (by omega) (by omega)) (th_cons (th_str (hn p hp)) th_nil)))
    refine ⟨_, rfl, .flat _ _ _ _ (.inl rfl) (rw_of (by simp) (by simp) ht) (fun _ => ⟨_, rfl⟩) (fun e => absurd e (by decide +kernel)), fineP_of fun y hy => .inl (ht y hy), ?_, sm_of (by simp) fun y hy => .inl (ht y hy)⟩
    show (inW 0 999999 (.int n) && inW 0 dark (.int m) && slIn ps (.str p.1)) = true
    rw [inW_t n0 n1, inW_t m0 m1, hs]; rfl
  | rule m p r m0 m1 hp hr =>
    obtain ⟨ls, rfl, hl, hq, ok⟩ := rules_x H hr
    have ht : ∀ y ∈ ([.str "rule", .int n, .int m, .str p.1] : List PV), Th y := th_cons (th_str (by decide +kernel)) (th_cons tn (th_cons (th_int (by omega) (by omega)) (th_cons (th_str (hn p hp)) th_nil)))
    have hc : ∀ y ∈ ([.str "rule", .int n, .int m, .str p.1, .tup (ls.map PV.tup)] : List PV), Th y ∨ ∃ ls : List (List PV), y = .tup (ls.map PV.tup) ∧ ls.length ≤ 10 ∧ ∀ q ∈ ls, Rn q := fun y hy => by
      have hy : y ∈ ([.str "rule", .int n, .int m, .str p.1] : List PV) ++ [.tup (ls.map PV.tup)] := hy
      rcases List.mem_append.mp hy with hy | hy
      · exact .inl (ht y hy)
      · exact .inr ⟨ls, List.mem_singleton.mp hy, by omega, hq⟩
    refine ⟨_, rfl, .rule _ _ _ _ (rw_of (by simp) (by simp) ht) hl hq, fineP_of fun y hy => (hc y hy).imp id fun ⟨ls, e, _, h⟩ => ⟨ls, e, h⟩, ?_, sm_of (by simp) hc⟩
    show (inW 0 999999 (.int n) && inW 0 dark (.int m) && (nmIn ps (.str p.1) && rulesOk ps (.tup (ls.map PV.tup)))) = true
    rw [inW_t n0 n1, inW_t m0 m1, nm_in hp, ok]; rfl
  | read m y v m0 m1 hy v0 v1 =>
    obtain ⟨w, rfl, hw⟩ := post_th hy
    have ht : ∀ y ∈ ([.str "read", .int n, .int m, .str w, .int v] : List PV), Th y := th_cons (th_str (by decide +kernel)) (th_cons tn (th_cons (th_int (by omega) (by omega)) (th_cons (th_str hw) (th_cons (th_big v0 v1) th_nil))))
    refine ⟨_, rfl, .flat _ _ _ _ (.inr rfl) (rw_of (by simp) (by simp) ht) (fun e => absurd e (by decide +kernel)) (fun _ => ⟨_, _, rfl⟩), fineP_of fun y hy => .inl (ht y hy), ?_, sm_of (by simp) fun y hy => .inl (ht y hy)⟩
    show (inW 0 999999 (.int n) && inW 0 dark (.int m) && (nameOk w && true)) = true
    rw [inW_t n0 n1, inW_t m0 m1, hw]; rfl
theorem ne_strs (ts : List Str) : eqO true (.lst (ts.map PV.str)) (.lst (ts.map PV.str)) = .ret (.bl false) := by
  have e : eqP 20 (.lst (ts.map PV.str)) (.lst (ts.map PV.str)) = some true := by
    simp only [eqP]
    refine eqs_self _ fun z hz => ?_
    obtain ⟨x, _, rfl⟩ := List.mem_map.mp hz
    simp [eqP, flatP, toV, eqV, flatV]
  unfold eqO
  rw [e]
  rfl
theorem gen_body {y : PV} {e3 e4 e5 : Ent} : Gen (b_law [un, val .bag, val y, e3, e4, e5]) 2000 (fun f => ∃ e3 e4 e5, f = .nx [un, val .bag, val y, e3, e4, e5]) := by
  unfold b_law
  refine Gen.le (gseq (c := 1000) (d := 1000) (I := fun ρ => ∃ h ps dark, HillU h ps dark ∧ ρ = [un, val .bag, val y, val h, e4, e5]) ?_ ?_) (by decide)
  · simp only [setP, consA, gV0, gVs, rZ]
    refine Gen.le (Gen.bind gen_hill (d := 0) ?_) (by decide)
    rintro h ⟨ps, dark, U⟩
    exact Gen.eq (y := .nx _) rfl ⟨_, rfl, h, ps, dark, U, rfl⟩
  rintro _ ⟨h, ps, dark, U, rfl⟩
  refine Gen.le (gseq (c := 1000) (d := 0) (I := fun ρ => ∃ qs : List (List PV), qs.length = 3 ∧ (∀ q ∈ qs, PgU ps dark q) ∧ ρ = [un, val .bag, val y, val h, val (.lst (qs.map PV.tup)), e5]) ?_ ?_) (by decide)
  · simp only [setP, consA, gV0, gVs, rZ]
    refine Gen.le (Gen.bind (gen_pages U (k := 3) (by decide) (by decide)) (d := 0) ?_) (by decide)
    rintro _ ⟨l, rfl, hl, hp⟩
    obtain ⟨qs, rfl, hs⟩ := list_of (f := PV.tup) (P := fun q => PgU ps dark q) l (fun z hz => by
      obtain ⟨n, n0, n1, hx⟩ := hp z hz
      exact page_x U n0 n1 hx)
    rw [List.length_map] at hl
    exact Gen.eq (y := .nx _) rfl ⟨_, rfl, qs, hl, hs, rfl⟩
  rintro _ ⟨qs, hl, hs, rfl⟩
  have t1 := lc_nn (l := []) (mi := fun ρ => ((fun ρ => getV ρ 4) ρ).bind iterO) (te := fun ρ => ((consA (fun ρ => getV ρ 0) (fun _ => M.ret [])) ρ).bind F_page_text) (ρ := [un, val .bag, val y, val h, val (.lst (qs.map PV.tup)), e5]) (ls := qs) (g := PV.tup) (f := fun q => .str (pgT q)) rfl (by omega) fun q hq => (call1 (gV0 _ _)).trans (pagetext_is (hs q hq).pg)
  refine gn (ρ' := [un, val .bag, val y, val h, val (.lst (qs.map PV.tup)), val (.lst (qs.map fun q => .str (pgT q)))]) (by unfold setP; rw [t1]; rfl) ?_
  have t2 := lc_nn (l := []) (mi := fun ρ => ((fun ρ => getV ρ 4) ρ).bind iterO) (te := fun ρ => ((consA (fun ρ => getV ρ 0) (fun _ => M.ret [])) ρ).bind F_law_page_text) (ρ := [un, val .bag, val y, val h, val (.lst (qs.map PV.tup)), val (.lst (qs.map fun q => .str (pgT q)))]) (ls := qs) (g := PV.tup) (f := fun q => .str (pgT q)) rfl (by omega) fun q hq => (call1 (gV0 _ _)).trans (pagetext2_is (hs q hq).pg)
  have ne := ne_strs (qs.map pgT)
  rw [List.map_map] at ne
  refine gn (ρ' := [un, val .bag, val y, val h, val (.lst (qs.map PV.tup)), val (.lst (qs.map fun q => .str (pgT q)))]) (if_f (as_b ((bin_r rfl t2).trans ne))) ?_
  have sm : SmX (3 * (84553 + 2) + 3) 4 false (.lst (qs.map PV.tup)) := smX_lst (n := 3) (fun z hz => by
    obtain ⟨q, hq, rfl⟩ := List.mem_map.mp hz
    exact (hs q hq).sm) (by rw [List.length_map]; omega)
  obtain ⟨t, et⟩ := reprX_is sm (by decide) (by decide)
  have e := lc_as (js := [none, some 3]) (mi := fun ρ => ((fun ρ => getV ρ 5) ρ).bind iterO) (bd := bindN 0) (tt := allTs) (te := fun ρ => ((consA (fun ρ => getV ρ 1) (consA (fun ρ => getV ρ 0) (fun _ => M.ret []))) ρ).bind F_read_page) (ρ := [un, val .bag, val y, val h, val (.lst (qs.map PV.tup)), val (.lst (qs.map fun q => .str (pgT q)))]) (l := qs.map fun q => .str (pgT q)) [.un, .val h] rfl (by rw [List.length_map]; omega) rfl
  have k := lc_two (k := 0) (te := fun ρ => ((consA (fun ρ => getV ρ 1) (consA (fun ρ => getV ρ 0) (fun _ => M.ret []))) ρ).bind F_read_page) (g := fun q => .str (pgT q)) (f := PV.tup) (ρ := [.un, .val h]) qs [.un, .val h] (fun _ => rfl) fun q hq => readpage_is U (hs q hq).pg (hs q hq).fine (hs q hq).ok
  have t3 := (call1 (F := reprX) (lst_r (e.trans k))).trans et
  have t4 := (call1 (F := reprX) (ρ := [un, val .bag, val y, val h, val (.lst (qs.map PV.tup)), val (.lst (qs.map fun q => .str (pgT q)))]) (f := fun ρ => getV ρ 4) (y := .lst (qs.map PV.tup)) rfl).trans et
  refine Gen.eq ((if_f (as_b (x := false) ((bin_r t3 t4).trans ?_))).trans rfl) ⟨_, _, _, rfl⟩
  rw [neS, beq_self_eq_true]; rfl
theorem law_true : ∀ c : Nat, (10 : Int) ≤ c → (c : Int) ≤ max 10 20 → (seqP (forP (bindN 2) b_law (intsP 0 c)) r_law ((List.replicate 6 un).set 1 (.val .bag))).wp 1000000 fun f _ => f = .rt (.bl true) := fun c c0 c1 => by
  have hlen : (intsP 0 c).length = c := by simp [intsP]
  have g : Gen (seqP (forP (bindN 2) b_law (intsP 0 c)) r_law ((List.replicate 6 un).set 1 (.val .bag))) 100000 (fun f => f = .rt (.bl true)) := by
    refine Gen.le (gseq (c := (intsP 0 c).length * 2000) (d := 0) (I := fun ρ => ∃ e2 e3 e4 e5, ρ = [un, val .bag, e2, e3, e4, e5]) ?_ ?_) (by rw [hlen]; omega)
    · refine Gen.for_ (c := 2000) (Iv := fun ρ => ∃ e2 e3 e4 e5, ρ = [un, val .bag, e2, e3, e4, e5]) _ _ ⟨_, _, _, _, rfl⟩ ?_
      rintro y hy _ ⟨e2, e3, e4, e5, rfl⟩
      exact Gen.mono gen_body (Nat.le_refl _) fun f ⟨a, b, d, hf⟩ => ⟨_, hf, _, _, _, _, rfl⟩
    · rintro _ ⟨e2, e3, e4, e5, rfl⟩
      exact Gen.eq rfl rfl
  exact M.wp_mono (g.h 1000000 (by decide)) fun f n h => h.2
theorem all_mk {l : PySem.W.OpenLaw} {w : World} {K : PySem.W.Frag} {h : Heap} {mg : Str → Option Value} {fa a_row_text a_rows_text a_page_text a_is_whole a_is_within a_is_name a_way_named a_is_way_name a_is_slope_name a_is_hours a_begins_with_text a_is_rule a_is_rules a_is_page a_are_figures a_thing_of a_row_of a_rows_of a_page_of a_read_page awbag awdraw awany awlabel awlabels awpace awhill awmoment awrule awrules awslopes awpage awpages awrules_text awpage_text a_law : Addr} {ti0 ti1 ti2 ti3 ti4 ti5 : Tok} (X : K.In h) (G : h.Ns mainGlobals mg) (hfa : mg "law" = some (.ref fa))
    {od0 an0 od1 an1 od2 an2 od3 an3 od4 an4 od5 an5 od6 an6 od7 an7 od8 an8 od9 an9 od10 an10 od11 an11 od12 an12 od13 an13 od14 an14 od15 an15 od16 an16 od17 an17 od18 an18 od19 an19 od20 an20 od21 an21 od22 an22 od23 an23 od24 an24 od25 an25 od26 an26 od27 an27 od28 an28 od29 an29 od30 an30 od31 an31 od32 an32 od33 an33 od34 an34 od35 an35 : Option Addr} {sl0 sl1 sl2 sl3 sl4 sl5 sl6 sl7 sl8 sl9 sl10 sl11 sl12 sl13 sl14 sl15 sl16 sl17 sl18 sl19 sl20 sl21 sl22 sl23 sl24 sl25 sl26 sl27 sl28 sl29 sl30 sl31 sl32 sl33 sl34 sl35 : Array (Option Value)} {oc0 kV0 dc0 pm0 cd0 ct0 oc1 kV1 dc1 pm1 cd1 ct1 oc2 kV2 dc2 pm2 cd2 ct2 oc3 kV3 dc3 pm3 cd3 ct3 oc4 kV4 dc4 pm4 cd4 ct4 oc5 kV5 dc5 pm5 cd5 ct5 oc6 kV6 dc6 pm6 cd6 ct6 oc7 kV7 dc7 pm7 cd7 ct7 oc8 kV8 dc8 pm8 cd8 ct8 oc9 kV9 dc9 pm9 cd9 ct9 oc10 kV10 dc10 pm10 cd10 ct10 oc11 kV11 dc11 pm11 cd11 ct11 oc12 kV12 dc12 pm12 cd12 ct12 oc13 kV13 dc13 pm13 cd13 ct13 oc14 kV14 dc14 pm14 cd14 ct14 oc15 kV15 dc15 pm15 cd15 ct15 oc16 kV16 dc16 pm16 cd16 ct16 oc17 kV17 dc17 pm17 cd17 ct17 oc18 kV18 dc18 pm18 cd18 ct18 oc19 kV19 dc19 pm19 cd19 ct19 oc20 kV20 dc20 pm20 cd20 ct20 oc21 kV21 dc21 pm21 cd21 ct21 oc22 kV22 dc22 pm22 cd22 ct22 oc23 kV23 dc23 pm23 cd23 ct23 oc24 kV24 dc24 pm24 cd24 ct24 oc25 kV25 dc25 pm25 cd25 ct25 oc26 kV26 dc26 pm26 cd26 ct26 oc27 kV27 dc27 pm27 cd27 ct27 oc28 kV28 dc28 pm28 cd28 ct28 oc29 kV29 dc29 pm29 cd29 ct29 oc30 kV30 dc30 pm30 cd30 ct30 oc31 kV31 dc31 pm31 cd31 ct31 oc32 kV32 dc32 pm32 cd32 ct32 oc33 kV33 dc33 pm33 cd33 ct33 oc34 kV34 dc34 pm34 cd34 ct34 oc35 kV35 dc35 pm35 cd35 ct35 : Value}
    (x0 : PySem.W.nsIn K mainGlobals "row_text" = some (some (.ref a_row_text))) (l0 : K.lookup a_row_text = some ⟨oc0, od0, .func (PySem.W.fnOf "row_text" "row_text" (defArgs s_row_text) (defBody s_row_text) (defScope s_row_text) .none kV0 dc0 pm0 an0 cd0 ct0), sl0⟩) (c0 : PySem.W.codeIn K cd0 "row_text" = true) (k0 : PySem.W.keepIn K (.ref a_row_text) = true)
    (x1 : PySem.W.nsIn K mainGlobals "rows_text" = some (some (.ref a_rows_text))) (l1 : K.lookup a_rows_text = some ⟨oc1, od1, .func (PySem.W.fnOf "rows_text" "rows_text" (defArgs s_rows_text) (defBody s_rows_text) (defScope s_rows_text) .none kV1 dc1 pm1 an1 cd1 ct1), sl1⟩) (c1 : PySem.W.codeIn K cd1 "rows_text" = true) (k1 : PySem.W.keepIn K (.ref a_rows_text) = true)
    (x2 : PySem.W.nsIn K mainGlobals "page_text" = some (some (.ref a_page_text))) (l2 : K.lookup a_page_text = some ⟨oc2, od2, .func (PySem.W.fnOf "page_text" "page_text" (defArgs s_page_text) (defBody s_page_text) (defScope s_page_text) .none kV2 dc2 pm2 an2 cd2 ct2), sl2⟩) (c2 : PySem.W.codeIn K cd2 "page_text" = true) (k2 : PySem.W.keepIn K (.ref a_page_text) = true)
    (x3 : PySem.W.nsIn K mainGlobals "is_whole" = some (some (.ref a_is_whole))) (l3 : K.lookup a_is_whole = some ⟨oc3, od3, .func (PySem.W.fnOf "is_whole" "is_whole" (defArgs s_is_whole) (defBody s_is_whole) (defScope s_is_whole) .none kV3 dc3 pm3 an3 cd3 ct3), sl3⟩) (c3 : PySem.W.codeIn K cd3 "is_whole" = true) (k3 : PySem.W.keepIn K (.ref a_is_whole) = true)
    (x4 : PySem.W.nsIn K mainGlobals "is_within" = some (some (.ref a_is_within))) (l4 : K.lookup a_is_within = some ⟨oc4, od4, .func (PySem.W.fnOf "is_within" "is_within" (defArgs s_is_within) (defBody s_is_within) (defScope s_is_within) .none kV4 dc4 pm4 an4 cd4 ct4), sl4⟩) (c4 : PySem.W.codeIn K cd4 "is_within" = true) (k4 : PySem.W.keepIn K (.ref a_is_within) = true)
    (x5 : PySem.W.nsIn K mainGlobals "is_name" = some (some (.ref a_is_name))) (l5 : K.lookup a_is_name = some ⟨oc5, od5, .func (PySem.W.fnOf "is_name" "is_name" (defArgs s_is_name) (defBody s_is_name) (defScope s_is_name) .none kV5 dc5 pm5 an5 cd5 ct5), sl5⟩) (c5 : PySem.W.codeIn K cd5 "is_name" = true) (k5 : PySem.W.keepIn K (.ref a_is_name) = true)
    (x6 : PySem.W.nsIn K mainGlobals "way_named" = some (some (.ref a_way_named))) (l6 : K.lookup a_way_named = some ⟨oc6, od6, .func (PySem.W.fnOf "way_named" "way_named" (defArgs s_way_named) (defBody s_way_named) (defScope s_way_named) .none kV6 dc6 pm6 an6 cd6 ct6), sl6⟩) (c6 : PySem.W.codeIn K cd6 "way_named" = true) (k6 : PySem.W.keepIn K (.ref a_way_named) = true)
    (x7 : PySem.W.nsIn K mainGlobals "is_way_name" = some (some (.ref a_is_way_name))) (l7 : K.lookup a_is_way_name = some ⟨oc7, od7, .func (PySem.W.fnOf "is_way_name" "is_way_name" (defArgs s_is_way_name) (defBody s_is_way_name) (defScope s_is_way_name) .none kV7 dc7 pm7 an7 cd7 ct7), sl7⟩) (c7 : PySem.W.codeIn K cd7 "is_way_name" = true) (k7 : PySem.W.keepIn K (.ref a_is_way_name) = true)
    (x8 : PySem.W.nsIn K mainGlobals "is_slope_name" = some (some (.ref a_is_slope_name))) (l8 : K.lookup a_is_slope_name = some ⟨oc8, od8, .func (PySem.W.fnOf "is_slope_name" "is_slope_name" (defArgs s_is_slope_name) (defBody s_is_slope_name) (defScope s_is_slope_name) .none kV8 dc8 pm8 an8 cd8 ct8), sl8⟩) (c8 : PySem.W.codeIn K cd8 "is_slope_name" = true) (k8 : PySem.W.keepIn K (.ref a_is_slope_name) = true)
    (x9 : PySem.W.nsIn K mainGlobals "is_hours" = some (some (.ref a_is_hours))) (l9 : K.lookup a_is_hours = some ⟨oc9, od9, .func (PySem.W.fnOf "is_hours" "is_hours" (defArgs s_is_hours) (defBody s_is_hours) (defScope s_is_hours) .none kV9 dc9 pm9 an9 cd9 ct9), sl9⟩) (c9 : PySem.W.codeIn K cd9 "is_hours" = true) (k9 : PySem.W.keepIn K (.ref a_is_hours) = true)
    (x10 : PySem.W.nsIn K mainGlobals "begins_with_text" = some (some (.ref a_begins_with_text))) (l10 : K.lookup a_begins_with_text = some ⟨oc10, od10, .func (PySem.W.fnOf "begins_with_text" "begins_with_text" (defArgs s_begins_with_text) (defBody s_begins_with_text) (defScope s_begins_with_text) .none kV10 dc10 pm10 an10 cd10 ct10), sl10⟩) (c10 : PySem.W.codeIn K cd10 "begins_with_text" = true) (k10 : PySem.W.keepIn K (.ref a_begins_with_text) = true)
    (x11 : PySem.W.nsIn K mainGlobals "is_rule" = some (some (.ref a_is_rule))) (l11 : K.lookup a_is_rule = some ⟨oc11, od11, .func (PySem.W.fnOf "is_rule" "is_rule" (defArgs s_is_rule) (defBody s_is_rule) (defScope s_is_rule) .none kV11 dc11 pm11 an11 cd11 ct11), sl11⟩) (c11 : PySem.W.codeIn K cd11 "is_rule" = true) (k11 : PySem.W.keepIn K (.ref a_is_rule) = true)
    (x12 : PySem.W.nsIn K mainGlobals "is_rules" = some (some (.ref a_is_rules))) (l12 : K.lookup a_is_rules = some ⟨oc12, od12, .func (PySem.W.fnOf "is_rules" "is_rules" (defArgs s_is_rules) (defBody s_is_rules) (defScope s_is_rules) .none kV12 dc12 pm12 an12 cd12 ct12), sl12⟩) (c12 : PySem.W.codeIn K cd12 "is_rules" = true) (k12 : PySem.W.keepIn K (.ref a_is_rules) = true)
    (x13 : PySem.W.nsIn K mainGlobals "is_page" = some (some (.ref a_is_page))) (l13 : K.lookup a_is_page = some ⟨oc13, od13, .func (PySem.W.fnOf "is_page" "is_page" (defArgs s_is_page) (defBody s_is_page) (defScope s_is_page) .none kV13 dc13 pm13 an13 cd13 ct13), sl13⟩) (c13 : PySem.W.codeIn K cd13 "is_page" = true) (k13 : PySem.W.keepIn K (.ref a_is_page) = true)
    (x14 : PySem.W.nsIn K mainGlobals "are_figures" = some (some (.ref a_are_figures))) (l14 : K.lookup a_are_figures = some ⟨oc14, od14, .func (PySem.W.fnOf "are_figures" "are_figures" (defArgs s_are_figures) (defBody s_are_figures) (defScope s_are_figures) .none kV14 dc14 pm14 an14 cd14 ct14), sl14⟩) (c14 : PySem.W.codeIn K cd14 "are_figures" = true) (k14 : PySem.W.keepIn K (.ref a_are_figures) = true)
    (x15 : PySem.W.nsIn K mainGlobals "thing_of" = some (some (.ref a_thing_of))) (l15 : K.lookup a_thing_of = some ⟨oc15, od15, .func (PySem.W.fnOf "thing_of" "thing_of" (defArgs s_thing_of) (defBody s_thing_of) (defScope s_thing_of) .none kV15 dc15 pm15 an15 cd15 ct15), sl15⟩) (c15 : PySem.W.codeIn K cd15 "thing_of" = true) (k15 : PySem.W.keepIn K (.ref a_thing_of) = true)
    (x16 : PySem.W.nsIn K mainGlobals "row_of" = some (some (.ref a_row_of))) (l16 : K.lookup a_row_of = some ⟨oc16, od16, .func (PySem.W.fnOf "row_of" "row_of" (defArgs s_row_of) (defBody s_row_of) (defScope s_row_of) .none kV16 dc16 pm16 an16 cd16 ct16), sl16⟩) (c16 : PySem.W.codeIn K cd16 "row_of" = true) (k16 : PySem.W.keepIn K (.ref a_row_of) = true)
    (x17 : PySem.W.nsIn K mainGlobals "rows_of" = some (some (.ref a_rows_of))) (l17 : K.lookup a_rows_of = some ⟨oc17, od17, .func (PySem.W.fnOf "rows_of" "rows_of" (defArgs s_rows_of) (defBody s_rows_of) (defScope s_rows_of) .none kV17 dc17 pm17 an17 cd17 ct17), sl17⟩) (c17 : PySem.W.codeIn K cd17 "rows_of" = true) (k17 : PySem.W.keepIn K (.ref a_rows_of) = true)
    (x18 : PySem.W.nsIn K mainGlobals "page_of" = some (some (.ref a_page_of))) (l18 : K.lookup a_page_of = some ⟨oc18, od18, .func (PySem.W.fnOf "page_of" "page_of" (defArgs s_page_of) (defBody s_page_of) (defScope s_page_of) .none kV18 dc18 pm18 an18 cd18 ct18), sl18⟩) (c18 : PySem.W.codeIn K cd18 "page_of" = true) (k18 : PySem.W.keepIn K (.ref a_page_of) = true)
    (x19 : PySem.W.nsIn K mainGlobals "read_page" = some (some (.ref a_read_page))) (l19 : K.lookup a_read_page = some ⟨oc19, od19, .func (PySem.W.fnOf "read_page" "read_page" (defArgs s_read_page) (defBody s_read_page) (defScope s_read_page) .none kV19 dc19 pm19 an19 cd19 ct19), sl19⟩) (c19 : PySem.W.codeIn K cd19 "read_page" = true) (k19 : PySem.W.keepIn K (.ref a_read_page) = true)
    (x20 : PySem.W.nsIn K mainGlobals "_law_bag" = some (some (.ref awbag))) (l20 : K.lookup awbag = some ⟨oc20, od20, .func (PySem.W.fnOf "_law_bag" "_law_bag" (defArgs s_law_bag) (defBody s_law_bag) (defScope s_law_bag) .none kV20 dc20 pm20 an20 cd20 ct20), sl20⟩) (c20 : PySem.W.codeIn K cd20 "_law_bag" = true) (k20 : PySem.W.keepIn K (.ref awbag) = true)
    (x21 : PySem.W.nsIn K mainGlobals "_law_draw" = some (some (.ref awdraw))) (l21 : K.lookup awdraw = some ⟨oc21, od21, .func (PySem.W.fnOf "_law_draw" "_law_draw" (defArgs s_law_draw) (defBody s_law_draw) (defScope s_law_draw) .none kV21 dc21 pm21 an21 cd21 ct21), sl21⟩) (c21 : PySem.W.codeIn K cd21 "_law_draw" = true) (k21 : PySem.W.keepIn K (.ref awdraw) = true)
    (x22 : PySem.W.nsIn K mainGlobals "_law_any" = some (some (.ref awany))) (l22 : K.lookup awany = some ⟨oc22, od22, .func (PySem.W.fnOf "_law_any" "_law_any" (defArgs s_law_any) (defBody s_law_any) (defScope s_law_any) .none kV22 dc22 pm22 an22 cd22 ct22), sl22⟩) (c22 : PySem.W.codeIn K cd22 "_law_any" = true) (k22 : PySem.W.keepIn K (.ref awany) = true)
    (x23 : PySem.W.nsIn K mainGlobals "_law_label" = some (some (.ref awlabel))) (l23 : K.lookup awlabel = some ⟨oc23, od23, .func (PySem.W.fnOf "_law_label" "_law_label" (defArgs s_law_label) (defBody s_law_label) (defScope s_law_label) .none kV23 dc23 pm23 an23 cd23 ct23), sl23⟩) (c23 : PySem.W.codeIn K cd23 "_law_label" = true) (k23 : PySem.W.keepIn K (.ref awlabel) = true)
    (x24 : PySem.W.nsIn K mainGlobals "_law_labels" = some (some (.ref awlabels))) (l24 : K.lookup awlabels = some ⟨oc24, od24, .func (PySem.W.fnOf "_law_labels" "_law_labels" (defArgs s_law_labels) (defBody s_law_labels) (defScope s_law_labels) .none kV24 dc24 pm24 an24 cd24 ct24), sl24⟩) (c24 : PySem.W.codeIn K cd24 "_law_labels" = true) (k24 : PySem.W.keepIn K (.ref awlabels) = true)
    (x25 : PySem.W.nsIn K mainGlobals "_law_pace" = some (some (.ref awpace))) (l25 : K.lookup awpace = some ⟨oc25, od25, .func (PySem.W.fnOf "_law_pace" "_law_pace" (defArgs s_law_pace) (defBody s_law_pace) (defScope s_law_pace) .none kV25 dc25 pm25 an25 cd25 ct25), sl25⟩) (c25 : PySem.W.codeIn K cd25 "_law_pace" = true) (k25 : PySem.W.keepIn K (.ref awpace) = true)
    (x26 : PySem.W.nsIn K mainGlobals "_law_hill" = some (some (.ref awhill))) (l26 : K.lookup awhill = some ⟨oc26, od26, .func (PySem.W.fnOf "_law_hill" "_law_hill" (defArgs s_law_hill) (defBody s_law_hill) (defScope s_law_hill) .none kV26 dc26 pm26 an26 cd26 ct26), sl26⟩) (c26 : PySem.W.codeIn K cd26 "_law_hill" = true) (k26 : PySem.W.keepIn K (.ref awhill) = true)
    (x27 : PySem.W.nsIn K mainGlobals "_law_moment" = some (some (.ref awmoment))) (l27 : K.lookup awmoment = some ⟨oc27, od27, .func (PySem.W.fnOf "_law_moment" "_law_moment" (defArgs s_law_moment) (defBody s_law_moment) (defScope s_law_moment) .none kV27 dc27 pm27 an27 cd27 ct27), sl27⟩) (c27 : PySem.W.codeIn K cd27 "_law_moment" = true) (k27 : PySem.W.keepIn K (.ref awmoment) = true)
    (x28 : PySem.W.nsIn K mainGlobals "_law_rule" = some (some (.ref awrule))) (l28 : K.lookup awrule = some ⟨oc28, od28, .func (PySem.W.fnOf "_law_rule" "_law_rule" (defArgs s_law_rule) (defBody s_law_rule) (defScope s_law_rule) .none kV28 dc28 pm28 an28 cd28 ct28), sl28⟩) (c28 : PySem.W.codeIn K cd28 "_law_rule" = true) (k28 : PySem.W.keepIn K (.ref awrule) = true)
    (x29 : PySem.W.nsIn K mainGlobals "_law_rules" = some (some (.ref awrules))) (l29 : K.lookup awrules = some ⟨oc29, od29, .func (PySem.W.fnOf "_law_rules" "_law_rules" (defArgs s_law_rules) (defBody s_law_rules) (defScope s_law_rules) .none kV29 dc29 pm29 an29 cd29 ct29), sl29⟩) (c29 : PySem.W.codeIn K cd29 "_law_rules" = true) (k29 : PySem.W.keepIn K (.ref awrules) = true)
    (x30 : PySem.W.nsIn K mainGlobals "_law_slopes" = some (some (.ref awslopes))) (l30 : K.lookup awslopes = some ⟨oc30, od30, .func (PySem.W.fnOf "_law_slopes" "_law_slopes" (defArgs s_law_slopes) (defBody s_law_slopes) (defScope s_law_slopes) .none kV30 dc30 pm30 an30 cd30 ct30), sl30⟩) (c30 : PySem.W.codeIn K cd30 "_law_slopes" = true) (k30 : PySem.W.keepIn K (.ref awslopes) = true)
    (x31 : PySem.W.nsIn K mainGlobals "_law_page" = some (some (.ref awpage))) (l31 : K.lookup awpage = some ⟨oc31, od31, .func (PySem.W.fnOf "_law_page" "_law_page" (defArgs s_law_page) (defBody s_law_page) (defScope s_law_page) .none kV31 dc31 pm31 an31 cd31 ct31), sl31⟩) (c31 : PySem.W.codeIn K cd31 "_law_page" = true) (k31 : PySem.W.keepIn K (.ref awpage) = true)
    (x32 : PySem.W.nsIn K mainGlobals "_law_pages" = some (some (.ref awpages))) (l32 : K.lookup awpages = some ⟨oc32, od32, .func (PySem.W.fnOf "_law_pages" "_law_pages" (defArgs s_law_pages) (defBody s_law_pages) (defScope s_law_pages) .none kV32 dc32 pm32 an32 cd32 ct32), sl32⟩) (c32 : PySem.W.codeIn K cd32 "_law_pages" = true) (k32 : PySem.W.keepIn K (.ref awpages) = true)
    (x33 : PySem.W.nsIn K mainGlobals "_law_rules_text" = some (some (.ref awrules_text))) (l33 : K.lookup awrules_text = some ⟨oc33, od33, .func (PySem.W.fnOf "_law_rules_text" "_law_rules_text" (defArgs s_law_rules_text) (defBody s_law_rules_text) (defScope s_law_rules_text) .none kV33 dc33 pm33 an33 cd33 ct33), sl33⟩) (c33 : PySem.W.codeIn K cd33 "_law_rules_text" = true) (k33 : PySem.W.keepIn K (.ref awrules_text) = true)
    (x34 : PySem.W.nsIn K mainGlobals "_law_page_text" = some (some (.ref awpage_text))) (l34 : K.lookup awpage_text = some ⟨oc34, od34, .func (PySem.W.fnOf "_law_page_text" "_law_page_text" (defArgs s_law_page_text) (defBody s_law_page_text) (defScope s_law_page_text) .none kV34 dc34 pm34 an34 cd34 ct34), sl34⟩) (c34 : PySem.W.codeIn K cd34 "_law_page_text" = true) (k34 : PySem.W.keepIn K (.ref awpage_text) = true)
    (x35 : PySem.W.nsIn K mainGlobals "law" = some (some (.ref a_law))) (l35 : K.lookup a_law = some ⟨oc35, od35, .func (PySem.W.fnOf "law" "law" (defArgs s_law) (defBody s_law) (defScope s_law) .none kV35 dc35 pm35 an35 cd35 ct35), sl35⟩) (c35 : PySem.W.codeIn K cd35 "law" = true) (k35 : PySem.W.keepIn K (.ref a_law) = true)
    (z0 : PySem.W.nsIn K mainGlobals "len" = some none)
    (z1 : PySem.W.nsIn K mainGlobals "abs" = some none)
    (z2 : PySem.W.nsIn K mainGlobals "all" = some none)
    (z3 : PySem.W.nsIn K mainGlobals "isinstance" = some none)
    (z4 : PySem.W.nsIn K mainGlobals "range" = some none)
    (z5 : PySem.W.nsIn K mainGlobals "str" = some none)
    (z6 : PySem.W.nsIn K mainGlobals "bool" = some none)
    (z7 : PySem.W.nsIn K mainGlobals "int" = some none)
    (z8 : PySem.W.nsIn K mainGlobals "tuple" = some none)
    (z9 : PySem.W.nsIn K mainGlobals "max" = some none)
    (z10 : PySem.W.nsIn K mainGlobals "min" = some none)
    (z11 : PySem.W.nsIn K mainGlobals "repr" = some none)
    (y0 : PySem.W.nsIn K mainGlobals "MOST_LETTERS" = some (some (.int 8 ti0)))
    (y1 : PySem.W.nsIn K mainGlobals "MOST_HOUR" = some (some (.int 1000001 ti1)))
    (y2 : PySem.W.nsIn K mainGlobals "MOST_LOOKED" = some (some (.int 1000000 ti2)))
    (y3 : PySem.W.nsIn K mainGlobals "MOST_RULES" = some (some (.int 6 ti3)))
    (y4 : PySem.W.nsIn K mainGlobals "MOST_NUMBER" = some (some (.int 999999 ti4)))
    (y5 : PySem.W.nsIn K mainGlobals "MOST_FIGURES" = some (some (.int 60 ti5))) :
    ∃ fd : FuncData, (∀ (s : Shared) (v : Value), BindsTo s fd ⟨[v], []⟩ [("_law_script", v)]) ∧ ∀ base : Heap, K.In base → base.Ns mainGlobals mg → FnOk l.prog w K mg base CX0 8 fa fd ["_law_script"] (spLaw K) := by
  have e := hfa.symm.trans (PySem.W.mg_of X G x35)
  cases e
  have F0 := fun_mk (st := s_row_text) l0 c0 k0
  have b0 := F0.binds (ps := ["things"]) fun _ _ _ _ _ _ us hl => match us, hl with | [_], _ => rfl
  have F1 := fun_mk (st := s_rows_text) l1 c1 k1
  have b1 := F1.binds (ps := ["rows"]) fun _ _ _ _ _ _ us hl => match us, hl with | [_], _ => rfl
  have F2 := fun_mk (st := s_page_text) l2 c2 k2
  have b2 := F2.binds (ps := ["page"]) fun _ _ _ _ _ _ us hl => match us, hl with | [_], _ => rfl
  have F3 := fun_mk (st := s_is_whole) l3 c3 k3
  have b3 := F3.binds (ps := ["thing"]) fun _ _ _ _ _ _ us hl => match us, hl with | [_], _ => rfl
  have F4 := fun_mk (st := s_is_within) l4 c4 k4
  have b4 := F4.binds (ps := ["thing", "low", "high"]) fun _ _ _ _ _ _ us hl => match us, hl with | [_, _, _], _ => rfl
  have F5 := fun_mk (st := s_is_name) l5 c5 k5
  have b5 := F5.binds (ps := ["thing"]) fun _ _ _ _ _ _ us hl => match us, hl with | [_], _ => rfl
  have F6 := fun_mk (st := s_way_named) l6 c6 k6
  have b6 := F6.binds (ps := ["hill", "name"]) fun _ _ _ _ _ _ us hl => match us, hl with | [_, _], _ => rfl
  have F7 := fun_mk (st := s_is_way_name) l7 c7 k7
  have b7 := F7.binds (ps := ["hill", "thing"]) fun _ _ _ _ _ _ us hl => match us, hl with | [_, _], _ => rfl
  have F8 := fun_mk (st := s_is_slope_name) l8 c8 k8
  have b8 := F8.binds (ps := ["hill", "thing"]) fun _ _ _ _ _ _ us hl => match us, hl with | [_, _], _ => rfl
  have F9 := fun_mk (st := s_is_hours) l9 c9 k9
  have b9 := F9.binds (ps := ["a", "b"]) fun _ _ _ _ _ _ us hl => match us, hl with | [_, _], _ => rfl
  have F10 := fun_mk (st := s_begins_with_text) l10 c10 k10
  have b10 := F10.binds (ps := ["thing"]) fun _ _ _ _ _ _ us hl => match us, hl with | [_], _ => rfl
  have F11 := fun_mk (st := s_is_rule) l11 c11 k11
  have b11 := F11.binds (ps := ["hill", "thing"]) fun _ _ _ _ _ _ us hl => match us, hl with | [_, _], _ => rfl
  have F12 := fun_mk (st := s_is_rules) l12 c12 k12
  have b12 := F12.binds (ps := ["hill", "thing"]) fun _ _ _ _ _ _ us hl => match us, hl with | [_, _], _ => rfl
  have F13 := fun_mk (st := s_is_page) l13 c13 k13
  have b13 := F13.binds (ps := ["hill", "thing"]) fun _ _ _ _ _ _ us hl => match us, hl with | [_, _], _ => rfl
  have F14 := fun_mk (st := s_are_figures) l14 c14 k14
  have b14 := F14.binds (ps := ["word"]) fun _ _ _ _ _ _ us hl => match us, hl with | [_], _ => rfl
  have F15 := fun_mk (st := s_thing_of) l15 c15 k15
  have b15 := F15.binds (ps := ["word"]) fun _ _ _ _ _ _ us hl => match us, hl with | [_], _ => rfl
  have F16 := fun_mk (st := s_row_of) l16 c16 k16
  have b16 := F16.binds (ps := ["text"]) fun _ _ _ _ _ _ us hl => match us, hl with | [_], _ => rfl
  have F17 := fun_mk (st := s_rows_of) l17 c17 k17
  have b17 := F17.binds (ps := ["text"]) fun _ _ _ _ _ _ us hl => match us, hl with | [_], _ => rfl
  have F18 := fun_mk (st := s_page_of) l18 c18 k18
  have b18 := F18.binds (ps := ["text"]) fun _ _ _ _ _ _ us hl => match us, hl with | [_], _ => rfl
  have F19 := fun_mk (st := s_read_page) l19 c19 k19
  have b19 := F19.binds (ps := ["hill", "text"]) fun _ _ _ _ _ _ us hl => match us, hl with | [_, _], _ => rfl
  have F20 := fun_mk (st := s_law_bag) l20 c20 k20
  have b20 := F20.binds (ps := ["_law_script"]) fun _ _ _ _ _ _ us hl => match us, hl with | [_], _ => rfl
  have F21 := fun_mk (st := s_law_draw) l21 c21 k21
  have b21 := F21.binds (ps := ["_law_bag_here", "_law_many"]) fun _ _ _ _ _ _ us hl => match us, hl with | [_, _], _ => rfl
  have F22 := fun_mk (st := s_law_any) l22 c22 k22
  have b22 := F22.binds (ps := ["_law_bag_here", "_law_some"]) fun _ _ _ _ _ _ us hl => match us, hl with | [_, _], _ => rfl
  have F23 := fun_mk (st := s_law_label) l23 c23 k23
  have b23 := F23.binds (ps := ["_law_bag_here"]) fun _ _ _ _ _ _ us hl => match us, hl with | [_], _ => rfl
  have F24 := fun_mk (st := s_law_labels) l24 c24 k24
  have b24 := F24.binds (ps := ["_law_bag_here", "_law_many"]) fun _ _ _ _ _ _ us hl => match us, hl with | [_, _], _ => rfl
  have F25 := fun_mk (st := s_law_pace) l25 c25 k25
  have b25 := F25.binds (ps := ["_law_bag_here", "_law_scale"]) fun _ _ _ _ _ _ us hl => match us, hl with | [_, _], _ => rfl
  have F26 := fun_mk (st := s_law_hill) l26 c26 k26
  have b26 := F26.binds (ps := ["_law_bag_here"]) fun _ _ _ _ _ _ us hl => match us, hl with | [_], _ => rfl
  have F27 := fun_mk (st := s_law_moment) l27 c27 k27
  have b27 := F27.binds (ps := ["_law_bag_here", "_law_hill_here"]) fun _ _ _ _ _ _ us hl => match us, hl with | [_, _], _ => rfl
  have F28 := fun_mk (st := s_law_rule) l28 c28 k28
  have b28 := F28.binds (ps := ["_law_bag_here", "_law_hill_here"]) fun _ _ _ _ _ _ us hl => match us, hl with | [_, _], _ => rfl
  have F29 := fun_mk (st := s_law_rules) l29 c29 k29
  have b29 := F29.binds (ps := ["_law_bag_here", "_law_hill_here"]) fun _ _ _ _ _ _ us hl => match us, hl with | [_, _], _ => rfl
  have F30 := fun_mk (st := s_law_slopes) l30 c30 k30
  have b30 := F30.binds (ps := ["_law_hill_here"]) fun _ _ _ _ _ _ us hl => match us, hl with | [_], _ => rfl
  have F31 := fun_mk (st := s_law_page) l31 c31 k31
  have b31 := F31.binds (ps := ["_law_bag_here", "_law_hill_here", "_law_number"]) fun _ _ _ _ _ _ us hl => match us, hl with | [_, _, _], _ => rfl
  have F32 := fun_mk (st := s_law_pages) l32 c32 k32
  have b32 := F32.binds (ps := ["_law_bag_here", "_law_hill_here", "_law_many"]) fun _ _ _ _ _ _ us hl => match us, hl with | [_, _, _], _ => rfl
  have F33 := fun_mk (st := s_law_rules_text) l33 c33 k33
  have b33 := F33.binds (ps := ["_law_rules_here"]) fun _ _ _ _ _ _ us hl => match us, hl with | [_], _ => rfl
  have F34 := fun_mk (st := s_law_page_text) l34 c34 k34
  have b34 := F34.binds (ps := ["_law_page_here"]) fun _ _ _ _ _ _ us hl => match us, hl with | [_], _ => rfl
  have F35 := fun_mk (st := s_law) l35 c35 k35
  have b35 := F35.binds (ps := ["_law_script"]) fun _ _ _ _ _ _ us hl => match us, hl with | [_], _ => rfl
  have T : Txt K mg _ _ _ _ _ _ _ _ _ _ _ _ _ _ _ _ _ _ _ _ _ _ _ _ _ _ _ _ _ _ _ _ _ _ _ _ _ _ _ _ _ _ _ _ _ _ _ _ _ _ _ _ _ _ _ _ _ _ _ _ _ _ _ _ _ _ _ _ _ _ _ _ := ⟨F0, PySem.W.mg_of X G x0, b0, F1, PySem.W.mg_of X G x1, b1, F2, PySem.W.mg_of X G x2, b2, F3, PySem.W.mg_of X G x3, b3, F4, PySem.W.mg_of X G x4, b4, F5, PySem.W.mg_of X G x5, b5, F6, PySem.W.mg_of X G x6, b6, F7, PySem.W.mg_of X G x7, b7, F8, PySem.W.mg_of X G x8, b8, F9, PySem.W.mg_of X G x9, b9, F10, PySem.W.mg_of X G x10, b10, F11, PySem.W.mg_of X G x11, b11, F12, PySem.W.mg_of X G x12, b12, F13, PySem.W.mg_of X G x13, b13, F14, PySem.W.mg_of X G x14, b14, F15, PySem.W.mg_of X G x15, b15, F16, PySem.W.mg_of X G x16, b16, F17, PySem.W.mg_of X G x17, b17, F18, PySem.W.mg_of X G x18, b18, F19, PySem.W.mg_of X G x19, b19, F20, PySem.W.mg_of X G x20, b20, F21, PySem.W.mg_of X G x21, b21, F22, PySem.W.mg_of X G x22, b22, F23, PySem.W.mg_of X G x23, b23, F24, PySem.W.mg_of X G x24, b24, F25, PySem.W.mg_of X G x25, b25, F26, PySem.W.mg_of X G x26, b26, F27, PySem.W.mg_of X G x27, b27, F28, PySem.W.mg_of X G x28, b28, F29, PySem.W.mg_of X G x29, b29, F30, PySem.W.mg_of X G x30, b30, F31, PySem.W.mg_of X G x31, b31, F32, PySem.W.mg_of X G x32, b32, F33, PySem.W.mg_of X G x33, b33, F34, PySem.W.mg_of X G x34, b34, F35, PySem.W.mg_of X G x35, b35, PySem.W.mg_none_of X G z0, PySem.W.mg_none_of X G z1, PySem.W.mg_none_of X G z2, PySem.W.mg_none_of X G z3, PySem.W.mg_none_of X G z4, PySem.W.mg_none_of X G z5, PySem.W.mg_none_of X G z6, PySem.W.mg_none_of X G z7, PySem.W.mg_none_of X G z8, PySem.W.mg_none_of X G z9, PySem.W.mg_none_of X G z10, PySem.W.mg_none_of X G z11, ⟨_, PySem.W.mg_of X G y0⟩, ⟨_, PySem.W.mg_of X G y1⟩, ⟨_, PySem.W.mg_of X G y2⟩, ⟨_, PySem.W.mg_of X G y3⟩, ⟨_, PySem.W.mg_of X G y4⟩, ⟨_, PySem.W.mg_of X G y5⟩⟩
  refine ⟨PySem.W.fnOf "law" "law" (defArgs s_law) (defBody s_law) (defScope s_law) .none kV35 dc35 pm35 an35 cd35 ct35, fun s v => .of_eq rfl, fun base _ _ => ?_⟩
  have G_law_draw := draw_pure (φ := famBag K) (ok_draw (P := l.prog) (w := w) (base := base) T)
  have G_law_bag := ok_bag (P := l.prog) (w := w) (base := base) T
  have G_row_text := ok_row_text (P := l.prog) (w := w) (base := base) T 
  have G_rows_text := ok_rows_text (P := l.prog) (w := w) (base := base) T G_row_text
  have G_page_text := ok_page_text (P := l.prog) (w := w) (base := base) T G_row_text G_rows_text
  have G_is_whole := ok_is_whole (P := l.prog) (w := w) (base := base) T 
  have G_is_within := ok_is_within (P := l.prog) (w := w) (base := base) T G_is_whole
  have G_is_name := ok_is_name (P := l.prog) (w := w) (base := base) T 
  have G_way_named := ok_way_named (P := l.prog) (w := w) (base := base) T 
  have G_is_way_name := ok_is_way_name (P := l.prog) (w := w) (base := base) T G_is_name G_way_named
  have G_is_slope_name := ok_is_slope_name (P := l.prog) (w := w) (base := base) T G_is_way_name G_way_named
  have G_is_hours := ok_is_hours (P := l.prog) (w := w) (base := base) T G_is_within
  have G_begins_with_text := ok_begins_with_text (P := l.prog) (w := w) (base := base) T 
  have G_is_rule := ok_is_rule (P := l.prog) (w := w) (base := base) T G_begins_with_text G_is_hours G_is_name G_is_whole G_is_within G_is_way_name
  have G_is_rules := ok_is_rules (P := l.prog) (w := w) (base := base) T G_is_rule
  have G_is_page := ok_is_page (P := l.prog) (w := w) (base := base) T G_begins_with_text G_is_within G_is_name G_is_whole G_is_slope_name G_is_way_name G_is_rules
  have G_are_figures := ok_are_figures (P := l.prog) (w := w) (base := base) T 
  have G_thing_of := ok_thing_of (P := l.prog) (w := w) (base := base) T G_are_figures
  have G_row_of := ok_row_of (P := l.prog) (w := w) (base := base) T G_thing_of
  have G_rows_of := ok_rows_of (P := l.prog) (w := w) (base := base) T G_row_of
  have G_page_of := ok_page_of (P := l.prog) (w := w) (base := base) T G_row_of G_rows_of
  have G_read_page := ok_read_page (P := l.prog) (w := w) (base := base) T G_page_of G_is_page
  have G_law_any := ok_law_any (P := l.prog) (w := w) (base := base) T G_law_draw
  have G_law_label := ok_law_label (P := l.prog) (w := w) (base := base) T G_law_draw
  have G_law_labels := ok_law_labels (P := l.prog) (w := w) (base := base) T G_law_draw G_law_label
  have G_law_pace := ok_law_pace (P := l.prog) (w := w) (base := base) T G_law_draw
  have G_law_hill := ok_law_hill (P := l.prog) (w := w) (base := base) T G_law_labels G_law_draw G_law_any G_law_pace
  have G_law_moment := ok_law_moment (P := l.prog) (w := w) (base := base) T G_law_draw
  have G_law_rule := ok_law_rule (P := l.prog) (w := w) (base := base) T G_law_draw G_law_moment G_law_any
  have G_law_rules := ok_law_rules (P := l.prog) (w := w) (base := base) T G_law_rule G_law_draw
  have G_law_slopes := ok_law_slopes (P := l.prog) (w := w) (base := base) T 
  have G_law_page := ok_law_page (P := l.prog) (w := w) (base := base) T G_law_draw G_law_moment G_law_slopes G_law_any G_law_rules
  have G_law_pages := ok_law_pages (P := l.prog) (w := w) (base := base) T G_law_any G_law_page G_law_draw
  have G_law_rules_text := ok_law_rules_text (P := l.prog) (w := w) (base := base) T 
  have G_law_page_text := ok_law_page_text (P := l.prog) (w := w) (base := base) T G_law_rules_text
  exact ok_law T G_law_bag G_law_hill G_law_pages G_page_text G_law_page_text G_read_page law_true
theorem walk {l : PySem.W.OpenLaw} {q : Program} {loose : List Str} {XP : (Str → Option Value) → Heap → Prop} {YP : World → Heap → Prop} {d : DefRec} {K : Params → PySem.W.Frag} (hn : l.most = some 63) (hdf : d.params.defaults = [])
    (hY : ∀ (w : World) (h : Heap), YP w h → (K w.params).In h)
    (F : ∀ (w : World) (mg : Str → Option Value) (fa : Addr) (h : Heap), (K w.params).In h → h.Ns mainGlobals mg → mg d.name = some (.ref fa) →
      ∃ fd : FuncData, (∀ (s : Shared) (u : Value), BindsTo s fd ⟨[u], []⟩ [("_law_script", u)]) ∧ ∀ base : Heap, (K w.params).In base → base.Ns mainGlobals mg → FnOk l.prog w (K w.params) mg base CX0 8 fa fd ["_law_script"] (spLaw (K w.params))) :
    PySem.W.WalkO q loose XP YP l.row.toRowW d [] (fun f vs => PySem.call f vs) :=
  L2.walk_of (n := 63) (k := 8) (x := "_law_script") (CX := fun _ => CX0) (sp := fun w => spLaw (K w.params)) hn (by decide) hdf ⟨rfl, by decide, by decide, rfl⟩ hY F (fun _ _ a ns hl _ hS => ⟨a, ns, rfl, hS, hl, fun _ => rfl⟩) fun _ _ _ _ _ z => z
end K64
end
namespace PySem.W.Fast
def tw10999887922541443076:=0
def tw13668261265359922477:=0
def tw4446788886878506153:=0
def tw17956712653605544203:=0
def tw7757384225110537752:=0
def tw8179067116897699510:=0
def tw10337382143436696120:=0
def tw13724552185376749235:=0
def tw4110870577586532142:=0
def tw2563927250123727277:=0
def tw12738588068698858303:=0
def tw17385429312377109690:=0
def tw5602862239383374813:=0
def tw5966999200679790362:=0
def tw1926573023903587217:=0
def tw18300963922020563944:=0
def tw16853958502679621691:=0
def tw8832380647015568396:=0
def tw939069594386956057:=0
def tw10222401439551019929:=0
def tw14275457504453139488:=0
def tw5181742993090747393:=0
def tw2549918285473413765:=0
def tw18209160938630261770:=0
def tw11500418409842689510:=0
def tw10007142669937646161:=0
def tw5968342288012739229:=0
def tw1152376037979009465:=0
def tw272785163490776133:=0
def tw7540594424356467701:=0
def tw6830101816442919000:=0
def tw6966121672581641309:=0
def tw9935018812886877147:=0
def tw11245074121530170077:=0
def tw373525861969088233:=0
def tw9460992994568884448:=0
def tw12011172841612369610:=0
def tw3315805919002897867:=0
def tw16451564465667002350:=0
def tw7023086112607080384:=0
def tw3214635716908393198:=0
def tw10914775665406068938:=0
def tw14278983137796253592:=0
def tw13929918245916030399:=0
def tw15735457106405181844:=0
def tw218385065302073700:=0
def tw10637444605751453589:=0
def tw177978942104079959:=0
def tw8377626996307720615:=0
def tw11547738352510073804:=0
def tw16353083073478075024:=0
def tw10016150191317059015:=0
def tw2401104535638406661:=0
def tw15415355323310274754:=0
def tw10328359038230691610:=0
def tw14285075914829383132:=0
def tw3855595726852554799:=0
def tw16681146748342951648:=0
def tw3999000354360453483:=0
def tw887319445977537350:=0
def tw63787275081800899:=0
def tw12214047419229444357:=0
def tw14405747589382372996:=0
def tw9108607920870794790:=0
def tw17942378325450383464:=0
def tw5359969511113387116:=0
def tw12385775223609315497:=0
def tw2858044611552990106:=0
def tw11841939471890461177:=0
def tw370589307467425178:=0
def tw11413826138803934288:=0
def tw12036570075928413432:=0
def tw8936246580458286651:=0
def tw9242557477655021104:=0
def tw13645772326737264307:=0
def tw3327437537846759700:=0
def tw4763805206056854329:=0
def tw1236771786254434460:=0
def tw8643644047625805595:=0
def tw771480277468782904:=0
def tw8422648439950099000:=0
def tw876743459634544510:=0
def tw7625332606788055773:=0
def tw14530192943545520025:=0
def tw173085231214423980:=0
def tw13621653507568323728:=0
def tw9749742470995346681:=0
def tw5423973280696180982:=0
def tw15281560886073462248:=0
def tw18175337920795644430:=0
def tw2832902509415440357:=0
def tw16370250305497598372:=0
def tw5410517755859502099:=0
def tw4569341614618719393:=0
def tw16717548091613087989:=0
def tw5642683509407002504:=0
def tw17328452505857096688:=0
def tw4612513271374981848:=0
def tw3604686288336194938:=0
def tw10524238108544136558:=0
def tw17044155266918925354:=0
def tw5434623424758278096:=0
def tw15926601664473526058:=0
def tw13073733194678860558:=0
def tw6652787107995720633:=0
def tw11591198792720341090:=0
def tw8516072939181505721:=0
def tw17168769348795989274:=0
def tw15026317237904426614:=0
def tw4806288420995033881:=0
def tw12774626487694420290:=0
def tw3478238554627150402:=0
def tw11380899152771627672:=0
def tw8097539785207215098:=0
def tw7572680914557086246:=0
def tw2770524956881446639:=0
def tw16328668962794844435:=0
def tw16445198325054770561:=0
def tw7137746866693454146:=0
def tw5279951065808782515:=0
def tw6506483669240756297:=0
def tw3594689021340194247:=0
def tw18394711967337498439:=0
def tw15573520074428258937:=0
def tw17163254456608434827:=0
def tw9105328219531804571:=0
def tw9213614831634649800:=0
def tw9633057577969778738:=0
def tw4684046830456020063:=0
def tw16959099403347555044:=0
def tw11813410537617354783:=0
def tw3079189154138170605:=0
def tw8847144263301294234:=0
def tw7329445308275942661:=0
def tw16216703129578422778:=0
def tw12370404323140766415:=0
def tw18012889720096215150:=0
def tw12808681862705637405:=0
def tw2620319062037785520:=0
def tw18222554169636581115:=0
def tw15229655433427058582:=0
def tw14957370485281310367:=0
def tw9879140612535220377:=0
def tw16058735298505838057:=0
def tw14909942508353280406:=0
def tw631173980212722722:=0
def tw12031719183012120991:=0
def tw6594357919296364572:=0
def tw13942694082132820958:=0
def tw15782717290978830227:=0
def tw5464975885301666907:=0
def tw4740670470722170047:=0
def tw4234788581874946899:=0
def tw16035495976481458705:=0
def tw10618180832442643928:=0
def tw3067752100032148356:=0
def tw1346830081707262943:=0
def tw11552775866434785410:=0
def tw7998481440575564517:=0
def tw15200305249028872047:=0
def tw14113179235130882529:=0
def tw12444974370178134532:=0
def tw7985787727726093518:=0
def tw13730206901773435088:=0
def tw11786357612167894076:=0
def tw7790802391990861479:=0
def tw12746695470871491614:=0
def tw5441566131656178677:=0
def tw15696603634015732722:=0
def tw12157993605530683874:=0
def tw4964349892096285080:=0
def tw5968790497117250847:=0
def tw17012723607378172674:=0
def tw8979622513889141228:=0
def tw2468125981746937025:=0
def tw12600677360814407135:=0
def tw4310490007039416940:=0
def tw2299269365753393573:=0
def tw16846224110099245286:=0
def tw2469366771558838592:=0
def tw4387693377266178060:=0
def tw7892682257407644635:=0
def tw14007908733734231032:=0
def tw12857939341436608564:=0
def tw13916304679921920341:=0
def tw8066248339711614021:=0
def tw12137265669737041232:=0
def tw14344945249963725357:=0
def tw8717571147360572518:=0
def tw10101885666261886435:=0
def tw1701344164801436824:=0
def tw14172959714262147679:=0
def tw11265083690821509045:=0
def tw4551811468984282516:=0
def tw18173520631992030693:=0
def tw8759313840949869265:=0
def tw15396714407725807940:=0
def tw2117528270713878540:=0
def tw11596606810833990624:=0
def tw15927605414870506858:=0
def tw5153926399075816404:=0
def tw1503755244902603665:=0
def tw13834189773913549803:=0
def tw574405153618633657:=0
def tw2258944634039342938:=0
def tw1999202523523723922:=0
def tw3125902882405083899:=0
def tw3932366103047217817:=0
def tw10311273199413919070:=0
def tw13272668153170601400:=0
def tw154797732039779366:=0
def tw3251082968101592185:=0
def tw14781522577735501512:=0
def tw4987415123818413195:=0
def tw491091742299166679:=0
def tw16515476665283699315:=0
def tw1492862033609384151:=0
def tw16670295439852090074:=0
def tw9917253343859053212:=0
def tw17516221661338399729:=0
def tw11420789251368069313:=0
def tw14375853457584496020:=0
def tw2308192554548044141:=0
def tw11297499087088998679:=0
def tw2452857944392350472:=0
def tw521418388066202932:=0
def tw5109842078478774785:=0
def tw4560670594266379443:=0
def tw3178576267175809507:=0
def tw15115553797666540478:=0
def tw6905375332733667271:=0
def tw6659463457107559333:=0
def tw16708496526338582671:=0
def tw4218025450674077919:=0
def tw6649403211234436135:=0
def tw2092092832277611983:=0
def tw10675031199596802268:=0
def tw13084347390807862942:=0
def tw4171603979081140207:=0
def tw5725918685766446420:=0
end PySem.W.Fast
open PySem PySem.W PyProof.Rows
set_option maxRecDepth 100000 in
set_option maxHeartbeats 0 in
theorem PySem.Challenge.cw_homeslopes_k64_pages_written_and_read_holds : PySem.Challenge.rw_homeslopes_k64_pages_written_and_read.Holds := by
  w_on; o_law; k_head; (case hw => w_witness2)
  k_fill
  refine K64.walk (l := PySem.Challenge.rw_homeslopes_k64_pages_written_and_read) rfl rfl (fun w h Y => PySem.W.kIn_of Y) ?F
  case F =>
    intro w mg fa h KX G hmg
    refine' K64.all_mk KX G hmg ?x0 ?l0 ?c0 ?k0 ?x1 ?l1 ?c1 ?k1 ?x2 ?l2 ?c2 ?k2 ?x3 ?l3 ?c3 ?k3 ?x4 ?l4 ?c4 ?k4 ?x5 ?l5 ?c5 ?k5 ?x6 ?l6 ?c6 ?k6 ?x7 ?l7 ?c7 ?k7 ?x8 ?l8 ?c8 ?k8 ?x9 ?l9 ?c9 ?k9 ?x10 ?l10 ?c10 ?k10 ?x11 ?l11 ?c11 ?k11 ?x12 ?l12 ?c12 ?k12 ?x13 ?l13 ?c13 ?k13 ?x14 ?l14 ?c14 ?k14 ?x15 ?l15 ?c15 ?k15 ?x16 ?l16 ?c16 ?k16 ?x17 ?l17 ?c17 ?k17 ?x18 ?l18 ?c18 ?k18 ?x19 ?l19 ?c19 ?k19 ?x20 ?l20 ?c20 ?k20 ?x21 ?l21 ?c21 ?k21 ?x22 ?l22 ?c22 ?k22 ?x23 ?l23 ?c23 ?k23 ?x24 ?l24 ?c24 ?k24 ?x25 ?l25 ?c25 ?k25 ?x26 ?l26 ?c26 ?k26 ?x27 ?l27 ?c27 ?k27 ?x28 ?l28 ?c28 ?k28 ?x29 ?l29 ?c29 ?k29 ?x30 ?l30 ?c30 ?k30 ?x31 ?l31 ?c31 ?k31 ?x32 ?l32 ?c32 ?k32 ?x33 ?l33 ?c33 ?k33 ?x34 ?l34 ?c34 ?k34 ?x35 ?l35 ?c35 ?k35 ?z0 ?z1 ?z2 ?z3 ?z4 ?z5 ?z6 ?z7 ?z8 ?z9 ?z10 ?z11 ?y0 ?y1 ?y2 ?y3 ?y4 ?y5 
    (case x0 => k_is); (case l0 => k_is); (case c0 => k_is); (case k0 => k_is)
    (case x1 => k_is); (case l1 => k_is); (case c1 => k_is); (case k1 => k_is)
    (case x2 => k_is); (case l2 => k_is); (case c2 => k_is); (case k2 => k_is)
    (case x3 => k_is); (case l3 => k_is); (case c3 => k_is); (case k3 => k_is)
    (case x4 => k_is); (case l4 => k_is); (case c4 => k_is); (case k4 => k_is)
    (case x5 => k_is); (case l5 => k_is); (case c5 => k_is); (case k5 => k_is)
    (case x6 => k_is); (case l6 => k_is); (case c6 => k_is); (case k6 => k_is)
    (case x7 => k_is); (case l7 => k_is); (case c7 => k_is); (case k7 => k_is)
    (case x8 => k_is); (case l8 => k_is); (case c8 => k_is); (case k8 => k_is)
    (case x9 => k_is); (case l9 => k_is); (case c9 => k_is); (case k9 => k_is)
    (case x10 => k_is); (case l10 => k_is); (case c10 => k_is); (case k10 => k_is)
    (case x11 => k_is); (case l11 => k_is); (case c11 => k_is); (case k11 => k_is)
    (case x12 => k_is); (case l12 => k_is); (case c12 => k_is); (case k12 => k_is)
    (case x13 => k_is); (case l13 => k_is); (case c13 => k_is); (case k13 => k_is)
    (case x14 => k_is); (case l14 => k_is); (case c14 => k_is); (case k14 => k_is)
    (case x15 => k_is); (case l15 => k_is); (case c15 => k_is); (case k15 => k_is)
    (case x16 => k_is); (case l16 => k_is); (case c16 => k_is); (case k16 => k_is)
    (case x17 => k_is); (case l17 => k_is); (case c17 => k_is); (case k17 => k_is)
    (case x18 => k_is); (case l18 => k_is); (case c18 => k_is); (case k18 => k_is)
    (case x19 => k_is); (case l19 => k_is); (case c19 => k_is); (case k19 => k_is)
    (case x20 => k_is); (case l20 => k_is); (case c20 => k_is); (case k20 => k_is)
    (case x21 => k_is); (case l21 => k_is); (case c21 => k_is); (case k21 => k_is)
    (case x22 => k_is); (case l22 => k_is); (case c22 => k_is); (case k22 => k_is)
    (case x23 => k_is); (case l23 => k_is); (case c23 => k_is); (case k23 => k_is)
    (case x24 => k_is); (case l24 => k_is); (case c24 => k_is); (case k24 => k_is)
    (case x25 => k_is); (case l25 => k_is); (case c25 => k_is); (case k25 => k_is)
    (case x26 => k_is); (case l26 => k_is); (case c26 => k_is); (case k26 => k_is)
    (case x27 => k_is); (case l27 => k_is); (case c27 => k_is); (case k27 => k_is)
    (case x28 => k_is); (case l28 => k_is); (case c28 => k_is); (case k28 => k_is)
    (case x29 => k_is); (case l29 => k_is); (case c29 => k_is); (case k29 => k_is)
    (case x30 => k_is); (case l30 => k_is); (case c30 => k_is); (case k30 => k_is)
    (case x31 => k_is); (case l31 => k_is); (case c31 => k_is); (case k31 => k_is)
    (case x32 => k_is); (case l32 => k_is); (case c32 => k_is); (case k32 => k_is)
    (case x33 => k_is); (case l33 => k_is); (case c33 => k_is); (case k33 => k_is)
    (case x34 => k_is); (case l34 => k_is); (case c34 => k_is); (case k34 => k_is)
    (case x35 => k_is); (case l35 => k_is); (case c35 => k_is); (case k35 => k_is)
    (case z0 => k_is)
    (case z1 => k_is)
    (case z2 => k_is)
    (case z3 => k_is)
    (case z4 => k_is)
    (case z5 => k_is)
    (case z6 => k_is)
    (case z7 => k_is)
    (case z8 => k_is)
    (case z9 => k_is)
    (case z10 => k_is)
    (case z11 => k_is)
    (case y0 => k_is)
    (case y1 => k_is)
    (case y2 => k_is)
    (case y3 => k_is)
    (case y4 => k_is)
    (case y5 => k_is)
