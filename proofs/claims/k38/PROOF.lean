import PyProof.Rows.All
import Wide.All
import OpenK.AllK
import Wide.FinOn
import Lean
import PyProof.EqAt
import PyProof.EqKinds
import PyProof.TupleCall
import KE.KRevSl
import KE.KTryMore
import Open.Pieces
import OpenK.KQuick
import OpenK.KWalk
import PyProof.ExcAttrAll.ValueError
import PyProof.FitsBits
import PyProof.NeKinds
import PySem.Challenge.RW_countkin_k38_rings_numbered
set_option Elab.async false
set_option linter.all false
set_option maxRecDepth 100000
/-! THE HAND LAYER, for ints, bools, texts, own classes, LISTS and tuples (index, slices, in, append, pop ..), calls, loops. Paste it whole ahead of your own text; what your proof does not reach may be deleted. -/
namespace L2
open PySem PySem.Spec PyProof.Rows

/-- a key: an int or a str -/
noncomputable abbrev Key := Sum Int Str
noncomputable def keyIs : Key → Value → Bool
  | .inl k, v => Value.isInt k v
  | .inr x, v => Value.isStrOf x v
noncomputable def keyH (w : World) : Key → Int
  | .inl k => hashInt k
  | .inr x => hashStr w x
theorem keyIs_shape : ∀ {k : Key} {v : Value}, keyIs k v = true → (∃ i t, k = Sum.inl i ∧ v = Value.int i t) ∨ (∃ x t, k = Sum.inr x ∧ v = Value.str x t)
  | .inl i, v, h => by
    obtain ⟨t, e⟩ := Value.isInt_shape (k := i) (v := v) h
    exact .inl ⟨i, t, rfl, e⟩
  | .inr x, v, h => by
    obtain ⟨t, e⟩ := Value.isStrOf_shape (x := x) (v := v) h
    exact .inr ⟨x, t, rfl, e⟩
theorem keyIs_int (i : Int) (t : Tok) : keyIs (.inl i) (.int i t) = true := by simp [keyIs, Value.isInt]
theorem keyIs_str (x : Str) (t : Tok) : keyIs (.inr x) (.str x t) = true := by simp [keyIs, Value.isStrOf]
theorem key_ll (a b : Int) : decide ((Sum.inl a : Key) = Sum.inl b) = (a == b) := by
  by_cases e : a = b
  · subst e; simp
  · have h : ¬ (Sum.inl a : Key) = Sum.inl b := fun q => e (Sum.inl.inj q)
    rw [decide_eq_false h]
    exact (beq_eq_false_iff_ne.mpr e).symm
theorem key_rr (a b : Str) : decide ((Sum.inr a : Key) = Sum.inr b) = decide (a = b) := by
  by_cases e : a = b
  · subst e; simp
  · have h : ¬ (Sum.inr a : Key) = Sum.inr b := fun q => e (Sum.inr.inj q)
    rw [decide_eq_false h, decide_eq_false e]
theorem key_lr (a : Int) (b : Str) : decide ((Sum.inl a : Key) = Sum.inr b) = false := decide_eq_false (fun q => nomatch q)
theorem key_rl (a : Str) (b : Int) : decide ((Sum.inr a : Key) = Sum.inl b) = false := decide_eq_false (fun q => nomatch q)

noncomputable def mixKind (prog : Program) (w : World) : PySem.KeyKind prog w Key where
  is := keyIs
  hash := keyH w
  inj := fun v a b ha hb => by
    rcases keyIs_shape ha with ⟨i, t, rfl, rfl⟩ | ⟨x, t, rfl, rfl⟩
    · rcases keyIs_shape hb with ⟨j, u, rfl, e⟩ | ⟨y, u, rfl, e⟩
      · injection e with e1 _; rw [e1]
      · exact nomatch e
    · rcases keyIs_shape hb with ⟨j, u, rfl, e⟩ | ⟨y, u, rfl, e⟩
      · exact nomatch e
      · injection e with e1 _; rw [e1]
  byValue := fun k v h => by
    rcases keyIs_shape h with ⟨i, t, rfl, rfl⟩ | ⟨x, t, rfl, rfl⟩ <;> rfl
  pyHash := fun hv h => by
    rcases keyIs_shape hv with ⟨i, t, rfl, rfl⟩ | ⟨x, t, rfl, rfl⟩
    · exact wpAny_pyHash_int h
    · exact wpAny_pyHash_str h
  eqBool := fun hu hv h => by
    rcases keyIs_shape hu with ⟨i, t, rfl, rfl⟩ | ⟨x, t, rfl, rfl⟩
    · rcases keyIs_shape hv with ⟨j, u, rfl, rfl⟩ | ⟨y, u, rfl, rfl⟩
      · rw [key_ll] at h; exact wpAny_eqBool_int h
      · rw [key_lr] at h; exact SeqAt.EqAt.int_str i t y u _ _ _ _ h
    · rcases keyIs_shape hv with ⟨j, u, rfl, rfl⟩ | ⟨y, u, rfl, rfl⟩
      · rw [key_rl] at h; exact SeqAt.EqAt.str_int x t j u _ _ _ _ h
      · rw [key_rr] at h; exact wpAny_eqBool_str h
  «strs» := fun k x t v h => by
    rcases keyIs_shape h with ⟨i, u, rfl, e⟩ | ⟨y, u, rfl, e⟩
    · exact nomatch e
    · injection e with e1 _
      subst e1
      cases v <;> rfl

theorem mixKind_int (prog : Program) (w : World) (i : Int) (t : Tok) : (mixKind prog w).is (.inl i) (.int i t) = true := keyIs_int i t
theorem mixKind_str (prog : Program) (w : World) (x : Str) (t : Tok) : (mixKind prog w).is (.inr x) (.str x t) = true := keyIs_str x t
end L2

namespace L2
open PySem PySem.Spec PyProof.Rows

/-- a value, without the heap -/
inductive V where
  | non | bl (b : Bool) | int (i : Int) | str (x : Str) | byt (b : Array UInt8) | flt (b : UInt64) | ref (a : Addr) | ty (n : String)
  deriving DecidableEq

noncomputable def RelV : V → Value → Prop
  | .non, u => u = Value.none
  | .bl b, u => u = Value.bool b
  | .int i, u => ∃ t, u = Value.int i t
  | .str x, u => ∃ t, u = Value.str x t
  | .byt b, u => ∃ t, u = Value.bytes b t
  | .flt b, u => ∃ t, u = Value.float b t
  | .ref a, u => u = Value.ref a
  | .ty n, u => u = Value.type n

noncomputable abbrev Vals : List V → List Value → Prop := Paired RelV
theorem Vals.length {xs : List V} {us : List Value} (r : Vals xs us) : xs.length = us.length := Paired.length r
theorem Vals.get : ∀ {xs : List V} {us : List Value} {i : Nat} {x : V}, Vals xs us → xs[i]? = some x → ∃ u, us[i]? = some u ∧ RelV x u
  | _, _, _, _, .nil, e => by simp at e
  | _, _, 0, _, .cons r _, e => by simp at e; subst e; exact ⟨_, rfl, r⟩
  | _, _, i + 1, x, .cons _ t, e => by
    obtain ⟨u, h1, h2⟩ := Vals.get (i := i) (x := x) t (by simpa using e)
    exact ⟨u, by simpa using h1, h2⟩
theorem Vals.set {x : V} {u : Value} (r : RelV x u) : ∀ {xs : List V} {us : List Value} (i : Nat), Vals xs us → Vals (xs.set i x) (us.set i u)
  | _, _, _, .nil => .nil
  | _, _, 0, .cons _ t => .cons r t
  | _, _, i + 1, .cons q t => .cons q (Vals.set r i t)
theorem Vals.append : ∀ {xs ys : List V} {us ws : List Value}, Vals xs us → Vals ys ws → Vals (xs ++ ys) (us ++ ws)
  | _, _, _, _, .nil, s => s
  | _, _, _, _, .cons r t, s => .cons r (Vals.append t s)
theorem Vals.take : ∀ {xs : List V} {us : List Value} (n : Nat), Vals xs us → Vals (xs.take n) (us.take n)
  | _, _, 0, _ => .nil
  | _, _, _ + 1, .nil => .nil
  | _, _, n + 1, .cons r t => .cons r (Vals.take n t)
theorem Vals.drop : ∀ {xs : List V} {us : List Value} (n : Nat), Vals xs us → Vals (xs.drop n) (us.drop n)
  | _, _, 0, r => r
  | _, _, _ + 1, .nil => .nil
  | _, _, n + 1, .cons _ t => Vals.drop n t
noncomputable def RelO : Option V → Option Value → Prop
  | some v, some u => RelV v u
  | none, none => True
  | _, _ => False
noncomputable def KV {κ : Type} : List (κ × V) → List (κ × Value) → Prop := Paired fun (p : κ × V) (q : κ × Value) => p.1 = q.1 ∧ RelV p.2 q.2

/-- a key of a dict (00_mix): an int or a text -/
noncomputable def kV : Key → V
  | .inl i => .int i
  | .inr x => .str x

/-- what stands at a tracked address -/
inductive HO where
  /-- a list -/
  | lst (xs : List V)
  /-- a tuple (never changes) -/
  | tup (xs : List V)
  /-- a dict whose keys are ints and texts; one whose keys are tuples of ints and texts (the empty one is both) -/
  | dK (kvs : List (Key × V)) | dT (kvs : List (List Key × V))
  /-- a set of ints: its members, its size -/
  | set (S : Int → Bool) (n : Nat)
  /-- an instance of the class at C, its dict at dx, its attributes -/
  | ins (C dx : Addr) (fs : List (Str × V))
  /-- the dict of the instance at x -/
  | own (x : Addr)
  /-- the dict of an exception -/
  | xd (fs : List (Str × V))
  /-- a bound method, f of x -/
  | met (f x : Addr)
  /-- a range object lo, lo + 1, .. below hi -/
  | rng (lo hi : Int)
  /-- a thing that is known to the object (the script; a dict while a loop walks it): read, never written while it is so -/
  | frz (o : Obj) (u : HO)
  /-- a code object's table -/
  | tbl (ps : Array Value)
  /-- any other thing, by what is true of its one object (a def of one's own: SetO a S n := HO.ext fun h => ..) -/
  | ext (φ : Heap → Prop)

noncomputable abbrev Hp := Addr → Option HO
noncomputable def upd (H : Hp) (a : Addr) (o : HO) : Hp := fun b => if b = a then some o else H b
theorem upd_same {H : Hp} {a : Addr} {o : HO} : upd H a o a = some o := by unfold upd; rw [if_pos rfl]
theorem upd_ne {H : Hp} {a b : Addr} {o : HO} (h : b ≠ a) : upd H a o b = H b := by unfold upd; rw [if_neg h]
theorem upd_upd {H : Hp} {a : Addr} {o u : HO} : upd (upd H a o) a u = upd H a u := by
  funext b; unfold upd; split <;> rfl
/-- two objects of different content stand apart -/
theorem ne_of {H : Hp} {a b : Addr} {o u : HO} (h : H a = some o) (h' : H b = some u) (d : o ≠ u) : a ≠ b := by
  intro e; subst e; rw [h] at h'; exact d (Option.some.inj h')
theorem ne_of_none {H : Hp} {a b : Addr} {o : HO} (h : H a = some o) (h' : H b = none) : a ≠ b := by
  intro e; subst e; rw [h] at h'; cases h'

section
variable (P : Program) (w : World)
noncomputable def ObjOk (H : Hp) (h : Heap) (a : Addr) : HO → Prop
  | .lst xs => xs.length ≤ sizeLine ∧ ∃ (its : List Value) (n : Nat), Vals xs its ∧ h.get? a = some { cls := .type "list", data := .seq its.toArray n }
  | .tup xs => xs.length ≤ sizeLine ∧ ∃ its : List Value, Vals xs its ∧ IsTup h a its.toArray
  | .dK kvs => kvs.length ≤ sizeLine ∧ (a == sysModules) = false ∧ ∃ vs, KV kvs vs ∧ h.DictOf (mixKind P w) a vs
  | .dT kvs => kvs.length ≤ sizeLine ∧ (a == sysModules) = false ∧ ∃ xs : List (List Key × Addr × Value),
      Paired (fun (p : List Key × V) (q : List Key × Addr × Value) => p.1 = q.1 ∧ H q.2.1 = some (.tup (p.1.map kV)) ∧ RelV p.2 q.2.2) kvs xs ∧
      ∃ o es ep, h.get? a = some o ∧ o.ExactDict ∧ o.data = .dict es ep ∧ es.toList = xs.map (entryOfKey (tupleKind (mixKind P w))) ∧ (xs.map (·.1)).Nodup
  | .set S n => h.SetOf (intKind P w) a S n
  | .ins C dx fs => H dx = some (.own a) ∧ fs.length ≤ 1000 ∧ dx ≠ a ∧ h.get? a = some (PySem.W.instObj C dx) ∧
      ∃ mA, h.Ns1 dx mA ∧ (∀ f, RelO (fs.lookup f) (mA f)) ∧ PySem.Within mA (fs.map (·.1))
  | .own _ => ∃ o, h.get? a = some o
  | .xd fs => ∃ mA, h.Ns1 a mA ∧ ∀ f, RelO (fs.lookup f) (mA f)
  | .rng lo hi => ∃ t u v, h.get? a = some { cls := .type "range", data := .fields #[.int lo t, .int hi u, .int 1 v] }
  | .frz o u => h.get? a = some o ∧ ObjOk H h a u
  | .tbl ps => h.get? a = some { cls := .none, data := .fields ps }
  | .met f x => h.get? a = some (PySem.W.methodObj (.ref f) (.ref x))
  | .ext φ => φ h ∧ (∃ o, h.get? a = some o) ∧ ∀ h1 h2 : Heap, φ h1 → (∀ o, h1.get? a = some o → h2.get? a = some o) → φ h2
/-- the abstract heap is held -/
noncomputable def HOk (H : Hp) (h : Heap) : Prop := ∀ a o, H a = some o → ObjOk P w H h a o
end

section
variable {P : Program} {w : World} {H H' : Hp} {h h' : Heap} {a : Addr} {o : HO}
theorem ObjOk.lt (x : ObjOk P w H h a o) : a < h.objs.size := by
  cases o with
  | lst xs => obtain ⟨_, _, _, _, e⟩ := x; exact Heap.lt_size e
  | tup xs => obtain ⟨_, _, _, p⟩ := x; exact p.lt
  | dK kvs => obtain ⟨_, _, _, _, o, _, _, e, _⟩ := x; exact Heap.lt_size e
  | dT kvs => obtain ⟨_, _, _, _, o, _, _, e, _⟩ := x; exact Heap.lt_size e
  | set S n => obtain ⟨o, _, _, _, e, _⟩ := x; exact Heap.lt_size e
  | ins C dx fs => obtain ⟨_, _, _, e, _⟩ := x; exact Heap.lt_size e
  | own y => obtain ⟨_, e⟩ := x; exact Heap.lt_size e
  | xd fs => obtain ⟨_, ⟨_, _, _, e, _⟩, _⟩ := x; exact Heap.lt_size e
  | rng lo hi => obtain ⟨_, _, _, e⟩ := x; exact Heap.lt_size e
  | frz ob u => obtain ⟨e, _⟩ := x; exact Heap.lt_size e
  | tbl ps => exact Heap.lt_size (show h.get? a = some _ from x)
  | met f y => exact Heap.lt_size (show h.get? a = some _ from x)
  | ext φ => obtain ⟨_, ⟨_, e⟩, _⟩ := x; exact Heap.lt_size e
theorem Paired.mapP {α β : Type} {F G : α → β → Prop} : ∀ {l₁ : List α} {l₂ : List β}, Paired F l₁ l₂ → (∀ a b, F a b → G a b) → Paired G l₁ l₂
  | _, _, .nil, _ => .nil
  | _, _, .cons r t, f => .cons (f _ _ r) (Paired.mapP t f)
/-- what an object's description leans on: its own object, its own dict, the tuples -/
theorem ObjOk.stay (x : ObjOk P w H h a o) (k : ∀ b u, (b = a ∨ H b = some (.own a)) → h.get? b = some u → h'.get? b = some u)
    (ho : ∀ b, H b = some (.own a) → H' b = some (.own a)) (ht : ∀ b xs, H b = some (.tup xs) → H' b = some (.tup xs)) : ObjOk P w H' h' a o := by
  induction o with
  | lst xs => obtain ⟨z, its, n, r, e⟩ := x; exact ⟨z, its, n, r, k _ _ (.inl rfl) e⟩
  | tup xs => obtain ⟨z, its, r, ob, e, c⟩ := x; exact ⟨z, its, r, ob, k _ _ (.inl rfl) e, c⟩
  | dK kvs => obtain ⟨z, y, vs, r, ob, es, ep, e, c⟩ := x; exact ⟨z, y, vs, r, ob, es, ep, k _ _ (.inl rfl) e, c⟩
  | dT kvs =>
    obtain ⟨z, y, xs, r, ob, es, ep, e, c⟩ := x
    exact ⟨z, y, xs, Paired.mapP r fun p q z => ⟨z.1, ht _ _ z.2.1, z.2.2⟩, ob, es, ep, k _ _ (.inl rfl) e, c⟩
  | set S n => obtain ⟨ob, es, ep, t, e, c⟩ := x; exact ⟨ob, es, ep, t, k _ _ (.inl rfl) e, c⟩
  | ins C dx fs =>
    obtain ⟨d, z, ne, e, mA, ⟨od, es, ep, e2, c⟩, r⟩ := x
    exact ⟨ho _ d, z, ne, k _ _ (.inl rfl) e, mA, ⟨od, es, ep, k _ _ (.inr d) e2, c⟩, r⟩
  | own y => obtain ⟨ob, e⟩ := x; exact ⟨ob, k _ _ (.inl rfl) e⟩
  | xd fs => obtain ⟨mA, ⟨od, es, ep, e, c⟩, r⟩ := x; exact ⟨mA, ⟨od, es, ep, k _ _ (.inl rfl) e, c⟩, r⟩
  | rng lo hi => obtain ⟨t, u, v, e⟩ := x; exact ⟨t, u, v, k _ _ (.inl rfl) e⟩
  | frz ob u ih => obtain ⟨e, q⟩ := x; exact ⟨k _ _ (.inl rfl) e, ih q⟩
  | tbl ps =>
    have e : h.get? a = some { cls := .none, data := .fields ps } := x
    show h'.get? a = some { cls := .none, data := .fields ps }
    exact k a _ (.inl rfl) e
  | met f y =>
    have e : h.get? a = some (PySem.W.methodObj (.ref f) (.ref y)) := x
    show h'.get? a = some (PySem.W.methodObj (.ref f) (.ref y))
    exact k a _ (.inl rfl) e
  | ext φ => obtain ⟨p, ⟨o, e⟩, st⟩ := x; exact ⟨st _ _ p fun o q => k _ _ (.inl rfl) q, ⟨o, k _ _ (.inl rfl) e⟩, st⟩
theorem HOk.lt (x : HOk P w H h) (e : H a = some o) : a < h.objs.size := (x a o e).lt
theorem HOk.fresh (x : HOk P w H h) (e : h.objs.size ≤ a) : H a = none := by
  cases q : H a with
  | none => rfl
  | some u => exact absurd (Nat.lt_of_lt_of_le (x.lt q) e) (Nat.lt_irrefl _)
/-- every object of the heap is kept -/
theorem HOk.kept (x : HOk P w H h) (k : ∀ b u, h.get? b = some u → h'.get? b = some u) : HOk P w H h' := fun a o e =>
  (x a o e).stay (fun b u _ q => k b u q) (fun _ q => q) fun _ _ q => q
/-- a new object is laid and tracked -/
theorem HOk.laid (x : HOk P w H h) (k : ∀ b u, h.get? b = some u → h'.get? b = some u) (hp : h.objs.size ≤ a) (new : ObjOk P w (upd H a o) h' a o) : HOk P w (upd H a o) h' := fun b u e => by
  have hn := x.fresh hp
  by_cases hb : b = a
  · subst hb; rw [upd_same] at e; cases e; exact new
  · rw [upd_ne hb] at e
    exact (x b u e).stay (fun c v _ q => k c v q) (fun c q => by rw [upd_ne (ne_of_none q hn)]; exact q) fun c xs q => by rw [upd_ne (ne_of_none q hn)]; exact q
end

/-- what may be read as u: it is u, or a known u -/
noncomputable def Rd (H : Hp) (a : Addr) (u : HO) : Prop := H a = some u ∨ ∃ o, H a = some (.frz o u)
theorem Rd.ok {P : Program} {w : World} {H : Hp} {h : Heap} {a : Addr} {u : HO} (r : Rd H a u) (x : HOk P w H h) : ObjOk P w H h a u := by
  rcases r with r | ⟨o, r⟩
  · exact x a u r
  · obtain ⟨_, q⟩ := x a _ r
    exact q
/-- what may be written -/
noncomputable def Mut : Option HO → Prop
  | some (.lst _) => True
  | some (.dK _) => True
  | some (.dT _) => True
  | some (.set _ _) => True
  | some (.ins _ _ _) => True
  | some (.ext _) => True
  | _ => False
section
variable {P : Program} {w : World} {H : Hp} {h h' : Heap} {x e : Addr} {o' : HO}
/-- the object at e is changed: x itself, or the dict of the instance x -/
theorem HOk.write (ok : HOk P w H h) (mu : Mut (H x)) (he : e = x ∨ H e = some (.own x)) (k : ∀ b u, b ≠ e → h.get? b = some u → h'.get? b = some u) (heo : ∃ u, h'.get? e = some u)
    (new : ObjOk P w (upd H x o') h' x o') : HOk P w (upd H x o') h' := fun b u q => by
  have nown : ∀ c y, H c = some (.own y) → c ≠ x := fun c y r z => by subst z; rw [r] at mu; exact mu
  have ntup : ∀ c xs, H c = some (.tup xs) → c ≠ x := fun c xs r z => by subst z; rw [r] at mu; exact mu
  by_cases hb : b = x
  · subst hb; rw [upd_same] at q; cases q; exact new
  · rw [upd_ne hb] at q
    by_cases hbe : b = e
    · have q' : H b = some (.own x) := by
        rcases he with z | z
        · exact absurd (hbe.trans z) hb
        · rw [hbe]; exact z
      rw [q] at q'; cases q'
      obtain ⟨v, hv⟩ := heo
      exact ⟨v, by rw [hbe]; exact hv⟩
    · refine (ok b u q).stay (fun c v hc r => k c v ?_ r) (fun c r => by rw [upd_ne (nown c b r)]; exact r) fun c xs r => by rw [upd_ne (ntup c xs r)]; exact r
      rcases hc with rfl | hc
      · exact hbe
      · rintro rfl
        rcases he with z | z
        · exact nown c b hc z
        · rw [hc] at z; cases z; exact hb rfl
end

/-! ### kept unless tracked; of the frames at fs (the callers') the slots may change (an exception that passes writes there); of the records at ex (iterators) nothing is said -/
structure Un (fs ex : List Addr) (H H' : Hp) (h h' : Heap) : Prop where
  keep : ∀ b o, h.get? b = some o → H b = none → b ∉ fs → b ∉ ex → h'.get? b = some o
  slot : ∀ b o, h.get? b = some o → H b = none → b ∈ fs → b ∉ ex → ∃ sl, h'.get? b = some { o with slots := sl }
  free : ∀ b o, h.get? b = some o → H b = none → b ∉ ex → H' b = none
  there : ∀ b o, h.get? b = some o → b ∉ ex → ∃ o', h'.get? b = some o'
  tups : ∀ b xs, H b = some (.tup xs) → H' b = some (.tup xs)
  frzs : ∀ b o u, H b = some (.frz o u) → H' b = some (.frz o u)
  tbls : ∀ b ps, H b = some (.tbl ps) → ∃ more, H' b = some (.tbl (ps ++ more))
section
variable {fs fs' ex ex' : List Addr} {H H1 H2 : Hp} {h h1 h2 h' : Heap} {a x e : Addr} {o : HO}
theorem Un.any (u : Un fs ex H H1 h h1) {b : Addr} {ob : Obj} (q : h.get? b = some ob) (n : H b = none) (hx : b ∉ ex) : ∃ sl, h1.get? b = some { ob with slots := sl } := by
  by_cases hb : b ∈ fs
  · exact u.slot b ob q n hb hx
  · exact ⟨ob.slots, u.keep b ob q n hb hx⟩
theorem Un.kept (k : ∀ b u, h.get? b = some u → h'.get? b = some u) : Un fs ex H H h h' :=
  ⟨fun b ob q _ _ _ => k b ob q, fun b ob q _ _ _ => ⟨ob.slots, k b ob q⟩, fun _ _ _ n _ => n, fun b ob q _ => ⟨ob, k b ob q⟩, fun _ _ q => q, fun _ _ _ q => q, fun _ ps q => ⟨#[], by rw [q]; simp⟩⟩
theorem Un.refl : Un fs ex H H h h := Un.kept fun _ _ q => q
theorem Un.laid (k : ∀ b u, h.get? b = some u → h'.get? b = some u) (hp : h.objs.size ≤ a) (hn : H a = none) : Un fs ex H (upd H a o) h h' where
  keep := fun b u q _ _ _ => k b u q
  slot := fun b u q _ _ _ => ⟨u.slots, k b u q⟩
  free := fun b u q n _ => by rw [upd_ne (Nat.ne_of_lt (Nat.lt_of_lt_of_le (Heap.lt_size q) hp))]; exact n
  there := fun b u q _ => ⟨u, k b u q⟩
  tups := fun b xs q => by rw [upd_ne (ne_of_none q hn)]; exact q
  frzs := fun b u xs q => by rw [upd_ne (ne_of_none q hn)]; exact q
  tbls := fun b ps q => ⟨#[], by rw [upd_ne (ne_of_none q hn), q]; simp⟩
theorem Un.write (mu : Mut (H x)) (he : e = x ∨ H e = some (.own x)) (k : ∀ b u, b ≠ e → h.get? b = some u → h'.get? b = some u) (heo : ∃ u, h'.get? e = some u) : Un fs ex H (upd H x o) h h' := by
  have hx : ∀ b, H b = none → b ≠ x := fun b n z => by subst z; rw [n] at mu; exact mu
  have hb : ∀ b, H b = none → b ≠ e := fun b n z => by
    subst z
    rcases he with r | r
    · exact hx b n r
    · rw [n] at r; cases r
  have hm : ∀ b u, H b = some u → ¬ Mut (some u) → b ≠ x := fun b u q nm z => by subst z; rw [q] at mu; exact nm mu
  refine ⟨fun b u q n _ _ => k b u (hb b n) q, fun b u q n _ _ => ⟨u.slots, k b u (hb b n) q⟩, fun b u q n _ => by rw [upd_ne (hx b n)]; exact n, fun b u q _ => ?_,
    fun b xs q => by rw [upd_ne (hm b _ q fun z => z)]; exact q, fun b u xs q => by rw [upd_ne (hm b _ q fun z => z)]; exact q, fun b ps q => ⟨#[], by rw [upd_ne (hm b _ q fun z => z), q]; simp⟩⟩
  by_cases hbe : b = e
  · subst hbe; exact heo
  · exact ⟨u, k b u hbe q⟩
end

/-! ### the heap without what is tracked -/
noncomputable def trk (h : Heap) (H : Hp) : List Addr := (List.range h.objs.size).filter fun a => (H a).isSome
noncomputable def hidT (h : Heap) (H : Hp) : Heap := PySem.W.hideAll h (trk h H)
theorem hidT_size (h : Heap) (H : Hp) : (hidT h H).objs.size = h.objs.size := PySem.W.hideAll_size _ _
theorem hidT_get {h : Heap} {H : Hp} {b : Addr} {o : Obj} (e : h.get? b = some o) (n : H b = none) : (hidT h H).get? b = some o :=
  PySem.W.hideAll_get _ e fun hm => by
    have q : (H b).isSome = true := (List.mem_filter.mp hm).2
    rw [n] at q; simp at q
theorem of_hidT {h : Heap} {H : Hp} {b : Addr} {o : Obj} (e : (hidT h H).get? b = some o) : h.get? b = some o ∧ H b = none := by
  have e' : h.get? b = some o := PySem.W.of_hideAll (trk h H) e
  refine ⟨e', ?_⟩
  cases q : H b with
  | none => rfl
  | some x =>
    have hm : b ∈ trk h H := List.mem_filter.mpr ⟨List.mem_range.mpr (Heap.lt_size e'), by simp [q]⟩
    have z : (hidT h H).get? b = none := PySem.W.hideAll_none (trk h H) hm
    rw [z] at e; cases e

/-! ### OpenK's ledger, filled with every new object but one -/
noncomputable def allNews (g h : Heap) (L : Addr) : List (Addr × Obj) := (List.range h.objs.size).filterMap fun a => if a = L ∨ (g.get? a).isSome = true then none else (h.get? a).map fun o => (a, o)
noncomputable def rest (g h : Heap) (L d : Addr) : List (Addr × Obj) := (allNews g h L).filter fun p => decide (p.1 ≠ d)
end L2

namespace L2
open PySem PySem.Spec PyProof.Rows

/-- the module's facts, over the base: the heap at the law's entry without what is tracked there -/
structure Mod (K : PySem.W.Frag) (mg : Str → Option Value) (base : Heap) : Prop where
  kin : K.In base
  glob : base.Ns mainGlobals mg
  blt : ∃ mb, base.Ns builtinsNs mb ∧ ∀ x : Str, x ≠ "__name__" → mb x = bootBuiltins x
  nolimit : base.NoLimit

/-- the context: a def's body (or a comprehension's block) running. base: fixed through the whole law; s₀, H₀: the entry; outer: the frames whose slots others may change (a def's callers); stack: all frames that run;
   ex: iterators that were made ahead of the entry and are walked here (a comprehension's); fn: the names whose cells were made at the entry (a def: all; a comprehension's block: its own); calm: not within an except suite; pn: pins that every state bears; xe: what is wanted of an exception that leaves the code -/
structure Cx where
  prog : Program
  w : World
  K : PySem.W.Frag
  mg : Str → Option Value
  base : Heap
  A : Around
  N : List Str
  s₀ : Shared
  H₀ : Hp
  env : Env
  outer : List Env
  stack : List Env
  ex : List Addr
  fn : Str → Bool
  calm : Bool
  pn : List (Addr × Obj)
  xe : Value → Shared → Prop
/-- the callers' frames -/
noncomputable def frs (l : List Env) : List Addr := l.filterMap (·.frame)
noncomputable abbrev Cx.fs (X : Cx) : List Addr := frs X.outer

noncomputable def Vis (sc : Scope) (x : Str) : Prop := sc.names.lookup x = some .local ∨ sc.names.lookup x = some .cell ∨ sc.names.lookup x = some .free
noncomputable def Loc (sc : Scope) (x : Str) : Prop := sc.names.lookup x = some .local ∨ sc.names.lookup x = some .cell
noncomputable def Look (env : Env) (h : Heap) (m : Str → Option Value) (x : Str) (u : Value) : Prop :=
  (env.kindOf x = some .local ∧ m x = some u) ∨ ((env.kindOf x = some .cell ∨ env.kindOf x = some .free) ∧ ∃ c, env.cells.lookup x = some c ∧ h.IsCell c (some u))

structure Cx.Ok (X : Cx) : Prop where
  mod : Mod X.K X.mg X.base
  kind : X.env.scope.kind = .function
  glob : X.env.globals = mainGlobals
  blt : X.env.builtins = builtinsNs
  above : X.s₀.heap.objs.size ≤ X.env.locals
  inj : ∀ x y c, X.env.cells.lookup x = some c → X.env.cells.lookup y = some c → x = y
  has : ∀ x, (X.env.kindOf x = some .cell ∨ X.env.kindOf x = some .free) → ∃ c, X.env.cells.lookup x = some c
  cab : ∀ x c, X.fn x = true → X.env.cells.lookup x = some c → X.s₀.heap.objs.size ≤ c
  hd : X.calm = true → X.A.handled = none
  frames : X.A.frames = some X.stack
  stk : X.stack = X.outer ∨ (X.stack = X.env :: X.outer ∧ X.env.frame = some X.env.locals)
  exf : ∀ b ∈ X.ex, b ≠ X.env.locals ∧ ∀ x c, X.env.cells.lookup x = some c → c ≠ b
  bs : ∀ b o, X.base.get? b = some o → X.s₀.heap.get? b = some o ∧ X.H₀ b = none
  bsz : X.base.objs.size ≤ X.s₀.heap.objs.size
  noex : ∀ b o, X.base.get? b = some o → b ∉ X.ex
  exfs : ∀ b ∈ X.ex, b ∉ X.fs
  funs : X.s₀.heap.FunFrames X.base X.outer
  frf : ∀ b ∈ X.fs, X.H₀ b = none

structure Inv (X : Cx) (pins : List (Addr × Obj)) (σ : List (Option V)) (H : Hp) (s : Shared) : Prop where
  ok : X.Ok
  os : s.os = X.s₀.os
  bare : AllBare s.gens
  base : Un X.fs X.ex X.H₀ H X.s₀.heap s.heap
  loc : ∃ m, s.heap.Ns X.env.locals m ∧ ∀ (i : Nat) (x : Str) (v : V), X.N[i]? = some x → σ[i]? = some (some v) → Vis X.env.scope x → ∃ u, RelV v u ∧ Look X.env s.heap m x u
  cell : ∀ x c, X.env.cells.lookup x = some c → ∃ v, s.heap.IsCell c v
  free : H X.env.locals = none
  freeC : ∀ x c, X.env.cells.lookup x = some c → H c = none
  pin : ∀ p ∈ X.pn ++ pins, s.heap.get? p.1 = some p.2 ∧ H p.1 = none ∧ p.1 ≠ X.env.locals ∧ p.1 ∉ X.fs ∧ ∀ v, p.2.data ≠ .cell v
  hok : HOk X.prog X.w H s.heap
  len : σ.length = X.N.length

section
variable {X : Cx} {pins : List (Addr × Obj)} {σ : List (Option V)} {H H' : Hp} {s : Shared} {h' : Heap}

theorem Cx.Ok.nofr (ok : X.Ok) {b : Addr} {o : Obj} (e : X.base.get? b = some o) : b ∉ X.fs := fun hb => by
  have := (ok.funs.mem hb).1
  rw [e] at this; cases this
theorem Inv.bs (I : Inv X pins σ H s) : ∀ b o, X.base.get? b = some o → s.heap.get? b = some o ∧ H b = none := fun b o e =>
  ⟨I.base.keep b o (I.ok.bs b o e).1 (I.ok.bs b o e).2 (I.ok.nofr e) (I.ok.noex b o e), I.base.free b o (I.ok.bs b o e).1 (I.ok.bs b o e).2 (I.ok.noex b o e)⟩
theorem Inv.bk (I : Inv X pins σ H s) : ∀ b o, X.base.get? b = some o → s.heap.get? b = some o := fun b o e => (I.bs b o e).1
theorem Inv.mod (I : Inv X pins σ H s) : Mod X.K X.mg X.base := I.ok.mod
theorem Inv.kIn (I : Inv X pins σ H s) : X.K.In s.heap := I.ok.mod.kin.keeps I.bk
/-- the frame over the base: for OpenK's rules (K.In X.base is I.mod.kin) -/
theorem Inv.fr (I : Inv X pins σ H s) : ∃ m, Fr X.base X.env.locals s.heap m :=
  let ⟨m, hn, _⟩ := I.loc
  ⟨m, hn, I.bk, Nat.le_trans I.ok.bsz I.ok.above⟩
theorem Inv.lt (I : Inv X pins σ H s) : X.env.locals < s.heap.objs.size := let ⟨_, hn, _⟩ := I.loc; hn.lt
theorem Inv.sz (I : Inv X pins σ H s) : X.s₀.heap.objs.size ≤ s.heap.objs.size := Nat.le_trans I.ok.above (Nat.le_of_lt I.lt)
theorem Inv.nofs (I : Inv X pins σ H s) {a : Addr} (h : s.heap.objs.size ≤ a) : a ∉ X.fs := fun hb => by
  obtain ⟨_, o, ho, _⟩ := I.ok.funs.mem hb
  exact absurd (Nat.lt_of_lt_of_le (Heap.lt_size ho) (Nat.le_trans I.sz h)) (Nat.lt_irrefl _)
theorem Inv.cne (I : Inv X pins σ H s) : ∀ x c, X.env.cells.lookup x = some c → c ≠ X.env.locals := fun x c e z => by
  obtain ⟨v, o, ho, hd⟩ := I.cell x c e
  obtain ⟨m, ⟨o', es, ep, ho', hd', _⟩, _⟩ := I.loc
  rw [z, ho'] at ho; cases ho; rw [hd'] at hd; cases hd
theorem Inv.funs (I : Inv X pins σ H s) : s.heap.FunFrames X.base X.outer := by
  have all : ∀ (l : List Env), (∀ b ∈ frs l, b ∈ X.fs) → X.s₀.heap.FunFrames X.base l → s.heap.FunFrames X.base l := by
    intro l
    induction l with
    | nil => intro _ _; trivial
    | cons env r ih =>
      intro hs hl
      obtain ⟨hk, ⟨L, o, hf, hn, ho, hd⟩, hr⟩ := hl
      have hL : L ∈ X.fs := hs L (by unfold frs; rw [List.filterMap_cons, hf]; exact List.mem_cons_self)
      obtain ⟨sl, e⟩ := I.base.slot L o ho (I.ok.frf L hL) hL fun z => I.ok.exfs L z hL
      exact ⟨hk, ⟨L, _, hf, hn, e, hd⟩, ih (fun b hb => hs b (by unfold frs; rw [List.filterMap_cons, hf]; exact List.mem_cons_of_mem _ hb)) hr⟩
  exact all X.outer (fun _ hb => hb) I.ok.funs

/-- the frames that run, for a call -/
theorem Inv.stack (I : Inv X pins σ H s) : s.heap.FunFrames X.base X.stack := by
  rcases I.ok.stk with e | ⟨e, hf⟩
  · rw [e]; exact I.funs
  · rw [e]
    obtain ⟨m, hn, _⟩ := I.loc
    refine .cons (by rw [I.ok.kind]; decide) hf hn ?_ I.funs
    exact Heap.get?_none_of_le (Nat.le_trans I.ok.bsz I.ok.above)
theorem Inv.stkSub (I : Inv X pins σ H s) : ∀ b ∈ frs X.stack, b ∈ X.env.locals :: X.fs := fun b hb => by
  rcases I.ok.stk with e | ⟨e, hf⟩
  · rw [e] at hb; exact List.mem_cons_of_mem _ hb
  · rw [e] at hb
    unfold frs at hb
    rw [List.filterMap_cons, hf] at hb
    exact hb
theorem Inv.stkFree (I : Inv X pins σ H s) : ∀ b ∈ frs X.stack, H b = none := fun b hb => by
  rcases List.mem_cons.mp (I.stkSub b hb) with e | hb
  · rw [e]; exact I.free
  · obtain ⟨_, o, ho, _⟩ := I.ok.funs.mem hb
    exact I.base.free b o ho (I.ok.frf b hb) fun z => I.ok.exfs b z hb

/-- THE STEP: the untracked objects but the frame and the records at ch are kept (the callers' frames up to slots), the frame's map is kept, the new abstract heap is held -/
theorem Inv.step {g' : Array GenState} {t' : Nat} {d' : Drawn} {ch : List Addr} (I : Inv X pins σ H s)
    (hch : ∀ b ∈ ch, (b ∈ X.ex ∨ X.s₀.heap.objs.size ≤ b) ∧ b ≠ X.env.locals ∧ (∀ x c, X.env.cells.lookup x = some c → c ≠ b) ∧ ∀ p ∈ X.pn ++ pins, p.1 ≠ b)
    (keep : ∀ b o, b ≠ X.env.locals → b ∉ X.fs → b ∉ ch → s.heap.get? b = some o → H b = none → h'.get? b = some o)
    (slot : ∀ b o, b ≠ X.env.locals → b ∈ X.fs → b ∉ ch → s.heap.get? b = some o → H b = none → ∃ sl, h'.get? b = some { o with slots := sl }) (free : ∀ b o, b ∉ ch → s.heap.get? b = some o → H b = none → H' b = none)
    (there : ∀ b o, b ∉ ch → s.heap.get? b = some o → ∃ o', h'.get? b = some o')
    (tups : ∀ b xs, H b = some (.tup xs) → H' b = some (.tup xs)) (frzs : ∀ b o u, H b = some (.frz o u) → H' b = some (.frz o u)) (tbls : ∀ b ps, H b = some (.tbl ps) → ∃ more, H' b = some (.tbl (ps ++ more)))
    (ns : ∀ m, s.heap.Ns X.env.locals m → h'.Ns X.env.locals m) (hok : HOk X.prog X.w H' h') (hg : AllBare g') :
    Inv X pins σ H' { s with heap := h', gens := g', drawn := d', toks := t' } := by
  have neL : ∀ b o, X.s₀.heap.get? b = some o → b ≠ X.env.locals := fun b o e => Nat.ne_of_lt (Nat.lt_of_lt_of_le (Heap.lt_size e) I.ok.above)
  have neC : ∀ b o, X.s₀.heap.get? b = some o → b ∉ X.ex → b ∉ ch := fun b o e hx hb => by
    rcases (hch b hb).1 with z | z
    · exact hx z
    · exact absurd (Nat.lt_of_lt_of_le (Heap.lt_size e) z) (Nat.lt_irrefl _)
  have cellK : ∀ x c, X.env.cells.lookup x = some c → ∀ v, s.heap.IsCell c v → h'.IsCell c v := fun x c e v ⟨o, ho, hd⟩ => by
    have nch : c ∉ ch := fun z => (hch c z).2.2.1 x c e rfl
    by_cases hc : c ∈ X.fs
    · obtain ⟨sl, q⟩ := slot c o (I.cne x c e) hc nch ho (I.freeC x c e)
      exact ⟨_, q, hd⟩
    · exact ⟨o, keep c o (I.cne x c e) hc nch ho (I.freeC x c e), hd⟩
  refine ⟨I.ok, I.os, hg, ⟨fun b o e n hb hx => ?_, fun b o e n hb hx => ?_, fun b o e n hx => ?_, fun b o e hx => ?_, fun b xs e => tups b xs (I.base.tups b xs e), fun b o xs e => frzs b o xs (I.base.frzs b o xs e), fun b ps e => ?_⟩, ?_, fun x c e => ?_, ?_, fun x c e => ?_, fun p hp => ?_, hok, I.len⟩
  · exact keep b o (neL b o e) hb (neC b o e hx) (I.base.keep b o e n hb hx) (I.base.free b o e n hx)
  · obtain ⟨sl, e1⟩ := I.base.slot b o e n hb hx
    obtain ⟨sl', e2⟩ := slot b _ (neL b o e) hb (neC b o e hx) e1 (I.base.free b o e n hx)
    exact ⟨sl', e2⟩
  · obtain ⟨o', e1⟩ := I.base.there b o e hx
    exact free b o' (neC b o e hx) e1 (I.base.free b o e n hx)
  · obtain ⟨o', e1⟩ := I.base.there b o e hx
    exact there b o' (neC b o e hx) e1
  · obtain ⟨m1, e1⟩ := I.base.tbls b ps e
    obtain ⟨m2, e2⟩ := tbls b _ e1
    exact ⟨m1 ++ m2, by rw [e2, Array.append_assoc]⟩
  · obtain ⟨m, hn, hl⟩ := I.loc
    refine ⟨m, ns m hn, fun i x v e1 e2 e3 => ?_⟩
    obtain ⟨u, r, l⟩ := hl i x v e1 e2 e3
    refine ⟨u, r, ?_⟩
    rcases l with l | ⟨k, c, e, z⟩
    · exact .inl l
    · exact .inr ⟨k, c, e, cellK x c e _ z⟩
  · obtain ⟨v, z⟩ := I.cell x c e
    exact ⟨v, cellK x c e v z⟩
  · obtain ⟨m, ⟨o, _, _, ho, _⟩, _⟩ := I.loc
    exact free _ o (fun z => (hch _ z).2.1 rfl) ho I.free
  · obtain ⟨v, o, ho, hd⟩ := I.cell x c e
    exact free c o (fun z => (hch c z).2.2.1 x c e rfl) ho (I.freeC x c e)
  · obtain ⟨e, n, ne, nf, d⟩ := I.pin p hp
    have nch : p.1 ∉ ch := fun z => (hch p.1 z).2.2.2 p hp rfl
    exact ⟨keep p.1 p.2 ne nf nch e n, free p.1 p.2 nch e n, ne, nf, d⟩
/-- .. where the frame's own object is kept too -/
theorem Inv.un {t' : Nat} (I : Inv X pins σ H s) (u : Un X.fs [] H H' s.heap h') (hok : HOk X.prog X.w H' h') : Inv X pins σ H' { s with heap := h', toks := t' } := by
  obtain ⟨m, ⟨o, es, ep, ho, r⟩, _⟩ := id I.loc
  obtain ⟨sl, hL⟩ := u.any ho I.free (by simp)
  exact I.step (g' := s.gens) (d' := s.drawn) (ch := []) (fun _ z => nomatch z) (fun b o _ hb _ e n => u.keep b o e n hb (by simp)) (fun b o _ hb _ e n => u.slot b o e n hb (by simp)) (fun b o _ e n => u.free b o e n (by simp)) (fun b o _ e => u.there b o e (by simp)) u.tups u.frzs u.tbls (fun m' hm => by
    obtain ⟨o', es', ep', ho', r'⟩ := hm
    rw [ho] at ho'; cases ho'
    exact ⟨_, es', ep', hL, r'⟩) hok I.bare
/-- behind a call (or a comprehension's block): the slots of this frame may have changed too, the records at ch may have turned -/
theorem Inv.call {g' : Array GenState} {t' : Nat} {d' : Drawn} {ch : List Addr} (I : Inv X pins σ H s) (u : Un (frs X.stack) ch H H' s.heap h') (hok : HOk X.prog X.w H' h') (hg : AllBare g')
    (hch : ∀ b ∈ ch, (b ∈ X.ex ∨ X.s₀.heap.objs.size ≤ b) ∧ b ≠ X.env.locals ∧ (∀ x c, X.env.cells.lookup x = some c → c ≠ b) ∧ ∀ p ∈ X.pn ++ pins, p.1 ≠ b) :
    Inv X pins σ H' { s with heap := h', gens := g', drawn := d', toks := t' } := by
  obtain ⟨m, ⟨o, es, ep, ho, r⟩, _⟩ := id I.loc
  obtain ⟨sl, hL⟩ := u.any ho I.free fun z => (hch _ z).2.1 rfl
  exact I.step (ch := ch) hch (fun b o hL hb hc e n => u.keep b o e n (fun z => (List.mem_cons.mp (I.stkSub b z)).elim hL hb) hc) (fun b o _ _ hc e n => u.any e n hc) (fun b o hc e n => u.free b o e n hc) (fun b o hc e => u.there b o e hc) u.tups u.frzs u.tbls (fun m' hm => by
    obtain ⟨o', es', ep', ho', r'⟩ := hm
    rw [ho] at ho'; cases ho'
    exact ⟨_, es', ep', hL, r'⟩) hok hg
/-- an untracked record of ours (an iterator) has turned -/
theorem Inv.turned {t' : Nat} {it : Addr} (I : Inv X pins σ H s) (k : ∀ b o, b ≠ it → s.heap.get? b = some o → h'.get? b = some o) (hn : H it = none) (hL : it ≠ X.env.locals)
    (h1 : it ∈ X.ex ∨ X.s₀.heap.objs.size ≤ it) (h2 : ∀ x c, X.env.cells.lookup x = some c → c ≠ it) (h3 : ∀ p ∈ X.pn ++ pins, p.1 ≠ it) : Inv X pins σ H { s with heap := h', toks := t' } := by
  have nit : ∀ b u, H b = some u → b ≠ it := fun b u e z => by rw [z, hn] at e; cases e
  refine I.step (g' := s.gens) (d' := s.drawn) (ch := [it]) (fun b hb => ?_) (fun b o _ _ hc e _ => k b o (fun z => hc (by simp [z])) e) (fun b o _ _ hc e _ => ⟨o.slots, k b o (fun z => hc (by simp [z])) e⟩) (fun _ _ _ _ n => n)
    (fun b o hc e => ⟨o, k b o (fun z => hc (by simp [z])) e⟩) (fun _ _ e => e) (fun _ _ _ e => e) (fun b ps e => ⟨#[], by rw [e]; simp⟩) (fun m hm => ?_) (fun b u e => ?_) I.bare
  · have e : b = it := by simpa using hb
    subst e
    exact ⟨h1, hL, h2, h3⟩
  · obtain ⟨o, es, ep, ho, r⟩ := hm
    exact ⟨o, es, ep, k _ o (Ne.symm hL) ho, r⟩
  · refine (I.hok b u e).stay (fun c v hc q => k c v ?_ q) (fun _ q => q) fun _ _ q => q
    rcases hc with z | z
    · rw [z]; exact nit b u e
    · exact nit c _ z
theorem Inv.tok (I : Inv X pins σ H s) (t : Nat) : Inv X pins σ H { s with toks := t } := I.un (h' := s.heap) (t' := t) Un.refl I.hok
/-- all objects kept -/
theorem Inv.kept {t' : Nat} (I : Inv X pins σ H s) (k : ∀ b u, s.heap.get? b = some u → h'.get? b = some u) : Inv X pins σ H { s with heap := h', toks := t' } := I.un (Un.kept k) (I.hok.kept k)
/-- a new object laid and tracked -/
theorem Inv.laid {a : Addr} {o : HO} {t' : Nat} (I : Inv X pins σ H s) (k : ∀ b u, s.heap.get? b = some u → h'.get? b = some u) (hp : s.heap.objs.size ≤ a) (new : ObjOk X.prog X.w (upd H a o) h' a o) :
    Inv X pins σ (upd H a o) { s with heap := h', toks := t' } := I.un (Un.laid k hp (I.hok.fresh hp)) (I.hok.laid k hp new)
/-- an object written -/
theorem Inv.write {x e : Addr} {o : HO} {t' : Nat} (I : Inv X pins σ H s) (mu : Mut (H x)) (he : e = x ∨ H e = some (.own x)) (k : ∀ b u, b ≠ e → s.heap.get? b = some u → h'.get? b = some u) (heo : ∃ u, h'.get? e = some u)
    (new : ObjOk X.prog X.w (upd H x o) h' x o) : Inv X pins σ (upd H x o) { s with heap := h', toks := t' } := I.un (Un.write mu he k heo) (I.hok.write mu he k heo new)
/-- forgetting slots, pins -/
theorem Inv.weak {σ' : List (Option V)} (I : Inv X pins σ H s) (hl : σ'.length = σ.length) (w : ∀ (i : Nat) v, σ'[i]? = some (some v) → σ[i]? = some (some v)) : Inv X pins σ' H s :=
  ⟨I.ok, I.os, I.bare, I.base, let ⟨m, hn, hl'⟩ := I.loc; ⟨m, hn, fun i x v e1 e2 e3 => hl' i x v e1 (w i v e2) e3⟩, I.cell, I.free, I.freeC, I.pin, I.hok, hl.trans I.len⟩
theorem Inv.pins_of {pins' : List (Addr × Obj)} (I : Inv X pins σ H s) (h : ∀ p ∈ pins', s.heap.get? p.1 = some p.2 ∧ H p.1 = none ∧ p.1 ≠ X.env.locals ∧ p.1 ∉ X.fs ∧ ∀ v, p.2.data ≠ .cell v) : Inv X pins' σ H s :=
  ⟨I.ok, I.os, I.bare, I.base, I.loc, I.cell, I.free, I.freeC, fun p hp => (List.mem_append.mp hp).elim (fun z => I.pin p (List.mem_append_left _ z)) (h p), I.hok, I.len⟩

theorem nodup_ix {N : List Str} (hN : N.Nodup) {i j : Nat} {x : Str} (a : N[i]? = some x) (b : N[j]? = some x) : i = j := by
  obtain ⟨h1, e1⟩ := List.getElem?_eq_some_iff.mp a
  obtain ⟨h2, e2⟩ := List.getElem?_eq_some_iff.mp b
  exact (List.getElem_inj hN).mp (e1.trans e2.symm)

/-- a name is stored; what changed -/
theorem store_ok2 {M : Model} {A : Around} {E : Value → Shared → Prop} {i : Nat} {x : Str} {v : V} {u : Value} {Q : Unit → Shared → Prop} (I : Inv X pins σ H s) (hN : X.N.Nodup) (hi : X.N[i]? = some x) (hx : Loc X.env.scope x) (r : RelV v u)
    (h : ∀ s', Inv X pins (σ.set i (some v)) H s' → (∃ a, Heap.SameBut a s.heap s'.heap ∧ (a = X.env.locals ∨ X.env.cells.lookup x = some a)) → Q () s') (hf : X.fn x = true ∨ X.env.scope.names.lookup x = some .local := by first | exact .inl rfl | exact .inr rfl | assumption) : wpAny M A (storeName X.env x u) Q E s := by
  obtain ⟨m, hn, hl⟩ := id I.loc
  have hcls : (X.env.scope.kind == .class || (X.env.scope.kind == .module && X.env.locals != X.env.globals)) = false := by rw [I.ok.kind]; rfl
  have hiσ : i < σ.length := by rw [I.len]; exact (List.getElem?_eq_some_iff.mp hi).1
  have cne := I.cne
  have tracked : ∀ {a : Addr} {h' : Heap}, (∃ o, s.heap.get? a = some o ∧ H a = none) → Heap.SameBut a s.heap h' → HOk X.prog X.w H h' := fun {a h'} ha hs b ob e => by
    obtain ⟨_, _, hfree⟩ := ha
    refine (I.hok b ob e).stay (fun c w' hc q => (hs.2 c ?_).trans q) (fun _ q => q) fun _ _ q => q
    rintro rfl
    rcases hc with rfl | hc
    · rw [hfree] at e; cases e
    · rw [hfree] at hc; cases hc
  rcases hx with hk | hk
  · refine wpAny_storeName_local hk hn (fun h' hn' hs => ?_) hcls
    obtain ⟨oL, _, _, hoL, _⟩ := id hn
    refine h _ ⟨I.ok, I.os, I.bare, ⟨fun b o e n hb hx => ?_, fun b o e n hb hx => ?_, I.base.free, fun b o e hx => ?_, I.base.tups, I.base.frzs, I.base.tbls⟩, ⟨_, hn', fun j y v' e1 e2 e3 => ?_⟩, fun y c e => ?_, I.free, I.freeC, fun p hp => ?_, tracked ⟨oL, hoL, I.free⟩ hs, by simpa using I.len⟩ ⟨_, hs, .inl rfl⟩
    · exact (hs.2 b (Nat.ne_of_lt (Nat.lt_of_lt_of_le (Heap.lt_size e) I.ok.above))).trans (I.base.keep b o e n hb hx)
    · obtain ⟨sl, e1⟩ := I.base.slot b o e n hb hx
      exact ⟨sl, (hs.2 b (Nat.ne_of_lt (Nat.lt_of_lt_of_le (Heap.lt_size e) I.ok.above))).trans e1⟩
    · obtain ⟨o', e1⟩ := I.base.there b o e hx
      exact ⟨o', (hs.2 b (Nat.ne_of_lt (Nat.lt_of_lt_of_le (Heap.lt_size e) I.ok.above))).trans e1⟩
    · by_cases hj : j = i
      · subst hj
        rw [hi] at e1; cases e1
        rw [List.getElem?_set_self hiσ] at e2
        cases e2
        exact ⟨u, r, .inl ⟨hk, by simp⟩⟩
      · rw [List.getElem?_set_ne (Ne.symm hj)] at e2
        obtain ⟨u', r', q⟩ := hl j y v' e1 e2 e3
        refine ⟨u', r', ?_⟩
        rcases q with ⟨k, e⟩ | ⟨k, c, e, z⟩
        · refine .inl ⟨k, ?_⟩
          have : y ≠ x := fun e => hj (nodup_ix hN e1 (e ▸ hi))
          simp [this, e]
        · exact .inr ⟨k, c, e, z.sameBut hs (cne y c e)⟩
    · obtain ⟨w', z⟩ := I.cell y c e
      exact ⟨w', z.sameBut hs (cne y c e)⟩
    · obtain ⟨e, n, ne, nf, d⟩ := I.pin p hp
      exact ⟨(hs.2 p.1 ne).trans e, n, ne, nf, d⟩
  · have hfn : X.fn x = true := by
      rcases hf with z | z
      · exact z
      · rw [z] at hk; cases hk
    obtain ⟨c, hc⟩ := I.ok.has x (.inl hk)
    obtain ⟨w', z⟩ := I.cell x c hc
    refine wpAny_storeName_cell I.ok.kind hk hc z (fun h' hc' hs => ?_)
    obtain ⟨oc, hoc, hocd⟩ := id z
    refine h { s with heap := h' } ⟨I.ok, I.os, I.bare, ⟨fun b o e n hb hx => ?_, fun b o e n hb hx => ?_, I.base.free, fun b o e hx => ?_, I.base.tups, I.base.frzs, I.base.tbls⟩, ⟨m, hn.sameBut hs (Ne.symm (cne x c hc)), fun j y v' e1 e2 e3 => ?_⟩, fun y c' e => ?_, I.free, I.freeC, fun p hp => ?_, tracked ⟨oc, hoc, I.freeC x c hc⟩ hs, by simpa using I.len⟩ ⟨c, hs, .inr hc⟩
    · exact (hs.2 b (Nat.ne_of_lt (Nat.lt_of_lt_of_le (Heap.lt_size e) (I.ok.cab x c hfn hc)))).trans (I.base.keep b o e n hb hx)
    · obtain ⟨sl, e1⟩ := I.base.slot b o e n hb hx
      exact ⟨sl, (hs.2 b (Nat.ne_of_lt (Nat.lt_of_lt_of_le (Heap.lt_size e) (I.ok.cab x c hfn hc)))).trans e1⟩
    · obtain ⟨o', e1⟩ := I.base.there b o e hx
      exact ⟨o', (hs.2 b (Nat.ne_of_lt (Nat.lt_of_lt_of_le (Heap.lt_size e) (I.ok.cab x c hfn hc)))).trans e1⟩
    · by_cases hj : j = i
      · subst hj
        rw [hi] at e1; cases e1
        rw [List.getElem?_set_self hiσ] at e2
        cases e2
        exact ⟨u, r, .inr ⟨.inl hk, c, hc, hc'⟩⟩
      · rw [List.getElem?_set_ne (Ne.symm hj)] at e2
        obtain ⟨u', r', q⟩ := hl j y v' e1 e2 e3
        refine ⟨u', r', ?_⟩
        rcases q with q | ⟨k, c', e, z'⟩
        · exact .inl q
        · refine .inr ⟨k, c', e, z'.sameBut hs ?_⟩
          rintro rfl
          exact hj (nodup_ix hN e1 (I.ok.inj _ _ _ e hc ▸ hi))
    · by_cases hcc : c' = c
      · subst hcc; exact ⟨_, hc'⟩
      · obtain ⟨w2, z2⟩ := I.cell y c' e
        exact ⟨w2, z2.sameBut hs hcc⟩
    · obtain ⟨e, n, ne, nf, d⟩ := I.pin p hp
      refine ⟨(hs.2 p.1 ?_).trans e, n, ne, nf, d⟩
      intro q
      rw [q, hoc] at e
      have q' : oc = p.2 := Option.some.inj e
      exact d w' (by rw [← q']; exact hocd)
theorem store_ok {M : Model} {A : Around} {E : Value → Shared → Prop} {i : Nat} {x : Str} {v : V} {u : Value} {Q : Unit → Shared → Prop} (I : Inv X pins σ H s) (hN : X.N.Nodup) (hi : X.N[i]? = some x) (hx : Loc X.env.scope x) (r : RelV v u)
    (h : ∀ s', Inv X pins (σ.set i (some v)) H s' → Q () s') (hf : X.fn x = true ∨ X.env.scope.names.lookup x = some .local := by first | exact .inl rfl | exact .inr rfl | assumption) : wpAny M A (storeName X.env x u) Q E s :=
  store_ok2 I hN hi hx r (fun s' I' _ => h s' I') hf
/-- behind a call or a block, the state as it is -/
theorem Inv.call' {s' : Shared} {ch : List Addr} (I : Inv X pins σ H s) (ho : s'.os = s.os) (u : Un (frs X.stack) ch H H' s.heap s'.heap) (hok : HOk X.prog X.w H' s'.heap) (hg : AllBare s'.gens)
    (hch : ∀ b ∈ ch, (b ∈ X.ex ∨ X.s₀.heap.objs.size ≤ b) ∧ b ≠ X.env.locals ∧ (∀ x c, X.env.cells.lookup x = some c → c ≠ b) ∧ ∀ p ∈ X.pn ++ pins, p.1 ≠ b) : Inv X pins σ H' s' := by
  obtain ⟨h', g', d', t', o'⟩ := s'
  have e : o' = s.os := ho
  subst e
  exact I.call (g' := g') (t' := t') (d' := d') u hok hg hch
end

/-! ### the judgements -/
/-- an exception: its class, its own dict's address (where it has one), the abstract heap behind it -/
noncomputable abbrev XK := Value → Option Addr → Hp → Prop
noncomputable abbrev St := List (Option V)
noncomputable abbrev VK := V → Hp → Prop
/-- an expression's reading; a test's; an argument list's -/
noncomputable abbrev TE := St → Hp → VK → Prop
noncomputable abbrev TT := St → Hp → (Bool → Hp → Prop) → Prop
noncomputable abbrev TA := St → Hp → (List V → Hp → Prop) → Prop
/-- what is wanted behind a statement -/
structure Ends where
  nx : St → Hp → Prop
  rt : VK
  bk : St → Hp → Prop := fun _ _ => False
  ct : St → Hp → Prop := fun _ _ => False
noncomputable abbrev TS := Ends → St → Hp → Prop

noncomputable def EP (X : Cx) (pins : List (Addr × Obj)) (σ : St) (Q : VK) (u : Value) (s' : Shared) : Prop := ∃ v H', Inv X pins σ H' s' ∧ RelV v u ∧ Q v H'
noncomputable def TP (X : Cx) (pins : List (Addr × Obj)) (σ : St) (Q : Bool → Hp → Prop) (b : Bool) (s' : Shared) : Prop := ∃ H', Inv X pins σ H' s' ∧ Q b H'
noncomputable def AP (X : Cx) (pins : List (Addr × Obj)) (σ : St) (Q : List V → Hp → Prop) (us : List Value) (s' : Shared) : Prop := ∃ vs H', Inv X pins σ H' s' ∧ Vals vs us ∧ Q vs H'
noncomputable def SP (X : Cx) (pins : List (Addr × Obj)) (D : Ends) (f : Flow) (s' : Shared) : Prop :=
  match f with
  | .next => ∃ σ' H', Inv X pins σ' H' s' ∧ D.nx σ' H'
  | .brk => ∃ σ' H', Inv X pins σ' H' s' ∧ D.bk σ' H'
  | .cont => ∃ σ' H', Inv X pins σ' H' s' ∧ D.ct σ' H'
  | .ret u => ∃ v σ' H', Inv X pins σ' H' s' ∧ RelV v u ∧ D.rt v H'

noncomputable def PE (X : Cx) (e : Expr) (t : TE) : Prop :=
  ∀ (pins : List (Addr × Obj)) (s : Shared) (σ : St) (H : Hp) (Q : VK), Inv X pins σ H s → t σ H Q → wpAny (model X.prog X.w) X.A (eval e X.env) (EP X pins σ Q) X.xe s
noncomputable def PT (X : Cx) (e : Expr) (t : TT) : Prop :=
  ∀ (pins : List (Addr × Obj)) (s : Shared) (σ : St) (H : Hp) (Q : Bool → Hp → Prop), Inv X pins σ H s → t σ H Q → wpAny (model X.prog X.w) X.A (isTrue e X.env (eval e X.env)) (TP X pins σ Q) X.xe s
/-- a test whatever its 'whole' is (and, or) -/
noncomputable def PW (X : Cx) (e : Expr) (t : TT) : Prop :=
  ∀ (whole : Sem Value) (pins : List (Addr × Obj)) (s : Shared) (σ : St) (H : Hp) (Q : Bool → Hp → Prop), Inv X pins σ H s → t σ H Q → wpAny (model X.prog X.w) X.A (isTrue e X.env whole) (TP X pins σ Q) X.xe s
theorem PW.pt {X : Cx} {e : Expr} {t : TT} (h : PW X e t) : PT X e t := h _
/-- an argument list (no star), from the left -/
noncomputable def PA (X : Cx) (es : List Expr) (t : TA) : Prop :=
  ∀ (pos : Pos) (pins : List (Addr × Obj)) (s : Shared) (σ : St) (H : Hp) (Q : List V → Hp → Prop), Inv X pins σ H s → t σ H Q → wpAny (model X.prog X.w) X.A (spliced (backTo pos (starEach es X.env))) (AP X pins σ Q) X.xe s
noncomputable def PS (X : Cx) (st : Stmt) (t : TS) : Prop :=
  ∀ (pins : List (Addr × Obj)) (s : Shared) (σ : St) (H : Hp) (D : Ends), Inv X pins σ H s → t D σ H → wpAny (model X.prog X.w) X.A (exec st X.env) (SP X pins D) X.xe s
noncomputable def PSs (X : Cx) (st : List Stmt) (t : TS) : Prop :=
  ∀ (pins : List (Addr × Obj)) (s : Shared) (σ : St) (H : Hp) (D : Ends), Inv X pins σ H s → t D σ H → wpAny (model X.prog X.w) X.A (execs st X.env) (SP X pins D) X.xe s
/-- weaken the end -/
theorem thn {α : Type} {t : Sem α} {Q Q' : α → Shared → Prop} {M : Model} {A : Around} {E : Value → Shared → Prop} {s : Shared} (h : wpAny M A t Q E s) (hQ : ∀ a s, Q a s → Q' a s) : wpAny M A t Q' E s := wpAny_mono h hQ fun _ _ x => x
end L2

namespace L2
open PySem PySem.Spec PyProof.Rows
section
variable {X : Cx}

/-- two expressions in a row -/
theorem bin {a b : Expr} {ta tb : TE} (ha : PE X a ta) (hb : PE X b tb) {pins : List (Addr × Obj)} {s : Shared} {σ : St} {H : Hp} {R : V → V → Hp → Prop} (I : Inv X pins σ H s) (h : ta σ H fun x H1 => tb σ H1 fun y H2 => R x y H2)
    {α : Type} {Q : α → Shared → Prop} {f : Value → Value → Sem α}
    (hf : ∀ v u s2 x y H2, Inv X pins σ H2 s2 → RelV x v → RelV y u → R x y H2 → wpAny (model X.prog X.w) X.A (f v u) Q X.xe s2) :
    wpAny (model X.prog X.w) X.A (eval a X.env) (fun v s₁ => wpAny (model X.prog X.w) X.A (eval b X.env) (fun u s₂ => wpAny (model X.prog X.w) X.A (f v u) Q X.xe s₂) X.xe s₁) X.xe s := by
  refine thn (ha pins s σ H _ I h) fun v s1 ⟨x, H1, I1, r1, q1⟩ => ?_
  refine thn (hb pins s1 σ H1 _ I1 q1) fun u s2 ⟨y, H2, I2, r2, q2⟩ => ?_
  exact hf v u s2 x y H2 I2 r1 r2 q2

/-! ### names and constants -/
noncomputable def tVar (i : Nat) : TE := fun σ H Q => ∃ v, σ[i]? = some (some v) ∧ Q v H
noncomputable def tC (v : V) : TE := fun _ H Q => Q v H
theorem pe_var {i : Nat} {x : Str} {pos : Pos} (hN : X.N[i]? = some x) (hv : Vis X.env.scope x) (hd : (x == ("__debug__" : Str)) = false := by decide) (hcd : (x == ("__classdict__" : Str)) = false := by decide) : PE X (.Name x pos) (tVar i) := by
  intro pins s σ H Q I h
  obtain ⟨v, e, h⟩ := h
  obtain ⟨m, hn, hl⟩ := I.loc
  obtain ⟨u, r, l⟩ := hl i x v hN e hv
  have fin : EP X pins σ Q u s := ⟨v, H, I, r, h⟩
  rcases l with ⟨hk, hm⟩ | ⟨hk, c, hc, hcell⟩
  · exact wpAny_Name (wpAny_loadName_local I.ok.kind hk hn hm fin) hd
  · rcases hk with hk | hk
    · exact wpAny_Name (wpAny_loadName_cell I.ok.kind hk hc hcell fin) hd
    · exact wpAny_Name (wpAny_loadName_free I.ok.kind hk hc hcell fin hcd) hd
theorem pe_int {i j pos} : PE X (.Constant (.int i) j pos) (tC (.int i)) := fun _ _ _ H _ I h => wpAny_Constant_int ⟨.int i, H, I.tok _, ⟨_, rfl⟩, h⟩
theorem pe_bl {b j pos} : PE X (.Constant (.bool b) j pos) (tC (.bl b)) := fun _ _ _ H _ I h => Constant_bool ⟨.bl b, H, I, rfl, h⟩
theorem pe_non {j pos} : PE X (.Constant .none j pos) (tC .non) := fun _ _ _ H _ I h => Constant_none ⟨.non, H, I, rfl, h⟩
theorem pe_str {x j pos} : PE X (.Constant (.str x) j pos) (tC (.str x)) := fun _ _ _ H _ I h => Calls.Constant_str ⟨.str x, H, I.tok _, ⟨_, rfl⟩, h⟩

/-- a global name of the def -/
noncomputable def Gl (X : Cx) (x : Str) : Prop := X.env.kindOf x = some .globalImplicit
theorem ld_glob {E : Value → Shared → Prop} {pins : List (Addr × Obj)} {s : Shared} {σ : St} {H : Hp} {x : Str} {u : Value} {pos : Pos} {Q : Value → Shared → Prop} (I : Inv X pins σ H s) (hg : Gl X x) (hm : X.mg x = some u) (h : Q u s)
    (hd : (x == ("__debug__" : Str)) = false := by decide) : wpAny (model X.prog X.w) X.A (eval (.Name x pos) X.env) Q E s :=
  Calls.Name_function_global I.ok.kind hg (Calls.loadGlobal_global (by rw [I.ok.glob]; exact I.mod.glob.keeps I.bk) hm h) hd
theorem ld_blt {E : Value → Shared → Prop} {pins : List (Addr × Obj)} {s : Shared} {σ : St} {H : Hp} {x : Str} {u : Value} {pos : Pos} {Q : Value → Shared → Prop} (I : Inv X pins σ H s) (hg : Gl X x) (hm : X.mg x = none) (hv : bootBuiltins x = some u) (h : Q u s)
    (hn : x ≠ "__name__" := by decide) (hd : (x == ("__debug__" : Str)) = false := by decide) : wpAny (model X.prog X.w) X.A (eval (.Name x pos) X.env) Q E s := by
  obtain ⟨mb, h1, h2⟩ := I.mod.blt
  exact Calls.Name_function_global I.ok.kind hg (Calls.loadGlobal_builtin (by rw [I.ok.glob]; exact I.mod.glob.keeps I.bk) hm (by rw [I.ok.blt]; exact h1.keeps I.bk) ((h2 x hn).trans hv) h) hd
/-- a module's constant, a class, a function, as a value -/
theorem pe_glob {x : Str} {v : V} {u : Value} {pos : Pos} (hg : Gl X x) (hm : X.mg x = some u) (r : RelV v u) (hd : (x == ("__debug__" : Str)) = false := by decide) : PE X (.Name x pos) (tC v) :=
  fun _ _ _ H _ I h => ld_glob I hg hm ⟨v, H, I, r, h⟩ hd
theorem pe_bltn {x : Str} {v : V} {u : Value} {pos : Pos} (hg : Gl X x) (hm : X.mg x = none) (hv : bootBuiltins x = some u) (r : RelV v u) (hn : x ≠ "__name__" := by decide) (hd : (x == ("__debug__" : Str)) = false := by decide) : PE X (.Name x pos) (tC v) :=
  fun _ _ _ H _ I h => ld_blt I hg hm hv ⟨v, H, I, r, h⟩ hn hd

/-! ### arithmetic -/
variable {a b : Expr} {ta tb : TE} {pos : Pos}
/-! ### comparisons -/
noncomputable def PC (X : Cx) (op : CmpOp) (a b : Expr) (t : TE) : Prop :=
  ∀ (pins : List (Addr × Obj)) (s : Shared) (σ : St) (H : Hp) (Q : VK), Inv X pins σ H s → t σ H Q →
    wpAny (model X.prog X.w) X.A (eval a X.env) (fun v s₁ => wpAny (model X.prog X.w) X.A (eval b X.env) (fun u s₂ => wpAny (model X.prog X.w) X.A (compareOp op v u) (EP X pins σ Q) X.xe s₂) X.xe s₁) X.xe s
theorem nobehind (b : Expr) {op : CmpOp} (h : op ≠ .In) (h2 : op ≠ .NotIn) : behindInMarks op b = false := by
  have e1 : (op == CmpOp.In) = false := by cases op <;> first | rfl | exact absurd rfl h
  have e2 : (op == CmpOp.NotIn) = false := by cases op <;> first | rfl | exact absurd rfl h2
  cases b <;> simp [behindInMarks, e1, e2]
/-- a comparison as a value, as a test -/
noncomputable def tB (t : TE) : TT := fun σ H Q => t σ H fun x H1 => ∃ c, x = .bl c ∧ Q c H1
theorem pt_cmp {op : CmpOp} {t : TE} (h : PC X op a b t) (h1 : behindInMarks op b = false := by first | exact nobehind _ (by decide) (by decide) | rfl) : PT X (.Compare a [op] [b] pos) (tB t) := by
  intro pins s σ H Q I hw
  refine wpAny_isTrue_Compare1 (thn (h pins s σ H _ I hw) fun v s1 h1 => thn h1 fun u s2 h2 => thn h2 fun c s3 ⟨x, H1, I1, r1, q1⟩ => ?_) h1
  obtain ⟨d, rfl, q⟩ := q1
  cases r1
  exact wpAny_truthy_bool ⟨H1, I1, q⟩
/-- an expression whose value is a bool, as a test -/
theorem pt_val {e : Expr} {t : TE} (h : PE X e t) (he : ∀ whole, isTrue e X.env whole = (do let v ← whole; standAt e.pos; holding [v] (truthy v)) := by intro _; rfl) : PT X e (tB t) := by
  intro pins s σ H Q I hw
  refine isTrue_plain (thn (h pins s σ H _ I hw) fun v s1 ⟨x, H1, I1, r1, q1⟩ => ?_) (he _)
  obtain ⟨d, rfl, q⟩ := q1
  cases r1
  exact wpAny_truthy_bool ⟨H1, I1, q⟩

/-! ### and, or, not -/
variable {tA tB' : TT} {rest : List Expr}
noncomputable def tOr (t u : TT) : TT := fun σ H Q => t σ H fun c H1 => if c = true then Q true H1 else u σ H1 Q
noncomputable def tNot (t : TT) : TT := fun σ H Q => t σ H fun c H1 => Q (!c) H1
theorem pw_or1 (ha : PT X a tA) : PW X (.BoolOp .Or [a] pos) tA := by
  intro wh pins s σ H Q I h
  refine isTrue_or (thn (ha pins s σ H Q I h) fun c s1 e => ?_)
  cases c with
  | false => exact isTrue_or_nil e
  | true => exact e
theorem pw_or (ha : PT X a tA) (hb : PW X (.BoolOp .Or (b :: rest) pos) tB') : PW X (.BoolOp .Or (a :: b :: rest) pos) (tOr tA tB') := by
  intro wh pins s σ H Q I h
  refine isTrue_or (thn (ha pins s σ H _ I h) fun c s1 ⟨H1, I1, q1⟩ => ?_)
  cases c with
  | true => exact ⟨H1, I1, q1⟩
  | false => exact hb wh pins s1 σ H1 Q I1 q1
theorem pt_not (ha : PT X a tA) : PT X (.UnaryOp .Not a pos) (tNot tA) := by
  intro pins s σ H Q I h
  exact isTrue_not (ha pins s σ H (fun c H1 => Q (!c) H1) I h)
/-- .. as values (bools) -/
noncomputable def tAndV (ta tb : TE) : TE := fun σ H Q => ta σ H fun x H1 => ∃ c, x = .bl c ∧ if c = true then tb σ H1 Q else Q (.bl false) H1
noncomputable def tNotV (ta : TE) : TE := fun σ H Q => ta σ H fun x H1 => ∃ c, x = .bl c ∧ Q (.bl (!c)) H1
theorem pe_one {op} {t : TE} (h : PE X a t) : PE X (.BoolOp op [a] pos) t := fun pins s σ H Q I hw => BoolOp_one (h pins s σ H Q I hw)
theorem pe_and (ha : PE X a ta) (hb : PE X (.BoolOp .And (b :: rest) pos) tb) : PE X (.BoolOp .And (a :: b :: rest) pos) (tAndV ta tb) := by
  intro pins s σ H Q I h
  refine BoolOp_and (thn (ha pins s σ H _ I h) fun v s1 ⟨x, H1, I1, r1, q1⟩ => ?_)
  obtain ⟨c, rfl, q1⟩ := q1
  cases r1
  refine wpAny_truthy_bool ?_
  cases c with
  | true => exact hb pins s1 σ H1 Q I1 q1
  | false => exact ⟨.bl false, H1, I1, rfl, q1⟩
theorem pe_not (ha : PE X a ta) : PE X (.UnaryOp .Not a pos) (tNotV ta) := by
  intro pins s σ H Q I h
  refine UnaryOp_ (thn (ha pins s σ H _ I h) fun v s1 ⟨x, H1, I1, r1, q1⟩ => ?_)
  obtain ⟨c, rfl, q1⟩ := q1
  cases r1
  exact not_of (wpAny_truthy_bool ⟨.bl (!c), H1, I1, rfl, q1⟩)
end
end L2

namespace L2
open PySem PySem.Spec PyProof.Rows

/-! ### a list, a tuple that is read: tracked, frozen, or an object of the module -/
noncomputable def SqL (K : PySem.W.Frag) (H : Hp) (a : Addr) (xs : List V) : Prop :=
  Rd H a (.lst xs) ∨
    ∃ (o : Obj) (its : Array Value) (n : Nat), K.lookup a = some o ∧ o.cls = .type "list" ∧ o.dict = none ∧ o.data = .seq its n ∧ its.size ≤ sizeLine ∧ Vals xs its.toList
noncomputable def SqT (K : PySem.W.Frag) (H : Hp) (a : Addr) (xs : List V) : Prop :=
  Rd H a (.tup xs) ∨
    ∃ (o : Obj) (its : Array Value) (n : Nat), K.lookup a = some o ∧ o.cls = .type "tuple" ∧ o.data = .seq its n ∧ its.size ≤ sizeLine ∧ Vals xs its.toList
noncomputable def absV : Value → Option V
  | .none => some .non
  | .bool b => some (.bl b)
  | .int i _ => some (.int i)
  | .str x _ => some (.str x)
  | .bytes b _ => some (.byt b)
  | .float b _ => some (.flt b)
  | .ref a => some (.ref a)
  | .type n => some (.ty n)
  | _ => none
theorem RelV.abs {x : V} {u : Value} (r : RelV x u) : absV u = some x := by
  cases x with
  | non => cases r; rfl
  | bl _ => cases r; rfl
  | int _ => obtain ⟨t, rfl⟩ := r; rfl
  | str _ => obtain ⟨t, rfl⟩ := r; rfl
  | byt _ => obtain ⟨t, rfl⟩ := r; rfl
  | flt _ => obtain ⟨t, rfl⟩ := r; rfl
  | ref _ => cases r; rfl
  | ty _ => cases r; rfl
theorem RelV.inj {x y : V} {u : Value} (r : RelV x u) (q : RelV y u) : x = y := Option.some.inj (r.abs.symm.trans q.abs)
theorem Vals.inj : ∀ {xs ys : List V} {us : List Value}, Vals xs us → Vals ys us → xs = ys
  | _, _, _, .nil, .nil => rfl
  | _, _, _, .cons r t, .cons r' t' => by rw [r.inj r', Vals.inj t t']
section
variable {X : Cx} {pins : List (Addr × Obj)} {σ : St} {H : Hp} {s : Shared} {a : Addr} {xs ys : List V}
theorem SqL.of {K : PySem.W.Frag} (h : H a = some (.lst xs)) : SqL K H a xs := .inl (.inl h)
theorem SqT.of {K : PySem.W.Frag} (h : H a = some (.tup xs)) : SqT K H a xs := .inl (.inl h)
theorem Inv.list (I : Inv X pins σ H s) (h : SqL X.K H a xs) : ∃ its : List Value, Vals xs its ∧ PlainL s.heap a its.toArray ∧ xs.length ≤ sizeLine := by
  rcases h with h | ⟨o, its, n, hk, hc, hd, hs, hz, r⟩
  · obtain ⟨z, its, n, r, e⟩ := h.ok I.hok
    exact ⟨its, r, ⟨_, n, e, rfl, rfl, rfl⟩, z⟩
  · refine ⟨its.toList, r, ⟨o, n, I.kIn a o hk, hc, hd, by simpa using hs⟩, ?_⟩
    have e := r.length
    simp only [Array.length_toList] at e
    omega
theorem Inv.tuple (I : Inv X pins σ H s) (h : SqT X.K H a xs) : ∃ its : List Value, Vals xs its ∧ IsTup s.heap a its.toArray ∧ xs.length ≤ sizeLine := by
  rcases h with h | ⟨o, its, n, hk, hc, hs, hz, r⟩
  · obtain ⟨z, its, r, p⟩ := h.ok I.hok
    exact ⟨its, r, p, z⟩
  · refine ⟨its.toList, r, ⟨o, I.kIn a o hk, hc, n, by simpa using hs⟩, ?_⟩
    have e := r.length
    simp only [Array.length_toList] at e
    omega
theorem Inv.list_inj (I : Inv X pins σ H s) (h : SqL X.K H a xs) (h' : SqL X.K H a ys) : xs = ys := by
  obtain ⟨its, r, ⟨o, n, e, _, _, d⟩, _⟩ := I.list h
  obtain ⟨its', r', ⟨o', n', e', _, _, d'⟩, _⟩ := I.list h'
  rw [e] at e'; cases e'
  rw [d] at d'
  injection d' with d1 _
  have : its = its' := by simpa using congrArg Array.toList d1
  subst this
  exact r.inj r'
end

/-! ### another wish about exceptions -/
noncomputable abbrev Cx.wish (X : Cx) (E : Value → Shared → Prop) : Cx := { X with xe := E }
/-- no exception leaves -/
noncomputable abbrev Cx.nox (X : Cx) : Cx := X.wish fun _ _ => False
theorem Cx.Ok.wish {X : Cx} (ok : X.Ok) (E : Value → Shared → Prop) : (X.wish E).Ok :=
  ⟨ok.mod, ok.kind, ok.glob, ok.blt, ok.above, ok.inj, ok.has, ok.cab, ok.hd, ok.frames, ok.stk, ok.exf, ok.bs, ok.bsz, ok.noex, ok.exfs, ok.funs, ok.frf⟩
theorem Cx.Ok.unwish {X : Cx} {E : Value → Shared → Prop} (ok : (X.wish E).Ok) : X.Ok :=
  ⟨ok.mod, ok.kind, ok.glob, ok.blt, ok.above, ok.inj, ok.has, ok.cab, ok.hd, ok.frames, ok.stk, ok.exf, ok.bs, ok.bsz, ok.noex, ok.exfs, ok.funs, ok.frf⟩
section
variable {X : Cx} {pins : List (Addr × Obj)} {σ : St} {H : Hp} {s : Shared} {E : Value → Shared → Prop}
theorem Inv.wish (I : Inv X pins σ H s) (E : Value → Shared → Prop) : Inv (X.wish E) pins σ H s := ⟨I.ok.wish E, I.os, I.bare, I.base, I.loc, I.cell, I.free, I.freeC, I.pin, I.hok, I.len⟩
theorem Inv.unwish (I : Inv (X.wish E) pins σ H s) : Inv X pins σ H s := ⟨I.ok.unwish, I.os, I.bare, I.base, I.loc, I.cell, I.free, I.freeC, I.pin, I.hok, I.len⟩
theorem SP.unwish {D : Ends} {f : Flow} {s' : Shared} (h : SP (X.wish E) pins D f s') : SP X pins D f s' := by
  cases f with
  | next => obtain ⟨σ', H', I, q⟩ := h; exact ⟨σ', H', I.unwish, q⟩
  | brk => obtain ⟨σ', H', I, q⟩ := h; exact ⟨σ', H', I.unwish, q⟩
  | cont => obtain ⟨σ', H', I, q⟩ := h; exact ⟨σ', H', I.unwish, q⟩
  | ret u => obtain ⟨v, σ', H', I, r, q⟩ := h; exact ⟨v, σ', H', I.unwish, r, q⟩
theorem PSs.nox {st : List Stmt} {t : TS} (h : PSs X.nox st t) : PSs X st t := fun pins s σ H D I hw =>
  wpAny_mono (h pins s σ H D (I.wish _) hw) (fun _ _ q => q.unwish) fun _ _ z => False.elim z
end

/-! ### blocks and small statements -/
section
variable {X : Cx} {st : Stmt} {rest : List Stmt} {t u : TS} {e : Expr} {te : TE} {pos : Pos}
noncomputable def tNext : TS := fun D σ H => D.nx σ H
noncomputable def tSeq (t u : TS) : TS := fun D σ H => t { D with nx := u D } σ H
theorem pss_nil : PSs X [] tNext := fun _ _ σ H _ I h => wpAny_execs_nil ⟨σ, H, I, h⟩
theorem pss_cons (h1 : PS X st t) (h2 : PSs X rest u) : PSs X (st :: rest) (tSeq t u) := by
  intro pins s σ H D I h
  refine wpAny_execs_cons (thn (h1 pins s σ H { D with nx := u D } I h) fun f s1 q => ?_)
  cases f with
  | next =>
    obtain ⟨σ', H', I', q⟩ := q
    exact h2 pins s1 σ' H' D I' q
  | ret v => exact q
  | brk => exact q
  | cont => exact q
theorem pss_one (h1 : PS X st t) : PSs X [st] t := by
  intro pins s σ H D I h
  refine wpAny_execs_cons (thn (h1 pins s σ H D I h) fun f s1 q => ?_)
  cases f with
  | next => exact wpAny_execs_nil q
  | ret v => exact q
  | brk => exact q
  | cont => exact q
/-- in a def's body nothing is shown -/
theorem Inv.quiet {pins : List (Addr × Obj)} {σ : St} {H : Hp} {s : Shared} (I : Inv X pins σ H s) : interactive X.env = false := by simp [interactive, I.ok.kind]
/-- an expression whose value is dropped -/
noncomputable def tDrop (te : TE) : TS := fun D σ H => te σ H fun _ H1 => D.nx σ H1
theorem ps_expr (he : PE X e te) (hs : swapsWith e none pos.line X.env = pure false := by rfl) : PS X (.Expr e pos) (tDrop te) := by
  intro pins s σ H D I h
  exact wpAny_Expr_any (thn (he pins s σ H _ I h) fun v s1 ⟨x, H1, I1, r1, q1⟩ => ⟨σ, H1, I1, q1⟩) I.quiet hs
noncomputable def tRet (te : TE) : TS := fun D σ H => te σ H D.rt
theorem ps_ret (he : PE X e te) : PS X (.Return (some e) pos) (tRet te) := by
  intro pins s σ H D I h
  exact wpAny_Return_some (thn (he pins s σ H _ I h) fun v s1 ⟨x, H1, I1, r1, q1⟩ => ⟨x, σ, H1, I1, r1, q1⟩)
noncomputable def tIfS (c : TT) (t u : TS) : TS := fun D σ H => c σ H fun b H1 => if b = true then t D σ H1 else u D σ H1
theorem ps_if {c : Expr} {a b : List Stmt} {tc : TT} (hc : PT X c tc) (ha : PSs X a t) (hb : PSs X b u) : PS X (.If c a b pos) (tIfS tc t u) := by
  intro pins s σ H D I h
  refine wpAny_If (thn (hc pins s σ H _ I h) fun d s1 ⟨H1, I1, q1⟩ => ?_)
  cases d with
  | true => exact ha pins s1 σ H1 D I1 q1
  | false => exact hb pins s1 σ H1 D I1 q1
/-- code that the proof never comes to -/
noncomputable def tNever : TS := fun _ _ _ => False
theorem ps_never : PS X st tNever := fun _ _ _ _ _ _ h => h.elim
end

/-! ### targets -/
noncomputable abbrev TG := V → St → Hp → (St → Hp → Prop) → Prop
noncomputable abbrev TGs := List V → St → Hp → (St → Hp → Prop) → Prop
noncomputable def PG (X : Cx) (target : Expr) (t : TG) : Prop :=
  ∀ (pins : List (Addr × Obj)) (s : Shared) (σ : St) (H : Hp) (v : V) (u : Value) (Q : St → Hp → Prop), Inv X pins σ H s → RelV v u → t v σ H Q →
    wpAny (model X.prog X.w) X.A (assign target X.env u) (fun _ s' => ∃ σ' H', Inv X pins σ' H' s' ∧ Q σ' H') X.xe s
/-- several targets, one after another -/
noncomputable def PGs (X : Cx) (ts : List Expr) (t : TGs) : Prop :=
  ∀ (pins : List (Addr × Obj)) (s : Shared) (σ : St) (H : Hp) (vs : List V) (us : List Value) (Q : St → Hp → Prop), Inv X pins σ H s → Vals vs us → t vs σ H Q →
    wpAny (model X.prog X.w) X.A (assignInOrder ((assignEach ts X.env).map (·.2)) us) (fun _ s' => ∃ σ' H', Inv X pins σ' H' s' ∧ Q σ' H') X.xe s
/-- o[i] = v, by values -/
noncomputable abbrev TSet := V → V → V → Hp → (Hp → Prop) → Prop
noncomputable def PSet (X : Cx) (t : TSet) : Prop :=
  ∀ (pins : List (Addr × Obj)) (s : Shared) (σ : St) (H : Hp) (o i v : V) (ov iv u : Value) (Q : Hp → Prop), Inv X pins σ H s → RelV o ov → RelV i iv → RelV v u → t o i v H Q →
    wpAny (model X.prog X.w) X.A (setItem ov iv u) (fun _ s' => ∃ H', Inv X pins σ H' s' ∧ Q H') X.xe s
section
variable {X : Cx} {pos : Pos}
noncomputable def gName (i : Nat) : TG := fun v σ H Q => Q (σ.set i (some v)) H
theorem pg_name {i : Nat} {x : Str} (hN : X.N.Nodup) (hi : X.N[i]? = some x) (hx : Loc X.env.scope x) (hf : X.fn x = true ∨ X.env.scope.names.lookup x = some .local := by first | exact .inl rfl | exact .inr rfl | assumption) : PG X (.Name x pos) (gName i) := by
  intro pins s σ H v u Q I r h
  exact wpAny_assign_Name (store_ok I hN hi hx r (fun s' I' => ⟨_, H, I', h⟩) hf)
noncomputable def gNil : TGs := fun vs σ H Q => vs = [] ∧ Q σ H
noncomputable def gCons (t : TG) (u : TGs) : TGs := fun vs σ H Q => ∃ v r, vs = v :: r ∧ t v σ H fun σ' H' => u r σ' H' Q
theorem pgs_nil : PGs X [] gNil := by
  intro pins s σ H vs us Q I r h
  obtain ⟨e, h⟩ := h
  subst e
  cases r
  exact assignInOrder_nil ⟨σ, H, I, h⟩
theorem pgs_cons {e : Expr} {es : List Expr} {t : TG} {u : TGs} (h1 : PG X e t) (h2 : PGs X es u)
    (hs : (assignEach (e :: es) X.env).map (·.2) = assign e X.env :: (assignEach es X.env).map (·.2) := by rfl) : PGs X (e :: es) (gCons t u) := by
  intro pins s σ H vs us Q I r h
  obtain ⟨v, vr, e1, h⟩ := h
  subst e1
  cases r with
  | cons r rr =>
    rw [hs]
    refine assignInOrder_cons (thn (h1 pins s σ H _ _ _ I r h) fun _ s1 ⟨σ1, H1, I1, q1⟩ => ?_)
    exact h2 pins s1 σ1 H1 _ _ Q I1 rr q1
/-- (a, b, ..) = a tuple of that length -/
noncomputable def gTup (K : PySem.W.Frag) (n : Nat) (t : TGs) : TG := fun v σ H Q => ∃ a xs, v = .ref a ∧ SqT K H a xs ∧ xs.length = n ∧ t xs σ H Q
theorem pg_tup {es : List Expr} {k : Nat} {t : TGs} {n : Nat} (hc : X.calm = true) (h : PGs X es t)
    (hn : (assignEach es X.env).length = n := by rfl) (hst : (assignEach es X.env).findIdx? (·.1) = none := by rfl) : PG X (.Tuple es k pos) (gTup X.K n t) := by
  intro pins s σ H v u Q I r hw
  obtain ⟨a, xs, e1, hq, hl, hw⟩ := hw
  subst e1
  cases r
  obtain ⟨its, rv, ht, hz⟩ := I.tuple hq
  refine assign_Tuple_tuple (I.ok.hd hc) ht (by simp [hn, ← hl, rv.length]) hst fun h' hx => ?_
  have I1 : Inv X pins σ H { s with heap := h' } := I.kept (t' := s.toks) fun b o e => hx b o (Nat.ne_of_lt (Heap.lt_size e)) e
  exact h pins _ σ H xs _ Q I1 (by simpa using rv) hw
/-- o[i] = .. -/
noncomputable def gSub (to ti : TE) (t : TSet) : TG := fun v σ H Q => to σ H fun o H1 => ti σ H1 fun i H2 => t o i v H2 fun H3 => Q σ H3
theorem pg_sub {o i : Expr} {to ti : TE} {t : TSet} (ho : PE X o to) (hi : PE X i ti) (hs : PSet X t)
    (ha : ∀ v, assign (.Subscript o i pos) X.env v = (do
      let ov ← holding [v] (eval o X.env)
      let iv ← holding [v, ov] (eval i X.env)
      standAt pos
      holding [v, ov, iv] (setItem ov iv v)
      release [v, ov, iv] []) := by intro _; rfl) : PG X (.Subscript o i pos) (gSub to ti t) := by
  intro pins s σ H v u Q I r h
  rw [ha]
  refine wpAny_bind (wpAny_holding (thn (ho pins s σ H _ I h) fun ov s1 ⟨x, H1, I1, r1, q1⟩ => ?_))
  refine wpAny_bind (wpAny_holding (thn (hi pins s1 σ H1 _ I1 q1) fun iv s2 ⟨y, H2, I2, r2, q2⟩ => ?_))
  refine wpAny_bind (wpAny_standAt (wpAny_bind (wpAny_holding (thn (hs pins s2 σ H2 x y v ov iv u _ I2 r1 r2 r q2) fun _ s3 ⟨H3, I3, q3⟩ => ?_))))
  exact wpAny_release ⟨σ, H3, I3, q3⟩
/-- target = value -/
noncomputable def tAsg (te : TE) (g : TG) : TS := fun D σ H => te σ H fun x H1 => g x σ H1 D.nx
theorem ps_asg {tg e : Expr} {te : TE} {g : TG} (he : PE X e te) (hg : PG X tg g) (hs : swapsWithSole [tg] e pos.line X.env = pure false := by rfl) (hw : swappedStores [tg] e X.env = pure none := by rfl)
    (h1 : (assignEach [tg] X.env).map (·.2) = [assign tg X.env] := by rfl) : PS X (.Assign [tg] e pos) (tAsg te g) := by
  intro pins s σ H D I h
  refine wpAny_Assign_stores (thn (he pins s σ H _ I h) fun v s1 ⟨x, H1, I1, r1, q1⟩ => ?_) hs hw
  rw [h1]
  exact thn (hg pins s1 σ H1 x v _ I1 r1 q1) fun _ s2 q => q
/-- name = value -/
theorem ps_set {i : Nat} {x : Str} {e : Expr} {te : TE} {pos' : Pos} (hN : X.N.Nodup) (hi : X.N[i]? = some x) (hx : Loc X.env.scope x) (he : PE X e te) (hs : swapsWith e (some (.Name x pos')) pos.line X.env = pure false := by rfl) (hf : X.fn x = true ∨ X.env.scope.names.lookup x = some .local := by first | exact .inl rfl | exact .inr rfl | assumption) :
    PS X (.Assign [.Name x pos'] e pos) (tAsg te (gName i)) := by
  intro pins s σ H D I h
  refine wpAny_Assign_Name (thn (he pins s σ H _ I h) fun v s1 ⟨y, H1, I1, r1, q1⟩ => ?_) hs
  exact store_ok I1 hN hi hx r1 (fun s2 I2 => ⟨_, H1, I2, q1⟩) hf
end

/-! ### while -/
section
variable {X : Cx} {pos : Pos}
/-- the invariant W with its measure -/
noncomputable def tWhile (c : TT) (tb : TS) : TS := fun D σ H => ∃ W : Nat → St → Hp → Prop, (∃ m, W m σ H) ∧ ∀ m σ H, W m σ H →
  c σ H fun b H1 => if b = true then ∃ N : St → Hp → Prop, (∀ σ' H', N σ' H' → ∃ m', m' < m ∧ W m' σ' H') ∧ tb { D with nx := N, ct := N, bk := D.nx } σ H1 else D.nx σ H1
theorem ps_while {c : Expr} {body : List Stmt} {tc : TT} {tb : TS} (hp : PassesOwn (model X.prog X.w) X.A X.env X.xe) (hc : PT X c tc) (hb : PSs X body tb) : PS X (.While c body [] pos) (tWhile tc tb) := by
  intro pins s σ H D I h
  obtain ⟨W, ⟨m0, w0⟩, turn⟩ := h
  refine wpAny_While (codeAny_whileLoop (fun n s' => ∃ σ' H', Inv X pins σ' H' s' ∧ W n σ' H') ?_ m0 ⟨σ, H, I, w0⟩)
  rintro n s1 ⟨σ1, H1, I1, w1⟩
  refine wpAny_passesOwn hp (thn (hc pins s1 σ1 H1 _ I1 (turn n σ1 H1 w1)) fun b s2 ⟨H2, I2, q2⟩ => ?_)
  cases b with
  | true =>
    obtain ⟨N, hN, q2⟩ := q2
    rw [if_pos rfl]
    refine wpAny_passesOwn hp (thn (hb pins s2 σ1 H2 _ I2 q2) fun f s3 q3 => ?_)
    cases f with
    | next =>
      obtain ⟨σ3, H3, I3, n3⟩ := q3
      obtain ⟨m', hm, w3⟩ := hN σ3 H3 n3
      exact ⟨m', hm, σ3, H3, I3, w3⟩
    | cont =>
      obtain ⟨σ3, H3, I3, n3⟩ := q3
      obtain ⟨m', hm, w3⟩ := hN σ3 H3 n3
      exact ⟨m', hm, σ3, H3, I3, w3⟩
    | brk => exact q3
    | ret v => exact q3
  | false =>
    rw [if_neg Bool.false_ne_true]
    exact wpAny_execs_nil ⟨σ1, H2, I2, q2⟩
end

/-! ### what a loop or a comprehension walks -/
/-- at turn i: it yields x (the heap may grow), or it stops -/
structure It where
  go : Nat → Hp → Prop
  yld : Nat → Hp → V → Hp → Prop
  stop : Nat → Hp → Prop
/-- the iterator's own objects may turn: they are not the frame's, not pinned, younger than the entry (or a comprehension's own) -/
noncomputable def FpOk (X : Cx) (pins : List (Addr × Obj)) (H : Hp) (b : Addr) : Prop :=
  H b = none ∧ b ≠ X.env.locals ∧ b ∉ X.fs ∧ (b ∈ X.ex ∨ X.s₀.heap.objs.size ≤ b) ∧ (∀ x c, X.env.cells.lookup x = some c → c ≠ b) ∧ ∀ p ∈ X.pn ++ pins, p.1 ≠ b
theorem Inv.fpOk {X : Cx} {pins : List (Addr × Obj)} {σ : St} {H H' : Hp} {s : Shared} {b : Addr} (I : Inv X pins σ H s) (hb : s.heap.objs.size ≤ b) (hn : H' b = none) : FpOk X pins H' b := by
  refine ⟨hn, Nat.ne_of_gt (Nat.lt_of_lt_of_le I.lt hb), I.nofs hb, .inr (Nat.le_trans I.sz hb), fun x c e z => ?_, fun p hp z => ?_⟩
  · obtain ⟨v, q⟩ := I.cell x c e
    exact absurd (Nat.lt_of_lt_of_le q.lt (by rw [z]; exact hb)) (Nat.lt_irrefl _)
  · exact absurd (Nat.lt_of_lt_of_le (Heap.lt_size (I.pin p hp).1) (by rw [z]; exact hb)) (Nat.lt_irrefl _)
structure Turn (P : Program) (w : World) (K : PySem.W.Frag) (tg : Expr) (J : It) (fp : List Addr) (it : Addr) (tn : Nat → Heap → Prop) : Prop where
  mem : it ∈ fp
  obj : ∀ i h, tn i h → ∀ b ∈ fp, ∃ o, h.get? b = some o ∧ ∀ v, o.data ≠ .cell v
  keep : ∀ i h h', tn i h → (∀ b ∈ fp, ∀ o, h.get? b = some o → h'.get? b = some o) → tn i h'
  item : ∀ (X : Cx), X.prog = P → X.w = w → X.K = K → X.calm = true → ∀ (i : Nat) (pins : List (Addr × Obj)) (s : Shared) (σ : St) (H : Hp) (E : Value → Shared → Prop), Inv X pins σ H s → (∀ b ∈ fp, FpOk X pins H b) → tn i s.heap → J.go i H →
    wpAny (model P w) X.A (pyNext (.ref it)) (fun r s1 => ∃ u, r = some u ∧
      wpAny (model P w) X.A (letOwnedTupleGo tg (.ref it) u) (fun _ s2 => ∃ x H', Inv X pins σ H' s2 ∧ RelV x u ∧ J.yld i H x H' ∧ tn (i + 1) s2.heap ∧ ∀ b ∈ fp, H' b = none) E s1) E s
  done : ∀ (X : Cx), X.prog = P → X.w = w → X.K = K → X.calm = true → ∀ (i : Nat) (pins : List (Addr × Obj)) (s : Shared) (σ : St) (H : Hp) (E : Value → Shared → Prop), Inv X pins σ H s → (∀ b ∈ fp, FpOk X pins H b) → tn i s.heap → J.stop i H →
    wpAny (model P w) X.A (pyNext (.ref it)) (fun r s1 => r = none ∧ Inv X pins σ H s1) E s
  self : ∀ (A : Around) (i : Nat) (s : Shared) (Q : Value → Shared → Prop) (E : Value → Shared → Prop), tn i s.heap → Q (.ref it) s → wpAny (model P w) A (pyIter (.ref it)) Q E s
noncomputable abbrev TI := St → Hp → (It → Hp → Prop) → Prop
/-- an iterator has come -/
noncomputable def PIE (X : Cx) (pins : List (Addr × Obj)) (σ : St) (tg : Expr) (R : It → Hp → Prop) (itv : Value) (s2 : Shared) : Prop :=
  ∃ (it : Addr) (fp : List Addr) (tn : Nat → Heap → Prop) (J : It) (H' : Hp), itv = .ref it ∧ Inv X pins σ H' s2 ∧ Turn X.prog X.w X.K tg J fp it tn ∧ tn 0 s2.heap ∧ (∀ b ∈ fp, FpOk X pins H' b) ∧ R J H'
noncomputable def PI (X : Cx) (tg iter : Expr) (wi : TI) : Prop :=
  ∀ (pins : List (Addr × Obj)) (s : Shared) (σ : St) (H : Hp) (R : It → Hp → Prop), Inv X pins σ H s → wi σ H R →
    wpAny (model X.prog X.w) X.A (eval iter X.env) (fun v s1 => wpAny (model X.prog X.w) X.A (pyIter v) (PIE X pins σ tg R) X.xe s1) X.xe s

/-- the step ahead of the store is nothing for an iterator that keeps no tuple -/
theorem go_of {M : Model} {A : Around} {E : Value → Shared → Prop} {s : Shared} {tg : Expr} {it : Addr} {u : Value} {o : Obj} {n : String} {vs : Array Value} {Q : Unit → Shared → Prop} (ho : s.heap.get? it = some o) (hc : o.cls = .type n) (hd : o.data = .fields vs)
    (hn : ["enumerate", "zip", "dict_itemiterator", "dict_reverseitemiterator", "odict_iterator", "itertools.zip_longest", "itertools.pairwise"].contains n = false) (hQ : Q () s) : wpAny M A (letOwnedTupleGo tg (.ref it) u) Q E s := by
  unfold letOwnedTupleGo
  cases tg <;> first
    | exact wpAny_pure hQ
    | (cases u <;> first
        | exact wpAny_pure hQ
        | (refine wpAny_bind (wpAny_load ho ?_)
           rw [hc, hd]
           show wpAny M A (if (["enumerate", "zip", "dict_itemiterator", "dict_reverseitemiterator", "odict_iterator", "itertools.zip_longest", "itertools.pairwise"].contains n && vs[0]? == some (rawInt _)) = true then _ else _) Q E s
           rw [if_neg (by intro h; rw [hn, Bool.false_and] at h; cases h)]
           exact wpAny_pure hQ))

/-- the list at a, as it stands at each turn (a loop may append to it) -/
noncomputable def Itl (K : PySem.W.Frag) (a : Addr) : It :=
  ⟨fun i H => ∃ xs x, SqL K H a xs ∧ xs[i]? = some x, fun i H x H' => H' = H ∧ ∀ xs, SqL K H a xs → xs[i]? = some x, fun i H => ∃ xs, SqL K H a xs ∧ xs.length ≤ i⟩
/-- lo, lo + 1, .. (n of them) -/
noncomputable def Itr (lo : Int) (n : Nat) : It := ⟨fun i _ => i < n, fun i H x H' => H' = H ∧ x = .int (lo + i), fun i _ => n ≤ i⟩
theorem turn_list {P : Program} {w : World} {K : PySem.W.Frag} {tg : Expr} (a it : Addr) : Turn P w K tg (Itl K a) [it] it (fun i h => h.IsListIter it a i) where
  mem := by simp
  obj := fun i h st b hb => by
    have e : b = it := by simpa using hb
    subst e
    obtain ⟨o, e, c, d⟩ := st
    exact ⟨o, e, fun v z => by rw [d] at z; cases z⟩
  keep := fun i h h' st k => st.at fun o e => k it (by simp) o e
  item := by
    intro X hP hw hK hc i pins s σ H E I hf st hg
    subst hP hw hK
    obtain ⟨xs, x, hq, hx⟩ := hg
    obtain ⟨its, rv, p, hz⟩ := I.list hq
    obtain ⟨u, hu, ru⟩ := rv.get hx
    obtain ⟨f0, f1, f2, f3, f4, f5⟩ := hf it (by simp)
    refine wpAny_pyNext_list_item st p.isList (x := u) (by simpa using hu) fun h' st' sb => ?_
    have I1 : Inv X pins σ H { s with heap := h' } := I.turned (t' := s.toks) (fun b o hb e => (sb.2 b hb).trans e) f0 f1 f3 f4 f5
    obtain ⟨o, e, c, d⟩ := id st'
    exact ⟨u, rfl, go_of (s := { s with heap := h' }) e c d (by decide) ⟨x, H, I1, ru, ⟨rfl, fun ys hy => by rw [I.list_inj hy hq]; exact hx⟩, st', fun b hb => (hf b hb).1⟩⟩
  done := by
    intro X hP hw hK hc i pins s σ H E I hf st hg
    subst hP hw hK
    obtain ⟨xs, hq, hx⟩ := hg
    obtain ⟨its, rv, p, hz⟩ := I.list hq
    obtain ⟨f0, f1, f2, f3, f4, f5⟩ := hf it (by simp)
    have hl := rv.length
    exact wpAny_pyNext_list_end (I.ok.hd hc) st p.isList (by simp; omega) fun h' eb => ⟨rfl, I.turned (t' := s.toks) (fun b o hb e => eb b o hb e) f0 f1 f3 f4 f5⟩
  self := fun _ _ _ _ _ st h => wpAny_pyIter_listiter st h
theorem turn_range {P : Program} {w : World} {K : PySem.W.Frag} {tg : Expr} (it : Addr) (lo : Int) (n : Nat) : Turn P w K tg (Itr lo n) [it] it (fun i h => IsRangeIter h it (lo + (i : Nat) * 1) ((n : Int) - (i : Nat)) 1) where
  mem := by simp
  obj := fun i h st b hb => by
    have e : b = it := by simpa using hb
    subst e
    exact ⟨_, st, fun v z => by
      have z' : Data.fields _ = Data.cell v := z
      cases z'⟩
  keep := fun i h h' st k => k it (by simp) _ st
  item := by
    intro X hP hw hK hc i pins s σ H E I hf st hg
    subst hP hw hK
    obtain ⟨f0, f1, f2, f3, f4, f5⟩ := hf it (by simp)
    have W := Walks.range (prog := X.prog) (w := X.w) (I.ok.hd hc) it lo 1 n
    refine W.item i s _ _ hg st fun v h' tk hv st' kk => ?_
    obtain ⟨t, rfl⟩ := hv
    have I1 : Inv X pins σ H { s with heap := h', toks := tk } := I.turned (fun b o hb e => kk b o (by simpa using hb) e) f0 f1 f3 f4 f5
    refine ⟨_, rfl, go_of (s := { s with heap := h', toks := tk }) (n := "range_iterator") st' rfl rfl (by decide) ⟨.int (lo + i), H, I1, ⟨t, ?_⟩, ⟨rfl, rfl⟩, st', fun b hb => (hf b hb).1⟩⟩
    rw [Int.mul_one]
  done := by
    intro X hP hw hK hc i pins s σ H E I hf st hg
    subst hP hw hK
    obtain ⟨f0, f1, f2, f3, f4, f5⟩ := hf it (by simp)
    exact wpAny_pyNext_range_end (I.ok.hd hc) st (by have : n ≤ i := hg; omega) fun h' eb => ⟨rfl, I.turned (t' := s.toks) (fun b o hb e => eb b o hb e) f0 f1 f3 f4 f5⟩
  self := fun _ _ _ _ _ st h => wpAny_pyIter_rangeiter st h
end L2

namespace L2
open PySem PySem.Spec PyProof.Rows
section
variable {X : Cx} {tg : Expr}
noncomputable def iList (K : PySem.W.Frag) (tl : TE) : TI := fun σ H R => tl σ H fun x H1 => ∃ a, x = .ref a ∧ (∃ xs, SqL K H1 a xs) ∧ R (Itl K a) H1
theorem pi_list {l : Expr} {tl : TE} (hl : PE X l tl) : PI X tg l (iList X.K tl) := by
  intro pins s σ H R I h
  refine thn (hl pins s σ H _ I h) fun v s1 ⟨x, H1, I1, r1, q1⟩ => ?_
  obtain ⟨a, e, ⟨xs, hq⟩, q⟩ := q1
  subst e
  cases r1
  obtain ⟨its, rv, p, hz⟩ := I1.list hq
  refine wpAny_pyIter_list p.isList ?_
  refine ⟨s1.heap.objs.size, [s1.heap.objs.size], _, _, H1, rfl, I1.kept (t' := s1.toks) fun b o e => Heap.get?_push_of_some _ e, turn_list a _, ⟨_, Heap.get?_push_size _ rfl, rfl, rfl⟩, fun b hb => ?_, q⟩
  have e : b = s1.heap.objs.size := by simpa using hb
  subst e
  exact I1.fpOk (Nat.le_refl _) (I1.hok.fresh (Nat.le_refl _))
/-- a range object just made, walked -/
theorem range_it {pins : List (Addr × Obj)} {σ : St} {H : Hp} {s : Shared} {R : It → Hp → Prop} {E : Value → Shared → Prop} {lo hi : Int} {t u v : Tok} {tk : Nat} (I : Inv X pins σ H s) (h1 : -(2 ^ 62) ≤ lo) (h2 : lo < 2 ^ 62) (h3 : -(2 ^ 62) ≤ hi) (h4 : hi < 2 ^ 62)
    (q : R (Itr lo (hi - lo).toNat) H) : wpAny (model X.prog X.w) X.A (pyIter (.ref s.heap.objs.size)) (PIE X pins σ tg R) E { s with heap := s.heap.push { cls := .type "range", data := .fields #[.int lo t, .int hi u, .int 1 v] }, toks := tk } := by
  refine wpAny_pyIter_range (IsRange.new ..) (small_one h1 h2 h3 h4) ?_
  have I1 : Inv X pins σ H { s with heap := s.heap.push { cls := .type "range", data := .fields #[.int lo t, .int hi u, .int 1 v] }, toks := tk } := I.kept fun b o e => Heap.get?_push_of_some _ e
  refine ⟨(s.heap.push { cls := .type "range", data := .fields #[.int lo t, .int hi u, .int 1 v] }).objs.size, [(s.heap.push { cls := .type "range", data := .fields #[.int lo t, .int hi u, .int 1 v] }).objs.size], _, _, H, rfl,
    I1.kept (t' := tk) fun b o e => Heap.get?_push_of_some _ e, turn_range _ lo (hi - lo).toNat, ?_, fun b hb => ?_, q⟩
  · have e1 : lo + ((0 : Nat) : Int) * 1 = lo := by simp
    have e2 : (((hi - lo).toNat : Nat) : Int) - ((0 : Nat) : Int) = Builtin.Range.rangeSize lo hi 1 := by rw [rangeSize_one]; split <;> omega
    show IsRangeIter _ _ (lo + ((0 : Nat) : Int) * 1) ((((hi - lo).toNat : Nat) : Int) - ((0 : Nat) : Int)) 1
    rw [e1, e2]
    exact Heap.get?_push_size _ rfl
  · have e : b = (s.heap.push { cls := .type "range", data := .fields #[.int lo t, .int hi u, .int 1 v] }).objs.size := by simpa using hb
    subst e
    exact I1.fpOk (Nat.le_refl _) (I1.hok.fresh (Nat.le_refl _))
noncomputable def iRng1 (ta : TA) : TI := fun σ H R => ta σ H fun vs H1 => ∃ j : Int, vs = [.int j] ∧ -(2 ^ 62) ≤ j ∧ j < 2 ^ 62 ∧ R (Itr 0 j.toNat) H1
noncomputable def iRng2 (ta : TA) : TI := fun σ H R => ta σ H fun vs H1 => ∃ i j : Int, vs = [.int i, .int j] ∧ (-(2 ^ 62) ≤ i ∧ i < 2 ^ 62 ∧ -(2 ^ 62) ≤ j ∧ j < 2 ^ 62) ∧ R (Itr i (j - i).toNat) H1
theorem pi_range1 {a : Expr} {ta : TA} {p pos : Pos} (hg : Gl X "range") (hm : X.mg "range" = none) (ha : PA X [a] ta) (hs : starEach [a] X.env = [(false, eval a X.env)] := by rfl) : PI X tg (.Call (.Name "range" p) [a] [] pos) (iRng1 ta) := by
  intro pins s σ H R I h
  refine Call_ (ld_blt I hg hm boot_range (PyProof.Rows.callWith_type1 (thn (ha pos pins s σ H _ I h) fun us s1 ⟨vs, H1, I1, r1, q1⟩ => ?_) hs rfl))
  obtain ⟨j, e, q1, q2, q⟩ := q1
  subst e
  cases r1 with
  | cons r rr =>
    cases rr
    obtain ⟨t, rfl⟩ := r
    exact call_range_1 (range_it I1 (by omega) (by omega) q1 q2 (by simpa using q))
theorem pi_range2 {a b : Expr} {ta : TA} {p pos : Pos} (hg : Gl X "range") (hm : X.mg "range" = none) (ha : PA X [a, b] ta) (hs : starEach [a, b] X.env = [(false, eval a X.env), (false, eval b X.env)] := by rfl) (hs2 : starEach [b] X.env = [(false, eval b X.env)] := by rfl) :
    PI X tg (.Call (.Name "range" p) [a, b] [] pos) (iRng2 ta) := by
  intro pins s σ H R I h
  refine Call_ (ld_blt I hg hm boot_range (PyProof.Rows.callWith_type1 (thn (ha pos pins s σ H _ I h) fun us s1 ⟨vs, H1, I1, r1, q1⟩ => ?_) (by rw [hs, hs2]) (by rw [hs2]; rfl)))
  obtain ⟨i, j, e, ⟨q1, q2, q3, q4⟩, q⟩ := q1
  subst e
  cases r1 with
  | cons r rr =>
    cases rr with
    | cons r' rr =>
      cases rr
      obtain ⟨t, rfl⟩ := r
      obtain ⟨t', rfl⟩ := r'
      exact call_range_2 (range_it I1 q1 q2 q3 q4 q)

/-! ### for -/
/-- W: the invariant by the turn and a measure; N: what the body is to reach -/
noncomputable def tFor (wi : TI) (g : TG) (tb : TS) : TS := fun D σ H => wi σ H fun J H1 => ∃ W : Nat → Nat → St → Hp → Prop, (∃ m, W 0 m σ H1) ∧ ∀ i m σ H, W i m σ H →
  (J.stop i H ∧ D.nx σ H) ∨ (J.go i H ∧ ∃ N : St → Hp → Prop, (∀ σ' H', N σ' H' → ∃ m', m' < m ∧ W (i + 1) m' σ' H') ∧ ∀ x H', J.yld i H x H' → g x σ H' fun σ2 H2 => tb { D with nx := N, ct := N, bk := D.nx } σ2 H2)
/-- the records at fp as they stand -/
noncomputable def pinsAt (fp : List Addr) (h : Heap) : List (Addr × Obj) := fp.filterMap fun b => (h.get? b).map fun o => (b, o)
theorem mem_pinsAt {fp : List Addr} {h : Heap} {b : Addr} {o : Obj} (hb : b ∈ fp) (e : h.get? b = some o) : (b, o) ∈ pinsAt fp h := List.mem_filterMap.mpr ⟨b, hb, by rw [e]; rfl⟩
theorem of_pinsAt {fp : List Addr} {h : Heap} {p : Addr × Obj} (hp : p ∈ pinsAt fp h) : p.1 ∈ fp ∧ h.get? p.1 = some p.2 := by
  obtain ⟨b, hb, e⟩ := List.mem_filterMap.mp hp
  cases q : h.get? b with
  | none => rw [q] at e; cases e
  | some o =>
    rw [q] at e
    have e' : (b, o) = p := Option.some.inj e
    subst e'
    exact ⟨hb, q⟩
theorem Inv.pinned {pins : List (Addr × Obj)} {σ : St} {H : Hp} {s : Shared} {fp : List Addr} (I : Inv X pins σ H s) (hf : ∀ b ∈ fp, FpOk X pins H b) (ho : ∀ b ∈ fp, ∃ o, s.heap.get? b = some o ∧ ∀ v, o.data ≠ .cell v) : Inv X (pins ++ pinsAt fp s.heap) σ H s :=
  I.pins_of fun p hp => (List.mem_append.mp hp).elim (fun z => I.pin p (List.mem_append_right _ z)) fun z => by
    obtain ⟨hb, e⟩ := of_pinsAt z
    obtain ⟨f0, f1, f2, _⟩ := hf p.1 hb
    obtain ⟨o, e', d⟩ := ho p.1 hb
    rw [e] at e'; cases e'
    exact ⟨e, f0, f1, f2, d⟩
theorem Inv.unpinned {pins pl : List (Addr × Obj)} {σ : St} {H : Hp} {s : Shared} (I : Inv X (pins ++ pl) σ H s) : Inv X pins σ H s := I.pins_of fun p hp => I.pin p (List.mem_append_right _ (List.mem_append_left _ hp))
theorem ps_for {iter : Expr} {body : List Stmt} {wi : TI} {g : TG} {tb : TS} {pos : Pos} (hp : PassesOwn (model X.prog X.w) X.A X.env X.xe) (hc : X.calm = true) (hi : PI X tg iter wi) (hg : PG X tg g) (hb : PSs X body tb)
    (hs : ∀ x, foldedSetIterable iter X.env x = pure x := by intro _; rfl) : PS X (.For tg iter body [] pos) (tFor wi g tb) := by
  intro pins s σ H D I h
  refine wpAny_For (thn (hi pins s σ H _ I h) fun v s1 h1 => thn h1 fun itv s2 h2 => ?_) hs
  obtain ⟨it, fp, tn, J, H2, e, I2, T, st2, f2, W, ⟨m0, w0⟩, turn⟩ := h2
  subst e
  -- what stays true of the iterator's objects through the loop
  have stat : ∀ {H' : Hp}, (∀ b ∈ fp, H' b = none) → ∀ b ∈ fp, FpOk X pins H' b := fun hn b hb => ⟨hn b hb, (f2 b hb).2⟩
  refine codeAny_forLoop_any (fun n s' => ∃ i σ' H', Inv X pins σ' H' s' ∧ tn i s'.heap ∧ (∀ b ∈ fp, H' b = none) ∧ W i n σ' H') ?_ m0 ⟨0, σ, H2, I2, st2, fun b hb => (f2 b hb).1, w0⟩
  rintro n s3 ⟨i, σ3, H3, I3, st3, fr3, w3⟩
  rcases turn i n σ3 H3 w3 with ⟨stop, qn⟩ | ⟨go, N, hN, step⟩
  · refine wpAny_passesOwn hp (thn (T.done X rfl rfl rfl hc i pins s3 σ3 H3 X.xe I3 (stat fr3) st3 stop) fun r s4 ⟨hr, I4⟩ => ?_)
    subst hr
    exact wpAny_execs_nil ⟨σ3, H3, I4, qn⟩
  · refine wpAny_passesOwn hp (thn (T.item X rfl rfl rfl hc i pins s3 σ3 H3 X.xe I3 (stat fr3) st3 go) fun r s4 ⟨u, hr, h4⟩ => ?_)
    subst hr
    refine wpAny_passesOwn hp (thn h4 fun _ s5 ⟨x, H5, I5, r5, y5, st5, fr5⟩ => ?_)
    have I5' := I5.pinned (stat fr5) (T.obj _ _ st5)
    refine wpAny_passesOwn hp (thn (hg _ s5 σ3 H5 x u _ I5' r5 (step x H5 y5)) fun _ s6 ⟨σ6, H6, I6, q6⟩ => ?_)
    refine wpAny_passesOwn hp (thn (hb _ s6 σ6 H6 _ I6 q6) fun f s7 q7 => ?_)
    have again : ∀ {σ7 : St} {H7 : Hp}, Inv X (pins ++ pinsAt fp s5.heap) σ7 H7 s7 → N σ7 H7 → ∃ m, m < n ∧ ∃ i σ' H', Inv X pins σ' H' s7 ∧ tn i s7.heap ∧ (∀ b ∈ fp, H' b = none) ∧ W i m σ' H' := fun {σ7 H7} I7 n7 => by
      obtain ⟨m', hm, w7⟩ := hN σ7 H7 n7
      refine ⟨m', hm, i + 1, σ7, H7, I7.unpinned, T.keep _ _ _ st5 fun b hb o e => (I7.pin (b, o) (List.mem_append_right _ (List.mem_append_right _ (mem_pinsAt hb e)))).1, fun b hb => ?_, w7⟩
      obtain ⟨o, e, d⟩ := T.obj _ _ st5 b hb
      exact (I7.pin (b, o) (List.mem_append_right _ (List.mem_append_right _ (mem_pinsAt hb e)))).2.1
    cases f with
    | next => obtain ⟨σ7, H7, I7, n7⟩ := q7; exact again I7 n7
    | cont => obtain ⟨σ7, H7, I7, n7⟩ := q7; exact again I7 n7
    | brk => obtain ⟨σ7, H7, I7, q7⟩ := q7; exact ⟨σ7, H7, I7.unpinned, q7⟩
    | ret v => obtain ⟨x7, σ7, H7, I7, r7, q7⟩ := q7; exact ⟨x7, σ7, H7, I7.unpinned, r7, q7⟩
end

/-! ### the forms one uses -/
/-- over a list that the body leaves as it is -/
theorem for_list {K : PySem.W.Frag} {a : Addr} {xs : List V} {g : TG} {tb : TS} {D : Ends} {σ : St} {H : Hp} (Pv : Nat → St → Hp → Prop) (h0 : Pv 0 σ H) (hl : ∀ i σ H, i ≤ xs.length → Pv i σ H → SqL K H a xs)
    (hs : ∀ i x σ H, xs[i]? = some x → Pv i σ H → g x σ H fun σ2 H2 => tb { D with nx := Pv (i + 1), ct := Pv (i + 1), bk := D.nx } σ2 H2) (hd : ∀ σ H, Pv xs.length σ H → D.nx σ H) :
    ∃ W : Nat → Nat → St → Hp → Prop, (∃ m, W 0 m σ H) ∧ ∀ i m σ H, W i m σ H →
      ((Itl K a).stop i H ∧ D.nx σ H) ∨ ((Itl K a).go i H ∧ ∃ N : St → Hp → Prop, (∀ σ' H', N σ' H' → ∃ m', m' < m ∧ W (i + 1) m' σ' H') ∧ ∀ x H', (Itl K a).yld i H x H' → g x σ H' fun σ2 H2 => tb { D with nx := N, ct := N, bk := D.nx } σ2 H2) := by
  refine ⟨fun i m σ H => m = xs.length - i ∧ i ≤ xs.length ∧ Pv i σ H, ⟨xs.length, by simp, Nat.zero_le _, h0⟩, ?_⟩
  rintro i m σ H ⟨rfl, hi, p⟩
  have q := hl i σ H hi p
  by_cases hlt : i < xs.length
  · refine .inr ⟨⟨xs, xs[i], q, by simp [hlt]⟩, Pv (i + 1), fun σ' H' p' => ⟨xs.length - (i + 1), by omega, rfl, hlt, p'⟩, fun x H' y => ?_⟩
    obtain ⟨e, y⟩ := y
    subst e
    exact hs i x σ _ (y xs q) p
  · have e : i = xs.length := by omega
    subst e
    exact .inl ⟨⟨xs, q, Nat.le_refl _⟩, hd σ H p⟩
theorem for_range {lo : Int} {n : Nat} {g : TG} {tb : TS} {D : Ends} {σ : St} {H : Hp} (Pv : Nat → St → Hp → Prop) (h0 : Pv 0 σ H)
    (hs : ∀ i σ H, i < n → Pv i σ H → g (.int (lo + i)) σ H fun σ2 H2 => tb { D with nx := Pv (i + 1), ct := Pv (i + 1), bk := D.nx } σ2 H2) (hd : ∀ σ H, Pv n σ H → D.nx σ H) :
    ∃ W : Nat → Nat → St → Hp → Prop, (∃ m, W 0 m σ H) ∧ ∀ i m σ H, W i m σ H →
      ((Itr lo n).stop i H ∧ D.nx σ H) ∨ ((Itr lo n).go i H ∧ ∃ N : St → Hp → Prop, (∀ σ' H', N σ' H' → ∃ m', m' < m ∧ W (i + 1) m' σ' H') ∧ ∀ x H', (Itr lo n).yld i H x H' → g x σ H' fun σ2 H2 => tb { D with nx := N, ct := N, bk := D.nx } σ2 H2) := by
  refine ⟨fun i m σ H => m = n - i ∧ i ≤ n ∧ Pv i σ H, ⟨n, by simp, Nat.zero_le _, h0⟩, ?_⟩
  rintro i m σ H ⟨rfl, hi, p⟩
  by_cases hlt : i < n
  · refine .inr ⟨hlt, Pv (i + 1), fun σ' H' p' => ⟨n - (i + 1), by omega, rfl, hlt, p'⟩, fun x H' y => ?_⟩
    obtain ⟨e, y⟩ := y
    subst e y
    exact hs i σ _ hlt p
  · have e : i = n := by omega
    subst e
    exact .inl ⟨Nat.le_refl _, hd σ H p⟩
end L2

namespace L2
open PySem PySem.Spec PyProof.Rows

noncomputable abbrev R2 := V → V → Hp → VK → Prop
/-- a two-place operation on values: f is binaryOp op, inplaceOp op or compareOp op -/
noncomputable def OpR (X : Cx) (f : Value → Value → Sem Value) (r : R2) : Prop :=
  ∀ (pins : List (Addr × Obj)) (s : Shared) (σ : St) (H : Hp) (x y : V) (v u : Value) (Q : VK), Inv X pins σ H s → RelV x v → RelV y u → r x y H Q →
    wpAny (model X.prog X.w) X.A (f v u) (EP X pins σ Q) X.xe s
/-- a one-place operation -/
noncomputable def UnR (X : Cx) (f : Value → Sem Value) (r : V → Hp → VK → Prop) : Prop :=
  ∀ (pins : List (Addr × Obj)) (s : Shared) (σ : St) (H : Hp) (x : V) (v : Value) (Q : VK), Inv X pins σ H s → RelV x v → r x H Q →
    wpAny (model X.prog X.w) X.A (f v) (EP X pins σ Q) X.xe s
/-- a call of a value that is known (a builtin, a type) with values -/
noncomputable def CallR (X : Cx) (f : Value) (r : List V → Hp → VK → Prop) : Prop :=
  ∀ (pins : List (Addr × Obj)) (s : Shared) (σ : St) (H : Hp) (xs : List V) (us : List Value) (Q : VK), Inv X pins σ H s → Vals xs us → r xs H Q →
    wpAny (model X.prog X.w) X.A (call f us) (EP X pins σ Q) X.xe s
noncomputable def tOp (r : R2) (ta tb : TE) : TE := fun σ H Q => ta σ H fun x H1 => tb σ H1 fun y H2 => r x y H2 Q
noncomputable def tUn (r : V → Hp → VK → Prop) (ta : TE) : TE := fun σ H Q => ta σ H fun x H1 => r x H1 Q
/-- ints in, under C, and a value out -/
noncomputable def rI (C : Int → Int → Prop) (g : Int → Int → V) : R2 := fun x y H Q => ∃ i j, x = .int i ∧ y = .int j ∧ C i j ∧ Q (g i j) H
noncomputable def rI0 (g : Int → Int → V) : R2 := fun x y H Q => ∃ i j, x = .int i ∧ y = .int j ∧ Q (g i j) H
noncomputable def rU (g : Int → V) : V → Hp → VK → Prop := fun x H Q => ∃ i, x = .int i ∧ Q (g i) H

section
variable {X : Cx} {a b c : Expr} {ta tb tc : TE} {pos : Pos}

theorem binT (ha : PE X a ta) (hb : PE X b tb) {pins : List (Addr × Obj)} {s : Shared} {σ : St} {H : Hp} {R : V → V → Hp → Prop} (I : Inv X pins σ H s)
    (h : ta σ H fun x H1 => tb σ H1 fun y H2 => R x y H2) {Q : Value → Shared → Prop} {f : Value → Value → Sem Value}
    (hf : ∀ v u s2 x y H2, Inv X pins σ H2 s2 → RelV x v → RelV y u → R x y H2 → wpAny (model X.prog X.w) X.A (f v u) Q X.xe s2) :
    wpAny (model X.prog X.w) X.A (eval a X.env) (fun v s₁ => wpAny (model X.prog X.w) X.A (eval b X.env) (fun u s₂ => wpAny (model X.prog X.w) X.A (f v u) Q X.xe s₂) X.xe s₁) X.xe s := by
  refine thn (ha pins s σ H _ I h) fun v s1 ⟨x, H1, I1, r1, q1⟩ => ?_
  refine thn (hb pins s1 σ H1 _ I1 q1) fun u s2 ⟨y, H2, I2, r2, q2⟩ => ?_
  exact hf v u s2 x y H2 I2 r1 r2 q2

theorem pe_op {op : Operator} {r : R2} (ho : OpR X (binaryOp op) r) (ha : PE X a ta) (hb : PE X b tb) : PE X (.BinOp a op b pos) (tOp r ta tb) := by
  intro pins s σ H Q I h
  exact wpAny_BinOp (binT ha hb I h fun v u s2 x y H2 I2 rx ry q => ho pins s2 σ H2 x y v u Q I2 rx ry q)
theorem pe_un {op : UnaryOp} {r : V → Hp → VK → Prop} (ho : UnR X (unaryOp op) r) (ha : PE X a ta) : PE X (.UnaryOp op a pos) (tUn r ta) := by
  intro pins s σ H Q I h
  exact UnaryOp_ (thn (ha pins s σ H _ I h) fun v s1 ⟨x, H1, I1, r1, q1⟩ => ho pins s1 σ H1 x v Q I1 r1 q1)
/-! ### ints -/
theorem opI {f : Value → Value → Sem Value} {C : Int → Int → Prop} {g : Int → Int → Int}
    (rule : ∀ (i j : Int) (t u : Tok) (s : Shared) (Q : Value → Shared → Prop) (E : Value → Shared → Prop), C i j → Q (.int (g i j) s.toks) { s with toks := s.toks + 1 } → wpAny (model X.prog X.w) X.A (f (.int i t) (.int j u)) Q E s) :
    OpR X f (rI C fun i j => .int (g i j)) := by
  intro pins s σ H x y v u Q I rx ry h
  obtain ⟨i, j, rfl, rfl, hc, q⟩ := h
  obtain ⟨t, rfl⟩ := rx
  obtain ⟨t', rfl⟩ := ry
  exact rule i j t t' s _ _ hc ⟨.int (g i j), H, I.tok _, ⟨_, rfl⟩, q⟩
theorem opI0 {f : Value → Value → Sem Value} {g : Int → Int → Int}
    (rule : ∀ (i j : Int) (t u : Tok) (s : Shared) (Q : Value → Shared → Prop) (E : Value → Shared → Prop), Q (.int (g i j) s.toks) { s with toks := s.toks + 1 } → wpAny (model X.prog X.w) X.A (f (.int i t) (.int j u)) Q E s) :
    OpR X f (rI0 fun i j => .int (g i j)) := by
  intro pins s σ H x y v u Q I rx ry h
  obtain ⟨i, j, rfl, rfl, q⟩ := h
  obtain ⟨t, rfl⟩ := rx
  obtain ⟨t', rfl⟩ := ry
  exact rule i j t t' s _ _ ⟨.int (g i j), H, I.tok _, ⟨_, rfl⟩, q⟩
theorem opB0 {f : Value → Value → Sem Value} {g : Int → Int → Bool}
    (rule : ∀ (i j : Int) (t u : Tok) (s : Shared) (Q : Value → Shared → Prop) (E : Value → Shared → Prop), Q (.bool (g i j)) s → wpAny (model X.prog X.w) X.A (f (.int i t) (.int j u)) Q E s) :
    OpR X f (rI0 fun i j => .bl (g i j)) := by
  intro pins s σ H x y v u Q I rx ry h
  obtain ⟨i, j, rfl, rfl, q⟩ := h
  obtain ⟨t, rfl⟩ := rx
  obtain ⟨t', rfl⟩ := ry
  exact rule i j t t' s _ _ ⟨.bl (g i j), H, I, rfl, q⟩

noncomputable def CPow (i j : Int) : Prop := 0 ≤ j ∧ j ≤ 1000000 ∧ i.natAbs < 2 ^ 64
noncomputable def CMul (i j : Int) : Prop := (-(2 ^ 64) < i ∧ i < 2 ^ 64) ∨ (-(2 ^ 64) < j ∧ j < 2 ^ 64)
theorem CMul.ok {i j : Int} (h : CMul i j) : IntMulOk i j := by
  rcases h with ⟨h1, h2⟩ | ⟨h1, h2⟩
  · exact .of_left (intBits_le_64 h1 h2)
  · exact .of_right (intBits_le_64 h1 h2)
theorem op_add : OpR X (binaryOp .Add) (rI0 fun i j => .int (i + j)) := opI0 fun _ _ _ _ _ _ _ q => add_int q
theorem op_sub : OpR X (binaryOp .Sub) (rI0 fun i j => .int (i - j)) := opI0 fun _ _ _ _ _ _ _ q => sub_int q
theorem op_mul : OpR X (binaryOp .Mult) (rI CMul fun i j => .int (i * j)) := opI fun _ _ _ _ _ _ _ hc q => mul_int q hc.ok
/-- % by a positive divisor of any size -/
theorem op_mod : OpR X (binaryOp .Mod) (rI (fun _ j => 0 < j) fun i j => .int (i % j)) := opI fun i j _ _ _ _ _ hc q => by
  have h1 : (0 : Int) < j := hc
  exact mod_int' (by omega) (by rw [Int.fmod_eq_emod_of_nonneg i (by omega)]; exact q)
theorem op_pow : OpR X (binaryOp .Pow) (rI CPow fun i j => .int (i ^ j.toNat)) := opI fun _ _ _ _ _ _ _ hc q => pow_int_small hc.1 hc.2.1 hc.2.2 q
theorem unI {f : Value → Sem Value} {g : Int → Int}
    (rule : ∀ (i : Int) (t : Tok) (s : Shared) (Q : Value → Shared → Prop) (E : Value → Shared → Prop), Q (.int (g i) s.toks) { s with toks := s.toks + 1 } → wpAny (model X.prog X.w) X.A (f (.int i t)) Q E s) :
    UnR X f (rU fun i => .int (g i)) := by
  intro pins s σ H x v Q I rx h
  obtain ⟨i, rfl, q⟩ := h
  obtain ⟨t, rfl⟩ := rx
  exact rule i t s _ _ ⟨.int (g i), H, I.tok _, ⟨_, rfl⟩, q⟩
theorem un_neg : UnR X (unaryOp .USub) (rU fun i => .int (-i)) := unI fun _ _ _ _ _ q => neg_int q
/-! ### bools among ints: n += (a < b) -/
end

/-! ### comparisons -/
/-- the scalars that == tells apart as data does -/
noncomputable def scal : V → V → Bool
  | .non, .non => true | .non, .int _ => true | .int _, .non => true | .non, .bl _ => true | .bl _, .non => true | .non, .str _ => true | .str _, .non => true
  | .int _, .int _ => true | .bl _, .bl _ => true | .str _, .str _ => true | .byt _, .byt _ => true
  | .int _, .str _ => true | .str _, .int _ => true | .bl _, .str _ => true | .str _, .bl _ => true
  | _, _ => false
noncomputable def rEq : R2 := fun x y H Q => scal x y = true ∧ Q (.bl (decide (x = y))) H
noncomputable def rNe : R2 := fun x y H Q => scal x y = true ∧ Q (.bl (!decide (x = y))) H

theorem dec_int {i j : Int} : decide (V.int i = V.int j) = (i == j) := by
  rw [Bool.eq_iff_iff]
  simp
theorem dec_bl {i j : Bool} : decide (V.bl i = V.bl j) = (i == j) := by
  rw [Bool.eq_iff_iff]
  simp
theorem dec_str {i j : Str} : decide (V.str i = V.str j) = (i == j) := by
  rw [Bool.eq_iff_iff]
  simp
theorem dec_byt {i j : Array UInt8} : decide (V.byt i = V.byt j) = (i.toList == j.toList) := by
  rw [Bool.eq_iff_iff]
  cases i
  cases j
  simp

section
variable {X : Cx} {a b c : Expr} {ta tb tc : TE} {pos : Pos}
theorem fin_bl {pins : List (Addr × Obj)} {σ : St} {H : Hp} {s : Shared} {Q : VK} {k k' : Bool} (I : Inv X pins σ H s) (q : Q (.bl k) H) (e : k = k') : EP X pins σ Q (.bool k') s := by
  subst e
  exact ⟨.bl k, H, I, rfl, q⟩
theorem op_eq : OpR X (compareOp .Eq) rEq := by
  intro pins s σ H x y v u Q I rx ry h
  obtain ⟨hs, q⟩ := h
  cases x with
  | non =>
    cases rx
    cases y with
    | non => cases ry; exact PySem.EqNone.eq_none_none (fin_bl I q (by simp))
    | bl j => cases ry; exact PySem.EqNone.eq_none_bool (fin_bl I q (by simp))
    | int j => obtain ⟨t', rfl⟩ := ry; exact PySem.EqNone.eq_none_int (fin_bl I q (by simp))
    | str j => obtain ⟨t', rfl⟩ := ry; exact PySem.EqNone.eq_none_str (fin_bl I q (by simp))
    | _ => exact absurd (show false = true from hs) Bool.false_ne_true
  | bl i =>
    cases rx
    cases y with
    | non => cases ry; exact PySem.EqNone.eq_bool_none (fin_bl I q (by simp))
    | bl j => cases ry; exact eq_bool (fin_bl I q dec_bl)
    | str j => obtain ⟨t', rfl⟩ := ry; exact PySem.EqMixed.eq_bool_str (fin_bl I q (by simp))
    | _ => exact absurd (show false = true from hs) Bool.false_ne_true
  | int i =>
    obtain ⟨t, rfl⟩ := rx
    cases y with
    | non => cases ry; exact PySem.EqNone.eq_int_none (fin_bl I q (by simp))
    | int j => obtain ⟨t', rfl⟩ := ry; exact eq_int (fin_bl I q dec_int)
    | str j => obtain ⟨t', rfl⟩ := ry; exact PySem.EqMixed.eq_int_str (fin_bl I q (by simp))
    | _ => exact absurd (show false = true from hs) Bool.false_ne_true
  | str i =>
    obtain ⟨t, rfl⟩ := rx
    cases y with
    | non => cases ry; exact PySem.EqNone.eq_str_none (fin_bl I q (by simp))
    | bl j => cases ry; exact PySem.EqMixed.eq_str_bool (fin_bl I q (by simp))
    | int j => obtain ⟨t', rfl⟩ := ry; exact PySem.EqMixed.eq_str_int (fin_bl I q (by simp))
    | str j => obtain ⟨t', rfl⟩ := ry; exact eq_str (fin_bl I q dec_str)
    | _ => exact absurd (show false = true from hs) Bool.false_ne_true
  | byt i =>
    obtain ⟨t, rfl⟩ := rx
    cases y with
    | byt j => obtain ⟨t', rfl⟩ := ry; exact PySem.W.eq_bytes (fin_bl I q dec_byt)
    | _ => exact absurd (show false = true from hs) Bool.false_ne_true
  | _ => cases y <;> exact absurd (show false = true from hs) Bool.false_ne_true
theorem op_ne : OpR X (compareOp .NotEq) rNe := by
  intro pins s σ H x y v u Q I rx ry h
  obtain ⟨hs, q⟩ := h
  cases x with
  | non =>
    cases rx
    cases y with
    | non => cases ry; exact PySem.EqNone.ne_none_none (fin_bl I q (by simp))
    | bl j => cases ry; exact PySem.EqNone.ne_none_bool (fin_bl I q (by simp))
    | int j => obtain ⟨t', rfl⟩ := ry; exact PySem.EqNone.ne_none_int (fin_bl I q (by simp))
    | str j => obtain ⟨t', rfl⟩ := ry; exact PySem.EqNone.ne_none_str (fin_bl I q (by simp))
    | _ => exact absurd (show false = true from hs) Bool.false_ne_true
  | bl i =>
    cases rx
    cases y with
    | non => cases ry; exact PySem.EqNone.ne_bool_none (fin_bl I q (by simp))
    | bl j => cases ry; exact ne_bool (fin_bl I q (congrArg not dec_bl))
    | str j => obtain ⟨t', rfl⟩ := ry; exact PySem.EqMixed.ne_bool_str (fin_bl I q (by simp))
    | _ => exact absurd (show false = true from hs) Bool.false_ne_true
  | int i =>
    obtain ⟨t, rfl⟩ := rx
    cases y with
    | non => cases ry; exact PySem.EqNone.ne_int_none (fin_bl I q (by simp))
    | int j => obtain ⟨t', rfl⟩ := ry; exact ne_int (fin_bl I q (congrArg not dec_int))
    | str j => obtain ⟨t', rfl⟩ := ry; exact PySem.EqMixed.ne_int_str (fin_bl I q (by simp))
    | _ => exact absurd (show false = true from hs) Bool.false_ne_true
  | str i =>
    obtain ⟨t, rfl⟩ := rx
    cases y with
    | non => cases ry; exact PySem.EqNone.ne_str_none (fin_bl I q (by simp))
    | bl j => cases ry; exact PySem.EqMixed.ne_str_bool (fin_bl I q (by simp))
    | int j => obtain ⟨t', rfl⟩ := ry; exact PySem.EqMixed.ne_str_int (fin_bl I q (by simp))
    | str j => obtain ⟨t', rfl⟩ := ry; exact ne_str (fin_bl I q (congrArg not dec_str))
    | _ => exact absurd (show false = true from hs) Bool.false_ne_true
  | byt i =>
    obtain ⟨t, rfl⟩ := rx
    cases y with
    | byt j => obtain ⟨t', rfl⟩ := ry; exact PySem.W.ne_bytes (fin_bl I q (congrArg not dec_byt))
    | _ => exact absurd (show false = true from hs) Bool.false_ne_true
  | _ => cases y <;> exact absurd (show false = true from hs) Bool.false_ne_true

theorem op_lt : OpR X (compareOp .Lt) (rI0 fun i j => .bl (decide (i < j))) := opB0 fun _ _ _ _ _ _ _ q => lt_int q
theorem op_le : OpR X (compareOp .LtE) (rI0 fun i j => .bl (decide (i ≤ j))) := opB0 fun _ _ _ _ _ _ _ q => le_int q
theorem op_gt : OpR X (compareOp .Gt) (rI0 fun i j => .bl (decide (j < i))) := opB0 fun _ _ _ _ _ _ _ q => gt_int q
theorem op_ge : OpR X (compareOp .GtE) (rI0 fun i j => .bl (decide (j ≤ i))) := opB0 fun _ _ _ _ _ _ _ q => ge_int q
theorem op_notN : OpR X (compareOp .IsNot) (fun x y H Q => y = .non ∧ Q (.bl (!decide (x = .non))) H) := by
  intro pins s σ H x y v u Q I rx ry h
  obtain ⟨rfl, q⟩ := h
  cases ry
  refine isnot_none_gen (fin_bl I q ?_)
  cases x <;> first
    | (cases rx; rfl)
    | (obtain ⟨t, rfl⟩ := rx; rfl)

theorem nomark (b : Expr) {op : CmpOp} (h : op ≠ .In := by decide) (h2 : op ≠ .NotIn := by decide) : behindInMarks op b = false := by
  have e1 : (op == CmpOp.In) = false := by cases op <;> first | rfl | exact absurd rfl h
  have e2 : (op == CmpOp.NotIn) = false := by cases op <;> first | rfl | exact absurd rfl h2
  cases b <;> simp [behindInMarks, e1, e2]
/-- a comparison as a value; hm: nomark b, or (for in, not in) by with_unfolding_all rfl -/
theorem pe_cmpR {op : CmpOp} {r : R2} (ho : OpR X (compareOp op) r) (ha : PE X a ta) (hb : PE X b tb) (hm : behindInMarks op b = false) : PE X (.Compare a [op] [b] pos) (tOp r ta tb) := by
  intro pins s σ H Q I h
  exact wpAny_Compare1 (binT ha hb I h fun v u s2 x y H2 I2 rx ry q => ho pins s2 σ H2 x y v u Q I2 rx ry q) hm
/-- a reading of a value as a test -/
noncomputable def tTest (t : TE) : TT := fun σ H Q => t σ H fun x H' => ∃ k, x = .bl k ∧ Q k H'
theorem pt_cmpR {op : CmpOp} {r : R2} (ho : OpR X (compareOp op) r) (ha : PE X a ta) (hb : PE X b tb) (hm : behindInMarks op b = false) : PT X (.Compare a [op] [b] pos) (tTest (tOp r ta tb)) := by
  intro pins s σ H Q I h
  refine wpAny_isTrue_Compare1 (thn (ha pins s σ H _ I h) fun v s1 ⟨x, H1, I1, r1, q1⟩ => thn (hb pins s1 σ H1 _ I1 q1) fun u s2 ⟨y, H2, I2, r2, q2⟩ =>
    thn (ho pins s2 σ H2 x y v u _ I2 r1 r2 q2) fun c s3 ⟨z, H3, I3, r3, k, e, q3⟩ => ?_) hm
  subst e
  cases r3
  exact wpAny_truthy_bool ⟨H3, I3, q3⟩
/-- a op1 b op2 c -/
noncomputable def tChain (r r' : R2) (ta tb tc : TE) : TE := fun σ H Q => ta σ H fun x H1 => tb σ H1 fun y H2 => r x y H2 fun z H3 => ∃ k, z = .bl k ∧
  (if k = true then tc σ H3 fun w' H4 => r' y w' H4 Q else Q (.bl false) H3)
theorem pe_chain {op op' : CmpOp} {r r' : R2} (ho : OpR X (compareOp op) r) (ho' : OpR X (compareOp op') r') (ha : PE X a ta) (hb : PE X b tb) (hc : PE X c tc)
    (hm : lastMarks [op, op'] [b, c] = false := by with_unfolding_all rfl) : PE X (.Compare a [op, op'] [b, c] pos) (tChain r r' ta tb tc) := by
  intro pins s σ H Q I h
  refine Compare_chain (thn (ha pins s σ H _ I h) fun v s1 ⟨x, H1, I1, r1, q1⟩ => chain_link (thn (hb pins s1 σ H1 _ I1 q1) fun u s2 ⟨y, H2, I2, r2, q2⟩ =>
    thn (ho pins s2 σ H2 x y v u _ I2 r1 r2 q2) fun d s3 ⟨z, H3, I3, r3, k, e, q3⟩ => ?_)) hm
  subst e
  cases r3
  refine wpAny_truthy_bool ?_
  cases k with
  | false => exact ite_ff ⟨.bl false, H3, I3, rfl, q3⟩
  | true => exact ite_tt (chain_last (thn (hc pins s3 σ H3 _ I3 q3) fun w' s4 ⟨z', H4, I4, r4, q4⟩ => ho' pins s4 σ H4 y z' u w' Q I4 r2 r4 q4))
/-! ### truth -/
theorem line63 : (sizeLine : Nat) < 2 ^ 63 := by rw [sizeLine_eq]; decide
/-! ### strs and bytes -/
/-! ### scalar builtins, by CallR -/
theorem vals1 {x : V} {us : List Value} (r : Vals [x] us) : ∃ u, us = [u] ∧ RelV x u := by
  cases r with
  | cons r1 r2 => cases r2; exact ⟨_, rfl, r1⟩
theorem vals2 {x y : V} {us : List Value} (r : Vals [x, y] us) : ∃ u w', us = [u, w'] ∧ RelV x u ∧ RelV y w' := by
  cases r with
  | cons r1 r2 =>
    cases r2 with
    | cons r3 r4 => cases r4; exact ⟨_, _, rfl, r1, r3⟩
theorem call_int1 : CallR X (.type "int") (fun xs H Q => (∃ i, xs = [.int i] ∧ Q (.int i) H) ∨ ∃ k, xs = [.bl k] ∧ Q (.int (if k then 1 else 0)) H) := by
  intro pins s σ H xs us Q I r h
  rcases h with ⟨i, rfl, q⟩ | ⟨k, rfl, q⟩
  · obtain ⟨u, rfl, t, rfl⟩ := vals1 r
    exact call_int_int ⟨.int i, H, I, ⟨_, rfl⟩, q⟩
  · obtain ⟨u, rfl, r1⟩ := vals1 r
    cases r1
    exact call_int_bool ⟨.int (if k then 1 else 0), H, I.tok _, ⟨_, rfl⟩, q⟩
end
end L2

namespace L2
open PySem PySem.Spec PyProof.Rows

/-! ### an instance, its attributes a map -/
structure ObjM (h : Heap) (x dx C : Addr) (mA : Str → Option Value) : Prop where
  obj : h.get? x = some (PySem.W.instObj C dx)
  ns : h.Ns1 dx mA
  ne : dx ≠ x

theorem lookIn_ns {h : Heap} {dx : Addr} {mA : Str → Option Value} (n : h.Ns1 dx mA) : ∃ od, h.get? dx = some od ∧ ∀ name, PySem.W.lookIn name od = some (mA name) := by
  obtain ⟨o, es, ep, ho, hd, hk, _, hm⟩ := n
  refine ⟨o, ho, fun name => ?_⟩
  have e := hm name
  unfold nsFind findBy at e
  rw [← Array.find?_toList] at e
  unfold PySem.W.lookIn
  rw [hd]
  dsimp only
  split
  · rename_i y q
    rw [q] at e
    exact congrArg some e
  · rename_i q
    rw [q] at e
    have a : es.toList.any (·.refKey) = false := by
      rw [List.any_eq_false]
      intro y hy
      obtain ⟨z, t, hkey⟩ := hk y (Array.mem_toList_iff.mp hy)
      simp [DictEntry.refKey, hkey]
    have a' : ¬ es.toList.any (·.refKey) = true := by rw [a]; exact Bool.false_ne_true
    rw [if_neg a']
    exact congrArg some e

theorem ObjM.look {h : Heap} {x dx C : Addr} {mA : Str → Option Value} (I : ObjM h x dx C mA) : ∃ od, PySem.W.InstAt h x (PySem.W.instObj C dx) C (some od) ∧ ∀ name, PySem.W.lookIn name od = some (mA name) :=
  let ⟨od, ho, hl⟩ := lookIn_ns I.ns
  ⟨od, ⟨I.obj, rfl, rfl, ho⟩, hl⟩

section
variable {prog : Program} {w : World} {A : Around} {E : Value → Shared → Prop} {s : Shared} {K : PySem.W.Frag} {x dx C f : Addr} {mA : Str → Option Value} {name : Str} {v : Value}

theorem get_map {expr : Bool} {Q : Value → Shared → Prop} (X : K.In s.heap) (I : ObjM s.heap x dx C mA) (hg : PySem.W.plainGet K C name = true) (hh : PySem.W.hasDictIn K C = true)
    (ha : PySem.W.findIn K (.ref C) name = some none) (hv : mA name = some v) (hv' : PySem.W.handedIn v = true) (h : Q v { s with toks := s.toks + 1 }) :
    wpAny (model prog w) A (getAttr (.ref x) name expr) Q E s := by
  obtain ⟨od, J, hl⟩ := I.look
  exact PySem.W.get_value X J (PySem.W.plainGet_of hg).1 (PySem.W.findObj_own hh ha rfl (by rw [hl, hv])) hv' h

theorem get_meth {pl : Sem Bool} {Q : Value × List Value → Shared → Prop} (X : K.In s.heap) (I : ObjM s.heap x dx C mA) (hg : PySem.W.plainGet K C name = true)
    (hf : PySem.W.findIn K (.ref C) name = some (some (.ref f))) (ht : PySem.W.isFn K (.ref f) = true) (hv : mA name = none) (h : Q (.ref f, [.ref x]) s) :
    wpAny (model prog w) A (getMethod (.ref x) name pl) Q E s := by
  obtain ⟨od, J, hl⟩ := I.look
  exact PySem.W.method_fn X J (PySem.W.plainGet_of hg).1 (PySem.W.plainGet_of hg).2 hf (beq_iff_eq.mp ht) (by show (PySem.W.lookIn name od).map (·.isSome) = some false; rw [hl, hv]; rfl) h

theorem set_map {ns : List Str} {Q : Unit → Shared → Prop} (X : K.In s.heap) (I : ObjM s.heap x dx C mA)
    (hs : PySem.W.findIn K (.ref C) "__setattr__" = some (some (.builtin "object.__setattr__"))) (hp : PySem.W.plainOver K C = true) (ht : PySem.W.takerIn K C name = some none) (hh : PySem.W.hasDictIn K C = true)
    (hw : PySem.Within mA ns) (hsz : ns.length ≤ sizeLine)
    (h : ∀ h', ObjM h' x dx C (fun y => if y = name then some v else mA y) → Heap.SameBut dx s.heap h' → Q () { s with heap := h', toks := s.toks + 2 }) :
    wpAny (model prog w) A (setAttr (.ref x) name v) Q E s := by
  obtain ⟨od, J, hl⟩ := I.look
  refine PySem.W.set_plain X J hs (PySem.W.osa_open (s := { s with toks := s.toks + 1 }) (r := none) X J hp ht fun b => ?_)
  obtain ⟨cd, hc, hd'⟩ := PySem.W.any_some hh
  have hx : s.heap.get? x = some ⟨.ref C, some dx, .plain, #[]⟩ := I.obj
  refine wpAny_bind (wpAny_pure (wpAny_bind (wpAny_bind (wpAny_loadPart hx (wpAny_bind (PySem.W.Looks.here (s := { s with toks := s.toks + 1 }) (PySem.W.looks_clsIn X hc) ?_))))))
  rw [hd']
  refine wpAny_pure (a := some dx) (wpAny_bind (wpAny_pure (wpAny_bind ?_)))
  refine wpAny_nsSet1 (s := { s with toks := s.toks + 1 }) I.ns fun h' hn2 hs2 => ?_
  obtain ⟨oD, esD, epD, hoD, hdD, hcD⟩ := hn2.count (PySem.Within.cons name v hw)
  refine wpAny_bind (wpAny_lookBehind hoD (by rw [hdD]; exact pastItsLine_dict (Nat.le_trans hcD (by rw [List.length_cons]; omega))) ?_)
  exact wpAny_pure (h _ ⟨(hs2.2 _ (Ne.symm I.ne)).trans I.obj, hn2, I.ne⟩ hs2)

/-- C(..): the dict at the heap's end, the instance behind it; then its __init__ -/
theorem make_map {R : Result → Shared → Prop} {vs : List Value} {kw : List (Str × Value)} (X : K.In s.heap) (hm : PySem.W.makesIn K C = true)
    (hi : PySem.W.findIn K (.ref C) "__init__" = some (some (.ref f))) (hf : PySem.W.typeIn K (.ref f) = some (.type "function"))
    (h : codeAny (model prog w) (A.under (.builtin "type.__call__" ⟨.ref C :: vs, kw⟩)) (.call (.ref f) ⟨.ref (s.heap.objs.size + 1) :: vs, kw⟩) (PySem.W.InitBack (s.heap.objs.size + 1) R)
      { s with heap := (s.heap.push PySem.W.emptyDict).push (PySem.W.instObj C s.heap.objs.size) }) :
    codeAny (model prog w) A (.call (.ref C) ⟨vs, kw⟩) R s := by
  obtain ⟨hh, g, d, t, os⟩ := s
  exact PySem.W.make_core (PySem.W.makes_of X hm) (PySem.W.looks_findIn X hi) (fun self => PySem.W.bind_fn X self hf) (.inl rfl) h
end

/-! ### the attributes as a list of pairs -/
noncomputable def putF (f : Str) (v : V) : List (Str × V) → List (Str × V)
  | [] => [(f, v)]
  | (g, x) :: r => if g = f then (g, v) :: r else (g, x) :: putF f v r
theorem lookup_putF (f g : Str) (v : V) : ∀ fs : List (Str × V), (putF f v fs).lookup g = if g = f then some v else fs.lookup g
  | [] => by
    show List.lookup g [(f, v)] = _
    by_cases h : g = f
    · have hb : (g == f) = true := beq_iff_eq.mpr h
      simp only [List.lookup, hb, if_pos h]
    · have hb : (g == f) = false := beq_eq_false_iff_ne.mpr h
      simp only [List.lookup, hb, if_neg h]
  | (k, x) :: r => by
    have ih := lookup_putF f g v r
    rw [show putF f v ((k, x) :: r) = (if k = f then (k, v) :: r else (k, x) :: putF f v r) from rfl]
    by_cases hk : k = f
    · rw [if_pos hk]
      by_cases h : g = k
      · have hb : (g == k) = true := beq_iff_eq.mpr h
        simp only [List.lookup, hb, if_pos (h.trans hk)]
      · have hb : (g == k) = false := beq_eq_false_iff_ne.mpr h
        simp only [List.lookup, hb, if_neg (fun e : g = f => h (e.trans hk.symm))]
    · rw [if_neg hk]
      by_cases h : g = k
      · have hb : (g == k) = true := beq_iff_eq.mpr h
        simp only [List.lookup, hb, if_neg (fun e : g = f => hk (h.symm.trans e))]
      · have hb : (g == k) = false := beq_eq_false_iff_ne.mpr h
        simp only [List.lookup, hb]
        exact ih
theorem keys_putF (f : Str) (v : V) : ∀ fs : List (Str × V), f ∈ (putF f v fs).map (·.1) ∧ ∀ g, g ∈ fs.map (·.1) → g ∈ (putF f v fs).map (·.1)
  | [] => ⟨by simp [putF], fun g h => by simp at h⟩
  | (k, x) :: r => by
    obtain ⟨i1, i2⟩ := keys_putF f v r
    rw [show putF f v ((k, x) :: r) = (if k = f then (k, v) :: r else (k, x) :: putF f v r) from rfl]
    by_cases hk : k = f
    · rw [if_pos hk]
      subst hk
      exact ⟨by simp, fun g h => by simpa using h⟩
    · rw [if_neg hk]
      refine ⟨?_, fun g h => ?_⟩
      · rw [List.map_cons]
        exact List.mem_cons_of_mem _ i1
      · rw [List.map_cons] at h ⊢
        rcases List.mem_cons.mp h with e | e
        · exact List.mem_cons.mpr (.inl e)
        · exact List.mem_cons_of_mem _ (i2 g e)
theorem length_putF (f : Str) (v : V) : ∀ fs : List (Str × V), (putF f v fs).length ≤ fs.length + 1
  | [] => by simp [putF]
  | (k, x) :: r => by
    have ih := length_putF f v r
    rw [show putF f v ((k, x) :: r) = (if k = f then (k, v) :: r else (k, x) :: putF f v r) from rfl]
    by_cases hk : k = f
    · rw [if_pos hk, List.length_cons, List.length_cons]; omega
    · rw [if_neg hk, List.length_cons, List.length_cons]; omega

theorem RelO.some_of {v : V} {o : Option Value} (r : RelO (some v) o) : ∃ u, o = some u ∧ RelV v u := by
  cases o with
  | none => exact (show False from r).elim
  | some u => exact ⟨u, rfl, r⟩
theorem RelO.none_of {o : Option Value} (r : RelO none o) : o = none := by
  cases o with
  | none => rfl
  | some u => exact (show False from r).elim
theorem handed_of {v : V} {u : Value} (r : RelV v u) : PySem.W.handedIn u = true := by
  cases v with
  | non => cases (show u = Value.none from r); rfl
  | bl b => cases (show u = Value.bool b from r); rfl
  | int i => obtain ⟨t, e⟩ := (show ∃ t, u = Value.int i t from r); cases e; rfl
  | str x => obtain ⟨t, e⟩ := (show ∃ t, u = Value.str x t from r); cases e; rfl
  | byt b => obtain ⟨t, e⟩ := (show ∃ t, u = Value.bytes b t from r); cases e; rfl
  | flt b => obtain ⟨t, e⟩ := (show ∃ t, u = Value.float b t from r); cases e; rfl
  | ref a => cases (show u = Value.ref a from r); rfl
  | ty n => cases (show u = Value.type n from r); rfl

section
variable {P : Program} {w : World} {H H' : Hp} {h h' : Heap} {a C dx : Addr} {fs fs' : List (Str × V)}
theorem ins_get (hok : HOk P w H h) (e : H a = some (.ins C dx fs)) : ∃ mA, ObjM h a dx C mA ∧ (∀ f, RelO (fs.lookup f) (mA f)) ∧ PySem.Within mA (fs.map (·.1)) ∧ fs.length ≤ 1000 ∧ H dx = some (.own a) := by
  obtain ⟨d, z, ne, ob, mA, n, r, q⟩ := (show ObjOk P w H h a (.ins C dx fs) from hok a _ e)
  exact ⟨mA, ⟨ob, n, ne⟩, r, q, z, d⟩
end

/-! ### what of the text a class must have -/
structure Cls (K : PySem.W.Frag) (C : Addr) : Prop where
  pg : PySem.W.plainGet K C Str.empty = true
  hd : PySem.W.hasDictIn K C = true
  po : PySem.W.plainOver K C = true
  sa : PySem.W.findIn K (.ref C) "__setattr__" = some (some (.builtin "object.__setattr__"))
theorem Cls.get {K : PySem.W.Frag} {C : Addr} (c : Cls K C) (f : Str) : PySem.W.plainGet K C f = true := c.pg
/-- no class of it has the name -/
noncomputable def NoAttr (K : PySem.W.Frag) (C : Addr) (f : Str) : Prop := PySem.W.findIn K (.ref C) f = some none
theorem NoAttr.taker {K : PySem.W.Frag} {C : Addr} {f : Str} (n : NoAttr K C f) : PySem.W.takerIn K C f = some none := by
  unfold PySem.W.takerIn
  rw [show PySem.W.findIn K (.ref C) f = some none from n]
  rfl
/-- a method: a plain def of the class or of one above it -/
structure Meth (K : PySem.W.Frag) (C : Addr) (m : Str) (f : Addr) : Prop where
  at_ : PySem.W.findIn K (.ref C) m = some (some (.ref f))
  fn : PySem.W.isFn K (.ref f) = true
  kp : PySem.W.keepIn K (.ref f) = true

section
variable {X : Cx} {pins : List (Addr × Obj)} {σ : St} {H : Hp} {s : Shared} {a C dx : Addr} {fs : List (Str × V)} {f : Str} {v : V} {A : Around} {E : Value → Shared → Prop}

theorem getattr_ok {b : Bool} {Q : Value → Shared → Prop} (I : Inv X pins σ H s) (e : H a = some (.ins C dx fs)) (c : Cls X.K C) (n : NoAttr X.K C f) (l : fs.lookup f = some v)
    (h : ∀ u s', Inv X pins σ H s' → RelV v u → Q u s') : wpAny (model X.prog X.w) A (getAttr (.ref a) f b) Q E s := by
  obtain ⟨mA, O, r, _, _, _⟩ := ins_get I.hok e
  obtain ⟨u, hu, ru⟩ := RelO.some_of (v := v) (o := mA f) (by rw [← l]; exact r f)
  exact get_map I.kIn O (c.get f) c.hd n hu (handed_of ru) (h u _ (I.tok _) ru)

theorem getmeth_ok {m : Str} {g : Addr} {pl : Sem Bool} {Q : Value × List Value → Shared → Prop} (I : Inv X pins σ H s) (e : H a = some (.ins C dx fs)) (c : Cls X.K C) (k : Meth X.K C m g) (l : fs.lookup m = none)
    (h : Q (.ref g, [.ref a]) s) : wpAny (model X.prog X.w) A (getMethod (.ref a) m pl) Q E s := by
  obtain ⟨mA, O, r, _, _, _⟩ := ins_get I.hok e
  have hn : mA m = none := RelO.none_of (by rw [← l]; exact r m)
  exact get_meth I.kIn O (c.get m) k.at_ k.fn hn h

theorem setattr_ok {y : V} {u : Value} {Q : Unit → Shared → Prop} (I : Inv X pins σ H s) (e : H a = some (.ins C dx fs)) (c : Cls X.K C) (n : NoAttr X.K C f) (hl : fs.length < 1000) (ry : RelV y u)
    (h : ∀ s', Inv X pins σ (upd H a (.ins C dx (putF f y fs))) s' → Q () s') : wpAny (model X.prog X.w) A (setAttr (.ref a) f u) Q E s := by
  obtain ⟨mA, O, r, wi, _, ho⟩ := ins_get I.hok e
  have hz : (fs.map (·.1)).length ≤ sizeLine := by rw [List.length_map, sizeLine_eq]; omega
  refine set_map I.kIn O c.sa c.po n.taker c.hd wi hz fun h' O' sb => h _ ?_
  have hd : ∃ o, h'.get? dx = some o := let ⟨o, _, _, e', _⟩ := O'.ns; ⟨o, e'⟩
  refine I.write (x := a) (e := dx) (by rw [e]; exact True.intro) (.inr ho) (fun b q hb z => (sb.2 b hb).trans z) hd ?_
  refine ⟨by rw [upd_ne O.ne]; exact ho, ?_, O.ne, O'.obj, _, O'.ns, fun g => ?_, fun g hg => ?_⟩
  · have := length_putF f y fs; omega
  · show RelO ((putF f y fs).lookup g) (if g = f then some u else mA g)
    rw [lookup_putF]
    by_cases q : g = f
    · rw [if_pos q, if_pos q]; exact ry
    · rw [if_neg q, if_neg q]; exact r g
  · by_cases q : g = f
    · rw [q]; exact (keys_putF f y fs).1
    · refine (keys_putF f y fs).2 g (wi g fun z => hg ?_)
      show (if g = f then some u else mA g) = none
      rw [if_neg q]; exact z

/-- a new instance, tracked, without attributes -/
theorem Inv.made (I : Inv X pins σ H s) : Inv X pins σ (upd (upd H s.heap.objs.size (.own (s.heap.objs.size + 1))) (s.heap.objs.size + 1) (.ins C s.heap.objs.size []))
    { s with heap := (s.heap.push PySem.W.emptyDict).push (PySem.W.instObj C s.heap.objs.size) } := by
  have e1 : (s.heap.push PySem.W.emptyDict).get? s.heap.objs.size = some PySem.W.emptyDict := Heap.get?_push_size s.heap rfl
  have e2 : ((s.heap.push PySem.W.emptyDict).push (PySem.W.instObj C s.heap.objs.size)).get? (s.heap.objs.size + 1) = some (PySem.W.instObj C s.heap.objs.size) := by
    have := Heap.get?_push_size (s.heap.push PySem.W.emptyDict) (o := PySem.W.instObj C s.heap.objs.size) rfl
    rwa [Heap.size_push] at this
  have e3 : (s.heap.push PySem.W.emptyDict).Ns s.heap.objs.size (fun _ => none) := ⟨PySem.W.emptyDict, #[], _, e1, rfl, (fun e he => absurd he (by simp)), fun _ => rfl⟩
  have I1 := I.laid (a := s.heap.objs.size) (o := .own (s.heap.objs.size + 1)) (h' := s.heap.push PySem.W.emptyDict) (t' := s.toks) (fun b u q => Heap.get?_push_of_some _ q) (Nat.le_refl _) ⟨_, e1⟩
  refine I1.laid (a := s.heap.objs.size + 1) (o := .ins C s.heap.objs.size []) (t' := s.toks) (fun b u q => Heap.get?_push_of_some _ q) (Nat.le_of_eq (Heap.size_push _ _)) ?_
  have ne : s.heap.objs.size ≠ s.heap.objs.size + 1 := Nat.ne_of_lt (Nat.lt_succ_self _)
  refine ⟨by rw [upd_ne ne, upd_same], Nat.zero_le _, ne, e2, fun _ => none, (Heap.Ns1.of_empty e3).at fun o q => Heap.get?_push_of_some _ q, fun _ => True.intro, fun y hy => absurd rfl hy⟩

/-- e.f where nothing but the object is asked: through attributeBase (super) and the last hold -/
theorem attr_of {prog : Program} {w : World} {env : Env} {e : Expr} {f : Str} {pos : Pos} {s : Shared} {Q : Value → Shared → Prop} (hb : attributeBase e f env (eval e env) = eval e env)
    (h : wpAny (model prog w) A (eval e env) (fun o s₁ => wpAny (model prog w) A (getAttr o f true) Q E s₁) E s) : wpAny (model prog w) A (eval (.Attribute e f pos) env) Q E s :=
  Attribute_any_ h (by rw [arm_eval_Attribute, hb])
end

/-! ### readings and rules -/
/-- e.f, an attribute of the instance -/
noncomputable def tFld (K : PySem.W.Frag) (ta : TE) (f : Str) : TE := fun σ H Q => ta σ H fun x H1 => ∃ a C dx fs v, x = .ref a ∧ H1 a = some (.ins C dx fs) ∧ Cls K C ∧ NoAttr K C f ∧ fs.lookup f = some v ∧ Q v H1
/-- e.f = value -/
noncomputable def sFld (K : PySem.W.Frag) (ta tv : TE) (f : Str) : TS := fun D σ H => tv σ H fun y H1 => ta σ H1 fun x H2 => ∃ a C dx fs, x = .ref a ∧ H2 a = some (.ins C dx fs) ∧ Cls K C ∧ NoAttr K C f ∧ fs.length < 1000 ∧
  D.nx σ (upd H2 a (.ins C dx (putF f y fs)))
section
variable {X : Cx} {o e value : Expr} {f : Str} {pos pos' tpos : Pos} {ta tv : TE}
theorem pe_fld (he : PE X e ta) (hb : attributeBase e f X.env (eval e X.env) = eval e X.env) : PE X (.Attribute e f pos) (tFld X.K ta f) := by
  intro pins s σ H Q I h
  refine attr_of hb (thn (he pins s σ H _ I h) fun u s1 ⟨x, H1, I1, rx, a, C, dx, fs, v, ex, ea, c, n, l, q⟩ => ?_)
  subst ex
  obtain rfl : u = Value.ref a := rx
  exact getattr_ok I1 ea c n l fun u' s2 I2 ru => ⟨v, H1, I2, ru, q⟩
theorem ps_fld (ha : PE X o ta) (hv : PE X value tv) (hs : swapsWith value (some (.Attribute o f pos')) pos.line X.env = pure false) : PS X (.Assign [.Attribute o f pos'] value pos) (sFld X.K ta tv f) := by
  intro pins s σ H D I h
  refine plainObj_wpAny_Assign_Attribute (thn (hv pins s σ H _ I h) fun u s1 ⟨y, H1, I1, ry, q⟩ => thn (ha pins s1 σ H1 _ I1 q) fun ov s2 ⟨x, H2, I2, rx, a, C, dx, fs, ex, ea, c, n, l, q2⟩ => ?_) hs
  subst ex
  obtain rfl : ov = Value.ref a := rx
  exact setattr_ok I2 ea c n l ry fun s3 I3 => ⟨σ, _, I3, q2⟩
/-- what is between an instance and its method: the tree of a method call -/
theorem methcall_of {pl : Sem Bool} {m : Str} {apos : Pos} {args : List Expr} {pins : List (Addr × Obj)} {s : Shared} {σ : St} {H : Hp} {Q : Value → Shared → Prop} {te : TE} (he : PE X e te) (I : Inv X pins σ H s)
    (h : te σ H fun x H1 => ∃ a C dx fs g, x = .ref a ∧ H1 a = some (.ins C dx fs) ∧ Cls X.K C ∧ Meth X.K C m g ∧ fs.lookup m = none ∧
      ∀ s1, Inv X pins σ H1 s1 → wpAny (model X.prog X.w) X.A (callWith pos (.ref g) [.ref a] (backTo pos (starEach args X.env)) (backToKw pos (keywordEach [] X.env))) Q X.xe s1)
    (ht : eval (.Call (.Attribute e m apos) args [] pos) X.env = (do
      let ov ← eval e X.env
      standAt apos.atName
      let (f, first) ← holding [ov] (getMethod ov m pl)
      callWith pos f first (backTo pos (starEach args X.env)) (backToKw pos (keywordEach [] X.env)))) :
    wpAny (model X.prog X.w) X.A (eval (.Call (.Attribute e m apos) args [] pos) X.env) Q X.xe s := by
  refine PySem.W.methodCall_KW (pl := pl) (thn (he pins s σ H _ I h) fun u s1 ⟨x, H1, I1, rx, a, C, dx, fs, g, ex, ea, c, k, l, q⟩ => ?_) ht
  subst ex
  obtain rfl : u = Value.ref a := rx
  exact getmeth_ok I1 ea c k l (q s1 I1)
end

/-! ### isinstance -/
section
variable {X : Cx} {pins : List (Addr × Obj)} {σ : St} {H : Hp} {s : Shared} {A : Around} {E : Value → Shared → Prop} {Q : Value → Shared → Prop} {c : Value} {b : Bool}
/-- the type of a value, as the fragment's deciders take it; for an instance its class -/
inductive TyOf (K : PySem.W.Frag) (H : Hp) : V → Value → Prop where
  | non : TyOf K H .non (.type "NoneType")
  | bl (x : Bool) : TyOf K H (.bl x) (.type "bool")
  | int (i : Int) : TyOf K H (.int i) (.type "int")
  | str (x : Str) : TyOf K H (.str x) (.type "str")
  | flt (x : UInt64) : TyOf K H (.flt x) (.type "float")
  | lst {a : Addr} {xs : List V} (e : H a = some (.lst xs)) : TyOf K H (.ref a) (.type "list")
  | frz {a : Addr} {o : Obj} {xs : List V} (e : H a = some (.frz o (.lst xs))) : TyOf K H (.ref a) (.type "list")
  | tup {a : Addr} {xs : List V} (e : H a = some (.tup xs)) : TyOf K H (.ref a) (.type "tuple")
  | dK {a : Addr} {kvs : List (Key × V)} (e : H a = some (.dK kvs)) : TyOf K H (.ref a) (.type "dict")
  | dT {a : Addr} {kvs : List (List Key × V)} (e : H a = some (.dT kvs)) : TyOf K H (.ref a) (.type "dict")
  | ins {a C dx : Addr} {fs : List (Str × V)} (e : H a = some (.ins C dx fs)) (cl : Cls K C) (ha : PySem.W.findIn K (.ref C) "__class__" = some (some (.builtin "object.__class__")))
      (hn : PySem.W.specialIn K (.builtin "object.__class__") "__get__" = some (some (.builtin "getset_descriptor.__get__"))) (htk : PySem.W.takesIn K (.builtin "object.__class__") = some true)
      (hm : PySem.W.mroIn K C (.type "object") = some true) : TyOf K H (.ref a) (.ref C)
/-- isinstance(x, c) for one class c, a built-in or an own one: kitOne's answer -/
theorem isinst_ok {x : V} {u t : Value} (I : Inv X pins σ H s) (rx : RelV x u) (ty : TyOf X.K H x t) (e : PySem.W.kitOne X.K t c = some b) (h : ∀ tk, Q (.bool b) { s with toks := tk }) :
    wpAny (model X.prog X.w) A (call (.builtin "isinstance") [u, c]) Q E s := by
  cases ty with
  | non => cases (show u = Value.none from rx); exact PySem.W.kia_one PySem.W.kitx_none I.kIn True.intro e (fun z => nomatch z) h
  | bl y => cases (show u = Value.bool y from rx); exact PySem.W.kia_one PySem.W.kitx_bool I.kIn True.intro e (fun z => nomatch z) h
  | int i => obtain ⟨t, q⟩ := (show ∃ t, u = Value.int i t from rx); cases q; exact PySem.W.kia_one PySem.W.kitx_int I.kIn True.intro e (fun z => nomatch z) h
  | str y => obtain ⟨t, q⟩ := (show ∃ t, u = Value.str y t from rx); cases q; exact PySem.W.kia_one PySem.W.kitx_str I.kIn True.intro e (fun z => nomatch z) h
  | flt y => obtain ⟨t, q⟩ := (show ∃ t, u = Value.float y t from rx); cases q; exact PySem.W.kia_one PySem.W.kitx_float I.kIn True.intro e (fun z => nomatch z) h
  | @lst a xs ea =>
    cases (show u = Value.ref a from rx)
    obtain ⟨_, _, n, _, h1⟩ := (show ObjOk X.prog X.w H s.heap a (.lst xs) from I.hok a _ ea)
    exact PySem.W.kia_one PySem.W.kitx_list I.kIn ⟨_, h1, rfl⟩ e (fun z => nomatch z) h
  | @frz a ob xs ea =>
    cases (show u = Value.ref a from rx)
    obtain ⟨_, _, _, n, _, h1⟩ := (show ObjOk X.prog X.w H s.heap a (.frz ob (.lst xs)) from I.hok a _ ea)
    exact PySem.W.kia_one PySem.W.kitx_list I.kIn ⟨_, h1, rfl⟩ e (fun z => nomatch z) h
  | @tup a xs ea =>
    cases (show u = Value.ref a from rx)
    obtain ⟨_, _, _, p⟩ := (show ObjOk X.prog X.w H s.heap a (.tup xs) from I.hok a _ ea)
    obtain ⟨o, h1, h2, _⟩ := p
    exact PySem.W.kia_one PySem.W.kitx_tuple I.kIn ⟨o, h1, h2⟩ e (fun z => nomatch z) h
  | @dK a kvs ea =>
    cases (show u = Value.ref a from rx)
    obtain ⟨_, _, vs, _, p⟩ := (show ObjOk X.prog X.w H s.heap a (.dK kvs) from I.hok a _ ea)
    obtain ⟨o, es, ep, h1, h2, _⟩ := p
    exact PySem.W.kia_one PySem.W.kitx_dict I.kIn ⟨o, h1, h2.1⟩ e (fun z => nomatch z) h
  | @dT a kvs ea =>
    cases (show u = Value.ref a from rx)
    obtain ⟨_, _, xs, _, o, es, ep, h1, h2, _⟩ := (show ObjOk X.prog X.w H s.heap a (.dT kvs) from I.hok a _ ea)
    exact PySem.W.kia_one PySem.W.kitx_dict I.kIn ⟨o, h1, h2.1⟩ e (fun z => nomatch z) h
  | @ins a C dx fs ea cl ha hn htk hm =>
    cases (show u = Value.ref a from rx)
    obtain ⟨mA, O, _⟩ := ins_get I.hok ea
    obtain ⟨od, J, _⟩ := O.look
    exact PySem.W.kia_one (PySem.W.kitx_own (cl.get _) cl.hd ha hn htk hm) I.kIn J e (fun z => nomatch z) h
end
end L2

namespace L2
open PySem PySem.Spec PyProof.Rows

/-! ### room -/
structure Room (k : Nat) (A : Around) : Prop where
  hd : A.handled = none
  dp : A.depth + 3 * k + 5 < recursionLimit
  un : A.units + 16 * k + 200 < cLine
theorem Room.mono {j k : Nat} {A : Around} (r : Room k A) (h : j ≤ k) : Room j A := ⟨r.hd, by have := r.dp; omega, by have := r.un; omega⟩
theorem Room.deeper {k : Nat} {A : Around} (r : Room (k + 1) A) (env : Env) : Room k (A.deeper env) :=
  ⟨r.hd, by have := r.dp; show A.depth + 1 + 3 * k + 5 < _; omega, by have := r.un; show A.units + 3 + 16 * k + 200 < _; omega⟩
theorem make_depth {A : Around} {C : Addr} {us : List Value} {kw : List (Str × Value)} : (A.under (.builtin "type.__call__" ⟨.ref C :: us, kw⟩)).depth = A.depth + 1 := by
  first | rfl | simp [Around.under, Code.weight, Code.isCreation, Code.isGuard, Code.isCaller, Code.frames, Code.isFrame, guardIds]
theorem make_units {A : Around} {C : Addr} {us : List Value} {kw : List (Str × Value)} : (A.under (.builtin "type.__call__" ⟨.ref C :: us, kw⟩)).units = A.units + 1 := by
  first | rfl | simp [Around.under, Code.cUnits, Code.frames, Code.isFrame]
theorem Room.make {k : Nat} {A : Around} (r : Room (k + 1) A) (C : Addr) (us : List Value) (kw : List (Str × Value)) : Room k (A.under (.builtin "type.__call__" ⟨.ref C :: us, kw⟩)) :=
  ⟨r.hd, by have := r.dp; rw [make_depth]; omega, by have := r.un; rw [make_units]; omega⟩
theorem Room.depth {k : Nat} {A : Around} (r : Room k A) : A.depth < recursionLimit := by have := r.dp; omega
theorem Room.units {k : Nat} {A : Around} (r : Room k A) : A.units + 64 < cLine := by have := r.un; omega
/-! ### argument lists and displays -/
noncomputable def tNil : TA := fun _ H Q => Q [] H
noncomputable def tCons (ta : TE) (tr : TA) : TA := fun σ H Q => ta σ H fun x H1 => tr σ H1 fun xs H2 => Q (x :: xs) H2
section
variable {X : Cx} {e : Expr} {es : List Expr} {te : TE} {t : TA} {pos : Pos}
theorem pa_nil : PA X [] tNil := fun _ _ _ _ H Q I h => Calls.spliced_nil ⟨[], H, I, .nil, h⟩
theorem pa_cons (ha : PE X e te) (hr : PA X es t) (hs : starEach (e :: es) X.env = (false, eval e X.env) :: starEach es X.env := by rfl) : PA X (e :: es) (tCons te t) := by
  intro pos pins s σ H Q I h
  rw [hs]
  show wpAny _ _ (spliced ((false, eval e X.env) :: backTo pos (starEach es X.env))) _ _ s
  refine Calls.spliced_cons (thn (ha pins s σ H _ I h) fun u s1 ⟨x, H1, I1, r1, q1⟩ => ?_)
  exact thn (hr pos pins s1 σ H1 _ I1 q1) fun us s2 ⟨xs, H2, I2, r2, q2⟩ => ⟨x :: xs, H2, I2, .cons r1 r2, q2⟩

noncomputable def tLst (t : TA) : TE := fun σ H Q => t σ H fun xs H1 => xs.length ≤ sizeLine ∧ ∀ p, H1 p = none → Q (.ref p) (upd H1 p (.lst xs))
theorem pe_lst (h : PA X es t) : PE X (.List es pos) (tLst t) := by
  intro pins s σ H Q I hq
  refine wpAny_List_spliced (thn (h pos pins s σ H _ I hq) fun us s1 ⟨xs, H1, I1, r, z, q⟩ => ⟨by rw [← r.length]; exact z, ?_⟩)
  have hf : H1 s1.heap.objs.size = none := I1.hok.fresh (Nat.le_refl _)
  refine ⟨.ref s1.heap.objs.size, upd H1 s1.heap.objs.size (.lst xs), I1.laid (t' := s1.toks) (fun b u e => Heap.get?_push_of_some _ e) (Nat.le_refl _) ?_, rfl, q _ hf⟩
  exact ⟨z, us, 0, r, Heap.get?_push_size _ rfl⟩
end

/-! ### what a def promises -/
/-- a def's promise: the bound arguments in the parameters' order, the heap, the wanted end, the wanted exception -/
noncomputable abbrev Sp := List V → Hp → VK → XK → Prop
/-- how an exception lies behind a call (file 08 gives it): the callers' frames, abstract heap and state ahead of the call, the wish, the exception, the state -/
noncomputable abbrev CXT := List Env → Hp → Shared → XK → Value → Shared → Prop

/-- the state at a call -/
structure Env0 (P : Program) (w : World) (K : PySem.W.Frag) (mg : Str → Option Value) (base : Heap) (A : Around) (outer : List Env) (s : Shared) (H : Hp) : Prop where
  frames : A.frames = some outer
  mod : Mod K mg base
  bs : ∀ b o, base.get? b = some o → s.heap.get? b = some o ∧ H b = none
  bsz : base.objs.size ≤ s.heap.objs.size
  funs : s.heap.FunFrames base outer
  frf : ∀ b ∈ frs outer, H b = none
  hok : HOk P w H s.heap
  bare : AllBare s.gens
/-- a call's end -/
noncomputable def CE (outer : List Env) (P : Program) (w : World) (H : Hp) (s : Shared) (Q : VK) (u : Value) (s' : Shared) : Prop :=
  ∃ v H', s'.os = s.os ∧ AllBare s'.gens ∧ Un (frs outer) [] H H' s.heap s'.heap ∧ HOk P w H' s'.heap ∧ RelV v u ∧ Q v H'
noncomputable def CR (CX : CXT) (outer : List Env) (P : Program) (w : World) (H : Hp) (s : Shared) (Q : VK) (E : XK) (r : Result) (s' : Shared) : Prop :=
  match r with
  | .ok (.ret u) => CE outer P w H s Q u s'
  | .ok _ => False
  | .error e => CX outer H s E e s'
structure FnOk (P : Program) (w : World) (K : PySem.W.Frag) (mg : Str → Option Value) (base : Heap) (CX : CXT) (k : Nat) (f : Addr) (fd : FuncData) (ps : List Str) (sp : Sp) : Prop where
  len : ∀ vs H Q E, sp vs H Q E → vs.length = ps.length
  run : ∀ (A : Around) (outer : List Env) (s : Shared) (H : Hp) (args : Args) (us : List Value) (vs : List V) (Q : VK) (E : XK), Room k A → Env0 P w K mg base A outer s H → BindsTo s fd args (ps.zip us) → Vals vs us → sp vs H Q E →
    codeAny (model P w) A (.call (.ref f) args) (CR CX outer P w H s Q E) s
theorem Env0.make {P : Program} {w : World} {K : PySem.W.Frag} {mg : Str → Option Value} {base : Heap} {A : Around} {outer : List Env} {s : Shared} {H : Hp} (e : Env0 P w K mg base A outer s H) (C : Addr) (us : List Value) (kw : List (Str × Value)) :
    Env0 P w K mg base (A.under (.builtin "type.__call__" ⟨.ref C :: us, kw⟩)) outer s H := ⟨by first | exact e.frames | (simpa [Around.under, Code.envs, Code.isFrame, pushEnvs] using e.frames), e.mod, e.bs, e.bsz, e.funs, e.frf, e.hok, e.bare⟩
section
variable {X : Cx} {pins : List (Addr × Obj)} {σ : St} {H : Hp} {s s' : Shared}
/-- from a body: what a callee wants -/
theorem Inv.env0 (I : Inv X pins σ H s) : Env0 X.prog X.w X.K X.mg X.base X.A X.stack s H :=
  ⟨I.ok.frames, I.ok.mod, I.bs, Nat.le_trans I.ok.bsz I.sz, I.stack, I.stkFree, I.hok, I.bare⟩
/-- behind a call -/
theorem Inv.after {Q : VK} {u : Value} (I : Inv X pins σ H s) (h : CE X.stack X.prog X.w H s Q u s') : EP X pins σ Q u s' := by
  obtain ⟨v, H', os, bare, un, hok, r, q⟩ := h
  obtain ⟨hh, g, d, t, os'⟩ := s'
  obtain rfl : os' = s.os := os
  exact ⟨v, H', I.call (h' := hh) (g' := g) (d' := d) (t' := t) (ch := []) un hok bare (fun b z => absurd z (by simp)), r, q⟩
end

/-! ### calls -/
/-- f(..): the written arguments, then the defaults dvs; E: what is wanted of an exception -/
noncomputable def tCall (sp : Sp) (dvs : List V) (E : XK) (t : TA) : TE := fun σ H Q => t σ H fun vs H1 => sp (vs ++ dvs) H1 Q E
/-- o.m(..) of an instance of the class at C -/
noncomputable def tMeth (C : Addr) (m : Str) (sp : Sp) (dvs : List V) (E : XK) (ta : TE) (t : TA) : TE := fun σ H Q => ta σ H fun x H1 => ∃ a dx fs, x = .ref a ∧ H1 a = some (.ins C dx fs) ∧ fs.lookup m = none ∧
  t σ H1 fun vs H2 => sp (x :: (vs ++ dvs)) H2 Q E
/-- C(..): a new instance and its dict, then __init__ -/
noncomputable def tMake (C : Addr) (sp : Sp) (dvs : List V) (E : XK) (t : TA) : TE := fun σ H Q => t σ H fun vs H1 => ∀ x dx, H1 x = none → H1 dx = none → dx ≠ x →
  sp (.ref x :: (vs ++ dvs)) (upd (upd H1 dx (.own x)) x (.ins C dx [])) (fun v H2 => v = .non ∧ Q (.ref x) H2) E

/-- how the parameters are bound: us the positional arguments, kw the keywords' values by name, ds the defaults that fill up -/
noncomputable def Binds (K : PySem.W.Frag) (fd : FuncData) (ps : List Str) (ds : List Value) : Prop :=
  ∀ (s : Shared) (us : List Value), K.In s.heap → (us ++ ds).length = ps.length → BindsTo s fd ⟨us, []⟩ (ps.zip (us ++ ds))
/-- every parameter is given -/
theorem Binds.all {K : PySem.W.Frag} {fd : FuncData} {ps : List Str} (h : ∀ us : List Value, us.length = ps.length → bindArgs fd ⟨us, []⟩ = pure (ps.zip us)) : Binds K fd ps [] := fun s us _ hl => by
  rw [List.append_nil] at hl ⊢
  exact .of_eq (h us hl)

/-- an exception of a callee reaches what this body wants of exceptions -/
noncomputable def Passes (CX : CXT) (X : Cx) (E : XK) : Prop := ∀ (pins : List (Addr × Obj)) (σ : St) (H : Hp) (s : Shared) (e : Value) (s' : Shared), Inv X pins σ H s → CX X.stack H s E e s' → X.xe e s'

section
variable {X : Cx} {CX : CXT} {k : Nat} {f C : Addr} {fd : FuncData} {ps : List Str} {sp : Sp} {dvs : List V} {ds : List Value} {E : XK} {x m : Str} {p pos apos : Pos} {e o : Expr} {es : List Expr} {ta : TE} {t : TA}

/-- the callee runs -/
theorem run_fn {pins : List (Addr × Obj)} {σ : St} {H : Hp} {s : Shared} {Q : VK} {us : List Value} {vs : List V} (F : FnOk X.prog X.w X.K X.mg X.base CX k f fd ps sp) (hr : Room k X.A) (hb : Binds X.K fd ps ds) (hd : Vals dvs ds) (hx : Passes CX X E)
    (I : Inv X pins σ H s) (r : Vals vs us) (h : sp (vs ++ dvs) H Q E) : wpAny (model X.prog X.w) X.A (call (.ref f) us) (EP X pins σ Q) X.xe s := by
  have r2 : Vals (vs ++ dvs) (us ++ ds) := r.append hd
  have hl : (us ++ ds).length = ps.length := by rw [← r2.length]; exact F.len _ _ _ _ h
  refine wpAny_call (codeAny_mono (F.run X.A X.stack s H ⟨us, []⟩ (us ++ ds) (vs ++ dvs) Q E hr I.env0 (hb s us I.kIn hl) r2 h) fun r s' hq => ?_)
  cases r with
  | error e => exact hx pins σ H s e s' I hq
  | ok fl =>
    cases fl with
    | ret u => exact I.after hq
    | next => exact False.elim hq
    | brk => exact False.elim hq
    | cont => exact False.elim hq

theorem pe_call (F : FnOk X.prog X.w X.K X.mg X.base CX k f fd ps sp) (hr : Room k X.A) (hg : Gl X x) (hm : X.mg x = some (.ref f)) (hk : PySem.W.keepIn X.K (.ref f) = true) (hb : Binds X.K fd ps ds) (hd : Vals dvs ds) (hx : Passes CX X E)
    (ha : PA X (e :: es) t) (hdb : (x == ("__debug__" : Str)) = false := by decide) (he : starEach (e :: es) X.env = (false, eval e X.env) :: starEach es X.env := by rfl) (hpl : (backTo pos (starEach es X.env)).any (·.1) = false := by rfl) :
    PE X (.Call (.Name x p) (e :: es) [] pos) (tCall sp dvs E t) := by
  intro pins s σ H Q I h
  refine wpAny_Call_Name_kw (ld_glob I hg hm ?_ hdb)
  refine PySem.W.callWith_K (h₀ := X.base) I.ok.mod.kin hk (thn (ha pos pins s σ H _ I h) fun us s1 ⟨vs, H1, I1, r, q⟩ => ⟨I1.kIn, ?_⟩) he hpl
  exact run_fn F hr hb hd hx I1 r q
/-- o.m(e, ..) -/
theorem pe_meth {pl : Sem Bool} (he : PE X o ta) (c : Cls X.K C) (hm : Meth X.K C m f) (F : FnOk X.prog X.w X.K X.mg X.base CX k f fd ps sp) (hr : Room k X.A) (hb : Binds X.K fd ps ds) (hd : Vals dvs ds) (hx : Passes CX X E) (ha : PA X (e :: es) t)
    (hst : starEach (e :: es) X.env = (false, eval e X.env) :: starEach es X.env := by rfl) (hpl : (backTo pos (starEach es X.env)).any (·.1) = false := by rfl)
    (ht : eval (.Call (.Attribute o m apos) (e :: es) [] pos) X.env = (do
      let ov ← eval o X.env
      standAt apos.atName
      let (f, first) ← holding [ov] (getMethod ov m pl)
      callWith pos f first (backTo pos (starEach (e :: es) X.env)) (backToKw pos (keywordEach [] X.env))) := by rfl) :
    PE X (.Call (.Attribute o m apos) (e :: es) [] pos) (tMeth C m sp dvs E ta t) := by
  intro pins s σ H Q I h
  refine PySem.W.methodCall_KW (pl := pl) (thn (he pins s σ H _ I h) fun u s1 ⟨x, H1, I1, rx, a, dx, fs, ex, ea, l, q⟩ => ?_) ht
  subst ex
  obtain rfl : u = Value.ref a := rx
  refine getmeth_ok I1 ea c hm l ?_
  refine PySem.W.callWith_K (first := [.ref a]) (h₀ := X.base) I.ok.mod.kin hm.kp (thn (ha pos pins s1 σ H1 _ I1 q) fun us s2 ⟨vs, H2, I2, r, q2⟩ => ⟨I2.kIn, ?_⟩) hst hpl
  exact run_fn (us := .ref a :: us) (vs := .ref a :: vs) F hr hb hd hx I2 (.cons rfl r) q2
/-- what a class must have to be made -/
structure Mk (K : PySem.W.Frag) (C f : Addr) : Prop where
  makes : PySem.W.makesIn K C = true
  init : PySem.W.findIn K (.ref C) "__init__" = some (some (.ref f))
  fn : PySem.W.isFn K (.ref f) = true
  kp : PySem.W.keepIn K (.ref C) = true

theorem run_make {pins : List (Addr × Obj)} {σ : St} {H : Hp} {s : Shared} {Q : VK} {us : List Value} {vs : List V} (M : Mk X.K C f) (F : FnOk X.prog X.w X.K X.mg X.base CX k f fd ps sp) (hr : Room (k + 1) X.A) (hb : Binds X.K fd ps ds) (hd : Vals dvs ds)
    (hx : Passes CX X E) (I : Inv X pins σ H s) (r : Vals vs us)
    (h : ∀ x dx, H x = none → H dx = none → dx ≠ x → sp (.ref x :: (vs ++ dvs)) (upd (upd H dx (.own x)) x (.ins C dx [])) (fun v H2 => v = .non ∧ Q (.ref x) H2) E) :
    wpAny (model X.prog X.w) X.A (call (.ref C) us) (EP X pins σ Q) X.xe s := by
  have hq := h (s.heap.objs.size + 1) s.heap.objs.size (I.hok.fresh (Nat.le_succ _)) (I.hok.fresh (Nat.le_refl _)) (Nat.ne_of_lt (Nat.lt_succ_self _))
  have I2 := Inv.made (C := C) I
  have r2 : Vals (V.ref (s.heap.objs.size + 1) :: (vs ++ dvs)) (Value.ref (s.heap.objs.size + 1) :: (us ++ ds)) := .cons rfl (r.append hd)
  have hl : (Value.ref (s.heap.objs.size + 1) :: us ++ ds).length = ps.length := by
    have e := r2.length
    rw [F.len _ _ _ _ hq] at e
    exact e.symm
  refine wpAny_call (make_map (f := f) I.kIn M.makes M.init (beq_iff_eq.mp M.fn) (codeAny_mono (F.run _ X.stack _ _ ⟨Value.ref (s.heap.objs.size + 1) :: us, []⟩ (Value.ref (s.heap.objs.size + 1) :: (us ++ ds)) _ _ E (hr.make C us [])
    (I2.env0.make C us []) (hb _ (Value.ref (s.heap.objs.size + 1) :: us) I2.kIn hl) r2 hq) fun r s' hq' => ?_))
  cases r with
  | error e => exact hx pins σ _ _ e s' I2 hq'
  | ok fl =>
    cases fl with
    | ret u =>
      obtain ⟨v, H', I3, rv, ev, q3⟩ := I2.after hq'
      subst ev
      exact ⟨rv, ⟨V.ref (s.heap.objs.size + 1), H', I3, rfl, q3⟩⟩
    | next => exact False.elim hq'
    | brk => exact False.elim hq'
    | cont => exact False.elim hq'
theorem pe_make0 (M : Mk X.K C f) (F : FnOk X.prog X.w X.K X.mg X.base CX k f fd ps sp) (hr : Room (k + 1) X.A) (hg : Gl X x) (hm : X.mg x = some (.ref C)) (hb : Binds X.K fd ps ds) (hd : Vals dvs ds) (hx : Passes CX X E)
    (hdb : (x == ("__debug__" : Str)) = false := by decide) : PE X (.Call (.Name x p) [] [] pos) (tMake C sp dvs E tNil) := by
  intro pins s σ H Q I h
  refine wpAny_Call_Name_kw (ld_glob I hg hm ?_ hdb)
  exact PySem.W.callWith_K0 I.kIn M.kp (run_make (us := []) M F hr hb hd hx I .nil h)
end

/-! ### keywords -/
section
variable {X : Cx} {CX : CXT} {k : Nat} {f C : Addr} {fd : FuncData} {ps ks : List Str} {sp : Sp} {E : XK} {x m : Str} {p pos apos kpos : Pos} {e o : Expr} {es : List Expr} {kws : List Keyword} {te ta : TE} {t tk : TA} {nm : Option Str}
variable {g : List Value → List Value → List Value} {gV : List V → List V → List V}
end

/-! ### a def's body keeps its promise -/
/-- names: the parameters first -/
structure FnScope (N P : List Str) (sc : Scope) : Prop where
  kind : sc.kind = .function
  co : sc.isCoroutine = false
  gen : sc.isGenerator = false
  nd : N.Nodup
  pre : N.take P.length = P
  par : ∀ x ∈ P, sc.names.lookup x = some .local ∨ sc.names.lookup x = some .cell
  nofree : ∀ y ∈ sc.names, y.2 ≠ .free

theorem bindL_out {kindOf : Str → Option NameKind} {x : Str} : ∀ {binds : List (Str × Value)} {m : Str → Option Value}, (∀ v, (x, v) ∉ binds) → bindL kindOf binds m x = m x
  | [], _, _ => rfl
  | (n, v) :: r, m, h => by
    unfold bindL
    rw [bindL_out fun w hw => h w (List.mem_cons_of_mem _ hw)]
    split
    · have : x ≠ n := by rintro rfl; exact h v List.mem_cons_self
      simp [this]
    · rfl
theorem bindC_out {kindOf : Str → Option NameKind} {x : Str} : ∀ {binds : List (Str × Value)} {m : Str → Option Value}, (∀ v, (x, v) ∉ binds) → bindC kindOf binds m x = m x
  | [], _, _ => rfl
  | (n, v) :: r, m, h => by
    unfold bindC
    rw [bindC_out fun w hw => h w (List.mem_cons_of_mem _ hw)]
    split
    · rfl
    · have : x ≠ n := by rintro rfl; exact h v List.mem_cons_self
      simp [this]
theorem bindL_get {kindOf : Str → Option NameKind} {x : Str} {v : Value} : ∀ {P : List Str} {vs : List Value} {i : Nat} {m : Str → Option Value}, P.Nodup → P[i]? = some x → vs[i]? = some v → kindOf x = some .local →
    bindL kindOf (P.zip vs) m x = some v
  | [], _, _, _, _, h, _, _ => by simp at h
  | _ :: _, [], _, _, _, _, h, _ => by simp at h
  | p :: P, w :: vs, 0, m, nd, h1, h2, hk => by
    simp at h1 h2; subst h1; subst h2
    show bindL kindOf ((p, w) :: P.zip vs) m p = _
    unfold bindL
    rw [bindL_out fun v hv => (List.nodup_cons.mp nd).1 (List.of_mem_zip hv).1, if_pos hk]
    simp
  | p :: P, w :: vs, i + 1, m, nd, h1, h2, hk => by
    show bindL kindOf ((p, w) :: P.zip vs) m x = _
    unfold bindL
    exact bindL_get (i := i) (List.nodup_cons.mp nd).2 (by simpa using h1) (by simpa using h2) hk
theorem bindC_get {kindOf : Str → Option NameKind} {x : Str} {v : Value} : ∀ {P : List Str} {vs : List Value} {i : Nat} {m : Str → Option Value}, P.Nodup → P[i]? = some x → vs[i]? = some v → kindOf x ≠ some .local →
    bindC kindOf (P.zip vs) m x = some v
  | [], _, _, _, _, h, _, _ => by simp at h
  | _ :: _, [], _, _, _, _, h, _ => by simp at h
  | p :: P, w :: vs, 0, m, nd, h1, h2, hk => by
    simp at h1 h2; subst h1; subst h2
    show bindC kindOf ((p, w) :: P.zip vs) m p = _
    unfold bindC
    rw [bindC_out fun v hv => (List.nodup_cons.mp nd).1 (List.of_mem_zip hv).1, if_neg hk]
    simp
  | p :: P, w :: vs, i + 1, m, nd, h1, h2, hk => by
    show bindC kindOf ((p, w) :: P.zip vs) m x = _
    unfold bindC
    exact bindC_get (i := i) (List.nodup_cons.mp nd).2 (by simpa using h1) (by simpa using h2) hk

/-- the names' values at the entry -/
noncomputable def start (N : List Str) (vs : List V) : St := vs.map some ++ List.replicate (N.length - vs.length) none

/-- the context of a def's body, at its entry; an exception leaves the frame, then lies as CX says -/
noncomputable def cxOf (CX : CXT) (P : Program) (w : World) (K : PySem.W.Frag) (mg : Str → Option Value) (base : Heap) (N : List Str) (qual : Str) (scope : Scope) (f : Addr) (cd : Value) (A : Around) (outer : List Env) (s : Shared) (H : Hp) (E : XK) : Cx where
  prog := P
  w := w
  K := K
  mg := mg
  base := base
  A := A.deeper (envOfC qual scope s.heap.objs.size f cd)
  N := N
  s₀ := s
  H₀ := H
  env := envOfC qual scope s.heap.objs.size f cd
  outer := outer
  stack := envOfC qual scope s.heap.objs.size f cd :: outer
  ex := []
  calm := true
  fn := fun _ => true
  pn := []
  xe := fun e s' => wpAny (model P w) (A.deeper (envOfC qual scope s.heap.objs.size f cd)) (leaving (envOfC qual scope s.heap.objs.size f cd) e) (fun _ s'' => CX outer H s E e s'') (fun e' s'' => CX outer H s E e' s'') s'

theorem cell_has {sc : Scope} {n : Nat} {x : Str} (h : sc.names.lookup x = some .cell) : ∃ c, (cellsFrom n sc.names []).lookup x = some c := by
  have q := PySem.W.cellsFrom_some sc.names n [] (.inl h)
  exact Option.isSome_iff_exists.mp q

theorem inv_start {CX : CXT} {P : Program} {w : World} {K : PySem.W.Frag} {mg : Str → Option Value} {base : Heap} {N ps : List Str} {qual : Str} {scope : Scope} {f : Addr} {cd : Value} {A : Around} {outer : List Env} {s s1 : Shared} {H : Hp} {E : XK} {us : List Value} {vs : List V}
    (S : FnScope N ps scope) (hd : A.handled = none) (e0 : Env0 P w K mg base A outer s H) (hl : vs.length = ps.length) (r : Vals vs us)
    (x : InCallC s s.heap.objs.size (bindL (envOfC qual scope s.heap.objs.size f cd).kindOf (ps.zip us) fun _ => none) (cellsFrom (s.heap.objs.size + 1) scope.names []) (bindC (envOfC qual scope s.heap.objs.size f cd).kindOf (ps.zip us) fun _ => none) s1) :
    Inv (cxOf CX P w K mg base N qual scope f cd A outer s H E) [] (start N vs) H s1 := by
  have hpl : ps.length ≤ N.length := by have := congrArg List.length S.pre; rw [List.length_take] at this; omega
  obtain ⟨h1, tk, rfl, hk⟩ := x.done
  have noA : ∀ b : Addr, b ∉ (cxOf CX P w K mg base N qual scope f cd A outer s H E).ex := fun b z => absurd (show b ∈ ([] : List Addr) from z) (by simp)
  refine ⟨⟨e0.mod, S.kind, rfl, rfl, Nat.le_refl _, fun y z c h1 h2 => ?_, fun y hy => ?_, fun y c _ h => ?_, fun _ => hd, Around.frames_deeper e0.frames, .inr ⟨rfl, rfl⟩, fun b z => absurd z (noA b), e0.bs, e0.bsz, fun b _ _ => noA b, fun b z => absurd z (noA b), e0.funs, e0.frf⟩,
    rfl, e0.bare, Un.kept hk, ⟨_, x.toInCall.ns, fun i y v h1 h2 h3 => ?_⟩, fun y c h => ⟨_, x.cell y c h⟩, e0.hok.fresh (Nat.le_refl _), fun y c h => ?_, fun p hp => absurd (show p ∈ ([] : List (Addr × Obj)) from hp) (by simp), e0.hok.kept hk, ?_⟩
  · exact name_of_addr x.apart (PySem.mem_of_lookup h1) (PySem.mem_of_lookup h2)
  · have hy : scope.names.lookup y = some .cell ∨ scope.names.lookup y = some .free := hy
    rcases hy with hy | hy
    · exact cell_has hy
    · exact absurd rfl (S.nofree _ (PySem.mem_of_lookup hy))
  · exact Nat.le_of_lt (x.above y c (PySem.mem_of_lookup h))
  · have hi : i < vs.length := by
      unfold start at h2
      by_cases hi : i < vs.length
      · exact hi
      · rw [List.getElem?_append_right (by simpa using hi)] at h2
        rw [List.getElem?_replicate] at h2
        split at h2 <;> cases h2
    have ha : vs[i]? = some v := by
      unfold start at h2
      rw [List.getElem?_append_left (by simpa using hi), List.getElem?_map] at h2
      cases e : vs[i]? with
      | none => rw [e] at h2; cases h2
      | some a => rw [e] at h2; cases h2; rfl
    obtain ⟨u, hu, rv⟩ := r.get ha
    have hp : ps[i]? = some y := by
      rw [← S.pre, List.getElem?_take_of_lt (by omega)]; exact h1
    have ndP : ps.Nodup := by rw [← S.pre]; exact S.nd.sublist (List.take_sublist _ _)
    refine ⟨u, rv, ?_⟩
    rcases S.par y (List.mem_of_getElem? hp) with k | k
    · exact .inl ⟨k, bindL_get ndP hp hu k⟩
    · obtain ⟨c, e⟩ := cell_has (n := s.heap.objs.size + 1) k
      refine .inr ⟨.inl k, c, e, ?_⟩
      have q := x.cell y c e
      rw [bindC_get ndP hp hu (by show scope.names.lookup y ≠ _; rw [k]; decide)] at q
      exact q
  · exact e0.hok.fresh (Nat.le_of_lt (x.above y c (PySem.mem_of_lookup h)))
  · unfold start
    show _ = N.length
    rw [List.length_append, List.length_map, List.length_replicate]
    omega

/-- THE RULE: a def (or a method) of the text, by its body. The body's reading t is chosen for each entry; it is run at the parameters' values -/
theorem fn_of {CX : CXT} {P : Program} {w : World} {K : PySem.W.Frag} {mg : Str → Option Value} {base : Heap} {k : Nat} {f : Addr} {name qual : Str} {params : Arguments} {body : List Stmt} {scope : Scope} {dV kV doc pm cdv ct oc : Value} {an od : Option Addr}
    {osl : Array (Option Value)} {N ps : List Str} {sp : Sp} (lk : K.lookup f = some ⟨oc, od, .func (PySem.W.fnOf name qual params body scope dV kV doc pm an cdv ct), osl⟩) (hcd : PySem.W.codeIn K cdv qual = true) (S : FnScope N ps scope)
    (len : ∀ vs H Q E, sp vs H Q E → vs.length = ps.length)
    (hbody : ∀ (A : Around) (outer : List Env) (s : Shared) (H : Hp) (vs : List V) (Q : VK) (E : XK), Room k (A.deeper (envOfC qual scope s.heap.objs.size f cdv)) → sp vs H Q E →
      ∃ t, PSs (cxOf CX P w K mg base N qual scope f cdv A outer s H E) body t ∧ t { nx := fun _ H' => Q .non H', rt := Q } (start N vs) H) :
    FnOk P w K mg base CX (k + 1) f (PySem.W.fnOf name qual params body scope dV kV doc pm an cdv ct) ps sp := by
  refine ⟨len, fun A outer s H args us vs Q E hr e0 hb r hsp => ?_⟩
  have hl := len _ _ _ _ hsp
  have KX : K.In s.heap := e0.mod.kin.keeps fun b o e => (e0.bs b o e).1
  have lim : s.heap.NoLimit := e0.mod.nolimit.keeps fun b o e => (e0.bs b o e).1
  have hkind : ∀ y ∈ ps.zip us, scope.names.lookup y.1 = some .local ∨ (scope.names.lookup y.1 = some .cell ∧ ((cellsFrom (s.heap.objs.size + 1) scope.names []).lookup y.1).isSome = true) := fun ⟨n, v⟩ hy => by
    rcases S.par n (List.of_mem_zip hy).1 with q | q
    · exact .inl q
    · exact .inr ⟨q, PySem.W.cellsFrom_some _ _ _ (.inl q)⟩
  refine codeAny_call_function hr.depth (KX _ _ lk) rfl S.co S.gen rfl (PySem.W.codeRec_of KX hcd) (hb _ _ _ _ ?_)
  refine wpAny_newFunctionEnv_cells S.kind hkind fun env he s1 x => ?_
  subst he
  refine ⟨lim.keeps x.toInCall.keep, codeAny_func ?_⟩
  obtain ⟨t, ht, hq⟩ := hbody A outer s H vs Q E (hr.deeper _) hsp
  have I : Inv (cxOf CX P w K mg base N qual scope f cdv A outer s H E) [] (start N vs) H s1 := inv_start S hr.hd e0 hl r x
  refine wpAny_mono (ht [] s1 (start N vs) H _ I hq) (fun fl s' hs => ?_) fun e s' hs => hs
  have fin : ∀ {σ' : St} {H' : Hp} {v : V} {u : Value}, Inv (cxOf CX P w K mg base N qual scope f cdv A outer s H E) [] σ' H' s' → RelV v u → Q v H' → CE outer P w H s Q u s' :=
    fun {σ' H' v u} J rv q => ⟨v, H', J.os, J.bare, J.base, J.hok, rv, q⟩
  cases fl with
  | ret u =>
    obtain ⟨v, σ', H', J, rv, q⟩ := hs
    exact fin J rv q
  | next =>
    obtain ⟨σ', H', J, q⟩ := hs
    exact fin (v := V.non) (u := Value.none) J rfl q
  | brk =>
    obtain ⟨_, _, _, q⟩ := hs
    exact False.elim q
  | cont =>
    obtain ⟨_, _, _, q⟩ := hs
    exact False.elim q
end L2

namespace L2
open PySem PySem.Spec PyProof.Rows
section
variable {X : Cx} {x : Str} {p pos : Pos} {e : Expr} {es : List Expr} {t : TA} {id T : String} {r : List V → Hp → VK → Prop}

noncomputable def tCB (r : List V → Hp → VK → Prop) (t : TA) : TE := fun σ H Q => t σ H fun vs H1 => r vs H1 Q
/-- f(e, ..), f a built-in function -/
theorem pe_callB (hc : CallR X (.builtin id) r) (hg : Gl X x) (hm : X.mg x = none) (hv : bootBuiltins x = some (.builtin id)) (ha : PA X (e :: es) t) (hn : x ≠ "__name__" := by decide) (hdb : (x == ("__debug__" : Str)) = false := by decide)
    (he : starEach (e :: es) X.env = (false, eval e X.env) :: starEach es X.env := by rfl) (hpl : (backTo pos (starEach es X.env)).any (·.1) = false := by rfl) : PE X (.Call (.Name x p) (e :: es) [] pos) (tCB r t) := by
  intro pins s σ H Q I h
  refine wpAny_Call_Name_kw (ld_blt I hg hm hv ?_ hn hdb)
  exact PyProof.Rows.callWith_builtin1 (thn (ha pos pins s σ H _ I h) fun us s1 ⟨vs, H1, I1, r1, q1⟩ => hc pins s1 σ H1 vs us Q I1 r1 q1) he hpl
/-- T(e, ..), T a built-in type -/
theorem pe_callTy (hc : CallR X (.type T) r) (hg : Gl X x) (hm : X.mg x = none) (hv : bootBuiltins x = some (.type T)) (ha : PA X (e :: es) t) (hn : x ≠ "__name__" := by decide) (hdb : (x == ("__debug__" : Str)) = false := by decide)
    (he : starEach (e :: es) X.env = (false, eval e X.env) :: starEach es X.env := by rfl) (hpl : (backTo pos (starEach es X.env)).any (·.1) = false := by rfl) : PE X (.Call (.Name x p) (e :: es) [] pos) (tCB r t) := by
  intro pins s σ H Q I h
  refine wpAny_Call_Name_kw (ld_blt I hg hm hv ?_ hn hdb)
  exact PyProof.Rows.callWith_type1 (thn (ha pos pins s σ H _ I h) fun us s1 ⟨vs, H1, I1, r1, q1⟩ => hc pins s1 σ H1 vs us Q I1 r1 q1) he hpl
end
end L2

namespace HT
open PySem PyProof.Rows

section
open PySem.SeqAt
open PySem.AutoSeq1 (wpAny_loadPart')
open PySem.MeetsSeq PySem.MeetsSeq2 PySem.MeetsSeq3

end

section
variable {prog : Program} {w : World} {A : Around} {E : Value → Shared → Prop} {s : Shared}

/-! ### t[a:b], not the whole -/
/-- a slice's bound as a place among n (d where it is left out) -/
noncomputable def sIx (n d : Nat) : Option Int → Nat
  | none => d
  | some v => if v < 0 then (v + (n : Int)).toNat else min v.toNat n
theorem sIx_none (n d : Nat) : sIx n d none = d := rfl
theorem sIx_nat (n d k : Nat) : sIx n d (some (k : Int)) = min k n := by
  show (if (k : Int) < 0 then ((k : Int) + (n : Int)).toNat else min (k : Int).toNat n) = min k n
  rw [if_neg (by omega), Int.toNat_natCast]
end
end HT

namespace L2
open PySem PySem.Spec PyProof.Rows

/-! ### the parts of a slice -/
noncomputable abbrev TO := St → Hp → (Option Int → Hp → Prop) → Prop
/-- a slice's part (left out, or an int) -/
noncomputable def PO (X : Cx) (e : Option Expr) (t : TO) : Prop :=
  ∀ (pins : List (Addr × Obj)) (s : Shared) (σ : St) (H : Hp) (Q : Option Int → Hp → Prop), Inv X pins σ H s → t σ H Q →
    wpAny (model X.prog X.w) X.A (evalPart e X.env) (fun u s' => ∃ o H', Inv X pins σ H' s' ∧ IsPart u o ∧ Q o H') X.xe s
noncomputable def tNoPart : TO := fun _ H Q => Q none H
noncomputable def tPart (t : TE) : TO := fun σ H Q => t σ H fun x H1 => ∃ i, x = .int i ∧ Q (some i) H1

theorem intsAre_of {ns : List Int} : ∀ {us : List Value}, Vals (ns.map V.int) us → IntsAre us ns := by
  induction ns with
  | nil => intro us r; rw [List.map_nil] at r; cases r; exact .nil
  | cons n ns ih =>
    intro us r
    rw [List.map_cons] at r
    cases r with
    | cons r1 r2 =>
      obtain ⟨t, e⟩ := r1
      subst e
      exact .cons n t (ih r2)

section
variable {X : Cx} {e : Expr} {te : TE} {lo hi : Option Expr} {tl th : TO} {pos p2 : Pos}

theorem po_none : PO X none tNoPart := by
  intro pins s σ H Q I h
  rw [evalPart_none]
  exact wpAny_pure ⟨none, H, I, .none, h⟩
theorem po_some (h : PE X e te) : PO X (some e) (tPart te) := by
  intro pins s σ H Q I hw
  rw [evalPart_some]
  refine thn (h pins s σ H _ I hw) fun u s1 ⟨x, H1, I1, r1, q1⟩ => ?_
  obtain ⟨i, rfl, q⟩ := q1
  obtain ⟨t, rfl⟩ := r1
  exact ⟨some i, H1, I1, .int i t, q⟩

/-- what a slice of a value is, by values: the slice object stands at sl -/
noncomputable def SlR (X : Cx) (r : V → Option Int → Option Int → Hp → VK → Prop) : Prop :=
  ∀ (pins : List (Addr × Obj)) (s : Shared) (σ : St) (H : Hp) (x : V) (v vl vu : Value) (lo hi : Option Int) (sl : Addr) (Q : VK), Inv X pins σ H s → RelV x v → s.heap.IsSliceOf sl vl vu .none → IsPart vl lo → IsPart vu hi → r x lo hi H Q →
    ∃ T id, typeLookup (.type T) "__getitem__" = pure (some (.builtin id)) ∧ s.TypeIs v T ∧ wpAny (model X.prog X.w) X.A (getItem v (.ref sl)) (EP X pins σ Q) X.xe s
noncomputable def tSl (r : V → Option Int → Option Int → Hp → VK → Prop) (te : TE) (tl th : TO) : TE := fun σ H Q => te σ H fun x H1 => tl σ H1 fun l H2 => th σ H2 fun u H3 => r x l u H3 Q
/-- a[lo:hi], any a -/
theorem pe_slice {r : V → Option Int → Option Int → Hp → VK → Prop} (hr : SlR X r) (he : PE X e te) (hl : PO X lo tl) (hu : PO X hi th) : PE X (.Subscript e (.Slice lo hi none p2) pos) (tSl r te tl th) := by
  intro pins s σ H Q I h
  refine Subscript_ (thn (he pins s σ H _ I h) fun v s1 ⟨x, H1, I1, r1, q1⟩ => ?_)
  refine wpAny_Slice (thn (hl pins s1 σ H1 _ I1 q1) fun vl s2 ⟨l, H2, I2, pl, q2⟩ => thn (hu pins s2 σ H2 _ I2 q2) fun vu s3 ⟨u, H3, I3, pu, q3⟩ => ?_)
  rw [evalPart_none]
  refine wpAny_pure ?_
  have I4 : Inv X pins σ H3 { s3 with heap := s3.heap.push { cls := .type "slice", data := .fields #[vl, vu, .none] } } := I3.kept (t' := s3.toks) fun b ob q => Heap.get?_push_of_some _ q
  obtain ⟨T, id, hT, ht, hg⟩ := hr pins { s3 with heap := s3.heap.push { cls := .type "slice", data := .fields #[vl, vu, .none] } } σ H3 x v vl vu l u s3.heap.objs.size Q I4 r1 (Heap.IsSliceOf.new ..) pl pu q3
  show wpAny (model X.prog X.w) X.A (subscriptTail e (.Slice lo hi none p2) v (.ref s3.heap.objs.size)) (EP X pins σ Q) X.xe { s3 with heap := s3.heap.push { cls := .type "slice", data := .fields #[vl, vu, .none] } }
  exact tail_any (ops := [.ref s3.heap.objs.size, v]) ht hT hg (by with_unfolding_all rfl)

/-- the items of xs[lo:hi] -/
noncomputable def cutV (xs : List V) (lo hi : Option Int) : List V := (xs.drop (HT.sIx xs.length 0 lo)).take (HT.sIx xs.length xs.length hi - HT.sIx xs.length 0 lo)
theorem cutV_length (xs : List V) (lo hi : Option Int) : (cutV xs lo hi).length ≤ xs.length := by
  unfold cutV
  rw [List.length_take, List.length_drop]
  omega
/-! ### t < u, t + u -/
end
end L2

namespace L2
open PySem PySem.Spec PyProof.Rows

/-! ### places -/
/-- the place that an index of any sign means -/
noncomputable def ixN (n : Nat) (i : Int) : Option Nat := if 0 ≤ i then (if i < n then some i.toNat else none) else if -(n : Int) ≤ i then some (i + n).toNat else none
noncomputable def atI {α : Type} (xs : List α) (i : Int) : Option α := (ixN xs.length i).bind fun j => xs[j]?
theorem ixN_seq {n : Nat} {i : Int} {j : Nat} (h : ixN n i = some j) : seqIndex? i n = some j ∧ j < n ∧ -(n : Int) ≤ i ∧ i < n := by
  unfold ixN at h
  by_cases h0 : 0 ≤ i
  · rw [if_pos h0] at h
    by_cases h1 : i < n
    · rw [if_pos h1] at h
      have e : i.toNat = j := Option.some.inj h
      exact ⟨by rw [seqIndex_of h0 h1, e], by omega, by omega, h1⟩
    · rw [if_neg h1] at h; cases h
  · rw [if_neg h0] at h
    by_cases h1 : -(n : Int) ≤ i
    · rw [if_pos h1] at h
      have e : (i + n).toNat = j := Option.some.inj h
      exact ⟨by rw [seqIndex_neg (by omega) h1, e], by omega, h1, by omega⟩
    · rw [if_neg h1] at h; cases h
theorem atI_get {α : Type} {xs : List α} {i : Int} {v : α} (h : atI xs i = some v) : ∃ j, seqIndex? i xs.length = some j ∧ xs[j]? = some v ∧ j < xs.length ∧ -(xs.length : Int) ≤ i ∧ i < xs.length := by
  unfold atI at h
  cases e : ixN xs.length i with
  | none => rw [e] at h; cases h
  | some j =>
    rw [e] at h
    obtain ⟨h1, h2, h3, h4⟩ := ixN_seq e
    exact ⟨j, h1, h, h2, h3, h4⟩
theorem atI_nat {α : Type} {xs : List α} {j : Nat} {v : α} (h : xs[j]? = some v) : atI xs (j : Int) = some v := by
  have hj : j < xs.length := (List.getElem?_eq_some_iff.mp h).1
  have e : ixN xs.length (j : Int) = some j := by
    unfold ixN
    rw [if_pos (by omega), if_pos (by omega)]; simp
  unfold atI; rw [e]; exact h
theorem atI_last {α : Type} (xs : List α) (v : α) : atI (xs ++ [v]) (-1) = some v := by
  have hl : (xs ++ [v]).length = xs.length + 1 := by simp
  have e : ixN (xs ++ [v]).length (-1) = some xs.length := by
    unfold ixN
    rw [hl, if_neg (by decide), if_pos (by omega)]
    congr 1
    omega
  unfold atI
  rw [e]
  show (xs ++ [v])[xs.length]? = some v
  simp

/-! ### what may be subscripted -/
/-- what stands as an index of a plain subscript -/
noncomputable def PlainIx (b : Expr) : Prop := ∀ o i, subscripted b false o i = operate [o, i] (getItem o i)
/-- a subscript by values -/
noncomputable def IxR (X : Cx) (r : R2) : Prop :=
  ∀ (value slice : Expr) (pins : List (Addr × Obj)) (s : Shared) (σ : St) (H : Hp) (x y : V) (v u : Value) (Q : VK), Inv X pins σ H s → RelV x v → RelV y u → r x y H Q →
    subscripted slice false v u = operate [v, u] (getItem v u) → wpAny (model X.prog X.w) X.A (subscriptTail value slice v u) (EP X pins σ Q) X.xe s
/-- a call of a builtin's method by values: the receiver, the arguments -/
noncomputable def MtR (X : Cx) (id : String) (r : V → List V → Hp → VK → Prop) : Prop :=
  ∀ (pins : List (Addr × Obj)) (s : Shared) (σ : St) (H : Hp) (x : V) (xs : List V) (v : Value) (us : List Value) (Q : VK), Inv X pins σ H s → RelV x v → Vals xs us → r x xs H Q →
    wpAny (model X.prog X.w) X.A (call (.builtin id) (v :: us)) (EP X pins σ Q) X.xe s
section
variable {X : Cx} {a b : Expr} {ta tb : TE} {pos : Pos}
/-- a[b] -/
theorem pe_ix {r : R2} (hr : IxR X r) (ha : PE X a ta) (hb : PE X b tb) (hs : PlainIx b) : PE X (.Subscript a b pos) (tOp r ta tb) := by
  intro pins s σ H Q I h
  exact Subscript_ (binT ha hb I h fun v u s2 x y H2 I2 rx ry q => hr a b pins s2 σ H2 x y v u Q I2 rx ry q (hs _ _))

noncomputable def rIxL (K : PySem.W.Frag) : R2 := fun x y H Q => ∃ p xs i v, x = .ref p ∧ y = .int i ∧ SqL K H p xs ∧ atI xs i = some v ∧ Q v H
theorem ix_list : IxR X (rIxL X.K) := by
  intro value slice pins s σ H x y v u Q I rx ry h hs
  obtain ⟨p, xs, i, z, rfl, rfl, hq, he, q⟩ := h
  cases rx
  obtain ⟨t, rfl⟩ := ry
  obtain ⟨its, r, pl, hz⟩ := I.list hq
  obtain ⟨j, h1, h2, h3, h4, h5⟩ := atI_get he
  obtain ⟨w, ew, rw'⟩ := r.get h2
  have hl := r.length
  have hn := line63
  have fin : EP X pins σ Q w s := ⟨z, H, I, rw', q⟩
  by_cases h0 : 0 ≤ i
  · have hj : i.toNat = j := by
      rw [seqIndex_of h0 h5] at h1
      exact Option.some.inj h1
    exact item_listR pl.isList h0 (by omega) (by rw [hj]; simpa using ew) fin hs
  · have hj : (i + (its.toArray.size : Int)).toNat = j := by
      rw [seqIndex_neg (by omega) h4] at h1
      rw [List.size_toArray, ← hl]
      exact Option.some.inj h1
    exact subscriptTail_builtinR (x := w) pl.isList.typeIs slot_list_getitem.lookup
      (wpAny_getItem_list_neg (Q := fun r s' => r = w ∧ EP X pins σ Q r s') pl.isList (by omega) (by rw [List.size_toArray] <;> omega) (by omega) (by rw [hj]; simpa using ew) ⟨rfl, fin⟩) hs
/-! ### xs[i] = v, any sign -/
/-- the list's object behind a store -/
theorem mapSeq_set (its : List Value) (n j : Nat) (u : Value) : Obj.mapSeq (·.setIfInBounds j u) { cls := .type "list", data := .seq its.toArray n } = { cls := .type "list", data := .seq (its.set j u).toArray n } := by
  simp [Obj.mapSeq]
theorem Inv.lst {pins : List (Addr × Obj)} {σ : St} {H : Hp} {s : Shared} {p : Addr} {xs : List V} (I : Inv X pins σ H s) (h : H p = some (.lst xs)) :
    ∃ (its : List Value) (n : Nat), Vals xs its ∧ s.heap.get? p = some { cls := .type "list", data := .seq its.toArray n } ∧ xs.length ≤ sizeLine := by
  obtain ⟨z, its, n, r, e⟩ := I.hok p _ h
  exact ⟨its, n, r, e, z⟩
/-- the list at p is written by an update of its object -/
theorem Inv.lstUpd {pins : List (Addr × Obj)} {σ : St} {H : Hp} {s : Shared} {p : Addr} {xs ys : List V} {its its' : List Value} {n n' : Nat} {f : Obj → Obj} (I : Inv X pins σ H s) (h : H p = some (.lst xs))
    (ho : s.heap.get? p = some { cls := .type "list", data := .seq its.toArray n }) (hf : f { cls := .type "list", data := .seq its.toArray n } = { cls := .type "list", data := .seq its'.toArray n' }) (r : Vals ys its') (hz : ys.length ≤ sizeLine) (t : Nat) :
    Inv X pins σ (upd H p (.lst ys)) { s with heap := s.heap.update p f, toks := t } := by
  have e : (s.heap.update p f).get? p = some { cls := .type "list", data := .seq its'.toArray n' } := by
    rw [Heap.get?_update_self f ho (by rw [hf] <;> rfl), hf]
  refine I.write (x := p) (e := p) (by rw [h]; trivial) (.inl rfl) (fun b u hb q => (Heap.get?_update_other _ _ (Ne.symm hb)).trans q) ⟨_, e⟩ ?_
  exact ⟨hz, its', n', r, e⟩
noncomputable def rSetL : V → V → V → Hp → (Hp → Prop) → Prop := fun o i v H Q => ∃ p xs k j, o = .ref p ∧ i = .int k ∧ H p = some (.lst xs) ∧ ixN xs.length k = some j ∧ Q (upd H p (.lst (xs.set j v)))
theorem set_list : PSet X rSetL := by
  intro pins s σ H o i v ov iv u Q I ro ri rv h
  obtain ⟨p, xs, k, j, rfl, rfl, hp, hj, q⟩ := h
  cases ro
  obtain ⟨t, rfl⟩ := ri
  obtain ⟨its, n, r, ho, hz⟩ := I.lst hp
  obtain ⟨h1, h2, h3, h4⟩ := ixN_seq hj
  have hl := r.length
  have hn := line63
  have I' : Inv X pins σ (upd H p (.lst (xs.set j v))) { s with heap := s.heap.update p (Obj.mapSeq (·.setIfInBounds j u)) } :=
    I.lstUpd hp ho (mapSeq_set its n j u) (r.set rv j) (by rw [List.length_set]; exact hz) s.toks
  by_cases h0 : 0 ≤ k
  · have hk : k.toNat = j := by
      rw [seqIndex_of h0 h4] at h1
      exact Option.some.inj h1
    exact PySem.W.ki_setAt ho h0 (by omega) (by rw [List.size_toArray, ← hl]; exact h4) (by rw [hk]; exact ⟨_, I', q⟩)
  · have hk : (k + (its.toArray.size : Int)).toNat = j := by
      rw [seqIndex_neg (by omega) h3] at h1
      rw [List.size_toArray, ← hl]
      exact Option.some.inj h1
    exact PySem.W.ki_setBack ho (by omega) (by rw [List.size_toArray, ← hl]; exact h3) (by omega) (by rw [hk]; exact ⟨_, I', q⟩)

/-! ### slices -/
theorem slice_bounds (lo hi : Option Int) (n : Nat) : (sliceBounds lo hi none n).1 = ((HT.sIx n 0 lo : Nat) : Int) ∧ (sliceBounds lo hi none n).2.1 = ((HT.sIx n n hi : Nat) : Int) ∧ (sliceBounds lo hi none n).2.2 = 1 := by
  refine ⟨?_, ?_, rfl⟩
  · cases lo with
    | none => simp [sliceBounds, HT.sIx]
    | some i =>
      simp only [sliceBounds, HT.sIx, Option.getD_none, show (1 : Int) > 0 by decide, if_true]
      by_cases h : i < 0
      · simp only [h, if_true] <;> omega
      · simp only [h, if_false] <;> omega
  · cases hi with
    | none => simp [sliceBounds, HT.sIx]
    | some i =>
      simp only [sliceBounds, HT.sIx, Option.getD_none, show (1 : Int) > 0 by decide, if_true]
      by_cases h : i < 0
      · simp only [h, if_true] <;> omega
      · simp only [h, if_false] <;> omega
theorem slicePick_cut (its : List Value) (lo hi : Option Int) : slicePick its.toArray lo hi none = ((its.drop (HT.sIx its.length 0 lo)).take (HT.sIx its.length its.length hi - HT.sIx its.length 0 lo)).toArray := by
  obtain ⟨h1, h2, h3⟩ := slice_bounds lo hi its.toArray.size
  unfold slicePick
  rw [h1, h2, h3]
  simp only [sliceRange_one, pick_run, List.size_toArray] <;> rfl
/-- xs[lo:hi] of a list: a new list -/
noncomputable def rSlL (K : PySem.W.Frag) : V → Option Int → Option Int → Hp → VK → Prop := fun x lo hi H Q => ∃ a xs, x = .ref a ∧ SqL K H a xs ∧ ∀ p, H p = none → Q (.ref p) (upd H p (.lst (cutV xs lo hi)))
theorem sl_list : SlR X (rSlL X.K) := by
  intro pins s σ H x v vl vu lo hi sl Q I rx hs pl pu h
  obtain ⟨a, xs, rfl, hx, q⟩ := h
  cases rx
  obtain ⟨its, r, ht, hz⟩ := I.list hx
  have hlen := r.length
  refine ⟨"list", _, slot_list_getitem.lookup, ht.isList.typeIs, ?_⟩
  refine wpAny_getItem_list_slice ht.isList hs pl pu .none (by simp) ?_ (by rw [List.size_toArray] <;> omega)
  rw [slicePick_cut, ← hlen]
  refine ⟨.ref s.heap.objs.size, _, I.laid (t' := s.toks) (o := .lst (cutV xs lo hi)) (fun b ob q => Heap.get?_push_of_some _ q) (Nat.le_refl _) ?_, rfl, q _ (I.hok.fresh (Nat.le_refl _))⟩
  exact ⟨Nat.le_trans (cutV_length xs lo hi) hz, _, 0, (r.drop (HT.sIx xs.length 0 lo)).take (HT.sIx xs.length xs.length hi - HT.sIx xs.length 0 lo), Heap.get?_push_size _ rfl⟩

/-! ### in, not in: flat items -/
noncomputable def flatV : V → Bool
  | .non => true
  | .bl _ => true
  | .int _ => true
  | .str _ => true
  | _ => false
/-- == of flat values -/
noncomputable def eqV : V → V → Bool
  | .non, .non => true
  | .bl a, .bl b => a == b
  | .bl a, .int b => (if a then 1 else 0) == b
  | .int a, .bl b => a == (if b then 1 else 0)
  | .int a, .int b => a == b
  | .str a, .str b => a == b
  | _, _ => false
theorem eqAt_V {A : Around} {s : Shared} {y x : V} {u v : Value} (ry : RelV y u) (rx : RelV x v) (fy : flatV y = true) (fx : flatV x = true) : SeqAt.EqAt A s u v (eqV y x) := by
  cases y with
  | non =>
    cases ry
    cases x with
    | non => cases rx; exact SeqAt.EqAt.same _
    | bl b => cases rx; exact SeqAt.EqAt.none_bool b
    | int b => obtain ⟨t, rfl⟩ := rx; exact SeqAt.EqAt.none_int b t
    | str b => obtain ⟨t, rfl⟩ := rx; exact SeqAt.EqAt.none_str b t
    | _ => exact absurd (show false = true from fx) Bool.false_ne_true
  | bl a =>
    cases ry
    cases x with
    | non => cases rx; exact SeqAt.EqAt.bool_none a
    | bl b => cases rx; exact SeqAt.EqAt.bool_bool a b
    | int b => obtain ⟨t, rfl⟩ := rx; exact SeqAt.EqAt.bool_int a b t
    | str b => obtain ⟨t, rfl⟩ := rx; exact SeqAt.EqAt.bool_str a b t
    | _ => exact absurd (show false = true from fx) Bool.false_ne_true
  | int a =>
    obtain ⟨t', rfl⟩ := ry
    cases x with
    | non => cases rx; exact SeqAt.EqAt.int_none a t'
    | bl b => cases rx; exact SeqAt.EqAt.int_bool a t' b
    | int b => obtain ⟨t, rfl⟩ := rx; exact SeqAt.EqAt.int_int a t' b t
    | str b => obtain ⟨t, rfl⟩ := rx; exact SeqAt.EqAt.int_str a t' b t
    | _ => exact absurd (show false = true from fx) Bool.false_ne_true
  | str a =>
    obtain ⟨t', rfl⟩ := ry
    cases x with
    | non => cases rx; exact SeqAt.EqAt.str_none a t'
    | bl b => cases rx; exact SeqAt.EqAt.str_bool a t' b
    | int b => obtain ⟨t, rfl⟩ := rx; exact SeqAt.EqAt.str_int a t' b t
    | str b => obtain ⟨t, rfl⟩ := rx; exact SeqAt.EqAt.str_str a t' b t
    | _ => exact absurd (show false = true from fx) Bool.false_ne_true
  | _ => exact absurd (show false = true from fy) Bool.false_ne_true
/-! ### len, list(x), tuple(x) of any list or tuple that is read -/
theorem call_len_seq : CallR X (.builtin "len") (fun xs H Q => ∃ p ys, xs = [.ref p] ∧ (SqL X.K H p ys ∨ SqT X.K H p ys) ∧ Q (.int ys.length) H) := by
  intro pins s σ H xs us Q I r h
  obtain ⟨p, ys, rfl, hq, q⟩ := h
  obtain ⟨u, rfl, rx⟩ := vals1 r
  cases rx
  have hn := line63
  rcases hq with hq | hq
  · obtain ⟨its, r', pl, hz⟩ := I.list hq
    have hlen := r'.length
    exact Calls.call_len_list pl.isList (by simp only [List.size_toArray] <;> omega) ⟨.int ys.length, H, I.tok _, ⟨s.toks + 1, by rw [List.size_toArray, hlen]⟩, q⟩
  · obtain ⟨its, r', pl, hz⟩ := I.tuple hq
    have hlen := r'.length
    exact len_tuple pl (by simp only [List.size_toArray] <;> omega) ⟨.int ys.length, H, I.tok _, ⟨s.toks + 1, by rw [List.size_toArray, hlen]⟩, q⟩
theorem call_list_of : CallR X (.type "list") (fun xs H Q => ∃ p ys, xs = [.ref p] ∧ (SqL X.K H p ys ∨ SqT X.K H p ys) ∧ ∀ l, H l = none → Q (.ref l) (upd H l (.lst ys))) := by
  intro pins s σ H xs us Q I r h
  obtain ⟨p, ys, rfl, hq, q⟩ := h
  obtain ⟨u, rfl, rx⟩ := vals1 r
  cases rx
  have fin : ∀ (its : List Value), Vals ys its → ys.length ≤ sizeLine → ∀ (h' : Heap) (c' : Nat), (∀ b o', s.heap.get? b = some o' → h'.get? b = some o') →
      h'.get? s.heap.objs.size = some { cls := .type "list", dict := none, data := .seq its.toArray c', slots := #[] } → EP X pins σ Q (.ref s.heap.objs.size) { s with heap := h' } := fun its r' hz h' c' kp e =>
    ⟨.ref s.heap.objs.size, _, I.laid (t' := s.toks) kp (Nat.le_refl _) (show ObjOk X.prog X.w _ h' _ (.lst ys) from ⟨hz, its, c', r', e⟩), rfl, q _ (I.hok.fresh (Nat.le_refl _))⟩
  rcases hq with hq | hq
  · obtain ⟨its, r', pl, hz⟩ := I.list hq
    have hlen := r'.length
    obtain ⟨o, ho, hc, n, hd⟩ := pl.isList
    exact call_list_seq p (.inl rfl) ho hc hd (fun h' c' kp e => fin its r' hz h' c' kp e) (by simp only [List.size_toArray] <;> omega)
  · obtain ⟨its, r', pl, hz⟩ := I.tuple hq
    have hlen := r'.length
    obtain ⟨o, ho, hc, n, hd⟩ := pl
    exact call_list_seq p (.inr rfl) ho hc hd (fun h' c' kp e => fin its r' hz h' c' kp e) (by simp only [List.size_toArray] <;> omega)
/-! ### the call of a builtin's method: o.m(..) -/
/-- the value is of that builtin type -/
noncomputable def tyV (K : PySem.W.Frag) (T : String) (x : V) (H : Hp) : Prop := match x with
  | .str _ => T = "str"
  | .int _ => T = "int"
  | .ref p => (T = "list" ∧ ∃ xs, SqL K H p xs) ∨ (T = "tuple" ∧ ∃ o, K.lookup p = some o ∧ o.cls = .type "tuple" ∧ o.dict = none) ∨
      (T = "dict" ∧ ((∃ kvs, H p = some (.dK kvs)) ∨ ∃ kvs, H p = some (.dT kvs))) ∨ (T = "set" ∧ ∃ S n, H p = some (.set S n))
  | _ => False
theorem tyV_is {pins : List (Addr × Obj)} {σ : St} {H : Hp} {s : Shared} {T : String} {x : V} {v : Value} (I : Inv X pins σ H s) (r : RelV x v) (ty : tyV X.K T x H) :
    s.TypeIs v T ∧ ∀ a, v = .ref a → ∃ ob, s.heap.get? a = some ob ∧ ob.dict = none := by
  cases x with
  | str z =>
    obtain ⟨t, rfl⟩ := r
    cases (show T = "str" from ty)
    exact ⟨typeIs_str s z t, fun _ e => nomatch e⟩
  | int i =>
    obtain ⟨t, rfl⟩ := r
    cases (show T = "int" from ty)
    exact ⟨typeIs_int s i t, fun _ e => nomatch e⟩
  | ref p =>
    cases r
    rcases ty with ⟨rfl, xs, hq⟩ | ⟨rfl, o, hk, hc, hd⟩ | ⟨rfl, hk⟩ | ⟨rfl, S, n, hk⟩
    · obtain ⟨its, _, pl, _⟩ := I.list hq
      refine ⟨pl.isList.typeIs, fun a e => ?_⟩
      cases e
      obtain ⟨o, n, e, c, hd, _⟩ := pl
      exact ⟨o, e, hd⟩
    · refine ⟨⟨o, I.kIn p o hk, hc⟩, fun a e => ?_⟩
      cases e
      exact ⟨o, I.kIn _ o hk, hd⟩
    · have z : ∃ o, s.heap.get? p = some o ∧ o.ExactDict := by
        rcases hk with ⟨kvs, hk⟩ | ⟨kvs, hk⟩
        · obtain ⟨_, _, _, _, o, _, _, e, ex, _⟩ := I.hok p _ hk
          exact ⟨o, e, ex⟩
        · obtain ⟨_, _, _, _, o, _, _, e, ex, _⟩ := I.hok p _ hk
          exact ⟨o, e, ex⟩
      obtain ⟨o, e, ex⟩ := z
      refine ⟨⟨o, e, ex.1⟩, fun a e2 => ?_⟩
      cases e2
      exact ⟨o, e, ex.2.1⟩
    · obtain ⟨o, _, _, _, e, ex, _⟩ := I.hok p _ hk
      refine ⟨⟨o, e, ex.1⟩, fun a e2 => ?_⟩
      cases e2
      exact ⟨o, e, ex.2.1⟩
  | _ => exact False.elim ty
noncomputable def tBM (K : PySem.W.Frag) (T : String) (r : V → List V → Hp → VK → Prop) (to : TE) (t : TA) : TE := fun σ H Q => to σ H fun x H1 => tyV K T x H1 ∧ t σ H1 fun xs H2 => r x xs H2 Q
variable {o e : Expr} {es : List Expr} {to : TE} {t : TA} {name : Str} {apos cpos : Pos} {T id : String} {r : V → List V → Hp → VK → Prop}
theorem pe_bm (pa : PlainAttrs T) (slot : Slot T name id) (hty : typeOf (.builtin id) = pure (.type "method_descriptor")) (hm : MtR X id r) (ho : PE X o to) (ha : PA X (e :: es) t)
    (hbase : attributeBase o name X.env (eval o X.env) = eval o X.env := by rfl)
    (hfew : ((backTo cpos (starEach (e :: es) X.env)).all (fun x => !x.1) && (backToKw cpos (keywordEach [] X.env)).all (fun x => x.1.isSome)
      && decide ((e :: es).length + ([] : List Keyword).length + (if ([] : List Keyword).isEmpty then 0 else 1) < 30)) = true := by rfl)
    (hline : (apos.endLine == cpos.line) = true := by rfl) (hs : starEach (e :: es) X.env = (false, eval e X.env) :: starEach es X.env := by rfl) (hplain : (backTo cpos (starEach es X.env)).any (·.1) = false := by rfl) :
    PE X (.Call (.Attribute o name apos) (e :: es) [] cpos) (tBM X.K T r to t) := by
  intro pins s σ H Q I h
  refine wpAny_Call_method_late hbase hfew hline rfl (thn (ho pins s σ H _ I h) fun v s1 ⟨x, H1, I1, r1, ty, q1⟩ => ?_)
  obtain ⟨h1, h2⟩ := tyV_is I1 r1 ty
  refine ⟨T, id, pa, slot, hty, h1, h2, ?_⟩
  have hA := ha cpos pins s1 σ H1 _ I1 q1
  rw [hs] at hA ⊢
  refine Calls.callWith_builtin (by show (false || (backTo cpos (starEach es X.env)).any (·.1)) = false; rw [hplain] <;> rfl) (Calls.evalArgs_plain ?_)
  exact thn hA fun us s2 ⟨vs, H2, I2, r2, q2⟩ => hm pins s2 σ H2 x vs v us Q I2 r1 r2 q2
/- xs.append(e), list.index on a module's tuple .. are MtR facts of 06m -/
end
end L2

namespace L2
open PySem PySem.Spec PyProof.Rows

noncomputable def MtM (X : Cx) (id : String) (r : V → List V → Hp → VK → Prop) : Prop :=
  ∀ (pins : List (Addr × Obj)) (s : Shared) (σ : St) (H : Hp) (x : V) (xs : List V) (v : Value) (us : List Value) (Q : VK), Inv X pins σ H s → RelV x v → Vals xs us → r x xs H Q →
    wpAny (model X.prog X.w) X.A (call (.builtin id) (v :: us)) (EP X pins σ Q) X.xe s

/-! ### lists of values -/
theorem Vals.one : ∀ {x : V} {us : List Value}, Vals [x] us → ∃ u, us = [u] ∧ RelV x u
  | _, _, .cons r .nil => ⟨_, rfl, r⟩
theorem Vals.eraseIdx : ∀ {xs : List V} {us : List Value} (i : Nat), Vals xs us → Vals (xs.eraseIdx i) (us.eraseIdx i)
  | _, _, _, .nil => .nil
  | _, _, 0, .cons _ t => t
  | _, _, i + 1, .cons r t => .cons r (Vals.eraseIdx i t)
theorem Vals.rep {xs : List V} {us : List Value} (h : Vals xs us) : ∀ k : Nat, Vals (List.replicate k xs).flatten (List.replicate k us).flatten
  | 0 => .nil
  | k + 1 => by
    rw [List.replicate_succ, List.replicate_succ, List.flatten_cons, List.flatten_cons]
    exact Vals.append h (Vals.rep h k)
theorem foldl_rep (its : List Value) : ∀ (k : Nat) (acc : List Value),
    List.foldl (fun x1 x2 => x1 ++ x2) acc.toArray (List.replicate k its.toArray) = (acc ++ (List.replicate k its).flatten).toArray
  | 0, acc => by simp
  | k + 1, acc => by
    have e : acc.toArray ++ its.toArray = (acc ++ its).toArray := by simp
    have e2 : (acc ++ its) ++ (List.replicate k its).flatten = acc ++ (List.replicate (k + 1) its).flatten := by
      rw [List.replicate_succ, List.flatten_cons, List.append_assoc]
    rw [← e2, ← foldl_rep its k (acc ++ its), ← e, List.replicate_succ, List.foldl_cons]

section
variable {X : Cx} {pins : List (Addr × Obj)} {σ : St} {H : Hp} {s : Shared} {l b : Addr} {xs ys zs : List V}

/-! ### the two steps: a tracked list is rewritten, a new list is laid -/
theorem Inv.lset {its its' : List Value} {n : Nat} {f : Array Value → Array Value} {t' : Nat} (I : Inv X pins σ H s) (hH : H l = some (.lst xs))
    (e : s.heap.get? l = some { cls := .type "list", data := .seq its.toArray n }) (hf : f its.toArray = its'.toArray) (hv : Vals ys its') (hz : ys.length ≤ sizeLine) :
    Inv X pins σ (upd H l (.lst ys)) { s with heap := s.heap.update l (Obj.mapSeq f), toks := t' } := by
  have q := PySem.IsL.update e f
  rw [hf] at q
  refine I.write (x := l) (e := l) (by rw [hH]; exact trivial) (.inl rfl) (fun b' u hb hu => (Heap.get?_update_other s.heap (Obj.mapSeq f) (Ne.symm hb)).trans hu) ⟨_, q⟩ ?_
  exact ⟨hz, its', _, hv, q⟩
theorem Inv.lnew {its : List Value} {t' : Nat} (I : Inv X pins σ H s) (hv : Vals ys its) (hz : ys.length ≤ sizeLine) :
    Inv X pins σ (upd H s.heap.objs.size (.lst ys)) { s with heap := s.heap.push { cls := .type "list", data := .seq its.toArray }, toks := t' } :=
  I.laid (fun _ _ q => Heap.get?_push_of_some _ q) (Nat.le_refl _) ⟨hz, its, 0, hv, Heap.get?_push_size _ rfl⟩
theorem Inv.fresh (I : Inv X pins σ H s) : H s.heap.objs.size = none := I.hok.fresh (Nat.le_refl _)
theorem Inv.lstM (I : Inv X pins σ H s) (hH : H l = some (.lst xs)) : xs.length ≤ sizeLine ∧ ∃ (its : List Value) (n : Nat), Vals xs its ∧ xs.length = its.length ∧ s.heap.get? l = some { cls := .type "list", data := .seq its.toArray n } := by
  obtain ⟨z, its, n, r, e⟩ := I.hok l _ hH
  exact ⟨z, its, n, r, r.length, e⟩

theorem notLongL {n : Nat} (h : n ≤ sizeLine) : Builtin.List.listTooLong n = false := by
  unfold Builtin.List.listTooLong
  exact decide_eq_false (by omega)
end

section
variable {X : Cx}

/-! ### methods -/
noncomputable def rAppend : V → List V → Hp → VK → Prop := fun x vs H Q => ∃ l xs y, x = .ref l ∧ vs = [y] ∧ H l = some (.lst xs) ∧ xs.length < sizeLine ∧ Q .non (upd H l (.lst (xs ++ [y])))
theorem mt_append : MtM X "list.append" rAppend := by
  intro pins s σ H x vs v us Q I rx rv h
  obtain ⟨l, xs, y, rfl, rfl, hH, hz, q⟩ := h
  cases rx
  obtain ⟨u, rfl, ru⟩ := rv.one
  obtain ⟨z, its, n, r, hl, e⟩ := I.lstM hH
  refine call_meets F.slot_list_append ⟨_, e, rfl⟩ F.entry_list_append (F.args_list_append_2 _ _) (PySem.list_append l its.toArray n u (by rw [List.size_toArray]; omega)) ⟨e, ?_⟩
  refine ⟨.non, _, I.lset (its' := its ++ [u]) hH e (by simp) (r.append (.cons ru .nil)) ?_, rfl, q⟩
  rw [List.length_append, List.length_singleton]
  omega

noncomputable def rExtend : V → List V → Hp → VK → Prop := fun x vs H Q => ∃ l b xs zs, x = .ref l ∧ vs = [.ref b] ∧ H l = some (.lst xs) ∧ H b = some (.lst zs) ∧ xs.length + zs.length ≤ sizeLine ∧ Q .non (upd H l (.lst (xs ++ zs)))
theorem mt_extend : MtM X "list.extend" rExtend := by
  intro pins s σ H x vs v us Q I rx rv h
  obtain ⟨l, b, xs, zs, rfl, rfl, hH, hB, hz, q⟩ := h
  cases rx
  obtain ⟨u, rfl, ru⟩ := rv.one
  cases ru
  obtain ⟨z, its, n, r, hl, e⟩ := I.lstM hH
  obtain ⟨z2, its2, n2, r2, hl2, e2⟩ := I.lstM hB
  have hsz : its.toArray.size + its2.toArray.size ≤ sizeLine := by rw [List.size_toArray, List.size_toArray]; omega
  have hlong : ¬ (!its.toArray.isEmpty && Builtin.List.listTooLong (its.toArray.size + its2.toArray.size)) = true := by
    rw [notLongL hsz, Bool.and_false]
    exact Bool.false_ne_true
  refine call_meets F.slot_list_extend ⟨_, e, rfl⟩ F.entry_list_extend (F.args_list_extend_2 _ _)
    (AutoSeq1.list_extend_list_list_0 l its.toArray n b its2.toArray n2 hlong (by rw [List.size_toArray]; omega) (by omega)) ⟨e, e2, ?_⟩
  refine ⟨.non, _, I.lset (its' := its ++ its2) hH e (by simp) (r.append r2) ?_, rfl, q⟩
  rw [List.length_append]
  omega

/-! ### list + list, list += list, list * int -/
noncomputable def rCat : R2 := fun x y H Q => ∃ l b xs zs, x = .ref l ∧ y = .ref b ∧ H l = some (.lst xs) ∧ H b = some (.lst zs) ∧ xs.length + zs.length ≤ sizeLine ∧ ∀ p, H p = none → Q (.ref p) (upd H p (.lst (xs ++ zs)))
theorem op_cat : OpR X (binaryOp .Add) rCat := by
  intro pins s σ H x y v u Q I rx ry h
  obtain ⟨l, b, xs, zs, rfl, rfl, hH, hB, hz, q⟩ := h
  cases rx
  cases ry
  obtain ⟨z, its, n, r, hl, e⟩ := I.lstM hH
  obtain ⟨z2, its2, n2, r2, hl2, e2⟩ := I.lstM hB
  refine PySem.P.add_list e e2 ?_ (by rw [List.size_toArray, List.size_toArray]; omega)
  have ea : its.toArray ++ its2.toArray = (its ++ its2).toArray := by simp
  rw [ea]
  exact ⟨.ref _, _, I.lnew (t' := s.toks) (r.append r2) (by rw [List.length_append]; omega), rfl, q _ I.fresh⟩
/-- a list times an int (a negative one is nothing) -/
noncomputable def rRep : R2 := fun x y H Q => ∃ l k xs, x = .ref l ∧ y = .int k ∧ H l = some (.lst xs) ∧ -(2 ^ 63) ≤ k ∧ k < 2 ^ 63 ∧ xs.length * k.toNat ≤ sizeLine ∧
  ∀ p, H p = none → Q (.ref p) (upd H p (.lst (List.replicate k.toNat xs).flatten))
theorem len_rep {α : Type} (xs : List α) (k : Nat) : (List.replicate k xs).flatten.length = k * xs.length := by
  induction k with
  | zero => simp
  | succ k ih => rw [List.replicate_succ, List.flatten_cons, List.length_append, ih, Nat.succ_mul, Nat.add_comm]
theorem op_rep : OpR X (binaryOp .Mult) rRep := by
  intro pins s σ H x y v u Q I rx ry h
  obtain ⟨l, k, xs, rfl, rfl, hH, h1, h2, hz, q⟩ := h
  cases rx
  obtain ⟨t, rfl⟩ := ry
  obtain ⟨z, its, n, r, hl, e⟩ := I.lstM hH
  have hlen : its.toArray.size * k.toNat ≤ sizeLine := by rw [List.size_toArray, ← hl]; exact hz
  have hcap : ¬ its.toArray.size * k.toNat > (2 ^ 63 - 1) / 8 := by
    have : (sizeLine : Nat) ≤ (2 ^ 63 - 1) / 8 := by decide
    omega
  have hfit : ¬ (!Builtin.List.listFitsIndex k) = true := by
    rw [fitsIndex_both h1 h2]
    exact Bool.false_ne_true
  have hlong : ¬ Builtin.List.listTooLong (its.toArray.size * k.toNat) = true := by
    rw [notLongL hlen]
    exact Bool.false_ne_true
  have hnew : List.foldl (fun x1 x2 => x1 ++ x2) #[] (List.replicate (if its.toArray.isEmpty = true then 0 else k.toNat) its.toArray) = (List.replicate k.toNat its).flatten.toArray := by
    have f0 : ∀ m : Nat, List.foldl (fun x1 x2 => x1 ++ x2) #[] (List.replicate m its.toArray) = (List.replicate m its).flatten.toArray := fun m => by
      have := foldl_rep its m []
      rw [List.nil_append] at this
      exact this
    rw [f0]
    cases its with
    | nil => simp
    | cons a r' => rw [if_neg (by simp)]
  refine wpAny_binaryOp_repeat_ref (T := "list") (U := "int") (by decide) ⟨_, e, rfl⟩ (fun s' => typeIs_int s' k t) noFill_list_mul F.fills_int_mul F.slot_int_rmul repeat_list F.slot_int_index.lookup
    (call_meets F.slot_int_rmul (typeIs_int s k t) F.entry_int_rmul (F.args_int_rmul_2 _ _) (int___rmul___int_list k t l its.toArray n)
      ⟨e, rfl, ⟨_, e, rfl⟩, call_meets F.slot_list_mul ⟨_, e, rfl⟩ F.entry_list_mul (F.args_list_mul_2 _ _) (AutoListH.list___mul___list_int_3 l its.toArray n k t hfit hcap hlong) ⟨e, ?_⟩⟩)
  rw [hnew]
  exact ⟨.ref _, _, I.lnew (t' := s.toks) (r.rep k.toNat) (by rw [len_rep, Nat.mul_comm]; exact hz), rfl, q _ I.fresh⟩

/-! ### del xs[i] -/
end

/-! ### xs[a:b] = ys -/
section
variable {prog : Program} {w : World} {A : Around} {E : Value → Shared → Prop} {s : Shared}
set_option maxRecDepth 100000 in
end

section
variable {X : Cx}
end
end L2

namespace Att
open PySem PySem.W PySem.Calls PyProof.Rows

/-! ### the script -/
theorem ints_of_wellAll {P : Params} {h : Heap} : ∀ (ns : List Int) (vs : List Value), WellAll P h vs (ns.map WData.int) → IntsAre vs ns := by
  intro ns
  induction ns with
  | nil =>
    intro vs w
    rw [List.map_nil] at w
    cases w
    exact .nil
  | cons n ns ih =>
    intro vs w
    rw [List.map_cons] at w
    cases w with
    | cons a b =>
      cases a
      exact .cons _ _ (ih _ b)

theorem script_of {l : OpenLaw} {n : Nat} (hn : l.most = some n) {P : Params} {h : Heap} {args : List WData} {vals : List Value}
    (hpre : l.row.toRowW.claim.pre args = true) (hwl : WellAll P h vals args) :
    ∃ a vs ns, vals = [Value.ref a] ∧ args = [WData.list (ns.map WData.int)] ∧ h.get? a = some { cls := .type "list", data := .seq vs.toArray } ∧ IntsAre vs ns ∧ ns.length ≤ n := by
  have hsh : WShape.hasAll [] args [.list .int] = true := (pre_splitW hpre).1
  have hc : l.pre.holds [] { args := args } = true := (pre_splitW hpre).2
  obtain ⟨d, r, rfl, h1, h2⟩ := hasAllW_cons hsh
  obtain rfl := hasAllW_nil h2
  obtain ⟨xs, rfl, h3⟩ := hasW_list h1
  obtain ⟨ns, rfl⟩ := items_int h3
  have hlen : ns.length ≤ n := by
    unfold OpenLaw.pre at hc
    have h4 : (WTm.not (.lt (.lit (.int (n : Int))) (.len (.arg 0)))).holds [] { args := [.list (ns.map .int)] } = true := by
      have h4 := (holds_andW hc).1
      rw [hn] at h4
      exact h4
    have h5 := condW_of h4 (w_not (w_lt w_lit (w_len_list (w_arg rfl))))
    rw [List.length_map] at h5
    refine Nat.le_of_not_lt fun q => ?_
    have q' : (n : Int) < ((ns.length : Nat) : Int) := by omega
    first
      | (rw [decide_eq_true q'] at h5; exact absurd h5 (by decide))
      | (simp at h5; omega)
  cases hwl with
  | cons w1 w2 =>
    cases w2
    cases w1 with
    | list ho hall => exact ⟨_, _, ns, rfl, rfl, ho, ints_of_wellAll ns _ hall, hlen⟩

theorem post_true (l : OpenLaw) (args : List WData) : l.row.toRowW.claim.post args (.bool true) args = true :=
  postW_of (r := l.row.toRowW) (X := (true == true))
    (show WShape.has [] (.bool true) .bool = true by first | rfl | decide | simp [WShape.has, WShape.arms, WShape.armsAll])
    (show (WTm.eq .res (.lit (.bool true))).value [] { args := args, res := some (.bool true), after := args } = some (.bool (true == true)) from w_eq_bool (w_res rfl) w_lit) rfl

/-! ### the attachment: holds_open's last premise (the goal 'hc' behind k_head) from a wpAny of the law's body -/
/-- the same from a codeAny of the CALL (for a layer whose function contracts speak of calls) -/
theorem attach_call {l : OpenLaw} {n : Nat} {q : Program} {loose : List Str} {XP : (Str → Option Value) → Heap → Prop} {YP : World → Heap → Prop} {d : DefRec}
    (hn : l.most = some n) (hdf : d.params.defaults = [])
    (call : ∀ (w : World) (s₀ s₁ : Shared) (mg mb : Str → Option Value) (fa : Addr) (o : Obj) (pm cd doc : Value) (a : Addr) (vs : List Value) (ns : List Int),
      Ground q loose [] XP w s₀ mg mb s₁.heap → YP w s₁.heap →
      s₁.heap.get? fa = some o → o.data = .func (docDef d.name d.params d.body d.scope pm cd doc) → s₁.heap.CodeRec cd d.name → mg d.name = some (.ref fa) →
      s₁.heap.get? a = some { cls := .type "list", data := .seq vs.toArray } → IntsAre vs ns → ns.length ≤ n → s₁.gens = #[] →
      codeAny (model l.prog w) callerA (.call (.ref fa) ⟨[.ref a], []⟩) (fun r s' => r = .ok (.ret (.bool true)) ∧ OldK s₁.heap s'.heap ∧ s'.os = s₁.os ∧ AllBare s'.gens) s₁) :
    WalkO q loose XP YP l.row.toRowW d [] (fun f vs => PySem.call f vs) := by
  intro w s₀ s₁ mg mb G Y fa o pm cd doc dV kV ho hd hcd hD hmg hg args vals as hpre hlay hrd hwl hlo
  obtain rfl : dV = .none := Dflts.none hD hdf
  obtain rfl : kV = .none := Dflts.noKw hD
  obtain ⟨a, vs, ns, rfl, rfl, hobj, hints, hlen⟩ := script_of hn hpre hwl
  refine enter_call (codeAny_mono (call w s₀ s₁ mg mb fa o pm cd doc a vs ns G Y ho (fd_plain hd) hcd hmg hobj hints hlen hg) fun r s' hq => ?_)
  obtain ⟨rfl, h2, h3, h4⟩ := hq
  exact ⟨.inl ⟨.bool true, .bool true, [], rfl, fun _ => rfl, .bool true, post_true l _, fun _ => ⟨List.Pairwise.nil, fun _ hm => (nomatch hm)⟩⟩, h2, h3, h4⟩

/-! ### rules over ANY heap (no ledger) from facts about the written part K: the library's own take a ledger (News) for what they write -/
section
variable {prog : Program} {w : World} {A : Around} {E : Value → Shared → Prop} {s : Shared} {K : Frag}

/-! the whole heap as the ledger: makes every rule that writes through a ledger a rule over any heap -/
noncomputable def ledger (h : Heap) (L d : Addr) : List (Addr × Obj) := (List.range h.objs.size).filterMap fun a => if a = L ∨ a = d then none else (h.get? a).map fun o => (a, o)
end
end Att

namespace L2
open PySem PySem.Spec PyProof.Rows

theorem vals_ints : ∀ {vs : List Value} {ns : List Int}, IntsAre vs ns → Vals (ns.map V.int) vs
  | _, _, .nil => .nil
  | _, _, .cons n t h => .cons ⟨t, rfl⟩ (vals_ints h)

/-- nothing is tracked but the script, known to the object (or it is an object of the module) -/
noncomputable def Only (H : Hp) : Prop := ∀ b, H b = none ∨ ∃ o xs, H b = some (.frz o (.lst xs))

/-- THE HEAD: the law's promise, at the heap behind the top. F, the promise of the law's def, may use that base is part of the heap (so K.In base, base.Ns mainGlobals mg stand in Mod) -/
theorem law_call {P : Program} {w : World} {K : PySem.W.Frag} {mg mb : Str → Option Value} {CX : CXT} {k : Nat} {fa a : Addr} {fd : FuncData} {x : Str} {sp : Sp} {s₁ : Shared} {vs : List Value} {ns : List Int}
    (KX : K.In s₁.heap) (hns : s₁.heap.Ns mainGlobals mg) (hb : s₁.heap.Ns builtinsNs mb) (hbb : ∀ x : Str, x ≠ "__name__" → mb x = bootBuiltins x) (hlim : s₁.heap.NoLimit) (hg : s₁.gens = #[])
    (ha : s₁.heap.get? a = some { cls := .type "list", data := .seq vs.toArray }) (hi : IntsAre vs ns) (hl : ns.length ≤ sizeLine) (hr : Room k callerA)
    (F : ∀ base : Heap, K.In base → base.Ns mainGlobals mg → FnOk P w K mg base CX k fa fd [x] sp) (hbind : ∀ (s : Shared) (u : Value), BindsTo s fd ⟨[u], []⟩ [(x, u)])
    (hsp : ∀ H : Hp, Only H → SqL K H a (ns.map V.int) → sp [.ref a] H (fun v _ => v = .bl true) fun _ _ _ => False)
    (hCX : ∀ H e s', CX [] H s₁ (fun _ _ _ => False) e s' → False) :
    codeAny (model P w) callerA (.call (.ref fa) ⟨[.ref a], []⟩) (fun r s' => r = .ok (.ret (.bool true)) ∧ OldK s₁.heap s'.heap ∧ s'.os = s₁.os ∧ AllBare s'.gens) s₁ := by
  have rv := vals_ints hi
  have lenV := hi.length
  -- from an abstract heap in which nothing but the script may be tracked
  have core : ∀ H : Hp, Only H → SqL K H a (ns.map V.int) → HOk P w H s₁.heap → (∀ b, H b ≠ none → b = a) → (H a ≠ none → K.lookup a = none) →
      codeAny (model P w) callerA (.call (.ref fa) ⟨[.ref a], []⟩) (fun r s' => r = .ok (.ret (.bool true)) ∧ OldK s₁.heap s'.heap ∧ s'.os = s₁.os ∧ AllBare s'.gens) s₁ := by
    intro H hO hS hok hA hK
    have base_of : ∀ {b : Addr} {o : Obj}, s₁.heap.get? b = some o → H b = none → (hidT s₁.heap H).get? b = some o := fun e n => hidT_get e n
    have noA : ∀ {b : Addr} {o : Obj} {es : Array DictEntry} {ep : Nat}, s₁.heap.get? b = some o → o.data = .dict es ep → H b = none := fun {b o es ep} e d => by
      cases q : H b with
      | none => rfl
      | some u =>
        have e' : b = a := hA b (by rw [q]; simp)
        subst e'
        rw [ha] at e; cases e
        have d' : Data.seq vs.toArray _ = Data.dict es ep := d
        cases d'
    have nsK : ∀ {b : Addr} {m : Str → Option Value}, s₁.heap.Ns b m → (hidT s₁.heap H).Ns b m := fun {b m} ⟨o, es, ep, e, d, r⟩ => ⟨o, es, ep, base_of e (noA e d), d, r⟩
    have hKb : K.In (hidT s₁.heap H) := fun b o e => base_of (KX b o e) (by
      cases q : H b with
      | none => rfl
      | some u =>
        have e' : b = a := hA b (by rw [q]; simp)
        subst e'
        rw [hK (by rw [q]; simp)] at e; cases e)
    have hM : Mod K mg (hidT s₁.heap H) := ⟨hKb, nsK hns, ⟨mb, nsK hb, hbb⟩, let ⟨mc, h1, h2⟩ := hlim; ⟨mc, nsK h1, h2⟩⟩
    have e0 : Env0 P w K mg (hidT s₁.heap H) callerA [] s₁ H := ⟨rfl, hM, fun b o e => of_hidT e, Nat.le_of_eq (hidT_size _ _), trivial, fun b hb => absurd (show b ∈ ([] : List Addr) from hb) (by simp), hok, .of_eq hg⟩
    refine codeAny_mono ((F _ hKb (nsK hns)).run callerA [] s₁ H ⟨[.ref a], []⟩ [.ref a] [.ref a] _ _ hr e0 (hbind s₁ (.ref a)) (.cons rfl .nil) (hsp H hO hS)) fun r s' h => ?_
    cases r with
    | error e => exact (hCX H e s' h).elim
    | ok fl =>
      cases fl with
      | next => exact False.elim h
      | brk => exact False.elim h
      | cont => exact False.elim h
      | ret u =>
        obtain ⟨v, H', os, bare, un, hok', r', q⟩ := h
        have q' : v = .bl true := q
        subst q'
        obtain rfl : u = Value.bool true := r'
        refine ⟨rfl, OldK.of_keep fun b o e => ?_, os, bare⟩
        cases q : H b with
        | none => exact un.keep b o e q (by intro z; exact absurd (show b ∈ ([] : List Addr) from z) (by simp)) (by simp)
        | some u =>
          rcases hO b with z | ⟨ob, xs, z⟩
          · rw [q] at z; cases z
          · have z2 := un.frzs b ob _ z
            obtain ⟨e1, _⟩ := hok b _ z
            obtain ⟨e2, _⟩ := hok' b _ z2
            rw [e] at e1; cases e1
            exact e2
  cases hk : K.lookup a with
  | some o =>
    -- the script is one of the module's own objects
    have e := KX a o hk
    rw [ha] at e
    cases e
    refine core (fun _ => none) (fun _ => .inl rfl) (.inr ⟨_, vs.toArray, _, hk, rfl, rfl, rfl, by rw [List.size_toArray, lenV]; exact hl, by simpa using rv⟩) (fun b u z => by have z' : (none : Option HO) = some u := z; cases z') (fun b z => absurd rfl z) fun z => absurd rfl z
  | none =>
    refine core (fun b => if b = a then some (.frz { cls := .type "list", data := .seq vs.toArray } (.lst (ns.map V.int))) else none) (fun b => ?_) (.inl (.inr ⟨{ cls := .type "list", data := .seq vs.toArray }, if_pos rfl⟩)) (fun b u z => ?_) (fun b z => ?_) fun _ => hk
    · by_cases hb : b = a
      · exact .inr ⟨_, _, if_pos hb⟩
      · exact .inl (if_neg hb)
    · by_cases hb : b = a
      · have z' := (if_pos hb).symm.trans z
        cases z'
        subst hb
        exact ⟨ha, by rw [List.length_map]; exact hl, vs, _, rv, ha⟩
      · have z' := (if_neg hb).symm.trans z
        cases z'
    · by_cases hb : b = a
      · exact hb
      · exact absurd (if_neg hb) z
end L2

namespace L2
open PySem PySem.Spec PyProof.Rows

noncomputable abbrev KOf {K : PySem.W.Frag} {h : Heap} (_ : K.In h) : PySem.W.Frag := K

/-- the goal that k_head leaves (case hc), from the law's promise. F gives the function object fd (K's own) once, then the promise over every base -/
theorem walk_of {l : PySem.W.OpenLaw} {n k : Nat} {q : Program} {loose : List Str} {XP : (Str → Option Value) → Heap → Prop} {YP : World → Heap → Prop} {d : DefRec} {K : Params → PySem.W.Frag} {CX : World → CXT} {sp : World → Sp} {x : Str}
    (hn : l.most = some n) (hn2 : n ≤ sizeLine) (hdf : d.params.defaults = []) (hr : Room k callerA)
    (hY : ∀ (w : World) (h : Heap), YP w h → (K w.params).In h)
    (F : ∀ (w : World) (mg : Str → Option Value) (fa : Addr) (h : Heap), (K w.params).In h → h.Ns mainGlobals mg → mg d.name = some (.ref fa) →
      ∃ fd : FuncData, (∀ (s : Shared) (u : Value), BindsTo s fd ⟨[u], []⟩ [(x, u)]) ∧
        ∀ base : Heap, (K w.params).In base → base.Ns mainGlobals mg → FnOk l.prog w (K w.params) mg base (CX w) k fa fd [x] (sp w))
    (hsp : ∀ (w : World) (H : Hp) (a : Addr) (ns : List Int), ns.length ≤ n → Only H → SqL (K w.params) H a (ns.map V.int) → sp w [.ref a] H (fun v _ => v = .bl true) fun _ _ _ => False)
    (hCX : ∀ (w : World) (H : Hp) (s : Shared) (e : Value) (s' : Shared), CX w [] H s (fun _ _ _ => False) e s' → False) :
    PySem.W.WalkO q loose XP YP l.row.toRowW d [] (fun f vs => PySem.call f vs) := by
  refine Att.attach_call hn hdf fun w s₀ s₁ mg mb fa o pm cd doc a vs ns G Y ho hd hcd hmg hobj hints hlen hg => ?_
  have KX := hY w _ Y
  obtain ⟨fd, hb, hF⟩ := F w mg fa _ KX G.T.g hmg
  exact law_call KX G.T.g G.T.b G.T.builtins G.T.nolimit hg hobj hints (Nat.le_trans hlen hn2) hr hF hb (fun H hO hS => hsp w H a ns hlen hO hS) fun H e s' => hCX w H s₁ e s'
end L2

/- THE LAST THEOREM (shape; LID, My.* are yours):
   My.Adr: a structure of the addresses that your layer names (classes, functions); My.Txt K t: a structure (Prop) of the equations over K;
   My.txt_mk : {K} {implicit addresses ..} (e1 : nsIn K mainGlobals "law" = some (some (.ref f))) (e2 : K.lookup f = some ⟨oc, od, .func (fnOf "law" "law" params body scope dV kV doc pm an cdv ct), sl⟩) (e3 : codeIn K cdv "law" = true) .. : ∃ t, My.Txt K t

set_option maxRecDepth 100000 in
set_option maxHeartbeats 0 in
theorem PySem.Challenge.cw_LID_holds : PySem.Challenge.rw_LID.Holds := by
  w_on; o_law; k_head; (case hw => w_witness2)
  k_fill
  refine L2.walk_of (l := PySem.Challenge.rw_LID) (n := 63) (k := 40) (x := "script") (CX := fun w => ..) (sp := fun _ => My.sp_law) rfl (by decide) rfl ⟨rfl, by decide, by decide⟩ (fun w h Y => PySem.W.kIn_of Y) ?F ?S ?C
  case F =>
    intro w mg fa h KX G hmg
    have T : ∃ t, My.Txt (L2.KOf KX) t := by
      dsimp only [L2.KOf]                          -- K must stand as «<heap const> w.params» for k_is
      refine' My.txt_mk ?e1 ?e2 ?e3 ..
      (case e1 => PySem.W.k_is)                    -- in the order: a name -> its address -> its object -> its parts
      (case e2 => PySem.W.k_is)
      ..
    obtain ⟨t, T⟩ := T
    have e0 := hmg.symm.trans (PySem.W.mg_of KX G T.law)
    cases e0                                       -- fa is the law's own address
    exact ⟨_, fun s u => .of_eq rfl, fun base kb nb => My.law_fn T kb nb⟩     -- if «.of_eq rfl» comes too early: refine' ⟨_, ?b, fun base kb nb => My.law_fn T kb nb⟩; exact fun s u => .of_eq rfl
  case S => exact fun w H a ns hl hO hS => ..
  case C => exact ..
(the tactic k_is has no namespace: write k_is) -/

/-! SHORT WORDS over the layer: a def of the text, its body, what a loop and a test want. -/
namespace L2
open PySem PySem.Spec PyProof.Rows

/-! ### the text by places -/
/-- the j-th statement of a class's body -/
noncomputable def inClass (s : Stmt) (j : Nat) : Stmt := match s with
  | .ClassDef _ _ _ body _ _ _ _ _ _ _ => body.getD j (.Pass ⟨0, 0, 0, 0⟩)
  | _ => .Pass ⟨0, 0, 0, 0⟩
noncomputable def defArgs (s : Stmt) : Arguments := match s with
  | .FunctionDef _ a _ _ _ _ _ _ _ _ => a
  | _ => { posonlyargs := [], args := [], vararg := none, kwonlyargs := [], kw_defaults := [], kwarg := none, defaults := [] }
noncomputable def defBody (s : Stmt) : List Stmt := match s with
  | .FunctionDef _ _ b _ _ _ _ _ _ _ => b
  | _ => []
noncomputable def defScope (s : Stmt) : Scope := match s with
  | .FunctionDef _ _ _ _ _ _ sc _ _ _ => sc
  | _ => { kind := .function, names := [], isGenerator := false, isCoroutine := false }

/-! ### no exception leaves a def -/
noncomputable abbrev CX0 : CXT := fun _ _ _ _ _ _ => False
noncomputable abbrev E0 : XK := fun _ _ _ => False
/-! ### a def (or method) of the text as it stands behind the top -/
structure Fun (K : PySem.W.Frag) (x qual : Str) (st : Stmt) (f : Addr) (fd : FuncData) : Prop where
  ex : ∃ (oc : Value) (od : Option Addr) (kV doc pm : Value) (an : Option Addr) (cdv ct : Value) (osl : Array (Option Value)),
    fd = PySem.W.fnOf x qual (defArgs st) (defBody st) (defScope st) .none kV doc pm an cdv ct ∧ K.lookup f = some ⟨oc, od, .func fd, osl⟩ ∧ PySem.W.codeIn K cdv qual = true
  kp : PySem.W.keepIn K (.ref f) = true
section
variable {P : Program} {w : World} {K : PySem.W.Frag} {mg : Str → Option Value} {base : Heap}
/-- THE RULE for a def: its body as a term of rules, and the reading of that term -/
theorem Fun.ok {x qual : Str} {st : Stmt} {f : Addr} {fd : FuncData} {N ps : List Str} {k : Nat} {sp : Sp} (F : Fun K x qual st f fd) (S : FnScope N ps (defScope st)) (len : ∀ vs H Q E, sp vs H Q E → vs.length = ps.length)
    (hbody : ∀ (cdv : Value) (A : Around) (outer : List Env) (s : Shared) (H : Hp) (vs : List V) (Q : VK) (E : XK), Room k (A.deeper (envOfC qual (defScope st) s.heap.objs.size f cdv)) → sp vs H Q E →
      ∃ t, PSs (cxOf CX0 P w K mg base N qual (defScope st) f cdv A outer s H E).nox (defBody st) t ∧ t { nx := fun _ H' => Q .non H', rt := Q } (start N vs) H) : FnOk P w K mg base CX0 (k + 1) f fd ps sp := by
  obtain ⟨oc, od, kV, doc, pm, an, cdv, ct, osl, rfl, lk, hcd⟩ := F.ex
  refine fn_of lk hcd S len fun A outer s H vs Q E hr hsp => ?_
  obtain ⟨t, h, q⟩ := hbody cdv A outer s H vs Q E hr hsp
  exact ⟨t, h.nox, q⟩
/-- how its arguments bind (no defaults): h is «fun _ _ _ _ _ _ us hl => match us, hl with | [_, _], _ => rfl», one _ a parameter -/
theorem Fun.binds {x qual : Str} {st : Stmt} {f : Addr} {fd : FuncData} {ps : List Str} (F : Fun K x qual st f fd)
    (h : ∀ (kV doc pm : Value) (an : Option Addr) (cdv ct : Value) (us : List Value), us.length = ps.length → bindArgs (PySem.W.fnOf x qual (defArgs st) (defBody st) (defScope st) .none kV doc pm an cdv ct) ⟨us, []⟩ = pure (ps.zip us)) : Binds K fd ps [] := by
  obtain ⟨oc, od, kV, doc, pm, an, cdv, ct, osl, rfl, lk, hcd⟩ := F.ex
  exact .all (h kV doc pm an cdv ct)
theorem fun_mk {x qual : Str} {st : Stmt} {f : Addr} {oc : Value} {od an : Option Addr} {osl : Array (Option Value)} {kV doc pm cdv ct : Value} (l : K.lookup f = some ⟨oc, od, .func (PySem.W.fnOf x qual (defArgs st) (defBody st) (defScope st) .none kV doc pm an cdv ct), osl⟩)
    (c : PySem.W.codeIn K cdv qual = true) (k : PySem.W.keepIn K (.ref f) = true) : Fun K x qual st f (PySem.W.fnOf x qual (defArgs st) (defBody st) (defScope st) .none kV doc pm an cdv ct) := ⟨⟨oc, od, kV, doc, pm, an, cdv, ct, osl, rfl, l, c⟩, k⟩
end
theorem hu_of {A : Around} {k : Nat} (hr : Room k A) : A.units + 1 < cLine := Nat.lt_of_le_of_lt (Nat.add_le_add_left (by decide : 1 ≤ 64) _) hr.units
/-! ### expressions in short: the name that stands in the i-th slot -/
section
variable {X : Cx}
theorem pv (i : Nat) {x : Str} {pos : Pos} (hN : X.N[i]? = some x := by rfl) (hv : Vis X.env.scope x := by first | exact Or.inl rfl | exact Or.inr (Or.inl rfl) | exact Or.inr (Or.inr rfl)) (hd : (x == ("__debug__" : Str)) = false := by decide)
    (hcd : (x == ("__classdict__" : Str)) = false := by decide) : PE X (.Name x pos) (tVar i) := pe_var hN hv hd hcd
end

/-! ### tests -/
theorem iteF {A B : Prop} (h : B) : if false = true then A else B := by
  rw [if_neg Bool.false_ne_true]
  exact h
theorem iteT {A B : Prop} (h : A) : if true = true then A else B := by
  rw [if_pos rfl]
  exact h
theorem ite2 {c A B : Prop} [Decidable c] (h1 : c → A) (h2 : ¬ c → B) : if c then A else B := by
  by_cases h : c
  · rw [if_pos h]
    exact h1 h
  · rw [if_neg h]
    exact h2 h
theorem iteNS {c A B : Prop} [Decidable c] (hc : c) (h : B) : if (!decide c) = true then A else B := by
  rw [decide_eq_true hc]
  exact iteF h

/-! ### heaps -/
/-- all that was tracked is as it was -/
noncomputable def Same (H H' : Hp) : Prop := ∀ b o, H b = some o → H' b = some o
theorem Same.refl (H : Hp) : Same H H := fun _ _ h => h
theorem Same.trans {H H1 H2 : Hp} (a : Same H H1) (b : Same H1 H2) : Same H H2 := fun c o h => b c o (a c o h)
theorem Same.free {H H' : Hp} (e : Same H H') {l : Addr} (h : H' l = Option.none) : H l = Option.none := by
  cases q : H l with
  | none => rfl
  | some o =>
    rw [e l o q] at h
    cases h
theorem Same.seq {K : PySem.W.Frag} {H H' : Hp} {a : Addr} {xs : List V} (e : Same H H') (h : SqL K H a xs) : SqL K H' a xs := by
  rcases h with (h | ⟨o, h⟩) | h
  · exact .inl (.inl (e _ _ h))
  · exact .inl (.inr ⟨o, e _ _ h⟩)
  · exact .inr h

end L2

set_option Elab.async false
set_option linter.all false
set_option maxRecDepth 100000
set_option maxHeartbeats 4000000
/-! Own rules over the hand layer: // by any small divisor, sum, isinstance, texts (loop, slice, join, times), comprehensions. -/
namespace L2
open PySem PySem.Spec PyProof.Rows
section
variable {X : Cx}

/-! ### // by a divisor of any usual size -/
noncomputable def CDivL (i j : Int) : Prop := 0 < j ∧ j.natAbs.log2 < 9000
theorem op_fdivL : OpR X (binaryOp .FloorDiv) (rI CDivL fun i j => .int (i / j)) := opI fun i j _ _ _ _ _ hc q => by
  have h1 : (0 : Int) < j := hc.1
  exact floordiv_int (by omega) (by rw [Int.fdiv_eq_ediv_of_nonneg i (by omega)]; exact q) (.inl (PyProof.noPylong_of_log2 hc.2))

/-! ### sum of a list of ints -/
/-! ### isinstance of one class -/
theorem call_isinst : CallR X (.builtin "isinstance") (fun xs H Q => ∃ x c cv t b, xs = [x, c] ∧ (∀ u, RelV c u → u = cv) ∧ TyOf X.K H x t ∧ PySem.W.kitOne X.K t cv = some b ∧ Q (.bl b) H) := by
  intro pins s σ H xs us Q I r h
  obtain ⟨x, c, cv, t, b, rfl, hcv, ty, e, q⟩ := h
  obtain ⟨u, w', rfl, r1, r2⟩ := vals2 r
  rw [hcv w' r2]
  exact isinst_ok I r1 ty e fun tk => ⟨.bl b, H, I.tok _, rfl, q⟩
theorem relTy {n : String} : ∀ u, RelV (.ty n) u → u = Value.type n := fun _ h => h

/-! ### texts -/
end

/-! ### comprehensions -/
theorem forIn_collect {α β : Type} {l : List α} {f : α → β → Sem (ForInStep β)} (g : β → α → β) (c : β) (h : ∀ x ∈ l, ∀ c, f x c = pure (.yield (g c x))) :
    forIn l c f = pure (l.foldl g c) := by
  induction l generalizing c with
  | nil => rfl
  | cons x l ih =>
    rw [List.forIn_cons, h x List.mem_cons_self, pure_bind]
    exact ih _ fun y hy => h y (List.mem_cons_of_mem _ hy)
noncomputable def clOf (cells : List (Str × Addr)) (names : List (Str × NameKind)) (acc : List (Str × Addr)) : List (Str × Addr) :=
  names.foldl (fun cs y => if y.2 == .free then (y.1, (cells.lookup y.1).getD 0) :: cs else cs) acc
theorem closure_eq {scope : Scope} {env : Env} (h : ∀ y ∈ scope.names, y.2 = .free → ∃ c, env.cells.lookup y.1 = some c) : closureFor scope env = pure (clOf env.cells scope.names []) := by
  simp only [closureFor]
  rw [forIn_collect (fun cs y => if y.2 == .free then (y.1, (env.cells.lookup y.1).getD 0) :: cs else cs) [] fun x hx c => ?_]
  · rfl
  · obtain ⟨n, k⟩ := x
    by_cases hk : k = .free
    · subst hk
      obtain ⟨a, ea⟩ := h (n, .free) hx rfl
      have ea' : env.cells.lookup n = some a := ea
      simp only [beq_self_eq_true, if_true, cellOf, ea', pure_bind, Option.getD_some]
    · have hb : (k == NameKind.free) = false := by simpa using hk
      simp only [hb, Bool.false_eq_true, if_false]
theorem lookup_mem {α : Type} : ∀ {l : List (Str × α)} {x : Str} {c : α}, l.lookup x = some c → (x, c) ∈ l
  | [], _, _, h => by simp at h
  | (y, d) :: r, x, c, h => by
    rw [List.lookup_cons] at h
    cases hx : x == y with
    | true =>
      rw [hx] at h
      have e : x = y := by simpa using hx
      subst e
      cases h
      exact List.mem_cons_self
    | false =>
      rw [hx] at h
      exact List.mem_cons_of_mem _ (lookup_mem h)
theorem mem_lookup {α : Type} : ∀ {l : List (Str × α)} {x : Str} {c : α}, (x, c) ∈ l → ∃ d, l.lookup x = some d
  | [], _, _, h => by cases h
  | (y, d) :: r, x, c, h => by
    rw [List.lookup_cons]
    cases hx : x == y with
    | true => exact ⟨d, rfl⟩
    | false =>
      rcases List.mem_cons.mp h with e | h
      · cases e; simp at hx
      · exact mem_lookup h
theorem clOf_mem {cells : List (Str × Addr)} : ∀ {names : List (Str × NameKind)} {acc : List (Str × Addr)} {p : Str × Addr}, p ∈ clOf cells names acc ↔ p ∈ acc ∨ ((p.1, NameKind.free) ∈ names ∧ p.2 = (cells.lookup p.1).getD 0)
  | [], acc, p => by simp [clOf]
  | (n, k) :: r, acc, p => by
    show p ∈ clOf cells r (if k == .free then (n, (cells.lookup n).getD 0) :: acc else acc) ↔ _
    rw [clOf_mem (names := r)]
    by_cases hk : k = .free
    · subst hk
      simp only [beq_self_eq_true, if_true, List.mem_cons]
      constructor
      · rintro ((rfl | h) | h)
        · exact .inr ⟨.inl rfl, rfl⟩
        · exact .inl h
        · exact .inr ⟨.inr h.1, h.2⟩
      · rintro (h | ⟨h | h, e⟩)
        · exact .inl (.inr h)
        · obtain ⟨a, b⟩ := p
          cases h
          exact .inl (.inl (by rw [show b = _ from e]))
        · exact .inr ⟨h, e⟩
    · have hb : (k == NameKind.free) = false := by simpa using hk
      simp only [hb, Bool.false_eq_true, if_false, List.mem_cons]
      constructor
      · rintro (h | h)
        · exact .inl h
        · exact .inr ⟨.inr h.1, h.2⟩
      · rintro (h | ⟨h | h, e⟩)
        · exact .inl h
        · cases h; exact absurd rfl hk
        · exact .inr ⟨h, e⟩
theorem relabel_mem {scope : Scope} {env : Env} {x : Str} {k : NameKind} (h : (relabel scope env).names.lookup x = some k) : ∃ k', (x, k') ∈ scope.names ∧ (k' = k ∨ (k' = .free ∧ k = .cell)) := by
  have m := lookup_mem h
  unfold relabel at m
  obtain ⟨⟨n, k'⟩, hm, e⟩ := List.mem_map.mp m
  dsimp only at e
  split at e
  · rename_i hc
    rw [Bool.and_eq_true, Bool.and_eq_true] at hc
    have e1 : n = x := congrArg Prod.fst e
    have e2 : NameKind.cell = k := congrArg Prod.snd e
    subst e1 e2
    exact ⟨k', hm, .inr ⟨by simpa using hc.1.1, rfl⟩⟩
  · have e1 : n = x := congrArg Prod.fst e
    have e2 : k' = k := congrArg Prod.snd e
    subst e1 e2
    exact ⟨k', hm, .inl rfl⟩

/-- the context of a comprehension's block -/
noncomputable def subCx (X : Cx) (scope : Scope) (N : List Str) (cl : List (Str × Addr)) (C : Addr) (s : Shared) (H : Hp) (fp : List Addr) (xe : Value → Shared → Prop) : Cx :=
  { X with N := N, s₀ := s, H₀ := H, env := compEnvC scope cl C X.env, outer := X.stack, stack := X.stack, ex := fp, fn := fun _ => false, pn := [], xe := xe }
/-- which names of the block are the def's (and where they stand there) -/
inductive Caps (X : Cx) (scope : Scope) : List Str → List (Option Nat) → Prop where
  | nil : Caps X scope [] []
  | own {x : Str} {N : List Str} {ix : List (Option Nat)} (r : Caps X scope N ix) : Caps X scope (x :: N) (none :: ix)
  | cap {x : Str} {j : Nat} {N : List Str} {ix : List (Option Nat)} (h1 : X.N[j]? = some x) (h2 : X.env.kindOf x = some .cell) (h3 : (relabel scope X.env).names.lookup x = some .cell) (r : Caps X scope N ix) : Caps X scope (x :: N) (some j :: ix)
noncomputable def capS (ix : List (Option Nat)) (σ : St) : St := ix.map fun o => match o with
  | none => none
  | some j => (σ[j]?).getD none
theorem Caps.get {X : Cx} {scope : Scope} {σ : St} : ∀ {N : List Str} {ix : List (Option Nat)}, Caps X scope N ix → ∀ (i : Nat) (x : Str) (v : V), N[i]? = some x → (capS ix σ)[i]? = some (some v) →
    ∃ j : Nat, X.N[j]? = some x ∧ σ[j]? = some (some v) ∧ X.env.kindOf x = some .cell ∧ (relabel scope X.env).names.lookup x = some .cell
  | _, _, .nil, i, x, v, h, _ => by simp at h
  | _, _, .own r, 0, x, v, _, h => by simp [capS] at h
  | _, _, .own r, i + 1, x, v, h1, h2 => r.get i x v (by simpa using h1) (by simpa [capS] using h2)
  | _, _, .cap (j := j) e1 e2 e3 r, 0, x, v, h1, h2 => by
    simp at h1
    subst h1
    refine ⟨j, e1, ?_, e2, e3⟩
    simp only [capS, List.map_cons, List.getElem?_cons_zero, Option.some.injEq] at h2
    cases q : σ[j]? with
    | none => rw [q] at h2; cases h2
    | some o => rw [q] at h2; simp only [Option.getD_some] at h2; rw [h2]
  | _, _, .cap e1 e2 e3 r, i + 1, x, v, h1, h2 => r.get i x v (by simpa using h1) (by simpa [capS] using h2)
theorem Caps.length {X : Cx} {scope : Scope} {N : List Str} {ix : List (Option Nat)} (h : Caps X scope N ix) : ix.length = N.length := by
  induction h with
  | nil => rfl
  | own _ ih => simp [ih]
  | cap _ _ _ _ ih => simp [ih]
/-- a store that knows at least as much -/
noncomputable def Ext (a b : St) : Prop := b.length = a.length ∧ ∀ (i : Nat) v, a[i]? = some (some v) → b[i]? = some (some v)
theorem Ext.set {a : St} {i : Nat} {v : V} (h : a[i]? = some none) : Ext a (a.set i (some v)) := by
  refine ⟨by simp, fun j w e => ?_⟩
  by_cases hj : j = i
  · subst hj; rw [h] at e; cases e
  · rw [List.getElem?_set_ne (Ne.symm hj)]; exact e
theorem Ext.trans {a b c : St} (h : Ext a b) (h' : Ext b c) : Ext a c := ⟨h'.1.trans h.1, fun i v e => h'.2 i v (h.2 i v e)⟩

/-- the tests of a comprehension -/
noncomputable def PTs (X : Cx) (ifs : List Expr) (t : TT) : Prop :=
  ∀ (pins : List (Addr × Obj)) (s : Shared) (σ : St) (H : Hp) (Q : Bool → Hp → Prop), Inv X pins σ H s → t σ H Q →
    wpAny (model X.prog X.w) X.A (forIn ifs true fun c r => if r = true then do let ok ← isTrue c X.env (eval c X.env); pure (ForInStep.yield ok) else pure (ForInStep.yield r)) (TP X pins σ Q) X.xe s
noncomputable def ttNil : TT := fun _ H Q => Q true H
theorem pts_nil {X : Cx} : PTs X [] ttNil := fun pins s σ H Q I h => wpAny_tests_nil ⟨H, I, h⟩
theorem pts_one {X : Cx} {c : Expr} {t : TT} (h : PT X c t) : PTs X [c] t := fun pins s σ H Q I q => wpAny_tests_one (h pins s σ H Q I q)

/-- the turns of a comprehension: W is what holds between two of them -/
noncomputable def CompW (J : It) (g : TG) (tt : TT) (te : TE) (σ0 : St) (D : Addr) (Q : VK) (H1 : Hp) : Prop := ∃ W : Nat → Nat → List V → Hp → Prop, (∃ m, W 0 m [] (upd H1 D (.lst []))) ∧ ∀ i m ys H, W i m ys H →
  (J.stop i H ∧ Q (.ref D) H) ∨ (J.go i H ∧ ∀ x H', J.yld i H x H' → g x σ0 H' fun σ2 H2 => Ext σ0 σ2 ∧ tt σ2 H2 fun b H3 =>
    if b = true then te σ2 H3 fun v H4 => H4 D = some (.lst ys) ∧ ys.length < sizeLine ∧ ∃ m', m' < m ∧ W (i + 1) m' (ys ++ [v]) (upd H4 D (.lst (ys ++ [v]))) else ∃ m', m' < m ∧ W (i + 1) m' ys H3)
noncomputable def tComp (wi : TI) (g : TG) (tt : TT) (te : TE) (ix : List (Option Nat)) : TE := fun σ H Q => wi σ H fun J H1 => ∀ D, H1 D = none → CompW J g tt te (capS ix σ) D Q H1

section
variable {prog : Program} {w : World} {A : Around} {R : Result → Shared → Prop} {s : Shared}
theorem comp_loop {elt target iter : Expr} {ifs : List Expr} {scope : Scope} {pos : Pos} {it acc : Value} {env : Env} (I : Nat → Shared → Prop)
    (turn : ∀ n s, I n s → wpAny (model prog w) A (pyNext it) (fun r s₁ => match r with
      | none => R (.ok .next) s₁
      | some v => wpAny (model prog w) A (letOwnedTupleGo target it v) (fun _ s₁' => wpAny (model prog w) A (assign target env v) (fun _ s₂ =>
          wpAny (model prog w) A (forIn ifs true fun c r => if r = true then do let ok ← isTrue c env (eval c env); pure (ForInStep.yield ok) else pure (ForInStep.yield r)) (fun ok s₃ =>
            if ok = true then wpAny (model prog w) A (eval elt env) (fun x s₄ =>
              wpAny (model prog w) A (call (.builtin "list.append") [acc, x]) (fun _ s₅ => ∃ m, m < n ∧ I m s₅) (notedBy (model prog w) A env fun e s' => R (.error e) s') s₄) (notedBy (model prog w) A env fun e s' => R (.error e) s') s₃
            else ∃ m, m < n ∧ I m s₃) (notedBy (model prog w) A env fun e s' => R (.error e) s') s₂) (notedBy (model prog w) A env fun e s' => R (.error e) s') s₁') (notedBy (model prog w) A env fun e s' => R (.error e) s') s₁) (notedBy (model prog w) A env fun e s' => R (.error e) s') s)
    (n : Nat) (h : I n s) : codeAny (model prog w) A (.compLoop (.ListComp elt [⟨target, iter, ifs, 0⟩] scope pos) 0 it acc env) R s := by
  refine codeAny_loop rfl I (fun n s hI => ?_) n h
  show wpAny _ A ((compTurn (.ListComp elt [⟨target, iter, ifs, 0⟩] scope pos) 0 it acc env).onRaise (fun x => do noteFrame x env; theTreesLotGoes x)) _ _ s
  refine wpAny_noted ?_
  rw [compTurn_list]
  refine wpAny_bind (wpAny_standAt (wpAny_bind (wpAny_mono (turn n s hI) (fun r s₁ h₁ => ?_) fun _ _ h' => h')))
  cases r with
  | none => exact wpAny_pure h₁
  | some v =>
    refine wpAny_bind (wpAny_mono h₁ (fun _ s₁' h₁' => ?_) fun _ _ h' => h')
    refine wpAny_bind (wpAny_mono h₁' (fun _ s₂ h₂ => wpAny_bind (wpAny_mono h₂ (fun ok s₃ h₃ => ?_) fun _ _ h' => h')) fun _ _ h' => h')
    cases ok with
    | false => exact wpAny_pure ⟨rfl, h₃⟩
    | true =>
      exact wpAny_bind (wpAny_bind (wpAny_mono h₃ (fun x s₄ h₄ => wpAny_bind (wpAny_mono h₄ (fun _ s₅ h₅ => wpAny_pure (wpAny_pure ⟨rfl, h₅⟩)) fun _ _ h' => h')) fun _ _ h' => h'))
end

section
variable {X : Cx}
noncomputable def noCell (sc : Scope) : Bool := sc.names.all fun y => y.2 != .cell
noncomputable def freeOk (sc : Scope) (env : Env) : Bool := sc.names.all fun y => y.2 != .free || env.kindOf y.1 == some .cell
noncomputable def namesOk (sc : Scope) : Bool := sc.names.all fun y => y.2 != .local || sc.names.lookup y.1 == some .local
/-- what is known of the block's own namespace behind the block -/
structure BlockEnd (X : Cx) (pins : List (Addr × Obj)) (σ : St) (H : Hp) (C : Addr) (s : Shared) : Prop where
  inv : Inv X pins σ H s
  ns : ∃ m, s.heap.Ns C m
  free : H C = none
  loc : C ≠ X.env.locals
  young : X.s₀.heap.objs.size ≤ C
  cell : ∀ x c, X.env.cells.lookup x = some c → c ≠ C
  pin : ∀ p ∈ X.pn ++ pins, p.1 ≠ C
theorem BlockEnd.gone {pins : List (Addr × Obj)} {σ : St} {H : Hp} {C : Addr} {s : Shared} (B : BlockEnd X pins σ H C s) {h' : Heap} (hs : Heap.SameBut C s.heap h') : Inv X pins σ H { s with heap := h' } :=
  B.inv.turned (t' := s.toks) (it := C) (fun b o hb e => hs.extBut b o hb e) B.free B.loc (.inr B.young) B.cell B.pin
theorem comp_core {elt tg iter : Expr} {ifs : List Expr} {scope : Scope} {pos pos' : Pos} {N : List Str} {ix : List (Option Nat)} {wi : TI} {g : TG} {tt : TT} {te : TE} {use : Option (Value → Sem Unit)} {Qv : Value → Shared → Prop}
    (hc : X.calm = true) (hi : PI X tg iter wi) (hk : scope.kind = .function) (hcell0 : noCell scope = true) (hfree0 : freeOk scope X.env = true) (hnames0 : namesOk scope = true) (caps : Caps X scope N ix)
    (hg : ∀ cl C s H fp xe, PG (subCx X scope N cl C s H fp xe) tg g) (ht : ∀ cl C s H fp xe, PTs (subCx X scope N cl C s H fp xe) ifs tt) (he : ∀ cl C s H fp xe, PE (subCx X scope N cl C s H fp xe) elt te)
    (hs : ∀ x, foldedSetIterable iter X.env x = pure x)
    {pins : List (Addr × Obj)} {s : Shared} {σ : St} {H : Hp} {Q : VK} (I : Inv X pins σ H s) (h : tComp wi g tt te ix σ H Q)
    (fin : ∀ (C D : Addr) (H6 : Hp) (s6 : Shared), BlockEnd X pins σ H6 C s6 → Q (.ref D) H6 → compPost (model X.prog X.w) X.A X.xe use Qv (.ref D) C (.ok .next) s6) :
    wpAny (model X.prog X.w) X.A (comprehension (.ListComp elt [⟨tg, iter, ifs, 0⟩] scope pos) scope X.env pos' (newList []) false (eval iter X.env) use) Qv X.xe s := by
  have hcell : ∀ y ∈ scope.names, y.2 ≠ .cell := fun y hy e => by
    have := List.all_eq_true.mp hcell0 y hy
    rw [e] at this; exact absurd this (by decide)
  have hfree : ∀ y ∈ scope.names, y.2 = .free → X.env.kindOf y.1 = some .cell := fun y hy e => by
    have := List.all_eq_true.mp hfree0 y hy
    rw [e] at this; simpa using this
  have hnames : ∀ y ∈ scope.names, y.2 = .local → scope.names.lookup y.1 = some .local := fun y hy e => by
    have := List.all_eq_true.mp hnames0 y hy
    rw [e] at this; simpa using this
  have hcl : ∀ y ∈ scope.names, y.2 = .free → ∃ c, X.env.cells.lookup y.1 = some c := fun y hy e => I.ok.has y.1 (.inl (hfree y hy e))
  refine wpAny_comprehension_free (use := use) rfl hs (closure_eq hcl) hk hnames ?_
  generalize ecl : clOf X.env.cells scope.names [] = cl
  -- the cells of the block are the def's
  have cl1 : ∀ x c, cl.lookup x = some c → X.env.cells.lookup x = some c := fun x c e => by
    have m := lookup_mem e
    rw [← ecl] at m
    rcases clOf_mem.mp m with z | ⟨z, z'⟩
    · cases z
    · obtain ⟨a, ea⟩ := hcl _ z rfl
      have ea' : X.env.cells.lookup x = some a := ea
      have z2 : c = (X.env.cells.lookup x).getD 0 := z'
      rw [ea', Option.getD_some] at z2
      rw [ea', z2]
  have cl2 : ∀ x, (x, NameKind.free) ∈ scope.names → ∃ c, cl.lookup x = some c := fun x hx => by
    have m : (x, (X.env.cells.lookup x).getD 0) ∈ cl := by rw [← ecl]; exact clOf_mem.mpr (.inr ⟨hx, rfl⟩)
    exact mem_lookup m
  refine thn (hi pins s σ H _ I h) fun v s1 h1 => thn h1 fun itv s2 h2 => ?_
  obtain ⟨it, fp, tn, J, H2, e, I2, T, st2, f2, body⟩ := h2
  subst e
  refine wpAny_newObj_type (wpAny_newFunctionEnv hcell (by intro y hy; simp at hy) (fun h₁ hns₁ hsb₁ => ?_) hk)
  dsimp only at hns₁ hsb₁ ⊢
  have hD : H2 s2.heap.objs.size = none := I2.hok.fresh (Nat.le_refl _)
  obtain ⟨W, ⟨m0, w0⟩, turn⟩ := body _ hD
  have I3 : Inv X pins σ (upd H2 s2.heap.objs.size (.lst [])) { s2 with heap := s2.heap.push { cls := .type "list", dict := none, data := .seq ([] : List Value).toArray } } :=
    I2.laid (t' := s2.toks) (fun b o e => Heap.get?_push_of_some _ e) (Nat.le_refl _) ⟨Nat.zero_le _, [], 0, .nil, Heap.get?_push_size _ rfl⟩
  generalize hs3 : ({ s2 with heap := s2.heap.push { cls := .type "list", dict := none, data := .seq ([] : List Value).toArray } } : Shared) = s3 at I3
  have es3 : s2.heap.push { cls := .type "list", dict := none, data := .seq ([] : List Value).toArray } = s3.heap := by rw [← hs3]
  rw [es3] at hns₁ hsb₁ ⊢
  generalize hD' : s2.heap.objs.size = D at *
  generalize hH3 : upd H2 D (.lst []) = H3 at *
  have szC : s3.heap.objs.size = D + 1 := by rw [← es3, Heap.size_push, hD']
  -- what was, is
  have old : ∀ b o, s3.heap.get? b = some o → h₁.get? b = some o := fun b o e => hsb₁.extBut b o (Nat.ne_of_lt (Heap.lt_size e)) (Heap.get?_push_of_some _ e)
  have fpl : ∀ b ∈ fp, b < D := fun b hb => by
    obtain ⟨o, e, _⟩ := T.obj 0 _ st2 b hb
    rw [← hD']; exact Heap.lt_size e
  have fpD : ∀ b ∈ fp, H3 b = none := fun b hb => by
    rw [← hH3, upd_ne (Nat.ne_of_lt (fpl b hb))]; exact (f2 b hb).1
  have fstk : ∀ b ∈ fp, b ∉ frs X.stack := fun b hb z => by
    obtain ⟨_, f1, f3, _⟩ := f2 b hb
    rcases List.mem_cons.mp (I2.stkSub b z) with e | e
    · exact f1 e
    · exact f3 e
  let E' : Value → Shared → Prop := notedBy (model X.prog X.w) X.A (compEnvC scope cl s3.heap.objs.size X.env) fun e s' => compPost (model X.prog X.w) X.A X.xe use Qv (.ref D) s3.heap.objs.size (.error e) s'
  have ok' : (subCx X scope N cl s3.heap.objs.size s3 H3 fp E').Ok := by
    refine { mod := I.ok.mod, kind := ?_, glob := I.ok.glob, blt := I.ok.blt, above := Nat.le_refl _, inj := ?_, has := ?_, cab := ?_, hd := I.ok.hd, frames := I.ok.frames, stk := .inl rfl, exf := ?_, bs := I3.bs, bsz := ?_, noex := ?_, exfs := fstk, funs := I3.stack, frf := I3.stkFree }
    · show (relabel scope X.env).kind = .function
      exact hk
    · exact fun x y c e1 e2 => I.ok.inj x y c (cl1 x c e1) (cl1 y c e2)
    · intro x hx
      have hx' : (relabel scope X.env).names.lookup x = some .cell ∨ (relabel scope X.env).names.lookup x = some .free := hx
      have : (x, NameKind.free) ∈ scope.names := by
        rcases hx' with e | e
        · obtain ⟨k', hm, z | ⟨z, _⟩⟩ := relabel_mem e
          · subst z; exact absurd rfl (hcell _ hm)
          · subst z; exact hm
        · obtain ⟨k', hm, z | ⟨z, z'⟩⟩ := relabel_mem e
          · subst z; exact hm
          · cases z'
      exact cl2 x this
    · intro x c z; cases z
    · intro b hb
      refine ⟨fun z => ?_, fun x c e => (f2 b hb).2.2.2.2.1 x c (cl1 x c e)⟩
      have lt := fpl b hb
      have z' : b = s3.heap.objs.size := z
      rw [z', szC] at lt
      exact absurd lt (Nat.not_lt.mpr (Nat.le_succ D))
    · exact Nat.le_trans I3.ok.bsz I3.sz
    · intro b o e hb
      rcases (f2 b hb).2.2.2.1 with z | z
      · exact I.ok.noex b o e z
      · exact absurd (Nat.lt_of_lt_of_le (Heap.lt_size e) (Nat.le_trans I.ok.bsz z)) (Nat.lt_irrefl _)
  have I4 : ∀ tk, Inv (subCx X scope N cl s3.heap.objs.size s3 H3 fp E') [] (capS ix σ) H3 { s3 with heap := h₁, toks := tk } := fun tk => by
    refine ⟨ok', rfl, I3.bare, Un.kept old, ⟨_, hns₁, fun i x v e1 e2 e3 => ?_⟩, fun x c e => ?_, ?_, fun x c e => I3.freeC x c (cl1 x c e), fun p hp => (by cases hp), I3.hok.kept old, ?_⟩
    · obtain ⟨j, j1, j2, j3, j4⟩ := caps.get i x v e1 e2
      obtain ⟨m, hn, hl⟩ := I3.loc
      obtain ⟨u, r, l⟩ := hl j x v j1 j2 (.inr (.inl j3))
      refine ⟨u, r, .inr ⟨.inl j4, ?_⟩⟩
      rcases l with ⟨l, _⟩ | ⟨_, c, ec, hcell⟩
      · have l' : X.env.kindOf x = some .local := l
        rw [j3] at l'; cases l'
      · obtain ⟨k', hm, z | ⟨z, _⟩⟩ := relabel_mem j4
        · subst z; exact absurd rfl (‹∀ y ∈ scope.names, y.2 ≠ .cell› _ hm)
        · subst z
          obtain ⟨c', ec'⟩ := cl2 x hm
          have := cl1 x c' ec'
          rw [ec] at this; cases this
          obtain ⟨o, ho, hd⟩ := hcell
          exact ⟨c, ec', o, old _ _ ho, hd⟩
    · obtain ⟨v, o, ho, hd⟩ := I3.cell x c (cl1 x c e)
      exact ⟨v, o, old _ _ ho, hd⟩
    · exact I3.hok.fresh (Nat.le_refl _)
    · show (capS ix σ).length = N.length
      rw [← caps.length]; simp [capS]
  have st4 : tn 0 h₁ := T.keep 0 _ _ st2 fun b hb o e => old b o (by rw [← es3]; exact Heap.get?_push_of_some _ e)
  -- the block's end
  have fin6 : ∀ (s6 : Shared) (H6 : Hp), Inv (subCx X scope N cl s3.heap.objs.size s3 H3 fp E') [] (capS ix σ) H6 s6 → Q (.ref D) H6 →
      compPost (model X.prog X.w) X.A X.xe use Qv (.ref D) s3.heap.objs.size (.ok .next) s6 := fun s6 H6 I6 q => by
    obtain ⟨m, hn, _⟩ := I6.loc
    refine fin s3.heap.objs.size D H6 s6 ⟨I3.call' (s' := s6) (ch := fp) I6.os I6.base I6.hok I6.bare ?_, ⟨m, hn⟩, I6.free, ?_, I3.sz, ?_, ?_⟩ q
    · intro b hb
      obtain ⟨_, f1, _, f3, f4, f5⟩ := f2 b hb
      exact ⟨f3, f1, f4, f5⟩
    · exact Nat.ne_of_gt I3.lt
    · intro x c e z
      obtain ⟨v, o, ho, _⟩ := I3.cell x c e
      exact absurd (Heap.lt_size ho) (by rw [z]; exact Nat.lt_irrefl _)
    · intro p hp z
      exact absurd (Heap.lt_size (I3.pin p hp).1) (by rw [z]; exact Nat.lt_irrefl _)
  -- the loop
  have loop : ∀ s4 : Shared, s4 = { s3 with heap := h₁, toks := s2.toks + ([] : List (Str × Value)).length } →
      codeAny (model X.prog X.w) X.A (.compLoop (.ListComp elt [⟨tg, iter, ifs, 0⟩] scope pos) 0 (.ref it) (.ref D) (compEnvC scope cl s3.heap.objs.size X.env)) (compPost (model X.prog X.w) X.A X.xe use Qv (.ref D) s3.heap.objs.size) s4 := by
    rintro s4 rfl
    refine comp_loop (fun n s' => ∃ i ys H', Inv (subCx X scope N cl s3.heap.objs.size s3 H3 fp E') [] (capS ix σ) H' s' ∧ tn i s'.heap ∧ (∀ b ∈ fp, H' b = none) ∧ W i n ys H') ?_ m0 ⟨0, [], H3, I4 _, st4, fpD, w0⟩
    rintro n s5 ⟨i, ys, H5, I5, st5, fr5, w5⟩
    have stat : ∀ {H' : Hp}, (∀ b ∈ fp, H' b = none) → ∀ b ∈ fp, FpOk (subCx X scope N cl s3.heap.objs.size s3 H3 fp E') [] H' b := fun hn b hb => by
      refine ⟨hn b hb, fun z => ?_, fstk b hb, .inl hb, fun x c e => (f2 b hb).2.2.2.2.1 x c (cl1 x c e), fun p hp => (by cases hp)⟩
      have lt := fpl b hb
      have z' : b = s3.heap.objs.size := z
      rw [z', szC] at lt
      exact absurd lt (Nat.not_lt.mpr (Nat.le_succ D))
    rcases turn i n ys H5 w5 with ⟨stop, q⟩ | ⟨go, step⟩
    · refine thn (T.done (subCx X scope N cl s3.heap.objs.size s3 H3 fp E') rfl rfl rfl hc i [] s5 _ H5 E' I5 (stat fr5) st5 stop) fun r s6 ⟨hr, I6⟩ => ?_
      subst hr
      exact fin6 s6 H5 I6 q
    · refine thn (T.item (subCx X scope N cl s3.heap.objs.size s3 H3 fp E') rfl rfl rfl hc i [] s5 _ H5 E' I5 (stat fr5) st5 go) fun r s6 ⟨u, hr, h6⟩ => ?_
      subst hr
      refine thn h6 fun _ s7 ⟨x, H7, I7, r7, y7, st7, fr7⟩ => ?_
      have I7' := I7.pinned (stat fr7) (T.obj _ _ st7)
      refine thn (hg cl s3.heap.objs.size s3 H3 fp E' _ s7 _ H7 x u _ I7' r7 (step x H7 y7)) fun _ s8 ⟨σ8, H8, I8, ext, q8⟩ => ?_
      have again : ∀ {σ9 : St} {H9 : Hp} {s9 : Shared} {m' : Nat} {zs : List V}, Ext (capS ix σ) σ9 → Inv (subCx X scope N cl s3.heap.objs.size s3 H3 fp E') ([] ++ pinsAt fp s7.heap) σ9 H9 s9 → m' < n → W (i + 1) m' zs H9 →
          ∃ m, m < n ∧ ∃ i ys H', Inv (subCx X scope N cl s3.heap.objs.size s3 H3 fp E') [] (capS ix σ) H' s9 ∧ tn i s9.heap ∧ (∀ b ∈ fp, H' b = none) ∧ W i m ys H' := fun {σ9 H9 s9 m' zs} ex I9 hm w9 => by
        refine ⟨m', hm, i + 1, zs, H9, (I9.unpinned).weak ex.1.symm ex.2, T.keep _ _ _ st7 fun b hb o e => (I9.pin (b, o) (List.mem_append_right _ (List.mem_append_right _ (mem_pinsAt hb e)))).1, fun b hb => ?_, w9⟩
        obtain ⟨o, e, d⟩ := T.obj _ _ st7 b hb
        exact (I9.pin (b, o) (List.mem_append_right _ (List.mem_append_right _ (mem_pinsAt hb e)))).2.1
      refine thn (ht cl s3.heap.objs.size s3 H3 fp E' _ s8 σ8 H8 _ I8 q8) fun ok s9 ⟨H9, I9, q9⟩ => ?_
      cases ok with
      | false =>
        obtain ⟨m', hm, w9⟩ := q9
        exact again ext I9 hm w9
      | true =>
        refine thn (he cl s3.heap.objs.size s3 H3 fp E' _ s9 σ8 H9 _ I9 q9) fun u10 s10 ⟨v10, H10, I10, r10, hDl, hlt, m', hm, w10⟩ => ?_
        refine thn (mt_append (X := subCx X scope N cl s3.heap.objs.size s3 H3 fp E') _ s10 σ8 H10 (.ref D) [v10] (.ref D) [u10] (fun _ H' => H' = upd H10 D (.lst (ys ++ [v10]))) I10 rfl (.cons r10 .nil) ⟨D, ys, v10, rfl, rfl, hDl, hlt, rfl⟩) fun _ s11 ⟨_, H11, I11, _, e11⟩ => ?_
        subst e11
        exact again ext I11 hm w10
  exact codeAny_compStart_list (loop _ (by rw [← hs3])) (T.self _ 0 _ _ _ st4 (loop _ (by rw [← hs3])))

/-- a comprehension as a value -/
theorem pe_comp {elt tg iter : Expr} {ifs : List Expr} {scope : Scope} {pos : Pos} {N : List Str} {ix : List (Option Nat)} {wi : TI} {g : TG} {tt : TT} {te : TE}
    (hc : X.calm = true) (hi : PI X tg iter wi) (hk : scope.kind = .function) (hcell0 : noCell scope = true) (hfree0 : freeOk scope X.env = true) (hnames0 : namesOk scope = true) (caps : Caps X scope N ix)
    (hg : ∀ cl C s H fp xe, PG (subCx X scope N cl C s H fp xe) tg g) (ht : ∀ cl C s H fp xe, PTs (subCx X scope N cl C s H fp xe) ifs tt) (he : ∀ cl C s H fp xe, PE (subCx X scope N cl C s H fp xe) elt te)
    (hs : ∀ x, foldedSetIterable iter X.env x = pure x := by intro _; rfl) :
    PE X (.ListComp elt [⟨tg, iter, ifs, 0⟩] scope pos) (tComp wi g tt te ix) := by
  intro pins s σ H Q I h
  rw [eval_ListComp]
  refine comp_core (use := none) hc hi hk hcell0 hfree0 hnames0 caps hg ht he hs I h fun C D H6 s6 B q => ?_
  obtain ⟨m, hn⟩ := B.ns
  exact ⟨m, hn, fun h' hsb => ⟨.ref D, H6, B.gone hsb, rfl, q⟩⟩
/-- y = [.. for ..] on one line: stored ahead of the block's end -/
noncomputable def tSetC (i : Nat) (te : TE) : TS := fun D σ H => te σ H fun x H1 => D.nx (σ.set i (some x)) H1
theorem ps_setComp {i : Nat} {y : Str} {py : Pos} {spos : Pos} {elt tg iter : Expr} {ifs : List Expr} {scope : Scope} {pos : Pos} {N : List Str} {ix : List (Option Nat)} {wi : TI} {g : TG} {tt : TT} {te : TE}
    (hN : X.N.Nodup) (hi' : X.N[i]? = some y) (hx : Loc X.env.scope y) (hsw : swapsWith (.ListComp elt [⟨tg, iter, ifs, 0⟩] scope pos) (some (.Name y py)) spos.line X.env = pure true)
    (hc : X.calm = true) (hi : PI X tg iter wi) (hk : scope.kind = .function) (hcell0 : noCell scope = true) (hfree0 : freeOk scope X.env = true) (hnames0 : namesOk scope = true) (caps : Caps X scope N ix)
    (hg : ∀ cl C s H fp xe, PG (subCx X scope N cl C s H fp xe) tg g) (ht : ∀ cl C s H fp xe, PTs (subCx X scope N cl C s H fp xe) ifs tt) (he : ∀ cl C s H fp xe, PE (subCx X scope N cl C s H fp xe) elt te)
    (hs : ∀ x, foldedSetIterable iter X.env x = pure x := by intro _; rfl) (hf : X.fn y = true ∨ X.env.scope.names.lookup y = some .local := by first | exact .inl rfl | exact .inr rfl | assumption) :
    PS X (.Assign [.Name y py] (.ListComp elt [⟨tg, iter, ifs, 0⟩] scope pos) spos) (tSetC i (tComp wi g tt te ix)) := by
  intro pins s σ H D I h
  rw [exec_Assign_Name_used _ _ _ _ hsw]
  refine wpAny_bind (wpAny_standAt (wpAny_bind ?_))
  show wpAny _ X.A (do let _ ← comprehension (.ListComp elt [⟨tg, iter, ifs, 0⟩] scope pos) scope X.env _ (newList []) false (eval iter X.env) (some (assign (.Name y py) X.env))) _ _ s
  refine wpAny_bind (wpAny_mono (comp_core (use := some (assign (.Name y py) X.env)) (Qv := fun _ s' => SP X pins D .next s') hc hi hk hcell0 hfree0 hnames0 caps hg ht he hs I h fun C a H6 s6 B q => ?_) (fun _ s' hq => wpAny_pure (wpAny_pure hq)) fun _ _ e => e)
  obtain ⟨m, hn⟩ := B.ns
  show wpAny _ X.A (assign (.Name y py) X.env (.ref a)) _ _ s6
  refine wpAny_assign_Name (store_ok2 B.inv hN hi' hx (v := .ref a) rfl (fun s7 I7 ⟨z, hz, hz'⟩ => ?_) hf)
  have hzC : C ≠ z := by
    rcases hz' with e | e
    · rw [e]; exact B.loc
    · exact fun w => B.cell y z e w.symm
  refine ⟨m, hn.sameBut hz hzC, fun h' hsb => ?_⟩
  have B7 : BlockEnd X pins (σ.set i (some (.ref a))) H6 C s7 := ⟨I7, ⟨m, hn.sameBut hz hzC⟩, B.free, B.loc, B.young, B.cell, B.pin⟩
  exact ⟨_, H6, B7.gone hsb, q⟩

/-- over a range, every element a value that needs nothing new -/
theorem comp_range {lo : Int} {n : Nat} {g : TG} {tt : TT} {te : TE} {σ0 : St} {H : Hp} {D : Addr} {Q : VK} (f : Nat → V) (hz : n ≤ sizeLine)
    (hs : ∀ (i : Nat) (H' : Hp) (R : VK) (R0 : Hp → Prop), i < n → (∀ b, b ≠ D → H' b = H b) → R (f i) H' → g (.int (lo + i)) σ0 H' fun σ2 H2 => Ext σ0 σ2 ∧ tt σ2 H2 fun b H3 => if b = true then te σ2 H3 R else R0 H3)
    (hq : Q (.ref D) (upd H D (.lst ((List.range n).map f)))) :
    CompW (Itr lo n) g tt te σ0 D Q H := by
  refine ⟨fun i m ys H' => m = n - i ∧ i ≤ n ∧ ys = (List.range i).map f ∧ H' = upd H D (.lst ys), ⟨n, by simp, Nat.zero_le _, rfl, rfl⟩, ?_⟩
  rintro i m ys H' ⟨rfl, hi, rfl, rfl⟩
  by_cases hlt : i < n
  · refine .inr ⟨hlt, fun x H'' y => ?_⟩
    obtain ⟨e, y⟩ := y
    subst e y
    refine hs i _ _ _ hlt (fun b hb => upd_ne hb) ⟨upd_same, by simp; omega, n - (i + 1), by omega, rfl, hlt, ?_, ?_⟩
    · rw [List.range_succ, List.map_append]; rfl
    · rw [upd_upd]
  · have e : i = n := by omega
    subst e
    exact .inl ⟨Nat.le_refl _, hq⟩
/-- over a list that stays, every element a value that needs nothing new -/
theorem comp_list {K : PySem.W.Frag} {a : Addr} {xs : List V} {g : TG} {tt : TT} {te : TE} {σ0 : St} {H : Hp} {D : Addr} {Q : VK} (f : V → V) (hz : xs.length ≤ sizeLine) (hx : SqL K H a xs) (hD : H D = none)
    (hs : ∀ (i : Nat) (x : V) (H' : Hp) (R : VK) (R0 : Hp → Prop), xs[i]? = some x → (∀ b, b ≠ D → H' b = H b) → R (f x) H' → g x σ0 H' fun σ2 H2 => Ext σ0 σ2 ∧ tt σ2 H2 fun b H3 => if b = true then te σ2 H3 R else R0 H3)
    (hq : Q (.ref D) (upd H D (.lst (xs.map f)))) :
    CompW (Itl K a) g tt te σ0 D Q H := by
  have stays : ∀ ys : List V, SqL K (upd H D (.lst ys)) a xs := fun ys => by
    have sm : Same H (upd H D (.lst ys)) := fun b u q => by rw [upd_ne (ne_of_none q hD)]; exact q
    exact sm.seq hx
  refine ⟨fun i m ys H' => m = xs.length - i ∧ i ≤ xs.length ∧ ys = (xs.take i).map f ∧ H' = upd H D (.lst ys), ⟨xs.length, by simp, Nat.zero_le _, by simp, rfl⟩, ?_⟩
  rintro i m ys H' ⟨rfl, hi, rfl, rfl⟩
  by_cases hlt : i < xs.length
  · refine .inr ⟨⟨xs, xs[i], stays _, by simp [hlt]⟩, fun x H'' y => ?_⟩
    obtain ⟨e, y⟩ := y
    subst e
    have ex := y xs (stays _)
    refine hs i x _ _ _ ex (fun b hb => upd_ne hb) ⟨upd_same, by simp; omega, xs.length - (i + 1), by omega, rfl, hlt, ?_, ?_⟩
    · rw [List.take_add_one, ex, List.map_append]; rfl
    · rw [upd_upd]
  · have e : i = xs.length := by omega
    subst e
    refine .inl ⟨⟨xs, stays _, Nat.le_refl _⟩, ?_⟩
    rw [List.take_length]
    exact hq
end
end L2

set_option Elab.async false
set_option linter.all false
set_option maxRecDepth 100000
set_option maxHeartbeats 4000000
/-! Own rules over the layer: exceptions of own classes, raised, passed on, caught. -/
namespace L2
open PySem PySem.Spec PyProof.Rows
section
variable {P : Program} {w : World} {H : Hp} {h h' : Heap} {a : Addr} {o : HO}
end

/-- an exception of class cls at e, its trace at T -/
noncomputable def Tr (h : Heap) (e T : Addr) (cls : Value) : Prop := ∃ oe vs oT ts a0, h.get? e = some oe ∧ oe.cls = cls ∧ vs[0]? = some a0 ∧ oe.data = .fields vs ∧ vs[1]? = some (.ref T) ∧ T ≠ e ∧ h.get? T = some oT ∧ oT.data = .fields ts ∧ ts[3]? = some Value.none
section
variable {M : Model} {A : Around} {E : Value → Shared → Prop} {s : Shared} {Q : Unit → Shared → Prop} {base : Heap} {env : Env} {outer l : List Env} {L e T : Addr} {cls : Value}
end

/-! ### the state while an exception goes by -/
section
variable {X : Cx} {pins : List (Addr × Obj)} {σ : St} {H : Hp} {s : Shared} {h' : Heap} {ch : List Addr}
/-- what may change is ours: not of the entry, no pin, no cell, not tracked -/
structure Ours (X : Cx) (pins : List (Addr × Obj)) (H : Hp) (b : Addr) : Prop where
  new : X.s₀.heap.get? b = none
  free : H b = none
  loc : b ≠ X.env.locals
  cell : ∀ x c, X.env.cells.lookup x = some c → c ≠ b
  pin : ∀ p ∈ X.pn ++ pins, p.1 ≠ b
end

/-! ### how an exception lies behind a call -/
noncomputable def CX1 (P : Program) (w : World) : CXT := fun outer H s E e s' => ∃ (ea T : Addr) (cls : Value) (H' : Hp), e = .ref ea ∧ s.heap.get? ea = none ∧ s.heap.get? T = none ∧ H' ea = none ∧ H' T = none ∧ Tr s'.heap ea T cls ∧
  s'.os = s.os ∧ AllBare s'.gens ∧ Un (frs outer) [] H H' s.heap s'.heap ∧ HOk P w H' s'.heap ∧ E cls none H'
theorem passN {P : Program} {w : World} {X : Cx} : Passes (CX1 P w) X E0 := fun _ _ _ _ _ _ _ ⟨_, _, _, _, _, _, _, _, _, _, _, _, _, _, q⟩ => q.elim
section
variable {P : Program} {w : World} {K : PySem.W.Frag} {mg : Str → Option Value} {base : Heap} {N : List Str} {qual : Str} {scope : Scope} {f : Addr} {cd : Value} {A : Around} {outer : List Env} {s : Shared} {H : Hp} {E : XK}
end
section
variable {P : Program} {w : World} {K : PySem.W.Frag} {mg : Str → Option Value} {base : Heap}
/-- a def that raises nothing, where exceptions may lie -/
theorem FnOk.up {CX : CXT} {k : Nat} {f : Addr} {fd : FuncData} {ps : List Str} {sp : Sp} (F : FnOk P w K mg base CX0 k f fd ps sp) : FnOk P w K mg base CX k f fd ps sp :=
  ⟨F.len, fun A outer s H args us vs Q E hr he hb hv hs => codeAny_mono (F.run A outer s H args us vs Q E hr he hb hv hs) fun r s' q => by
    cases r with
    | error e => exact False.elim q
    | ok fl => cases fl <;> exact q⟩
end

/-! ### raise C(..), C an own class under ValueError without an __init__ of its own -/
/-! ### try: f(..), except C as n: .. -/
section
variable {X : Cx} {pins : List (Addr × Obj)} {σ : St} {H : Hp} {s : Shared} {e : Addr}
end
end L2

set_option Elab.async false
set_option linter.all false
set_option maxRecDepth 100000
set_option maxHeartbeats 4000000
/-! Own words over the layer: a def with all that a caller asks of it, calls, boots, stores. -/
namespace L2
open PySem PySem.Spec PyProof.Rows
/-- a def of the text, its promise, and how it is called -/
structure Def (P : Program) (w : World) (K : PySem.W.Frag) (mg : Str → Option Value) (base : Heap) (x : Str) (ps : List Str) (k : Nat) (sp : Sp) (f : Addr) (fd : FuncData) : Prop where
  ok : FnOk P w K mg base (CX1 P w) k f fd ps sp
  b : Binds K fd ps []
  kp : PySem.W.keepIn K (.ref f) = true
  m : mg x = some (.ref f)
section
variable {X : Cx} {f : Addr} {fd : FuncData} {ps : List Str} {sp : Sp} {x : Str} {p pos : Pos} {e : Expr} {es : List Expr} {t : TA} {j k : Nat}
theorem pcall (D : Def X.prog X.w X.K X.mg X.base x ps j sp f fd) (hr : Room k X.A) (ha : PA X (e :: es) t) (hjk : j ≤ k := by decide) (hg : Gl X x := by rfl)
    (hdb : (x == ("__debug__" : Str)) = false := by decide) (he : starEach (e :: es) X.env = (false, eval e X.env) :: starEach es X.env := by rfl) (hpl : (backTo pos (starEach es X.env)).any (·.1) = false := by rfl) :
    PE X (.Call (.Name x p) (e :: es) [] pos) (tCall sp [] E0 t) := pe_call D.ok (hr.mono hjk) hg D.m D.kp D.b .nil passN ha hdb he hpl
end
theorem bb_isinstance : bootBuiltins "isinstance" = some (.builtin "isinstance") := by decide +kernel
theorem bb_int : bootBuiltins "int" = some (.type "int") := by decide +kernel
theorem bb_bool : bootBuiltins "bool" = some (.type "bool") := by decide +kernel
theorem bb_list : bootBuiltins "list" = some (.type "list") := by decide +kernel
theorem bb_min : bootBuiltins "min" = some (.builtin "min") := by decide +kernel
theorem bb_len : bootBuiltins "len" = some (.builtin "len") := by decide +kernel
theorem Same.upd {H H' : Hp} (h : Same H H') {p : Addr} (n : H p = none) (o : HO) : Same H (L2.upd H' p o) := fun b u q => by
  rw [upd_ne (ne_of_none q n)]; exact h b u q
theorem Same.new {H H' : Hp} (h : Same H H') {p : Addr} (n : H' p = none) (o : HO) : Same H (L2.upd H' p o) := h.trans fun b u q => by
  rw [upd_ne (ne_of_none q n)]; exact q
theorem sz {n : Nat} (h : n ≤ 1000000) : n ≤ sizeLine := Nat.le_trans h (by decide)
theorem sz' {n : Nat} (h : n ≤ 1000000) : n < sizeLine := Nat.lt_of_le_of_lt h (by decide)
/-- x in {int} and not bool: what isinstance says of an int -/
theorem kit_int_int {K : PySem.W.Frag} : PySem.W.kitOne K (.type "int") (.type "int") = some true := by rfl
theorem kit_list_list {K : PySem.W.Frag} : PySem.W.kitOne K (.type "list") (.type "list") = some true := by rfl
theorem kit_int_bool {K : PySem.W.Frag} : PySem.W.kitOne K (.type "int") (.type "bool") = some false := by rfl
theorem atI_int {ns : List Int} {i : Int} (h0 : 0 ≤ i) (h1 : i < (ns.length : Int)) : atI (ns.map V.int) i = some (.int (ns.getD i.toNat 0)) := by
  have hk : i.toNat < ns.length := by omega
  have ek : i = ((i.toNat : Nat) : Int) := by omega
  have q : atI (ns.map V.int) ((i.toNat : Nat) : Int) = some (.int (ns.getD i.toNat 0)) := atI_nat (by rw [List.getElem?_map, List.getD_eq_getElem?_getD, List.getElem?_eq_getElem hk] <;> rfl)
  rw [← ek] at q
  exact q
end L2
namespace L2
open PySem PySem.Spec PyProof.Rows
theorem ttN {σ : St} {H : Hp} {F : Bool → Hp → Prop} (h : F true H) : ttNil σ H F := h
theorem ix_listK {X : Cx} {K : PySem.W.Frag} (h : X.K = K) : IxR X (rIxL K) := h ▸ ix_list
theorem pm {j : Int} (h : 0 < j) : 0 < j := h
/-- the items of a cut list of ints -/
noncomputable def cutI (ns : List Int) (lo hi : Option Int) : List Int := (ns.drop (HT.sIx ns.length 0 lo)).take (HT.sIx ns.length ns.length hi - HT.sIx ns.length 0 lo)
theorem cutV_map (ns : List Int) (lo hi : Option Int) : cutV (ns.map V.int) lo hi = (cutI ns lo hi).map V.int := by
  unfold cutV cutI
  rw [List.length_map, List.map_take, List.map_drop]
theorem get_int {ns : List Int} {i : Nat} {x : V} (h : (ns.map V.int)[i]? = some x) : ∃ c, x = .int c := by
  rw [List.getElem?_map] at h
  cases e : ns[i]? with
  | none => rw [e] at h; cases h
  | some c => rw [e] at h; cases h; exact ⟨c, rfl⟩
end L2
namespace L2
open PySem PySem.Spec PyProof.Rows
/-- a sequence cut at what holds between -/
noncomputable def tCut (t u : TS) : TS := fun D σ H => ∃ P : St → Hp → Prop, t { D with nx := P } σ H ∧ ∀ σ' H', P σ' H' → u D σ' H'
theorem pss_cut {X : Cx} {st : Stmt} {rest : List Stmt} {t u : TS} (h1 : PS X st t) (h2 : PSs X rest u) : PSs X (st :: rest) (tCut t u) := by
  intro pins s σ H D I h
  obtain ⟨P, ha, hb⟩ := h
  refine wpAny_execs_cons (thn (h1 pins s σ H { D with nx := P } I ha) fun f s1 q => ?_)
  cases f with
  | next =>
    obtain ⟨σ', H', I', q⟩ := q
    exact h2 pins s1 σ' H' D I' (hb σ' H' q)
  | ret v => exact q
  | brk => exact q
  | cont => exact q
theorem iteP {c A B : Prop} [Decidable c] (hc : c) (h : A) : if decide c = true then A else B := by rw [decide_eq_true hc]; exact iteT h
theorem iteN {c A B : Prop} [Decidable c] (hc : ¬ c) (h : B) : if decide c = true then A else B := by rw [decide_eq_false hc]; exact iteF h
theorem ixN_nat {n : Nat} {i : Int} (h0 : 0 ≤ i) (h1 : i < n) : ixN n i = some i.toNat := by unfold ixN; rw [if_pos h0, if_pos h1]
end L2

/-! Mathematics of the counts: the rule, the shares, the rests. No library. -/
namespace Ck
end Ck

/-! Mathematics of the rests and of the places of texts. -/
namespace Ck
/-- r(u, d) -/
noncomputable def r : Nat → Nat → Int
  | 0, _ => 1
  | _ + 1, 0 => 0
  | u + 1, d + 1 => if d < u then 0 else r u (d + 1) + r (u + 1) d
/-- the row of u for a size n -/
noncomputable def row (n u : Nat) : List Int := (List.range (n + 1 - u)).map fun i => r u (u + i)
/-- r by reckoning over naturals, for the equality with the shares -/
noncomputable def scanN (a : Nat) : List Nat → List Nat
  | [] => []
  | x :: l => (x + a) :: scanN (x + a) l
noncomputable def rowN (n : Nat) : Nat → List Nat
  | 0 => List.replicate (n + 1) 1
  | u + 1 => scanN 0 ((rowN n u).drop 1)
/-- the product of k factors -/
noncomputable def pw (a : Int) : Nat → Int
  | 0 => 1
  | k + 1 => pw a k * a
end Ck

/-! Mathematics of texts that close: signs are codes, 40 is the opening one, 41 the closing one. u of the first and d of the second are still to come. -/
namespace Ck
/-- the order of texts, the opening sign first -/
noncomputable def lt : List Nat → List Nat → Bool
  | c :: s, e :: t => if c = e then lt s t else c == 40
  | _, _ => false
end Ck

set_option Elab.async false
set_option linter.all false
set_option maxRecDepth 100000
set_option maxHeartbeats 4000000
/-! Texts as lists of codes: slices, counts, repeats. -/
namespace Ck
open PySem
/-- a bound of a slice as a place -/
noncomputable def ix (n d : Nat) : Option Int → Nat
  | none => d
  | some v => if v < 0 then (v + (n : Int)).toNat else min v.toNat n
end Ck

set_option Elab.async false
set_option linter.all false
set_option maxRecDepth 100000
set_option maxHeartbeats 4000000
/-! Where the mathematics and the layer meet. -/
namespace Ck
open PySem L2
end Ck
namespace L2
open PySem
theorem rep_one (k : Nat) (v : V) : (List.replicate k [v]).flatten = List.replicate k v := by
  induction k with
  | zero => rfl
  | succ k ih => rw [List.replicate_succ, List.flatten_cons, ih, List.replicate_succ]; rfl
end L2
namespace Ck
open PySem L2
end Ck
namespace L2
open PySem PySem.Spec PyProof.Rows
end L2
namespace Ck
open PySem L2
end Ck

set_option Elab.async false
set_option linter.all false
set_option maxRecDepth 100000
set_option maxHeartbeats 4000000
/-! Own rules over the layer: a range that goes down, lists compared, isinstance of an exception. -/
namespace L2
open PySem PySem.Spec PyProof.Rows
/-- lo, lo - 1, .. (n of them) -/
noncomputable def Itd (lo : Int) (n : Nat) : It := ⟨fun i _ => i < n, fun i H x H' => H' = H ∧ x = .int (lo - i), fun i _ => n ≤ i⟩
theorem turn_down {P : Program} {w : World} {K : PySem.W.Frag} {tg : Expr} (it : Addr) (lo : Int) (n : Nat) : Turn P w K tg (Itd lo n) [it] it (fun i h => IsRangeIter h it (lo + (i : Nat) * (-1)) ((n : Int) - (i : Nat)) (-1)) where
  mem := by simp
  obj := fun i h st b hb => by
    have e : b = it := by simpa using hb
    subst e
    exact ⟨_, st, fun v z => by
      have z' : Data.fields _ = Data.cell v := z
      cases z'⟩
  keep := fun i h h' st k => k it (by simp) _ st
  item := by
    intro X hP hw hK hc i pins s σ H E I hf st hg
    subst hP hw hK
    obtain ⟨f0, f1, f2, f3, f4, f5⟩ := hf it (by simp)
    refine (Walks.range (prog := X.prog) (w := X.w) (I.ok.hd hc) it lo (-1) n).item i s _ _ hg st fun v h' tk hv st' kk => ?_
    obtain ⟨t, rfl⟩ := hv
    have I1 : Inv X pins σ H { s with heap := h', toks := tk } := I.turned (fun b o hb e => kk b o (by simpa using hb) e) f0 f1 f3 f4 f5
    refine ⟨_, rfl, go_of (s := { s with heap := h', toks := tk }) (n := "range_iterator") st' rfl rfl (by decide) ⟨.int (lo - i), H, I1, ⟨t, ?_⟩, ⟨rfl, rfl⟩, st', fun b hb => (hf b hb).1⟩⟩
    rw [show lo + (i : Int) * (-1) = lo - (i : Int) by omega]
  done := by
    intro X hP hw hK hc i pins s σ H E I hf st hg
    subst hP hw hK
    obtain ⟨f0, f1, f2, f3, f4, f5⟩ := hf it (by simp)
    exact wpAny_pyNext_range_end (I.ok.hd hc) st (by have : n ≤ i := hg; omega) fun h' eb => ⟨rfl, I.turned (t' := s.toks) (fun b o hb e => eb b o hb e) f0 f1 f3 f4 f5⟩
  self := fun _ _ _ _ _ st h => wpAny_pyIter_rangeiter st h
section
variable {X : Cx} {tg : Expr}
theorem down_it {pins : List (Addr × Obj)} {σ : St} {H : Hp} {s : Shared} {R : It → Hp → Prop} {E : Value → Shared → Prop} {lo hi : Int} {t u v : Tok} {tk : Nat} (I : Inv X pins σ H s) (h1 : -(2 ^ 62) ≤ lo) (h2 : lo < 2 ^ 62) (h3 : -(2 ^ 62) ≤ hi) (h4 : hi < 2 ^ 62)
    (q : R (Itd lo (lo - hi).toNat) H) : wpAny (model X.prog X.w) X.A (pyIter (.ref s.heap.objs.size)) (PIE X pins σ tg R) E { s with heap := s.heap.push { cls := .type "range", data := .fields #[.int lo t, .int hi u, .int (-1) v] }, toks := tk } := by
  refine wpAny_pyIter_range (IsRange.new ..) (PySem.W.small_down h1 h2 h3 h4) ?_
  have I1 : Inv X pins σ H { s with heap := s.heap.push { cls := .type "range", data := .fields #[.int lo t, .int hi u, .int (-1) v] }, toks := tk } := I.kept fun b o e => Heap.get?_push_of_some _ e
  refine ⟨(s.heap.push { cls := .type "range", data := .fields #[.int lo t, .int hi u, .int (-1) v] }).objs.size, [(s.heap.push { cls := .type "range", data := .fields #[.int lo t, .int hi u, .int (-1) v] }).objs.size], _, _, H, rfl,
    I1.kept (t' := tk) fun b o e => Heap.get?_push_of_some _ e, turn_down _ lo (lo - hi).toNat, ?_, fun b hb => ?_, q⟩
  · have e1 : lo + ((0 : Nat) : Int) * (-1) = lo := by simp
    have e2 : (((lo - hi).toNat : Nat) : Int) - ((0 : Nat) : Int) = Builtin.Range.rangeSize lo hi (-1) := by rw [PySem.W.rangeSize_downNat]; simp
    show IsRangeIter _ _ (lo + ((0 : Nat) : Int) * (-1)) ((((lo - hi).toNat : Nat) : Int) - ((0 : Nat) : Int)) (-1)
    rw [e1, e2]
    exact Heap.get?_push_size _ rfl
  · have e : b = (s.heap.push { cls := .type "range", data := .fields #[.int lo t, .int hi u, .int (-1) v] }).objs.size := by simpa using hb
    subst e
    exact I1.fpOk (Nat.le_refl _) (I1.hok.fresh (Nat.le_refl _))
noncomputable def iDown (ta : TA) : TI := fun σ H R => ta σ H fun vs H1 => ∃ i j : Int, vs = [.int i, .int j, .int (-1)] ∧ (-(2 ^ 62) ≤ i ∧ i < 2 ^ 62 ∧ -(2 ^ 62) ≤ j ∧ j < 2 ^ 62) ∧ R (Itd i (i - j).toNat) H1
theorem pi_down {a b c : Expr} {ta : TA} {p pos : Pos} (hg : Gl X "range") (hm : X.mg "range" = none) (ha : PA X [a, b, c] ta) (hs : starEach [a, b, c] X.env = [(false, eval a X.env), (false, eval b X.env), (false, eval c X.env)] := by rfl) (hs2 : starEach [b, c] X.env = [(false, eval b X.env), (false, eval c X.env)] := by rfl) :
    PI X tg (.Call (.Name "range" p) [a, b, c] [] pos) (iDown ta) := by
  intro pins s σ H R I h
  refine Call_ (ld_blt I hg hm boot_range (PyProof.Rows.callWith_type1 (thn (ha pos pins s σ H _ I h) fun us s1 ⟨vs, H1, I1, r1, q1⟩ => ?_) (by rw [hs, hs2]) (by rw [hs2]; rfl)))
  obtain ⟨i, j, e, ⟨q1, q2, q3, q4⟩, q⟩ := q1
  subst e
  obtain ⟨u1, u2, u3, rfl, ⟨t, rfl⟩, ⟨t', rfl⟩, t'', rfl⟩ : ∃ u1 u2 u3, us = [u1, u2, u3] ∧ RelV (.int i) u1 ∧ RelV (.int j) u2 ∧ RelV (.int (-1)) u3 := by
    cases r1 with
    | cons r rr => cases rr with
      | cons r' rr => cases rr with
        | cons r'' rr => cases rr; exact ⟨_, _, _, rfl, r, r', r''⟩
  exact call_range_3 (by decide) (down_it I1 q1 q2 q3 q4 q) (.inl (PyProof.noPylong_small (by decide)))
theorem for_down {lo : Int} {n : Nat} {g : TG} {tb : TS} {D : Ends} {σ : St} {H : Hp} (Pv : Nat → St → Hp → Prop) (h0 : Pv 0 σ H)
    (hs : ∀ i σ H, i < n → Pv i σ H → g (.int (lo - i)) σ H fun σ2 H2 => tb { D with nx := Pv (i + 1), ct := Pv (i + 1), bk := D.nx } σ2 H2) (hd : ∀ σ H, Pv n σ H → D.nx σ H) :
    ∃ W : Nat → Nat → St → Hp → Prop, (∃ m, W 0 m σ H) ∧ ∀ i m σ H, W i m σ H →
      ((Itd lo n).stop i H ∧ D.nx σ H) ∨ ((Itd lo n).go i H ∧ ∃ N : St → Hp → Prop, (∀ σ' H', N σ' H' → ∃ m', m' < m ∧ W (i + 1) m' σ' H') ∧ ∀ x H', (Itd lo n).yld i H x H' → g x σ H' fun σ2 H2 => tb { D with nx := N, ct := N, bk := D.nx } σ2 H2) := by
  refine ⟨fun i m σ H => m = n - i ∧ i ≤ n ∧ Pv i σ H, ⟨n, by simp, Nat.zero_le _, h0⟩, ?_⟩
  rintro i m σ H ⟨rfl, hi, p⟩
  by_cases hlt : i < n
  · refine .inr ⟨hlt, Pv (i + 1), fun σ' H' p' => ⟨n - (i + 1), by omega, rfl, hlt, p'⟩, fun x H' y => ?_⟩
    obtain ⟨rfl, rfl⟩ := y
    exact hs i σ _ hlt p
  · have e : i = n := by omega
    subst e
    exact .inl ⟨Nat.le_refl _, hd σ H p⟩
end

/-! ### lists of plain values compared -/
noncomputable def eqL : List V → List V → Bool
  | [], [] => true
  | x :: xs, y :: ys => eqV x y && eqL xs ys
  | _, _ => false
theorem eqL_len : ∀ {xs ys : List V}, xs.length ≠ ys.length → eqL xs ys = false
  | [], [], h => absurd rfl h
  | [], _ :: _, _ => rfl
  | _ :: _, [], _ => rfl
  | x :: xs, y :: ys, h => by
    rw [eqL, eqL_len (xs := xs) (ys := ys) (by simpa using h), Bool.and_false]
theorem eqL_all : ∀ {xs ys : List V}, xs.length = ys.length → (List.range xs.length).all (fun j => eqV (xs.getD j .non) (ys.getD j .non)) = eqL xs ys
  | [], [], _ => rfl
  | x :: xs, y :: ys, h => by
    rw [eqL, ← eqL_all (xs := xs) (ys := ys) (by simpa using h), List.length_cons, List.range_succ_eq_map, List.all_cons, List.all_map]
    rfl
noncomputable def rEqL (K : PySem.W.Frag) (neg : Bool) : R2 := fun x y H Q => ∃ a b xs ys, x = .ref a ∧ y = .ref b ∧ SqL K H a xs ∧ SqL K H b ys ∧ xs.all flatV = true ∧ ys.all flatV = true ∧ Q (.bl (if neg then !eqL xs ys else eqL xs ys)) H
section
variable {X : Cx}
theorem items_eqAt {A : Around} {s : Shared} {xs ys : List V} {us vs : List Value} (r : Vals xs us) (r' : Vals ys vs) (fx : xs.all flatV = true) (fy : ys.all flatV = true) :
    ∀ j (h1 : j < us.toArray.size) (h2 : j < vs.toArray.size), SeqAt.EqAt A s us.toArray[j] vs.toArray[j] (eqV (xs.getD j .non) (ys.getD j .non)) := fun j h1 h2 => by
  have l1 := r.length
  have l2 := r'.length
  have h1' : j < us.length := by simpa using h1
  have h2' : j < vs.length := by simpa using h2
  obtain ⟨u, eu, ru⟩ := r.get (List.getElem?_eq_getElem (show j < xs.length by omega))
  obtain ⟨v, ev, rv⟩ := r'.get (List.getElem?_eq_getElem (show j < ys.length by omega))
  have e1 : us.toArray[j] = u := by
    rw [List.getElem?_eq_getElem h1'] at eu
    simpa using eu
  have e2 : vs.toArray[j] = v := by
    rw [List.getElem?_eq_getElem h2'] at ev
    simpa using ev
  rw [e1, e2]
  have g1 : xs.getD j .non = xs[j]'(by omega) := by rw [List.getD_eq_getElem?_getD, List.getElem?_eq_getElem (show j < xs.length by omega)]; rfl
  have g2 : ys.getD j .non = ys[j]'(by omega) := by rw [List.getD_eq_getElem?_getD, List.getElem?_eq_getElem (show j < ys.length by omega)]; rfl
  rw [g1, g2]
  exact eqAt_V ru rv (List.all_eq_true.mp fx _ (List.getElem_mem _)) (List.all_eq_true.mp fy _ (List.getElem_mem _))
theorem op_eq_list (hu : X.A.units < cLine) : OpR X (compareOp .Eq) (rEqL X.K false) := by
  intro pins s σ H x y v u Q I rx ry h
  obtain ⟨a, b, xs, ys, rfl, rfl, ha, hb, fx, fy, q⟩ := h
  cases rx
  cases ry
  obtain ⟨us, r, pl, hz⟩ := I.list ha
  obtain ⟨vs, r', pl', hz'⟩ := I.list hb
  have l1 := r.length
  have l2 := r'.length
  by_cases hl : xs.length = ys.length
  · refine SeqAt.eq_listAt (e := fun j => eqV (xs.getD j .non) (ys.getD j .non)) pl.isList pl'.isList (by simp; omega) hu (items_eqAt r r' fx fy) ⟨.bl _, H, I, rfl, ?_⟩
    rw [show us.toArray.size = xs.length by simp; omega, eqL_all hl]
    exact q
  · refine SeqAt.eq_list_lengthsAt pl.isList pl'.isList (by simp; omega) hu ⟨.bl false, H, I, rfl, ?_⟩
    rw [← eqL_len hl]
    exact q
theorem op_ne_list (hu : X.A.units < cLine) : OpR X (compareOp .NotEq) (rEqL X.K true) := by
  intro pins s σ H x y v u Q I rx ry h
  obtain ⟨a, b, xs, ys, rfl, rfl, ha, hb, fx, fy, q⟩ := h
  cases rx
  cases ry
  obtain ⟨us, r, pl, hz⟩ := I.list ha
  obtain ⟨vs, r', pl', hz'⟩ := I.list hb
  have l1 := r.length
  have l2 := r'.length
  by_cases hl : xs.length = ys.length
  · refine SeqAt.RcNeAt.lists (e := fun j => eqV (xs.getD j .non) (ys.getD j .non)) pl.isList pl'.isList (by simp; omega) hu (items_eqAt r r' fx fy) _ _ _ _ ⟨.bl _, H, I, rfl, ?_⟩
    rw [show us.toArray.size = xs.length by simp; omega, eqL_all hl]
    exact q
  · refine SeqAt.RcNeAt.lists_lengths pl.isList pl'.isList (by simp; omega) hu _ _ _ _ ⟨.bl true, H, I, rfl, ?_⟩
    have z := eqL_len hl
    rw [z] at q
    exact q
end
end L2

set_option Elab.async false
set_option linter.all false
set_option maxRecDepth 100000
set_option maxHeartbeats 4000000
/-! Own rules: what isinstance says of a caught exception; the program's classes of refusals. -/
namespace L2
open PySem PySem.Spec PyProof.Rows PySem.W Builtin Builtin.ObjectAttr Builtin.Getset_descriptor
section
variable {K : Frag} {e C : Addr} {M : Model} {h : Heap} {prog : Program} {w : World} {A : Around} {E : Value → Shared → Prop} {s : Shared}
end
section
variable {K : Frag} {e C : Addr} {M : Model} {h : Heap} {prog : Program} {w : World} {A : Around} {E : Value → Shared → Prop} {s : Shared}
end
section
variable {X : Cx}
theorem relRef {a : Addr} : ∀ u, RelV (.ref a) u → u = Value.ref a := fun _ h => h
theorem hu0 {A : Around} {k : Nat} (hr : Room k A) : A.units < cLine := Nat.lt_of_succ_lt (hu_of hr)
end
end L2
namespace Ck
open PySem L2
end Ck

set_option Elab.async false
set_option linter.all false
set_option maxRecDepth 100000
set_option maxHeartbeats 4000000
/-! Own rules: methods with all that a caller asks of them, tried ones too; except without a name. -/
namespace L2
open PySem PySem.Spec PyProof.Rows
/-- a method of the text (or any def that is not called by its name), its promise, and how it is called -/
structure MDef (P : Program) (w : World) (K : PySem.W.Frag) (mg : Str → Option Value) (base : Heap) (ps : List Str) (k : Nat) (sp : Sp) (f : Addr) (fd : FuncData) : Prop where
  ok : FnOk P w K mg base (CX1 P w) k f fd ps sp
  b : Binds K fd ps []
section
variable {X : Cx} {C f : Addr} {fd : FuncData} {ps : List Str} {sp : Sp} {m : Str} {apos pos : Pos} {o e : Expr} {es : List Expr} {ta : TE} {t : TA} {j k : Nat}
theorem pmeth {pl : Sem Bool} (ho : PE X o ta) (c : Cls X.K C) (hm : Meth X.K C m f) (D : MDef X.prog X.w X.K X.mg X.base ps j sp f fd) (hr : Room k X.A) (ha : PA X (e :: es) t) (hjk : j ≤ k := by decide)
    (hst : starEach (e :: es) X.env = (false, eval e X.env) :: starEach es X.env := by rfl) (hpl : (backTo pos (starEach es X.env)).any (·.1) = false := by rfl)
    (ht : eval (.Call (.Attribute o m apos) (e :: es) [] pos) X.env = (do
      let ov ← eval o X.env
      standAt apos.atName
      let (f, first) ← holding [ov] (getMethod ov m pl)
      callWith pos f first (backTo pos (starEach (e :: es) X.env)) (backToKw pos (keywordEach [] X.env))) := by rfl) :
    PE X (.Call (.Attribute o m apos) (e :: es) [] pos) (tMeth C m sp [] E0 ta t) := pe_meth ho c hm D.ok (hr.mono hjk) D.b .nil passN ha hst hpl ht
end
/-! ### C.m(self, ..): a base class's method by the class's name -/
structure ClsM (K : PySem.W.Frag) (C : Addr) (m : Str) (f : Addr) : Prop where
  hg : PySem.W.specialIn K (.ref C) "__getattribute__" = some (some (.builtin "type.__getattribute__"))
  rd : PySem.W.readsIn K C (.type "type") = true
  at_ : PySem.W.findCls K (.ref C) (.type "type") m = some (.val (.ref f))
  kp : PySem.W.keepIn K (.ref f) = true
section
variable {X : Cx} {C f : Addr} {fd : FuncData} {ps : List Str} {sp : Sp} {x m : Str} {p apos pos : Pos} {e : Expr} {es : List Expr} {t : TA} {j k : Nat}
theorem pcls {pl : Sem Bool} (hm : X.mg x = some (.ref C)) (M : ClsM X.K C m f) (D : MDef X.prog X.w X.K X.mg X.base ps j sp f fd) (hr : Room k X.A) (ha : PA X (e :: es) t) (hjk : j ≤ k := by decide) (hg : Gl X x := by rfl)
    (hdb : (x == ("__debug__" : Str)) = false := by decide) (hst : starEach (e :: es) X.env = (false, eval e X.env) :: starEach es X.env := by rfl) (hpl : (backTo pos (starEach es X.env)).any (·.1) = false := by rfl)
    (ht : eval (.Call (.Attribute (.Name x p) m apos) (e :: es) [] pos) X.env = (do
      let ov ← eval (.Name x p) X.env
      standAt apos.atName
      let (f, first) ← holding [ov] (getMethod ov m pl)
      callWith pos f first (backTo pos (starEach (e :: es) X.env)) (backToKw pos (keywordEach [] X.env))) := by rfl) :
    PE X (.Call (.Attribute (.Name x p) m apos) (e :: es) [] pos) (tCall sp [] E0 t) := by
  intro pins s σ H Q I h
  refine PySem.W.methodCall_KW (pl := pl) (ld_glob I hg hm ?_ hdb) ht
  refine PySem.W.method_cls I.kIn M.hg (PySem.W.cls_value I.kIn M.rd M.at_ rfl ?_)
  have I1 : Inv X pins σ H { s with toks := s.toks + 1 } := I.tok _
  refine PySem.W.callWith_K (first := []) (h₀ := X.base) I.ok.mod.kin M.kp (thn (ha pos pins _ σ H _ I1 h) fun us s2 ⟨vs, H2, I2, r, q2⟩ => ⟨I2.kIn, ?_⟩) hst hpl
  exact run_fn D.ok (hr.mono hjk) D.b .nil passN I2 r q2
end

section
variable {X : Cx} {C f : Addr} {fd : FuncData} {ps : List Str} {sp : Sp} {x : Str} {p pos : Pos} {j k : Nat}
/-- C(): a new object -/
theorem pmake0 (M : Mk X.K C f) (hm : X.mg x = some (.ref C)) (D : MDef X.prog X.w X.K X.mg X.base ps j sp f fd) (hr : Room k X.A) (hjk : j + 1 ≤ k := by decide) (hg : Gl X x := by rfl) (hdb : (x == ("__debug__" : Str)) = false := by decide) :
    PE X (.Call (.Name x p) [] [] pos) (tMake C sp [] E0 tNil) := pe_make0 M D.ok (hr.mono hjk) hg hm D.b .nil passN hdb
end
end L2
namespace L2
open PySem
/-! ### a def that calls itself: by a number that falls -/
noncomputable def below (N : Nat) (sp : Nat → Sp) : Sp := fun vs H Q E => ∃ m, m < N ∧ sp m vs H Q E
end L2

set_option Elab.async false
set_option linter.all false
set_option maxRecDepth 100000
set_option maxHeartbeats 4000000
/-! Own rules: == and != of lists and tuples within one another; is True, is False. -/
namespace L2
open PySem PySem.Spec PyProof.Rows
section
variable {X : Cx} {pins : List (Addr × Obj)} {σ : St} {H : Hp} {s : Shared}
end
end L2

set_option Elab.async false
set_option linter.all false
set_option maxRecDepth 100000
set_option maxHeartbeats 4000000
/-! Own rules: list.insert, list.remove, min and max of a list of ints, enumerate. -/
namespace L2
open PySem PySem.Spec PyProof.Rows
section
variable {X : Cx}
/-- min(xs), max(xs) of ints -/
theorem call_minL (hc : X.calm = true) : CallR X (.builtin "min") (fun xs H Q => ∃ p ns, xs = [.ref p] ∧ SqL X.K H p (ns.map V.int) ∧ ns ≠ [] ∧ ∀ M, M ∈ ns → (∀ a ∈ ns, M ≤ a) → Q (.int M) H) := by
  intro pins s σ H xs us Q I r h
  obtain ⟨p, ns, rfl, hl, hne, q⟩ := h
  obtain ⟨u, rfl, ru⟩ := vals1 r
  cases ru
  obtain ⟨its, r', pl, hz⟩ := I.list hl
  have hi : IntsAre its ns := intsAre_of r'
  obtain ⟨ys, e⟩ := hi.allInts.items
  have hns : ns = ys.toList.map (·.1) := by rw [← hi.numsOf, ← nums_intItems, ← e]
  have hsz : 0 < ys.size := by
    have := List.length_pos_iff.mpr hne
    rw [hns, List.length_map, Array.length_toList] at this
    exact this
  have hl' : s.heap.IsList p (intItems ys) := by rw [← e]; exact pl.isList
  refine min_intList (I.ok.hd hc) hl' hsz fun v h' tk hv hk => ?_
  obtain ⟨t, rfl⟩ := intItems_at hv
  obtain ⟨a1, a2⟩ := argBest_lt (numAt ys) (ys.size - 1)
  refine ⟨.int _, H, I.kept hk, ⟨t, rfl⟩, q _ ?_ fun a ha => ?_⟩
  · rw [hns, numAt_eq]; exact getD_mem (by rw [List.length_map, Array.length_toList]; omega)
  · rw [hns] at ha
    obtain ⟨j, hj, rfl⟩ := mem_getD ha
    rw [List.length_map, Array.length_toList] at hj
    rw [← numAt_eq]; exact a2 j (by omega)
end
/-! ### enumerate -/
section
variable {X : Cx} {pins : List (Addr × Obj)} {σ : St} {H : Hp} {s : Shared} {h' : Heap}
theorem Inv.trackO {e : Addr} {o' : HO} (I : Inv X pins σ H s) (o : Ours X pins H e) (new : ObjOk X.prog X.w (upd H e o') s.heap e o') : Inv X pins σ (upd H e o') s := by
  have ne : ∀ b u, H b = some u → b ≠ e := fun b u q z => by rw [z, o.free] at q; cases q
  refine ⟨I.ok, I.os, I.bare, ⟨I.base.keep, I.base.slot, fun b ob q n hx => ?_, I.base.there, fun b xs q => ?_, fun b ob u q => ?_, fun b ps q => ?_⟩, I.loc, I.cell, ?_, fun x c q => ?_, fun p hp => ?_, fun b u q => ?_, I.len⟩
  · rw [upd_ne (fun z => by rw [z, o.new] at q; cases q)]; exact I.base.free b ob q n hx
  · have := I.base.tups b xs q
    rw [upd_ne (ne _ _ this)]; exact this
  · have := I.base.frzs b ob u q
    rw [upd_ne (ne _ _ this)]; exact this
  · obtain ⟨m, z⟩ := I.base.tbls b ps q
    exact ⟨m, by rw [upd_ne (ne _ _ z)]; exact z⟩
  · rw [upd_ne (Ne.symm o.loc)]; exact I.free
  · rw [upd_ne (o.cell x c q)]; exact I.freeC x c q
  · obtain ⟨z, n, r⟩ := I.pin p hp
    exact ⟨z, by rw [upd_ne (o.pin p hp)]; exact n, r⟩
  · by_cases z : b = e
    · subst z; rw [upd_same] at q; cases q; exact new
    · rw [upd_ne z] at q
      exact (I.hok b u q).stay (fun _ _ _ x => x) (fun c x => by rw [upd_ne (ne _ _ x)]; exact x) fun c xs x => by rw [upd_ne (ne _ _ x)]; exact x
theorem Inv.turned2 {t' : Nat} {e it : Addr} (I : Inv X pins σ H s) (k : ∀ b o, b ≠ e → b ≠ it → s.heap.get? b = some o → h'.get? b = some o) (he : ∃ o, h'.get? e = some o) (hi : ∃ o, h'.get? it = some o) (f1 : FpOk X pins H e) (f2 : FpOk X pins H it) :
    Inv X pins σ H { s with heap := h', toks := t' } := by
  have nit : ∀ b u, H b = some u → b ≠ e ∧ b ≠ it := fun b u q => ⟨fun z => (by rw [z, f1.1] at q; cases q), fun z => (by rw [z, f2.1] at q; cases q)⟩
  have sp : ∀ b, b ∉ [e, it] → b ≠ e ∧ b ≠ it := fun b hb => ⟨fun z => hb (by simp [z]), fun z => hb (by simp [z])⟩
  refine I.step (g' := s.gens) (d' := s.drawn) (ch := [e, it]) (fun b hb => ?_) (fun b o _ _ hc q _ => k b o (sp b hc).1 (sp b hc).2 q) (fun b o _ _ hc q _ => ⟨o.slots, k b o (sp b hc).1 (sp b hc).2 q⟩) (fun _ _ _ _ n => n)
    (fun b o hc q => ⟨o, k b o (sp b hc).1 (sp b hc).2 q⟩) (fun _ _ q => q) (fun _ _ _ q => q) (fun b ps q => ⟨#[], by rw [q]; simp⟩) (fun m hm => ?_) (fun b u q => ?_) I.bare
  · rcases List.mem_cons.mp hb with z | z
    · rw [z]; exact ⟨f1.2.2.2.1, f1.2.1, f1.2.2.2.2.1, f1.2.2.2.2.2⟩
    · rw [show b = it by simpa using z]; exact ⟨f2.2.2.2.1, f2.2.1, f2.2.2.2.2.1, f2.2.2.2.2.2⟩
  · obtain ⟨o, es, ep, ho, r⟩ := hm
    exact ⟨o, es, ep, k _ o (Ne.symm f1.2.1) (Ne.symm f2.2.1) ho, r⟩
  · refine (I.hok b u q).stay (fun c v hc q' => ?_) (fun _ q => q) fun _ _ q => q
    have : c ≠ e ∧ c ≠ it := by
      rcases hc with z | z
      · rw [z]; exact nit b u q
      · exact nit c _ z
    exact k c v this.1 this.2 q'
end
/-- enumerate of the list at l -/
noncomputable def Ite (K : PySem.W.Frag) (l : Addr) : It :=
  ⟨fun i H => ∃ xs x, SqL K H l xs ∧ xs[i]? = some x, fun i H v H' => ∃ T x, H T = none ∧ (∀ xs, SqL K H l xs → xs[i]? = some x) ∧ v = .ref T ∧ H' = upd H T (.tup [.int i, x]), fun i H => ∃ xs, SqL K H l xs ∧ xs.length ≤ i⟩
theorem turn_enum {P : Program} {w : World} {K : PySem.W.Frag} {elts : List Expr} {k0 : Nat} {tp : Pos} (e it l : Addr) (hei : e ≠ it) :
    Turn P w K (.Tuple elts k0 tp) (Ite K l) [e, it] e (fun i h => (∃ old, IsEnum h e it i old) ∧ h.IsListIter it l i) where
  mem := by simp
  obj := fun i h st b hb => by
    obtain ⟨⟨old, he⟩, o, ho, c, d⟩ := st
    rcases List.mem_cons.mp hb with z | z
    · rw [z]
      exact ⟨_, he, fun v z => by
        have z' : Data.fields _ = Data.cell v := z
        cases z'⟩
    · rw [show b = it by simpa using z]
      exact ⟨o, ho, fun v z => by rw [d] at z; cases z⟩
  keep := fun i h h' st k => ⟨let ⟨old, he⟩ := st.1; ⟨old, k e (by simp) _ he⟩, st.2.at fun o q => k it (by simp) o q⟩
  item := by
    intro X hP hw hK hc i pins s σ H E I hf st hg
    subst hP hw hK
    obtain ⟨xs, x, hq, hx⟩ := hg
    obtain ⟨its, rv, p, hz⟩ := I.list hq
    obtain ⟨u, hu, ru⟩ := rv.get hx
    obtain ⟨⟨old, he⟩, hit⟩ := st
    have fe := hf e (by simp)
    have fi := hf it (by simp)
    refine wpAny_pyNext_enum_item he hit p.isList (x := u) (by simpa using hu) hei fun h1 ho hit1 hT hsz hk => ?_
    refine ⟨_, rfl, wpAny_letOwnedTupleGo_enum ho fun h2 he2 sb => ?_⟩
    have nT : s.heap.get? s.heap.objs.size = none := Heap.get?_none_of_le (Nat.le_refl _)
    have elt : e < s.heap.objs.size := Heap.lt_size he
    have ilt : it < s.heap.objs.size := by obtain ⟨_, q, _⟩ := hit; exact Heap.lt_size q
    have hit2 : h2.IsListIter it l (i + 1) := hit1.at fun o q => (sb.2 it (Ne.symm hei)).trans q
    have k2 : ∀ b o, b ≠ e → b ≠ it → s.heap.get? b = some o → h2.get? b = some o := fun b o b1 b2 q => (sb.2 b b1).trans (hk b o b1 b2 q)
    have I2 : Inv X pins σ H { s with heap := h2, toks := s.toks + 1 } := I.turned2 k2 ⟨_, he2⟩ (by obtain ⟨o, q, _⟩ := hit2; exact ⟨o, q⟩) fe fi
    have oT : Ours X pins H s.heap.objs.size := by
      have fT : FpOk X pins H s.heap.objs.size := I.fpOk (Nat.le_refl _) (I.hok.fresh (Nat.le_refl _))
      exact ⟨Heap.get?_none_of_le I.sz, fT.1, fT.2.1, fT.2.2.2.2.1, fT.2.2.2.2.2⟩
    have hT2 : h2.get? s.heap.objs.size = some { cls := .type "tuple", data := .seq #[.int i s.toks, u] } := (sb.2 _ (Nat.ne_of_gt elt)).trans hT
    have I3 := I2.trackO (o' := .tup [.int i, x]) oT ⟨sz (n := 2) (by decide), [.int i s.toks, u], .cons ⟨_, rfl⟩ (.cons ru .nil), _, hT2, rfl, _, rfl⟩
    refine ⟨.ref s.heap.objs.size, _, I3, rfl, ⟨_, x, oT.free, fun ys hy => by rw [I.list_inj hy hq]; exact hx, rfl, rfl⟩, ⟨⟨_, by simpa using he2⟩, hit2⟩, fun b hb => ?_⟩
    rcases List.mem_cons.mp hb with z | z
    · rw [z, upd_ne (Nat.ne_of_lt elt)]; exact fe.1
    · rw [show b = it by simpa using z, upd_ne (Nat.ne_of_lt ilt)]; exact fi.1
  done := by
    intro X hP hw hK hc i pins s σ H E I hf st hg
    subst hP hw hK
    obtain ⟨xs, hq, hx⟩ := hg
    obtain ⟨its, rv, p, hz⟩ := I.list hq
    obtain ⟨⟨old, he⟩, hit⟩ := st
    have hl := rv.length
    obtain ⟨f0, f1, f2, f3, f4, f5⟩ := hf it (by simp)
    refine wpAny_pyNext_enum_end (I.ok.hd hc) he hit p.isList (Array.getElem?_eq_none (by simp; omega)) fun h2 eb => ⟨rfl, ?_⟩
    exact I.turned (t' := s.toks) (fun b o hb q => eb b o hb q) f0 f1 f3 f4 f5
  self := fun _ _ _ _ _ st h => by
    obtain ⟨⟨old, he⟩, _⟩ := st
    exact wpAny_pyIter_enum he h
noncomputable def iEnum (K : PySem.W.Frag) (ta : TA) : TI := fun σ H R => ta σ H fun vs H1 => ∃ l, vs = [.ref l] ∧ (∃ xs, SqL K H1 l xs) ∧ R (Ite K l) H1
section
variable {X : Cx}
theorem pi_enum {elts : List Expr} {k0 : Nat} {tp : Pos} {a : Expr} {ta : TA} {p pos : Pos} (hg : Gl X "enumerate") (hm : X.mg "enumerate" = none) (ha : PA X [a] ta) (hs : starEach [a] X.env = [(false, eval a X.env)] := by rfl) :
    PI X (.Tuple elts k0 tp) (.Call (.Name "enumerate" p) [a] [] pos) (iEnum X.K ta) := by
  intro pins s σ H R I h
  refine Call_ (ld_blt I hg hm boot_enumerate (PyProof.Rows.callWith_type1 (thn (ha pos pins s σ H _ I h) fun us s1 ⟨vs, H1, I1, r1, q1⟩ => ?_) hs rfl))
  obtain ⟨l, rfl, ⟨xs, hq⟩, q⟩ := q1
  obtain ⟨u, rfl, ru⟩ := vals1 r1
  cases ru
  obtain ⟨its, rv, pl, hz⟩ := I1.list hq
  refine call_enumerate_list pl.isList fun h2 he hit hsz hk => ?_
  have I2 : Inv X pins σ H1 { s1 with heap := h2 } := I1.kept (t' := s1.toks) hk
  refine wpAny_pyIter_enum he ⟨_, [s1.heap.objs.size + 1, s1.heap.objs.size], _, _, H1, rfl, I2, turn_enum _ s1.heap.objs.size l (Nat.succ_ne_self _), ⟨⟨_, he⟩, hit⟩, fun b hb => ?_, q⟩
  rcases List.mem_cons.mp hb with z | z
  · rw [z]; exact I1.fpOk (Nat.le_succ _) (I1.hok.fresh (Nat.le_succ _))
  · rw [show b = s1.heap.objs.size by simpa using z]; exact I1.fpOk (Nat.le_refl _) (I1.hok.fresh (Nat.le_refl _))
/-- for k, x in enumerate(xs): the list stays as it is -/
theorem for_enum {K : PySem.W.Frag} {l : Addr} {xs : List V} {g : TG} {tb : TS} {D : Ends} {σ : St} {H : Hp} (Pv : Nat → St → Hp → Prop) (h0 : Pv 0 σ H) (hl : ∀ i σ H, i ≤ xs.length → Pv i σ H → SqL K H l xs)
    (hs : ∀ i x σ H T, xs[i]? = some x → Pv i σ H → H T = none → g (.ref T) σ (upd H T (.tup [.int i, x])) fun σ2 H2 => tb { D with nx := Pv (i + 1), ct := Pv (i + 1), bk := D.nx } σ2 H2) (hd : ∀ σ H, Pv xs.length σ H → D.nx σ H) :
    ∃ W : Nat → Nat → St → Hp → Prop, (∃ m, W 0 m σ H) ∧ ∀ i m σ H, W i m σ H →
      ((Ite K l).stop i H ∧ D.nx σ H) ∨ ((Ite K l).go i H ∧ ∃ N : St → Hp → Prop, (∀ σ' H', N σ' H' → ∃ m', m' < m ∧ W (i + 1) m' σ' H') ∧ ∀ x H', (Ite K l).yld i H x H' → g x σ H' fun σ2 H2 => tb { D with nx := N, ct := N, bk := D.nx } σ2 H2) := by
  refine ⟨fun i m σ H => m = xs.length - i ∧ i ≤ xs.length ∧ Pv i σ H, ⟨xs.length, by simp, Nat.zero_le _, h0⟩, ?_⟩
  rintro i m σ H ⟨rfl, hi, p⟩
  have q := hl i σ H hi p
  by_cases hlt : i < xs.length
  · refine .inr ⟨⟨xs, _, q, List.getElem?_eq_getElem hlt⟩, Pv (i + 1), fun σ' H' p' => ⟨xs.length - (i + 1), by omega, rfl, hlt, p'⟩, fun v H' y => ?_⟩
    obtain ⟨T, x, nT, hx, rfl, rfl⟩ := y
    exact hs i x σ H T (hx xs q) p nT
  · have e : i = xs.length := by omega
    subst e
    exact .inl ⟨⟨xs, q, Nat.le_refl _⟩, hd σ H p⟩
end
end L2

set_option Elab.async false
set_option linter.all false
set_option maxRecDepth 100000
set_option maxHeartbeats 4000000
/-! Lists and tuples of ints within one another, as they lie in the heap. -/
namespace Ck
open PySem L2
inductive Tree where
  | int (i : Int)
  | lst (l : List Tree)
  | tup (l : List Tree)
mutual
noncomputable def Rep (H : Hp) : Tree → V → Prop
  | .int i, v => v = .int i
  | .lst ts, v => ∃ a xs, v = .ref a ∧ H a = some (.lst xs) ∧ ts.length ≤ 1000000 ∧ RepL H ts xs
  | .tup ts, v => ∃ a xs, v = .ref a ∧ H a = some (.tup xs) ∧ ts.length ≤ 1000000 ∧ RepL H ts xs
noncomputable def RepL (H : Hp) : List Tree → List V → Prop
  | [], xs => xs = []
  | t :: ts, xs => ∃ v vs, xs = v :: vs ∧ Rep H t v ∧ RepL H ts vs
end
mutual
noncomputable def dep : Tree → Nat
  | .int _ => 0
  | .lst ts => depL ts + 1
  | .tup ts => depL ts + 1
noncomputable def depL : List Tree → Nat
  | [] => 0
  | t :: ts => max (dep t) (depL ts)
end
mutual
theorem Rep.same {H H' : Hp} (s : Same H H') : ∀ (t : Tree) {v : V}, Rep H t v → Rep H' t v
  | .int i, v, h => by unfold Rep at h ⊢; exact h
  | .lst ts, v, h => by
    unfold Rep at h ⊢
    obtain ⟨a, xs, e, ha, hl, r⟩ := h
    exact ⟨a, xs, e, s _ _ ha, hl, RepL.same s ts r⟩
  | .tup ts, v, h => by
    unfold Rep at h ⊢
    obtain ⟨a, xs, e, ha, hl, r⟩ := h
    exact ⟨a, xs, e, s _ _ ha, hl, RepL.same s ts r⟩
theorem RepL.same {H H' : Hp} (s : Same H H') : ∀ (ts : List Tree) {xs : List V}, RepL H ts xs → RepL H' ts xs
  | [], xs, h => by unfold RepL at h ⊢; exact h
  | t :: ts, xs, h => by
    unfold RepL at h ⊢
    obtain ⟨v, vs, e, r, rs⟩ := h
    exact ⟨v, vs, e, Rep.same s t r, RepL.same s ts rs⟩
end
/-! ### lists of pairs -/
noncomputable abbrev Pair := Int × Int
end Ck
namespace L2
open PySem
end L2

set_option Elab.async false
set_option linter.all false
set_option maxRecDepth 100000
set_option maxHeartbeats 4000000
/-! Numbers laid on a pile and taken off it; rows of ints as trees. -/
namespace Ck
open PySem L2
theorem cutV_from (xs : List V) (k : Nat) : cutV xs (some (k : Int)) none = xs.drop k := by
  unfold cutV
  rw [HT.sIx_nat, HT.sIx_none]
  rw [List.take_of_length_le (by rw [List.length_drop]; omega)]
  by_cases h : k ≤ xs.length
  · rw [show min k xs.length = k by omega]
  · rw [List.drop_eq_nil_of_le (show xs.length ≤ k by omega), List.drop_eq_nil_of_le (by omega)]
theorem iteNN {c A B : Prop} [Decidable c] (hc : ¬ c) (h : A) : if (!decide c) = true then A else B := by
  rw [decide_eq_false hc]
  exact iteT h
end Ck

set_option Elab.async false
set_option linter.all false
set_option maxRecDepth 100000
set_option maxHeartbeats 4000000
/-! Own rules: list.index; a comprehension whose turns write to the heap; slices with two ends. -/
namespace L2
open PySem PySem.Spec PyProof.Rows PySem.SeqAt
section
variable {X : Cx}
theorem pg_tupK {K : PySem.W.Frag} {es : List Expr} {k : Nat} {t : TGs} {n : Nat} {pos : Pos} (hK : X.K = K) (hc : X.calm = true) (h : PGs X es t)
    (hn : (assignEach es X.env).length = n := by rfl) (hst : (assignEach es X.env).findIdx? (·.1) = none := by rfl) : PG X (.Tuple es k pos) (gTup K n t) := by
  subst hK
  exact pg_tup hc h hn hst
/-- over a list that stays; the turns may write to the heap and leave items out -/
theorem comp_walk {K : PySem.W.Frag} {a : Addr} {xs : List V} {g : TG} {tt : TT} {te : TE} {σ0 : St} {H : Hp} {D : Addr} {Q : VK} (Pv : Nat → List V → Hp → Prop) (hz : xs.length ≤ sizeLine)
    (h0 : Pv 0 [] (upd H D (.lst []))) (hl : ∀ i ys H', i ≤ xs.length → Pv i ys H' → SqL K H' a xs ∧ ys.length ≤ i)
    (hs : ∀ (i : Nat) (x : V) (ys : List V) (H' : Hp) (R : VK) (R0 : Hp → Prop), xs[i]? = some x → Pv i ys H' → (∀ v H3, H3 D = some (.lst ys) → Pv (i + 1) (ys ++ [v]) (upd H3 D (.lst (ys ++ [v]))) → R v H3) → (∀ H3, Pv (i + 1) ys H3 → R0 H3) →
      g x σ0 H' fun σ2 H2 => Ext σ0 σ2 ∧ tt σ2 H2 fun b H3 => if b = true then te σ2 H3 R else R0 H3)
    (hq : ∀ ys H', Pv xs.length ys H' → Q (.ref D) H') :
    CompW (Itl K a) g tt te σ0 D Q H := by
  refine ⟨fun i m ys H' => m = xs.length - i ∧ i ≤ xs.length ∧ Pv i ys H', ⟨xs.length, by simp, Nat.zero_le _, h0⟩, ?_⟩
  rintro i m ys H' ⟨rfl, hi, p⟩
  obtain ⟨sq, ly⟩ := hl i ys H' hi p
  by_cases hlt : i < xs.length
  · refine .inr ⟨⟨xs, xs[i], sq, by simp [hlt]⟩, fun x H'' y => ?_⟩
    obtain ⟨e, y⟩ := y
    subst e
    have ex := y xs sq
    refine hs i x ys _ _ _ ex p (fun v H3 hD p' => ⟨hD, by omega, xs.length - (i + 1), by omega, rfl, hlt, p'⟩) fun H3 p' => ⟨xs.length - (i + 1), by omega, rfl, hlt, p'⟩
  · have e : i = xs.length := by omega
    subst e
    exact .inl ⟨⟨xs, sq, Nat.le_refl _⟩, hq ys H' p⟩
end
end L2
namespace Ck
open PySem L2
end Ck
namespace Ck
open PySem L2
/-- the fields of a family -/
structure Flds (fs : List (Str × V)) (w : Str) (l : Int) : Prop where
  word : fs.lookup ("word" : Str) = some (.str w)
  least : fs.lookup ("least" : Str) = some (.int l)
  no : ∀ m : Str, m ≠ ("word" : Str) → m ≠ ("least" : Str) → fs.lookup m = none
theorem flds_mk (w : Str) (l : Int) : Flds (putF ("least" : Str) (.int l) (putF ("word" : Str) (.str w) [])) w l :=
  ⟨by rw [lookup_putF, if_neg (by decide), lookup_putF, if_pos rfl], by rw [lookup_putF, if_pos rfl], fun m a b => by rw [lookup_putF, if_neg b, lookup_putF, if_neg a]; rfl⟩
/-! ### pairs raised -/
noncomputable def up (d : Int) (p : Pair) : Pair := (p.1 + d, p.2 + d)
end Ck
namespace Ck
open PySem L2
theorem flat_ints (ns : List Int) : (ns.map V.int).all flatV = true := by
  rw [List.all_eq_true]
  intro x hx
  obtain ⟨n, _, rfl⟩ := List.mem_map.mp hx
  rfl
end Ck
namespace Ck
open PySem L2
end Ck

set_option Elab.async false
set_option linter.all false
set_option maxRecDepth 100000
set_option maxHeartbeats 4000000
/-! Own rules: sorted of ints (fewer than 64), in and not in, all of truths, a comprehension over enumerate. -/
namespace L2
open PySem PySem.Spec PyProof.Rows
theorem bb_sorted : bootBuiltins "sorted" = some (.builtin "sorted") := by decide +kernel
theorem bb_all : bootBuiltins "all" = some (.builtin "all") := by decide +kernel
theorem vals_intsA : ∀ {us : List Value} {ns : List Int}, IntsAre us ns → Vals (ns.map V.int) us
  | _, _, .nil => .nil
  | _, _, .cons n t h => .cons ⟨t, rfl⟩ (vals_intsA h)
section
variable {X : Cx}
theorem call_sorted : CallR X (.builtin "sorted") (fun xs H Q => ∃ (p : Addr) (ns : List Int), xs = [.ref p] ∧ SqL X.K H p (ns.map V.int) ∧ ns.length < 64 ∧ ∀ (q : Addr) (ms : List Int), H q = none → ms.Perm ns → ms.Pairwise (· ≤ ·) → Q (.ref q) (upd H q (.lst (ms.map V.int)))) := by
  intro pins s σ H xs us Q I r h
  obtain ⟨p, ns, rfl, hl, h64, q⟩ := h
  obtain ⟨u, rfl, ru⟩ := vals1 r
  cases ru
  obtain ⟨its, r', pl, hz⟩ := I.list hl
  have hi : IntsAre its ns := intsAre_of r'
  refine sorted_ints pl.isList hi (by rw [hi.length]; exact h64) fun out ms ho hp hs => ?_
  obtain ⟨e, he⟩ := sortedAll_at s.heap its out
  have lm : (ms.map V.int).length ≤ sizeLine := by rw [List.length_map, hp.length_eq]; exact sz (by omega)
  exact ⟨.ref _, _, I.laid (t' := s.toks) (o := .lst (ms.map V.int)) (fun b u e => sortedAll_old e) (Nat.le_succ _) ⟨lm, out.toList, e, vals_intsA ho, by simpa [seqObj] using he⟩, rfl, q _ ms (I.hok.fresh (Nat.le_succ _)) hp hs⟩
theorem any_eq (k : Int) : ∀ ns : List Int, ns.any (· == k) = decide (k ∈ ns)
  | [] => by simp
  | n :: ns => by
    rw [List.any_cons, any_eq k ns]
    by_cases h : n = k
    · subst h; simp
    · have h' : ¬ k = n := fun z => h z.symm
      simp [h, h']
theorem op_notin : OpR X (compareOp .NotIn) (fun x y H Q => ∃ (k : Int) (p : Addr) (ns : List Int), x = .int k ∧ y = .ref p ∧ SqL X.K H p (ns.map V.int) ∧ Q (.bl (!decide (k ∈ ns))) H) := by
  intro pins s σ H x y u v Q I ru rv h
  obtain ⟨k, p, ns, rfl, rfl, hl, q⟩ := h
  obtain ⟨t, rfl⟩ := (show ∃ t, u = Value.int k t from ru)
  cases rv
  obtain ⟨its, r', pl, hz⟩ := I.list hl
  refine notin_list_ints pl.isList (intsAre_of r') ⟨.bl _, H, I, rfl, ?_⟩
  rw [any_eq]; exact q
theorem vals_bools {bs : List Bool} : ∀ {us : List Value}, Vals (bs.map V.bl) us → us = bs.map Value.bool := by
  induction bs with
  | nil => intro us r; rw [List.map_nil] at r; cases r; rfl
  | cons b bs ih =>
    intro us r
    rw [List.map_cons] at r
    cases r with
    | cons h t => rw [ih t, List.map_cons]; cases (show _ = Value.bool b from h); rfl
theorem all_range (bs : List Bool) : (List.range bs.length).all (fun i => bs.getD i false) = bs.all id := by
  induction bs with
  | nil => rfl
  | cons b bs ih =>
    rw [List.length_cons, List.range_succ_eq_map, List.all_cons, List.all_map, List.all_cons]
    have : ((fun i => (b :: bs).getD i false) ∘ Nat.succ) = fun i => bs.getD i false := by funext i; rfl
    rw [this, ih]
    rfl
theorem call_all (hc : X.calm = true) : CallR X (.builtin "all") (fun xs H Q => ∃ (p : Addr) (bs : List Bool), xs = [.ref p] ∧ SqL X.K H p (bs.map V.bl) ∧ Q (.bl (bs.all id)) H) := by
  intro pins s σ H xs us Q I r h
  obtain ⟨p, bs, rfl, hl, q⟩ := h
  obtain ⟨u, rfl, ru⟩ := vals1 r
  cases ru
  obtain ⟨its, r', pl, hz⟩ := I.list hl
  have ei := vals_bools r'
  have hlt : p < s.heap.objs.size := by obtain ⟨_, e, _⟩ := pl.isList; exact Heap.lt_size e
  refine call_all_walk (wpAny_pyIter_list pl.isList ⟨_, _, _, _, _, _, fun i => bs.getD i false, rfl, Walks.list (A := X.A.in1) (I.ok.hd hc) _ p (Nat.ne_of_lt hlt) its.toArray, ⟨⟨_, Heap.get?_push_size _ rfl, rfl, rfl⟩, pl.isList.push _⟩, ?_, fun h' tk hk => ⟨.bl _, H, I.kept (old_kept hk), rfl, ?_⟩⟩)
  · intro i v s' Q' E' hP hQ
    have hb : bs[i]? = some (bs.getD i false) ∧ v = .bool (bs.getD i false) := by
      have hP' : its[i]? = some v := by simpa using hP
      rw [ei, List.getElem?_map] at hP'
      cases hb : bs[i]? with
      | none => rw [hb] at hP'; cases hP'
      | some b =>
        rw [hb] at hP'
        have e1 : bs.getD i false = b := by rw [List.getD_eq_getElem?_getD, hb]; rfl
        rw [e1]
        exact ⟨rfl, (Option.some.inj hP').symm⟩
    rw [hb.2]
    exact wpAny_truthy_bool hQ
  · have e1 : its.toArray.size = bs.length := by rw [ei]; simp
    rw [e1, all_range]
    exact q
/-- over the pairs of enumerate, the list stays -/
theorem comp_enum {K : PySem.W.Frag} {a : Addr} {xs : List V} {g : TG} {tt : TT} {te : TE} {σ0 : St} {H : Hp} {D : Addr} {Q : VK} (Pv : Nat → List V → Hp → Prop) (hz : xs.length ≤ sizeLine)
    (h0 : Pv 0 [] (upd H D (.lst []))) (hl : ∀ i ys H', i ≤ xs.length → Pv i ys H' → SqL K H' a xs ∧ ys.length ≤ i)
    (hs : ∀ (i : Nat) (x : V) (ys : List V) (H' : Hp) (T : Addr) (R : VK) (R0 : Hp → Prop), xs[i]? = some x → Pv i ys H' → H' T = none → (∀ v H3, H3 D = some (.lst ys) → Pv (i + 1) (ys ++ [v]) (upd H3 D (.lst (ys ++ [v]))) → R v H3) → (∀ H3, Pv (i + 1) ys H3 → R0 H3) →
      g (.ref T) σ0 (upd H' T (.tup [.int i, x])) fun σ2 H2 => Ext σ0 σ2 ∧ tt σ2 H2 fun b H3 => if b = true then te σ2 H3 R else R0 H3)
    (hq : ∀ ys H', Pv xs.length ys H' → Q (.ref D) H') :
    CompW (Ite K a) g tt te σ0 D Q H := by
  refine ⟨fun i m ys H' => m = xs.length - i ∧ i ≤ xs.length ∧ Pv i ys H', ⟨xs.length, by simp, Nat.zero_le _, h0⟩, ?_⟩
  rintro i m ys H' ⟨rfl, hi, p⟩
  obtain ⟨sq, ly⟩ := hl i ys H' hi p
  by_cases hlt : i < xs.length
  · refine .inr ⟨⟨xs, _, sq, List.getElem?_eq_getElem hlt⟩, fun x H'' y => ?_⟩
    obtain ⟨T, w, nT, hw, rfl, rfl⟩ := y
    refine hs i w ys _ T _ _ (hw xs sq) p nT (fun v H3 hD p' => ⟨hD, by omega, xs.length - (i + 1), by omega, rfl, hlt, p'⟩) fun H3 p' => ⟨xs.length - (i + 1), by omega, rfl, hlt, p'⟩
  · have e : i = xs.length := by omega
    subst e
    exact .inl ⟨⟨xs, sq, Nat.le_refl _⟩, hq ys H' p⟩
end
end L2
namespace Ck
open PySem L2
theorem eqL_self : ∀ ns : List Int, eqL (ns.map V.int) (ns.map V.int) = true
  | [] => rfl
  | n :: ns => by
    rw [List.map_cons]
    show (eqV (.int n) (.int n) && eqL (ns.map V.int) (ns.map V.int)) = true
    rw [eqL_self ns, show eqV (.int n) (.int n) = true from decide_eq_true rfl]
    rfl
end Ck

set_option Elab.async false
set_option linter.all false
set_option maxRecDepth 100000
set_option maxHeartbeats 4000000
/-! Rows of cars: counted, sorted, parked. -/
namespace Ck
open PySem L2
/-- enough wishes are small enough -/
structure Car (ns : List Int) : Prop where
  pos : ∀ x ∈ ns, 0 ≤ x
  few : ∀ j : Nat, j < ns.length → j + 1 ≤ ns.countP (fun x => decide (x ≤ (j : Int)))
theorem Car.perm {ns ms : List Int} (h : Car ns) (p : ms.Perm ns) : Car ms :=
  ⟨fun x hx => h.pos x (p.mem_iff.mp hx), fun j hj => by rw [p.countP_eq]; exact h.few j (by rw [← p.length_eq]; exact hj)⟩
theorem Car.le {ns : List Int} (h : Car ns) : ∀ x ∈ ns, x < (ns.length : Int) := by
  intro x hx
  have hpos : 0 < ns.length := List.length_pos_of_mem hx
  have h1 := h.few (ns.length - 1) (by omega)
  have h2 := List.countP_le_length (p := fun x => decide (x ≤ ((ns.length - 1 : Nat) : Int))) (l := ns)
  have h3 : ns.countP (fun x => decide (x ≤ ((ns.length - 1 : Nat) : Int))) = ns.length := by omega
  have := (List.countP_eq_length.mp h3) x hx
  have := of_decide_eq_true this
  omega
theorem Car.sorted {ms : List Int} (h : Car ms) (s : ms.Pairwise (· ≤ ·)) {i : Nat} {x : Int} (e : ms[i]? = some x) : x ≤ (i : Int) := by
  obtain ⟨hi, hx⟩ := List.getElem?_eq_some_iff.mp e
  by_cases hle : x ≤ (i : Int)
  · exact hle
  · have h1 := h.few i hi
    have h2 : ms.countP (fun x => decide (x ≤ (i : Int))) ≤ i := by
      have e1 : ms.countP (fun x => decide (x ≤ (i : Int))) = (ms.take i).countP (fun x => decide (x ≤ (i : Int))) + (ms.drop i).countP (fun x => decide (x ≤ (i : Int))) := by
        rw [← List.countP_append, List.take_append_drop]
      have e2 : (ms.drop i).countP (fun x => decide (x ≤ (i : Int))) = 0 := by
        rw [List.countP_eq_zero]
        intro y hy
        rw [List.drop_eq_getElem_cons hi] at hy
        have s2 : (ms.drop i).Pairwise (· ≤ ·) := s.sublist (List.drop_sublist _ _)
        rw [List.drop_eq_getElem_cons hi, List.pairwise_cons] at s2
        rcases List.mem_cons.mp hy with z | z
        · simp; omega
        · have := s2.1 y z
          simp; omega
      have e3 := List.countP_le_length (p := fun x => decide (x ≤ (i : Int))) (l := ms.take i)
      rw [List.length_take] at e3
      omega
    omega
end Ck

set_option Elab.async false
set_option linter.all false
set_option maxRecDepth 100000
set_option maxHeartbeats 4000000
/-! Turned round a ring, just one row of wishes is a row of cars. -/
namespace Ck
open PySem L2
noncomputable def rot (N s : Int) (ws : List Int) : List Int := ws.map fun w => (w + s) % N
theorem rot_len (N s : Int) (ws : List Int) : (rot N s ws).length = ws.length := List.length_map _
theorem countP_le_add (p q r : Int → Bool) : ∀ l : List Int, (∀ x ∈ l, r x = true → p x = true ∨ q x = true) → l.countP r ≤ l.countP p + l.countP q
  | [], _ => Nat.zero_le _
  | x :: l, h => by
    have ih := countP_le_add p q r l fun y hy => h y (List.mem_cons_of_mem _ hy)
    have h0 := h x (List.mem_cons_self ..)
    rw [List.countP_cons, List.countP_cons, List.countP_cons]
    cases hr : r x with
    | false => simp; omega
    | true =>
      rcases h0 hr with z | z
      · rw [z]; simp; omega
      · rw [z]; simp; omega
theorem countP_add_le (p q r : Int → Bool) : ∀ l : List Int, (∀ x ∈ l, p x = true → r x = true ∧ q x = false) → (∀ x ∈ l, q x = true → r x = true) → l.countP p + l.countP q ≤ l.countP r
  | [], _, _ => Nat.zero_le _
  | x :: l, h, h' => by
    have ih := countP_add_le p q r l (fun y hy => h y (List.mem_cons_of_mem _ hy)) fun y hy => h' y (List.mem_cons_of_mem _ hy)
    have h0 := h x (List.mem_cons_self ..)
    have h1 := h' x (List.mem_cons_self ..)
    rw [List.countP_cons, List.countP_cons, List.countP_cons]
    cases hp : p x with
    | true =>
      obtain ⟨a, b⟩ := h0 hp
      rw [a, b]; simp; omega
    | false =>
      cases hq : q x with
      | true => rw [h1 hq]; simp; omega
      | false => simp; omega
theorem countP_not (p : Int → Bool) : ∀ l : List Int, l.countP p + l.countP (fun x => !p x) = l.length
  | [] => rfl
  | x :: l => by
    have ih := countP_not p l
    rw [List.countP_cons, List.countP_cons, List.length_cons]
    cases p x <;> simp <;> omega
/-- the first least one -/
theorem first_least (f : Nat → Int) : ∀ m : Nat, ∃ t, t ≤ m ∧ (∀ j, j ≤ m → f t ≤ f j) ∧ ∀ j, j < t → f t < f j
  | 0 => ⟨0, Nat.le_refl _, fun j hj => by rw [show j = 0 by omega]; exact Int.le_refl _, fun j hj => absurd hj (Nat.not_lt_zero _)⟩
  | m + 1 => by
    obtain ⟨t, h1, h2, h3⟩ := first_least f m
    by_cases h : f (m + 1) < f t
    · refine ⟨m + 1, Nat.le_refl _, fun j hj => ?_, fun j hj => ?_⟩
      · by_cases e : j = m + 1
        · rw [e]; exact Int.le_refl _
        · have := h2 j (by omega); omega
      · have := h2 j (by omega); omega
    · refine ⟨t, by omega, fun j hj => ?_, h3⟩
      by_cases e : j = m + 1
      · rw [e]; omega
      · exact h2 j (by omega)
theorem car_exists (ws : List Int) (h : ∀ w ∈ ws, 0 ≤ w ∧ w ≤ (ws.length : Int)) : ∃ s : Nat, s ≤ ws.length ∧ Car (rot ((ws.length : Int) + 1) (s : Int) ws) := by
  obtain ⟨t, h1, h2, h3⟩ := first_least (fun k => (ws.countP (fun w => decide (w < (k : Int))) : Int) - (k : Int)) (ws.length + 1)
  have z0 : ws.countP (fun w => decide (w < ((0 : Nat) : Int))) = 0 := by
    rw [List.countP_eq_zero]
    intro w hw
    have := h w hw
    simp; omega
  have zN : ws.countP (fun w => decide (w < ((ws.length + 1 : Nat) : Int))) = ws.length := by
    rw [List.countP_eq_length]
    intro w hw
    have := h w hw
    simp; omega
  have tN := h2 (ws.length + 1) (Nat.le_refl _)
  simp only [zN] at tN
  have t0 : t ≠ 0 := fun z => by subst z; simp only [z0] at tN; omega
  refine ⟨ws.length + 1 - t, by omega, ⟨fun x hx => ?_, fun j hj => ?_⟩⟩
  · obtain ⟨w, _, rfl⟩ := List.mem_map.mp hx
    exact Int.emod_nonneg _ (by omega)
  rw [rot_len] at hj
  have turn : ∀ w ∈ ws, ((t : Int) ≤ w → (w + ((ws.length + 1 - t : Nat) : Int)) % ((ws.length : Int) + 1) = w - t) ∧ (w < (t : Int) → (w + ((ws.length + 1 - t : Nat) : Int)) % ((ws.length : Int) + 1) = w + (ws.length : Int) + 1 - t) := fun w hw => by
    have := h w hw
    refine ⟨fun a => ?_, fun a => ?_⟩
    · rw [show w + ((ws.length + 1 - t : Nat) : Int) = (w - t) + ((ws.length : Int) + 1) by omega, Int.add_emod_right]
      exact Int.emod_eq_of_lt (by omega) (by omega)
    · rw [show w + ((ws.length + 1 - t : Nat) : Int) = w + (ws.length : Int) + 1 - t by omega]
      exact Int.emod_eq_of_lt (by omega) (by omega)
  unfold rot
  rw [List.countP_map]
  by_cases hk : t + (j + 1) ≤ ws.length + 1
  · have c := countP_le_add (fun w => decide (w < (t : Int))) ((fun x => decide (x ≤ (j : Int))) ∘ fun w => (w + ((ws.length + 1 - t : Nat) : Int)) % ((ws.length : Int) + 1)) (fun w => decide (w < ((t + (j + 1) : Nat) : Int))) ws fun w hw r => by
      have r' := of_decide_eq_true r
      by_cases a : w < (t : Int)
      · exact .inl (decide_eq_true a)
      · refine .inr (decide_eq_true ?_)
        show (w + ((ws.length + 1 - t : Nat) : Int)) % ((ws.length : Int) + 1) ≤ (j : Int)
        rw [(turn w hw).1 (by omega)]
        omega
    have m := h2 (t + (j + 1)) hk
    try simp only at m
    omega
  · have c := countP_add_le (fun w => !decide (w < (t : Int))) (fun w => decide (w < ((t + (j + 1) - (ws.length + 1) : Nat) : Int))) ((fun x => decide (x ≤ (j : Int))) ∘ fun w => (w + ((ws.length + 1 - t : Nat) : Int)) % ((ws.length : Int) + 1)) ws (fun w hw r => by
        have b := h w hw
        have r' : (t : Int) ≤ w := by simpa using r
        refine ⟨decide_eq_true ?_, decide_eq_false ?_⟩
        · show (w + ((ws.length + 1 - t : Nat) : Int)) % ((ws.length : Int) + 1) ≤ (j : Int)
          rw [(turn w hw).1 r']; omega
        · omega) fun w hw r => by
        have b := h w hw
        have r' := of_decide_eq_true r
        refine decide_eq_true ?_
        show (w + ((ws.length + 1 - t : Nat) : Int)) % ((ws.length : Int) + 1) ≤ (j : Int)
        rw [(turn w hw).2 (by omega)]
        omega
    have n := countP_not (fun w => decide (w < (t : Int))) ws
    have m := h3 (t + (j + 1) - (ws.length + 1)) (by omega)
    try simp only at m
    omega
noncomputable def isCar (ns : List Int) : Bool := decide (ns ≠ []) && (ns.all (fun x => decide (0 ≤ x)) && (List.range ns.length).all (fun j => decide (j + 1 ≤ ns.countP (fun x => decide (x ≤ (j : Int))))))
theorem isCar_iff (ns : List Int) : isCar ns = true ↔ ns ≠ [] ∧ Car ns := by
  unfold isCar
  rw [Bool.and_eq_true, Bool.and_eq_true, decide_eq_true_iff, List.all_eq_true, List.all_eq_true]
  constructor
  · rintro ⟨h1, h2, h3⟩
    exact ⟨h1, fun x hx => of_decide_eq_true (h2 x hx), fun j hj => of_decide_eq_true (h3 j (List.mem_range.mpr hj))⟩
  · rintro ⟨h1, h2⟩
    exact ⟨h1, fun x hx => decide_eq_true (h2.pos x hx), fun j hj => decide_eq_true (h2.few j (List.mem_range.mp hj))⟩
theorem isCar_true {ns : List Int} (h : Car ns) (hne : ns ≠ []) : isCar ns = true := (isCar_iff ns).mpr ⟨hne, h⟩
theorem isCar_neg {ns : List Int} {m : Int} (h : m ∈ ns) (h0 : m < 0) : isCar ns = false := by
  cases e : isCar ns with
  | false => rfl
  | true => have := ((isCar_iff ns).mp e).2.pos m h; omega
theorem isCar_sorted {ns ms : List Int} (hne : ns ≠ []) (hpos : ∀ x ∈ ns, 0 ≤ x) (hp : ms.Perm ns) (hs : ms.Pairwise (· ≤ ·)) : ((List.range ms.length).map fun (k : Nat) => decide (ms.getD k 0 ≤ (k : Int))).all id = isCar ns := by
  rw [Bool.eq_iff_iff, isCar_iff, List.all_eq_true]
  constructor
  · intro h
    have hk : ∀ k : Nat, k < ms.length → ms.getD k 0 ≤ (k : Int) := fun k hk => of_decide_eq_true (h _ (List.mem_map.mpr ⟨k, List.mem_range.mpr hk, rfl⟩))
    refine ⟨hne, hpos, fun j hj => ?_⟩
    rw [← hp.length_eq] at hj
    rw [← hp.countP_eq]
    have h1 : (ms.take (j + 1)).countP (fun x => decide (x ≤ (j : Int))) = (ms.take (j + 1)).length := by
      rw [List.countP_eq_length]
      intro x hx
      obtain ⟨k, hk1, rfl⟩ := List.getElem_of_mem hx
      rw [List.length_take] at hk1
      have := hk k (by omega)
      rw [List.getD_eq_getElem?_getD, List.getElem?_eq_getElem (show k < ms.length by omega)] at this
      rw [List.getElem_take]
      have this' : ms[k] ≤ (k : Int) := this
      exact decide_eq_true (by omega)
    have h2 := (List.take_sublist (j + 1) ms).countP_le (p := fun x => decide (x ≤ (j : Int)))
    rw [h1, List.length_take] at h2
    omega
  · rintro ⟨_, h⟩ b hb
    obtain ⟨k, hk, rfl⟩ := List.mem_map.mp hb
    have hk' := List.mem_range.mp hk
    refine decide_eq_true ?_
    rw [List.getD_eq_getElem?_getD, List.getElem?_eq_getElem hk']
    exact (h.perm hp).sorted hs (List.getElem?_eq_getElem hk')
end Ck
namespace Ck
open PySem L2
/-- the steps of a row of wishes -/
noncomputable def steps (ws : List Int) : List Int := (List.range (ws.length - 1)).map fun (i : Nat) => (ws.getD (i + 1) 0 - ws.getD i 0) % ((ws.length : Int) + 1)
/-- the row that begins with v and goes on by steps -/
noncomputable def walkR (N : Int) : Int → List Int → List Int
  | v, [] => [v]
  | v, c :: cs => v :: walkR N ((v + c) % N) cs
theorem walkR_len (N : Int) : ∀ (cs : List Int) (v : Int), (walkR N v cs).length = cs.length + 1
  | [], v => rfl
  | c :: cs, v => by show (walkR N _ cs).length + 1 = _; rw [walkR_len N cs]; rfl
theorem walkR_bound {N : Int} (hN : 0 < N) : ∀ (cs : List Int) (v : Int), 0 ≤ v → v < N → ∀ w ∈ walkR N v cs, 0 ≤ w ∧ w < N
  | [], v, h0, h1, w, hw => by
    have : w = v := by simpa [walkR] using hw
    omega
  | c :: cs, v, h0, h1, w, hw => by
    have hw' : w ∈ v :: walkR N ((v + c) % N) cs := hw
    rcases List.mem_cons.mp hw' with z | z
    · omega
    · exact walkR_bound hN cs _ (Int.emod_nonneg _ (by omega)) (Int.emod_lt_of_pos _ hN) w z
theorem walkR_rot {N : Int} (s : Int) : ∀ (cs : List Int) (v : Int), rot N s (walkR N v cs) = walkR N ((v + s) % N) cs
  | [], v => rfl
  | c :: cs, v => by
    show (v + s) % N :: rot N s (walkR N ((v + c) % N) cs) = (v + s) % N :: walkR N (((v + s) % N + c) % N) cs
    rw [walkR_rot s cs]
    have e : ((v + c) % N + s) % N = ((v + s) % N + c) % N := by
      rw [Int.emod_add_emod, Int.emod_add_emod, Int.add_right_comm]
    rw [e]
theorem walkR_snoc (N : Int) : ∀ (cs : List Int) (v c : Int), walkR N v (cs ++ [c]) = walkR N v cs ++ [((walkR N v cs).getLastD 0 + c) % N]
  | [], v, c => rfl
  | d :: cs, v, c => by
    show v :: walkR N ((v + d) % N) (cs ++ [c]) = v :: (walkR N ((v + d) % N) cs ++ _)
    rw [walkR_snoc N cs]
    have e : (walkR N v (d :: cs)).getLastD 0 = (walkR N ((v + d) % N) cs).getLastD 0 := by
      show (v :: walkR N ((v + d) % N) cs).getLastD 0 = _
      have h : walkR N ((v + d) % N) cs ≠ [] := fun z => by have := walkR_len N cs ((v + d) % N); rw [z] at this; simp at this
      cases h2 : walkR N ((v + d) % N) cs with
      | nil => exact absurd h2 h
      | cons x xs => rfl
    rw [e]
/-- steps of the walk are the steps that it goes by -/
theorem walkR_steps {N : Int} (hN : 0 < N) : ∀ (cs : List Int) (v : Int), 0 ≤ v → v < N → (∀ c ∈ cs, 0 ≤ c ∧ c < N) → ∀ i : Nat, i < cs.length → ((walkR N v cs).getD (i + 1) 0 - (walkR N v cs).getD i 0) % N = cs.getD i 0
  | [], v, _, _, _, i, hi => by simp at hi
  | c :: cs, v, h0, h1, hc, i, hi => by
    have hc0 := hc c (List.mem_cons_self ..)
    cases i with
    | zero =>
      show ((walkR N ((v + c) % N) cs).getD 0 0 - v) % N = c
      have e : (walkR N ((v + c) % N) cs).getD 0 0 = (v + c) % N := by cases cs <;> rfl
      rw [e, Int.emod_sub_emod]
      rw [show v + c - v = c by omega]
      exact Int.emod_eq_of_lt hc0.1 hc0.2
    | succ i =>
      exact walkR_steps hN cs _ (Int.emod_nonneg _ (by omega)) (Int.emod_lt_of_pos _ hN) (fun d hd => hc d (List.mem_cons_of_mem _ hd)) i (by simpa using hi)
end Ck

set_option Elab.async false
set_option linter.all false
set_option maxRecDepth 100000
set_option maxHeartbeats 4000000
/-! For laws that look at things: the one refusal NoThing; small facts. -/
namespace L2
open PySem PySem.W
end L2
namespace Ck
open PySem L2
theorem ne_int {a b : Int} (h : a ≠ b) : ¬ V.int a = V.int b := fun z => h (by injection z)
theorem map_erase {α β : Type} (f : α → β) : ∀ (l : List α) (k : Nat), (l.map f).eraseIdx k = (l.eraseIdx k).map f
  | [], _ => rfl
  | _ :: _, 0 => rfl
  | a :: l, k + 1 => by
    show f a :: (l.map f).eraseIdx k = f a :: (l.eraseIdx k).map f
    rw [map_erase f l k]
end Ck
namespace Ck
end Ck

set_option Elab.async false
set_option linter.all false
set_option maxRecDepth 100000
set_option maxHeartbeats 4000000
/-! Trees told by elders. -/
namespace Ck
open PySem L2
noncomputable def stp (es : List Int) (r : Int) : Int := if 0 < r then es.getD (r - 1).toNat 0 else r
noncomputable def wlk (es : List Int) : Nat → Int → Int
  | 0, r => r
  | m + 1, r => wlk es m (stp es r)
theorem wlk_succ (es : List Int) : ∀ (m : Nat) (r : Int), wlk es (m + 1) r = stp es (wlk es m r)
  | 0, _ => rfl
  | m + 1, r => by
    show wlk es (m + 1) (stp es r) = stp es (wlk es m (stp es r))
    exact wlk_succ es m (stp es r)
theorem stp_zero (es : List Int) : stp es 0 = 0 := rfl
theorem wlk_zero (es : List Int) : ∀ m : Nat, wlk es m 0 = 0
  | 0 => rfl
  | m + 1 => by show wlk es m (stp es 0) = 0; rw [stp_zero]; exact wlk_zero es m
theorem wlk_add (es : List Int) : ∀ (m k : Nat) (r : Int), wlk es (m + k) r = wlk es k (wlk es m r)
  | 0, k, r => by rw [Nat.zero_add]; rfl
  | m + 1, k, r => by
    rw [Nat.add_right_comm]
    show wlk es (m + k) (stp es r) = wlk es k (wlk es m (stp es r))
    exact wlk_add es m k (stp es r)
theorem wlk_more {es : List Int} {m n : Nat} {r : Int} (h : wlk es m r = 0) (hn : m ≤ n) : wlk es n r = 0 := by
  obtain ⟨k, rfl⟩ := Nat.le.dest hn
  rw [wlk_add, h, wlk_zero]
noncomputable def inR (es : List Int) : Bool := es.all fun e => decide (0 ≤ e) && decide (e ≤ (es.length : Int))
theorem inR_iff (es : List Int) : inR es = true ↔ ∀ e ∈ es, 0 ≤ e ∧ e ≤ (es.length : Int) := by
  unfold inR
  rw [List.all_eq_true]
  constructor
  · intro h e he
    have := h e he
    rw [Bool.and_eq_true] at this
    exact ⟨of_decide_eq_true this.1, of_decide_eq_true this.2⟩
  · intro h e he
    rw [Bool.and_eq_true]
    exact ⟨decide_eq_true (h e he).1, decide_eq_true (h e he).2⟩
theorem stp_in {es : List Int} (h : inR es = true) {r : Int} (h0 : 0 ≤ r) (h1 : r ≤ (es.length : Int)) : 0 ≤ stp es r ∧ stp es r ≤ (es.length : Int) := by
  unfold stp
  split
  · rename_i hr
    have hk : (r - 1).toNat < es.length := by omega
    rw [List.getD_eq_getElem?_getD, List.getElem?_eq_getElem hk]
    exact (inR_iff es).mp h _ (List.getElem_mem hk)
  · exact ⟨h0, h1⟩
theorem wlk_in {es : List Int} (h : inR es = true) : ∀ (m : Nat) {r : Int}, 0 ≤ r → r ≤ (es.length : Int) → 0 ≤ wlk es m r ∧ wlk es m r ≤ (es.length : Int)
  | 0, r, h0, h1 => ⟨h0, h1⟩
  | m + 1, r, h0, h1 => wlk_in h m (stp_in h h0 h1).1 (stp_in h h0 h1).2
noncomputable def cm0 (es : List Int) (k : Nat) : Bool := decide (wlk es es.length ((k : Int) + 1) = 0)
noncomputable def isTree (es : List Int) : Bool := decide (es ≠ []) && (inR es && (List.range es.length).all (cm0 es))
theorem isTree_cons {es : List Int} (h : es ≠ []) : isTree es = (inR es && (List.range es.length).all (cm0 es)) := by unfold isTree; rw [decide_eq_true h, Bool.true_and]
/-- a tree built along a row: each knot's elder stands ahead of it -/
structure Grown (es row : List Int) (k : Nat) : Prop where
  len : es.length = row.length
  nums : ∀ x ∈ row, 1 ≤ x ∧ x ≤ (row.length : Int)
  nodup : row.Nodup
  at_ : ∀ j : Nat, j < k → ∃ x, row[j]? = some x ∧ (es.getD (x - 1).toNat 0 = 0 ∨ ∃ i, i < j ∧ row[i]? = some (es.getD (x - 1).toNat 0))
theorem Grown.reach {es row : List Int} {k : Nat} (g : Grown es row k) : ∀ (j : Nat), j < k → ∀ x, row[j]? = some x → wlk es (j + 1) x = 0 := by
  intro j
  induction j using Nat.strongRecOn with
  | ind j ih =>
    intro hj x hx
    obtain ⟨y, hy, h⟩ := g.at_ j hj
    rw [hx] at hy
    cases hy
    have hx1 := g.nums x (List.mem_of_getElem? hx)
    have e : stp es x = es.getD (x - 1).toNat 0 := by unfold stp; rw [if_pos (by omega)]
    show wlk es j (stp es x) = 0
    rw [e]
    rcases h with h | ⟨i, hi, hr⟩
    · rw [h]; exact wlk_zero es j
    · exact wlk_more (ih i hi (by omega) _ hr) (by omega)
theorem nodup_all : ∀ (n : Nat) (row : List Int), row.Nodup → row.length = n → (∀ x ∈ row, 1 ≤ x ∧ x ≤ (n : Int)) → ∀ k : Int, 1 ≤ k → k ≤ (n : Int) → k ∈ row := by
  intro n row nd hl hx k k1 k2
  by_cases h : k ∈ row
  · exact h
  exfalso
  -- n numbers among n - 1
  have key : ∀ (m : Nat) (l : List Int), l.Nodup → (∀ x ∈ l, 1 ≤ x ∧ x ≤ (m : Int)) → l.length ≤ m := by
    intro m
    induction m with
    | zero =>
      intro l _ h
      cases l with
      | nil => simp
      | cons x l => have := h x (by simp); omega
    | succ m ih =>
      intro l nd h
      have h2 := ih (l.erase ((m : Int) + 1)) (nd.erase _) fun x hx => by
        have h3 := (nd.mem_erase_iff).mp hx
        have := h x h3.2
        omega
      have h3 := List.length_erase (a := (m : Int) + 1) (l := l)
      split at h3 <;> omega
  have h1 := key n (k :: row) (List.nodup_cons.mpr ⟨h, nd⟩) fun x hx' => by
    rcases List.mem_cons.mp hx' with z | z
    · omega
    · exact hx x z
  simp at h1
  omega
theorem Grown.tree {es row : List Int} (g : Grown es row row.length) : isTree es = decide ((0 : Int) < (es.length : Int)) := by
  by_cases hn : es = []
  · subst hn; rfl
  have hpos : 0 < es.length := List.length_pos_iff.mpr hn
  rw [decide_eq_true (by omega), isTree_cons hn, Bool.and_eq_true]
  have knot : ∀ k : Int, 1 ≤ k → k ≤ (row.length : Int) → ∃ j, j < row.length ∧ row[j]? = some k := fun k k1 k2 => by
    have := nodup_all row.length row g.nodup rfl g.nums k k1 k2
    obtain ⟨j, hj, e⟩ := List.getElem_of_mem this
    exact ⟨j, hj, by rw [List.getElem?_eq_getElem hj, e]⟩
  constructor
  · rw [inR_iff]
    intro e he
    obtain ⟨i, hi, rfl⟩ := List.getElem_of_mem he
    obtain ⟨j, hj, hr⟩ := knot ((i : Int) + 1) (by omega) (by have := g.len; omega)
    obtain ⟨x, hx, h⟩ := g.at_ j hj
    rw [hr] at hx
    cases hx
    have ei : es.getD ((i : Int) + 1 - 1).toNat 0 = es[i] := by
      rw [show ((i : Int) + 1 - 1).toNat = i by omega, List.getD_eq_getElem?_getD, List.getElem?_eq_getElem hi]
      rfl
    rw [ei] at h
    rcases h with h | ⟨i', _, h⟩
    · rw [h]; omega
    · have := g.nums _ (List.mem_of_getElem? h)
      have := g.len
      omega
  · rw [List.all_eq_true]
    intro k hk
    have hk' := List.mem_range.mp hk
    obtain ⟨j, hj, hr⟩ := knot ((k : Int) + 1) (by omega) (by have := g.len; omega)
    exact decide_eq_true (wlk_more (g.reach j hj _ hr) (by have := g.len; omega))
end Ck
namespace Ck
open PySem L2
theorem dec_int (a b : Int) : decide (V.int a = V.int b) = decide (a = b) := by
  by_cases h : a = b
  · rw [decide_eq_true h, decide_eq_true (by rw [h])]
  · rw [decide_eq_false h, decide_eq_false (ne_int h)]
end Ck
namespace Ck
theorem getD_set (es : List Int) (k m : Nat) (d : Int) (hk : k < es.length) : (es.set k d).getD m 0 = if m = k then d else es.getD m 0 := by
  rw [List.getD_eq_getElem?_getD, List.getElem?_set, List.getD_eq_getElem?_getD]
  by_cases e : k = m
  · subst e
    rw [if_pos rfl, if_pos rfl, if_pos hk]
    rfl
  · rw [if_neg e, if_neg (fun z => e z.symm)]
end Ck
namespace Ck
open PySem L2
end Ck

set_option Elab.async false
set_option linter.all false
set_option maxRecDepth 100000
set_option maxHeartbeats 4000000
/-! Own rules: list(range(..)). -/
namespace L2
open PySem PySem.Spec PyProof.Rows
theorem vals_get : ∀ {xs : List V} {us : List Value}, us.length = xs.length → (∀ (j : Nat) v, us[j]? = some v → ∃ x, xs[j]? = some x ∧ RelV x v) → Vals xs us
  | [], us, hl, _ => by
    have : us = [] := List.eq_nil_of_length_eq_zero hl
    subst this
    exact .nil
  | x :: xs, [], hl, _ => by simp at hl
  | x :: xs, u :: us, hl, k => by
    obtain ⟨y, e1, r⟩ := k 0 u rfl
    have : x = y := by simpa using e1
    subst this
    exact .cons r (vals_get (by simpa using hl) fun j w e => by
      obtain ⟨y, f1, f2⟩ := k (j + 1) w (by simpa using e)
      exact ⟨y, by simpa using f1, f2⟩)
/-- the numbers of a range -/
noncomputable def rngV (i : Int) (n : Nat) : List V := ((List.range n).map fun (k : Nat) => i + (k : Int)).map V.int
section
variable {X : Cx}
theorem list_range {pins : List (Addr × Obj)} {σ : St} {H : Hp} {s : Shared} {Q : VK} {lo hi : Int} {t u v : Tok} {tk : Nat} (hc : X.calm = true) (I : Inv X pins σ H s) (h1 : -(2 ^ 62) ≤ lo) (h2 : lo < 2 ^ 62) (h3 : -(2 ^ 62) ≤ hi) (h4 : hi < 2 ^ 62) (hz : (hi - lo).toNat ≤ 1000000)
    (q : ∀ l, H l = none → Q (.ref l) (upd H l (.lst (rngV lo (hi - lo).toNat)))) : wpAny (model X.prog X.w) X.A (call (.type "list") [.ref s.heap.objs.size]) (EP X pins σ Q) X.xe { s with heap := s.heap.push { cls := .type "range", data := .fields #[.int lo t, .int hi u, .int 1 v] }, toks := tk } := by
  have I1 : Inv X pins σ H { s with heap := s.heap.push { cls := .type "range", data := .fields #[.int lo t, .int hi u, .int 1 v] }, toks := tk } := I.kept fun b o e => Heap.get?_push_of_some _ e
  refine call_list_range (n := (hi - lo).toNat) (I.ok.hd hc) (IsRange.new ..) (small_one h1 h2 h3 h4) (by rw [rangeSize_one]; split <;> omega) (by omega) fun h' tk' acc' c' hk he hacc => ?_
  have hl : acc'.toList.length = (rngV lo (hi - lo).toNat).length := by unfold rngV; simpa using hacc.1
  refine ⟨.ref _, _, I1.laid (t' := tk') (o := .lst (rngV lo (hi - lo).toNat)) hk (Nat.le_refl _) ⟨?_, acc'.toList, c', vals_get hl fun j w e => ?_, he⟩, rfl, q _ (I1.hok.fresh (Nat.le_refl _))⟩
  · unfold rngV
    rw [List.length_map, List.length_map, List.length_range]
    exact sz (by omega)
  · obtain ⟨t', e2⟩ := hacc.2 j w (by simpa using e)
    have hj : j < (hi - lo).toNat := by
      have := (List.getElem?_eq_some_iff.mp e).1
      rw [hl] at this
      unfold rngV at this
      simpa using this
    refine ⟨.int (lo + (j : Int)), ?_, t', by rw [e2, Int.mul_one]⟩
    unfold rngV
    rw [List.getElem?_map, List.getElem?_map, List.getElem?_range hj]
    rfl
noncomputable def tLR2 (ta : TA) : TE := fun σ H Q => ta σ H fun vs H1 => ∃ i j : Int, vs = [.int i, .int j] ∧ (-(2 ^ 62) ≤ i ∧ i < 2 ^ 62 ∧ -(2 ^ 62) ≤ j ∧ j < 2 ^ 62) ∧ (j - i).toNat ≤ 1000000 ∧ ∀ l, H1 l = none → Q (.ref l) (upd H1 l (.lst (rngV i (j - i).toNat)))
theorem pe_lr2 {a b : Expr} {ta : TA} {p p2 pos pos2 : Pos} (hc : X.calm = true) (hgl : Gl X "list") (hml : X.mg "list" = none) (hg : Gl X "range") (hm : X.mg "range" = none) (ha : PA X [a, b] ta) (hs : starEach [a, b] X.env = [(false, eval a X.env), (false, eval b X.env)] := by rfl) (hs2 : starEach [b] X.env = [(false, eval b X.env)] := by rfl)
    (he : starEach [.Call (.Name "range" p) [a, b] [] pos] X.env = [(false, eval (.Call (.Name "range" p) [a, b] [] pos) X.env)] := by rfl) :
    PE X (.Call (.Name "list" p2) [.Call (.Name "range" p) [a, b] [] pos] [] pos2) (tLR2 ta) := by
  intro pins s σ H Q I h
  refine wpAny_Call_Name_kw (ld_blt I hgl hml bb_list ?_ (by decide) (by decide))
  refine PyProof.Rows.callWith_type1 ?_ he rfl
  rw [he]
  show wpAny _ _ (spliced ((false, eval (.Call (.Name "range" p) [a, b] [] pos) X.env) :: backTo pos2 [])) _ _ s
  refine Calls.spliced_cons (Call_ (ld_blt I hg hm boot_range (PyProof.Rows.callWith_type1 (thn (ha pos pins s σ H _ I h) fun us s1 ⟨vs, H1, I1, r1, q1⟩ => ?_) (by rw [hs, hs2]) (by rw [hs2]; rfl))))
  obtain ⟨i, j, e, ⟨b1, b2, b3, b4⟩, b5, q⟩ := q1
  subst e
  cases r1 with
  | cons r rr =>
    cases rr with
    | cons r' rr =>
      cases rr
      obtain ⟨t, rfl⟩ := r
      obtain ⟨t', rfl⟩ := r'
      exact call_range_2 (Calls.spliced_nil (list_range hc I1 b1 b2 b3 b4 b5 q))
end
end L2
namespace L2
open PySem PySem.Spec PyProof.Rows
end L2
namespace L2
open PySem PySem.Spec PyProof.Rows
end L2

set_option Elab.async false
set_option linter.all false
set_option maxRecDepth 100000
set_option maxHeartbeats 4000000
/-! Rows that come off a pile. -/
namespace Ck
open PySem L2
noncomputable def rgI (n : Nat) : List Int := (List.range n).map fun (k : Nat) => (k : Int)
noncomputable def stk (row : List Int) (k p : Nat) : List Int := (rgI p).filter fun m => !decide (m ∈ row.take k)
end Ck
namespace Ck
open PySem L2
end Ck

set_option Elab.async false
set_option linter.all false
set_option maxRecDepth 100000
set_option maxHeartbeats 4000000
/-! A tree's code, and a code's tree. -/
namespace Ck
open PySem L2
noncomputable def eld (es : List Int) (k : Int) : Int := es.getD (k - 1).toNat 0
noncomputable def frees (w T : List Int) : List Int := T.filter fun k => !decide (k ∈ w)
theorem mem_frees {w T : List Int} {k : Int} : k ∈ frees w T ↔ k ∈ T ∧ k ∉ w := by unfold frees; rw [List.mem_filter]; simp
theorem frees_congr {w w' T : List Int} (h : ∀ k, k ∈ w ↔ k ∈ w') : frees w T = frees w' T := by
  unfold frees
  refine List.filter_congr fun k _ => ?_
  by_cases h1 : k ∈ w
  · rw [decide_eq_true h1, decide_eq_true ((h k).mp h1)]
  · rw [decide_eq_false h1, decide_eq_false (fun z => h1 ((h k).mpr z))]
/-- the knots of T are taken out in the order ts -/
inductive Enc (es : List Int) : List Int → List Int → Prop
  | nil : Enc es [] []
  | cons {T ts : List Int} {t : Int} : t ∈ frees (T.map (eld es)) T → (∀ k ∈ frees (T.map (eld es)) T, t ≤ k) → Enc es (T.erase t) ts → Enc es T (t :: ts)
inductive Dec : List Int → List Int → List Int → Prop
  | nil : Dec [] [] []
  | cons {w T ts : List Int} {c t : Int} : t ∈ frees (c :: w) T → (∀ k ∈ frees (c :: w) T, t ≤ k) → Dec w (T.erase t) ts → Dec (c :: w) T (t :: ts)
theorem Enc.perm {es T ts : List Int} (h : Enc es T ts) : ts.Perm T := by
  induction h with
  | nil => exact List.Perm.refl _
  | cons h1 _ _ ih => exact (List.Perm.cons _ ih).trans (List.perm_cons_erase (mem_frees.mp h1).1).symm
theorem Dec.perm {w T ts : List Int} (h : Dec w T ts) : ts.Perm T := by
  induction h with
  | nil => exact List.Perm.refl _
  | cons h1 _ _ ih => exact (List.Perm.cons _ ih).trans (List.perm_cons_erase (mem_frees.mp h1).1).symm
theorem Dec.len {w T ts : List Int} (h : Dec w T ts) : ts.length = w.length := by
  induction h with
  | nil => rfl
  | cons _ _ _ ih => simp [ih]
theorem Dec.enc {es w T ts : List Int} (h : Dec w T ts) : ts.map (eld es) = w → Enc es T ts := by
  induction h with
  | nil => intro _; exact .nil
  | @cons w T ts c t h1 h2 h3 ih =>
    intro e
    rw [List.map_cons, List.cons.injEq] at e
    have pm : (t :: ts).Perm T := (List.Perm.cons _ h3.perm).trans (List.perm_cons_erase (mem_frees.mp h1).1).symm
    have e2 : frees (c :: w) T = frees (T.map (eld es)) T := frees_congr fun k => by
      rw [← e.1, ← e.2]
      exact (pm.map (eld es)).mem_iff
    rw [e2] at h1 h2
    exact .cons h1 h2 (ih e.2)
theorem frees_ne {w0 T : List Int} (nd : T.Nodup) (pos : ∀ k ∈ T, 1 ≤ k) (hl : w0.length + 1 = T.length) : frees (w0 ++ [0]) T ≠ [] := by
  intro z
  have sub : T ⊆ w0 := fun k hk => by
    by_cases h : k ∈ w0 ++ [0]
    · rcases List.mem_append.mp h with y | y
      · exact y
      · have : k = 0 := by simpa using y
        have := pos k hk
        omega
    · have : k ∈ frees (w0 ++ [0]) T := mem_frees.mpr ⟨hk, h⟩
      rw [z] at this
      cases this
  have := nd.length_le_of_subset sub
  omega
theorem leaf_ne {es T : List Int} (hin : inR es = true) (reach : ∀ k : Int, 1 ≤ k → k ≤ (es.length : Int) → wlk es es.length k = 0) (nd : T.Nodup) (hT : ∀ k ∈ T, 1 ≤ k ∧ k ≤ (es.length : Int)) (hne : T ≠ []) : frees (T.map (eld es)) T ≠ [] := by
  intro z
  have sub : ∀ k ∈ T, k ∈ T.map (eld es) := fun k hk => by
    by_cases h : k ∈ T.map (eld es)
    · exact h
    · have : k ∈ frees (T.map (eld es)) T := mem_frees.mpr ⟨hk, h⟩
      rw [z] at this
      cases this
  have back : ∀ k ∈ T, eld es k ∈ T := fun k hk => by
    by_cases h : eld es k ∈ T
    · exact h
    · exfalso
      have hm : eld es k ∈ T.map (eld es) := List.mem_map.mpr ⟨k, hk, rfl⟩
      have s2 : T ⊆ (T.map (eld es)).erase (eld es k) := fun x hx => (List.mem_erase_of_ne (fun e => h (by rw [← e]; exact hx))).mpr (sub x hx)
      have l1 := nd.length_le_of_subset s2
      rw [List.length_erase_of_mem hm, List.length_map] at l1
      have := List.length_pos_of_mem hk
      omega
  have stay : ∀ m k, k ∈ T → wlk es m k ∈ T := by
    intro m
    induction m with
    | zero => intro k hk; exact hk
    | succ m ih =>
      intro k hk
      have := hT k hk
      have e : stp es k = eld es k := by unfold stp eld; rw [if_pos (by omega)]
      show wlk es m (stp es k) ∈ T
      rw [e]
      exact ih _ (back k hk)
  obtain ⟨k, hk⟩ := List.exists_mem_of_ne_nil T hne
  have h1 := hT k hk
  have h2 := stay es.length k hk
  rw [reach k h1.1 h1.2] at h2
  have := hT 0 h2
  omega
theorem Enc.last {es T ts : List Int} (h : Enc es T ts) : T.Nodup → (∀ k ∈ T, eld es k = 0 ∨ eld es k ∈ T) → T ≠ [] → ∃ w0, ts.map (eld es) = w0 ++ [0] := by
  induction h with
  | nil => intro _ _ h; exact absurd rfl h
  | @cons T ts t h1 h2 h3 ih =>
    intro nd cl _
    obtain ⟨ht, htn⟩ := mem_frees.mp h1
    by_cases he : T.erase t = []
    · have pm := h3.perm
      rw [he] at pm
      have : ts = [] := List.eq_nil_of_length_eq_zero (by have := pm.length_eq; simpa using this)
      subst this
      refine ⟨[], ?_⟩
      rcases cl t ht with z | z
      · show [eld es t] = [0]
        rw [z]
      · exfalso
        have e : eld es t = t := by
          by_cases e : eld es t = t
          · exact e
          · have := (List.mem_erase_of_ne e).mpr z
            rw [he] at this
            cases this
        exact htn (List.mem_map.mpr ⟨t, ht, e⟩)
    · obtain ⟨w0, e⟩ := ih (nd.erase t) (fun k hk => by
        obtain ⟨k1, k2⟩ := (nd.mem_erase_iff).mp hk
        rcases cl k k2 with z | z
        · exact .inl z
        · refine .inr ((List.mem_erase_of_ne fun w => htn (List.mem_map.mpr ⟨k, k2, w⟩)).mpr z)) he
      exact ⟨eld es t :: w0, by rw [List.map_cons, e]; rfl⟩
theorem Dec.later {w T ts : List Int} (h : Dec w T ts) : ∀ (p : Nat) (t : Int), ts[p]? = some t → t ∉ w.drop p := by
  induction h with
  | nil => intro p t e; cases e
  | @cons w T ts c t h1 h2 h3 ih =>
    intro p u e
    cases p with
    | zero =>
      have : t = u := by simpa using e
      subst this
      exact (mem_frees.mp h1).2
    | succ p => exact ih p u (by simpa using e)
/-- all knots -/
noncomputable def knots (n : Nat) : List Int := (List.range n).map fun (k : Nat) => 1 + (k : Int)
theorem mem_knots {n : Nat} {k : Int} : k ∈ knots n ↔ 1 ≤ k ∧ k ≤ (n : Int) := by
  unfold knots
  rw [List.mem_map]
  constructor
  · rintro ⟨j, hj, rfl⟩
    have := List.mem_range.mp hj
    omega
  · intro h
    exact ⟨(k - 1).toNat, List.mem_range.mpr (by omega), by omega⟩
theorem knots_lt (n : Nat) : (knots n).Pairwise (· < ·) := by
  unfold knots
  rw [List.pairwise_map]
  exact List.pairwise_lt_range.imp fun h => by omega
theorem knots_nd (n : Nat) : (knots n).Nodup := (knots_lt n).imp fun h => Int.ne_of_lt h
theorem knots_len (n : Nat) : (knots n).length = n := by unfold knots; simp
/-- a code's tree is a tree -/
theorem Dec.grown {w ts es : List Int} (h : Dec w (knots w.length) ts) (hl : es.length = w.length) (he : ts.map (eld es) = w) (hw : ∀ c ∈ w, 0 ≤ c ∧ c ≤ (w.length : Int)) : Grown es ts.reverse ts.reverse.length := by
  have pm := h.perm
  have lt : ts.length = w.length := h.len
  refine ⟨by rw [List.length_reverse, hl, lt], fun x hx => ?_, ?_, fun j hj => ?_⟩
  · rw [List.mem_reverse] at hx
    have := mem_knots.mp (pm.mem_iff.mp hx)
    rw [List.length_reverse, lt]
    exact this
  · have hnd : ts.Nodup := pm.nodup_iff.mpr (knots_nd _)
    exact (List.reverse_perm ts).nodup_iff.mpr hnd
  · rw [List.length_reverse] at hj
    have hp : ts.length - 1 - j < ts.length := by omega
    have ex : ts[ts.length - 1 - j]? = some ts[ts.length - 1 - j] := List.getElem?_eq_getElem hp
    refine ⟨ts[ts.length - 1 - j], by rw [List.getElem?_reverse hj]; exact ex, ?_⟩
    have ew : w[ts.length - 1 - j]? = some (eld es ts[ts.length - 1 - j]) := by
      have := congrArg (fun l : List Int => l[ts.length - 1 - j]?) he
      simp only [List.getElem?_map, ex] at this
      exact this.symm
    have bw := hw _ (List.mem_of_getElem? ew)
    show eld es ts[ts.length - 1 - j] = 0 ∨ ∃ i, i < j ∧ ts.reverse[i]? = some (eld es ts[ts.length - 1 - j])
    generalize eld es ts[ts.length - 1 - j] = c at ew bw
    by_cases hc : c = 0
    · exact .inl hc
    · right
      have hm : c ∈ ts := pm.mem_iff.mpr (mem_knots.mpr ⟨by omega, bw.2⟩)
      obtain ⟨q, hq, eq⟩ := List.getElem_of_mem hm
      have eq' : ts[q]? = some c := by rw [List.getElem?_eq_getElem hq, eq]
      have nl := h.later q c eq'
      have hlt : ts.length - 1 - j < q := by
        by_cases z : q ≤ ts.length - 1 - j
        · exfalso
          refine nl (List.mem_of_getElem? (i := ts.length - 1 - j - q) ?_)
          rw [List.getElem?_drop, show q + (ts.length - 1 - j - q) = ts.length - 1 - j by omega]
          exact ew
        · omega
      refine ⟨ts.length - 1 - q, by omega, ?_⟩
      rw [List.getElem?_reverse (by omega), show ts.length - 1 - (ts.length - 1 - q) = q by omega]
      exact eq'
end Ck
namespace Ck
theorem enc_uniq {es T ts ts' : List Int} (h : Enc es T ts) : Enc es T ts' → ts = ts' := by
  induction h generalizing ts' with
  | nil =>
    intro h'
    cases h' with
    | nil => rfl
    | cons g1 _ _ => exact absurd (mem_frees.mp g1).1 (by simp)
  | @cons T ts t h1 h2 h3 ih =>
    intro h'
    cases h' with
    | nil => exact absurd (mem_frees.mp h1).1 (by simp)
    | @cons _ ts' t' g1 g2 g3 =>
      have e : t = t' := Int.le_antisymm (h2 t' g1) (g2 t h1)
      subst e
      rw [ih g3]
theorem tree_facts {es : List Int} (h : isTree es = true) : es ≠ [] ∧ inR es = true ∧ ∀ k : Int, 1 ≤ k → k ≤ (es.length : Int) → wlk es es.length k = 0 := by
  unfold isTree at h
  rw [Bool.and_eq_true, Bool.and_eq_true] at h
  refine ⟨of_decide_eq_true h.1, h.2.1, fun k k1 k2 => ?_⟩
  have := List.all_eq_true.mp h.2.2 (k - 1).toNat (List.mem_range.mpr (by omega))
  unfold cm0 at this
  have := of_decide_eq_true this
  rw [show (((k - 1).toNat : Nat) : Int) + 1 = k by omega] at this
  exact this
end Ck
namespace Ck
end Ck

set_option Elab.async false
set_option linter.all false
set_option maxRecDepth 100000
set_option maxHeartbeats 4000000
/-! Own rules: list.remove; rules within comprehensions; a slice up to the last one. -/
namespace L2
open PySem PySem.Spec PyProof.Rows PySem.SeqAt
theorem erase_idx (k : Int) : ∀ ns : List Int, k ∈ ns → ns.eraseIdx (ns.idxOf k) = ns.erase k
  | [], h => by cases h
  | n :: ns, h => by
    by_cases e : n = k
    · subst e
      rw [List.idxOf_cons_self, List.erase_cons_head]
      rfl
    · have hm : k ∈ ns := by
        rcases List.mem_cons.mp h with z | z
        · exact absurd z.symm e
        · exact z
      have e2 : (n :: ns).idxOf k = ns.idxOf k + 1 := by
        have : (n == k) = false := by simpa using e
        simp [List.idxOf_cons, this]
      rw [e2, List.erase_cons_tail (by simpa using e)]
      show n :: ns.eraseIdx (ns.idxOf k) = _
      rw [erase_idx k ns hm]
section
variable {X : Cx}
noncomputable def rRemove : V → List V → Hp → VK → Prop := fun x vs H Q => ∃ (l : Addr) (ns : List Int) (k : Int), x = .ref l ∧ vs = [.int k] ∧ H l = some (.lst (ns.map V.int)) ∧ k ∈ ns ∧ Q .non (upd H l (.lst ((ns.erase k).map V.int)))
theorem mt_remove : MtM X "list.remove" rRemove := by
  intro pins s σ H x vs v us Q I rx rv h
  obtain ⟨l, ns, k, rfl, rfl, hH, hk, q⟩ := h
  cases rx
  obtain ⟨u, rfl, t, rfl⟩ := rv.one
  obtain ⟨z, its, n, r, hl, e⟩ := I.lstM hH
  have hi : IntsAre its ns := intsAre_of r
  have hlen := hi.length
  have hj : ns.idxOf k < ns.length := List.idxOf_lt_length_iff.mpr hk
  refine call_meets F.slot_list_remove ⟨_, e, rfl⟩ F.entry_list_remove (F.args_list_remove_2 _ _)
    (MeetsSeq.list_remove l its.toArray n (.int k t) (isInt k) (fun y hy => eq_isInt k t hi y (by simpa using hy)) (ns.idxOf k) (by simpa [hlen] using hj) ?_ ?_ (by rw [List.size_toArray]; omega)) ⟨e, ?_⟩
  · show isInt k its[ns.idxOf k] = true
    rw [isInt_at k hi _ (by omega) hj]
    simpa using List.getElem_idxOf hj
  · intro j hjs hlt
    show isInt k its[j] = false
    rw [isInt_at k hi j (by simpa using hjs) (by omega)]
    exact ne_of_lt_idxOf hlt _
  · rw [← erase_idx k ns hk] at q
    refine ⟨.non, _, I.lset (its' := its.eraseIdx (ns.idxOf k)) (ys := (ns.eraseIdx (ns.idxOf k)).map V.int) hH e ?_ (by rw [← Ck.map_erase]; exact r.eraseIdx _) ?_, rfl, q⟩
    · show its.toArray.eraseIdxIfInBounds (ns.idxOf k) = (its.eraseIdx (ns.idxOf k)).toArray
      rw [List.eraseIdxIfInBounds_toArray]
    · rw [List.length_map]
      have := List.length_eraseIdx_le ns (ns.idxOf k)
      rw [List.length_map] at hl z
      omega
theorem op_notinK {K : PySem.W.Frag} (hK : X.K = K) : OpR X (compareOp .NotIn) (fun x y H Q => ∃ (k : Int) (p : Addr) (ns : List Int), x = .int k ∧ y = .ref p ∧ SqL K H p (ns.map V.int) ∧ Q (.bl (!decide (k ∈ ns))) H) := by
  subst hK
  exact op_notin
theorem sl_listK {K : PySem.W.Frag} (hK : X.K = K) : SlR X (rSlL K) := by
  subst hK
  exact sl_list
end
end L2
namespace Ck
open PySem L2
theorem cutV_but (xs : List V) : cutV xs none (some (-1)) = xs.dropLast := by
  unfold cutV
  rw [HT.sIx_none, List.drop_zero, Nat.sub_zero, List.dropLast_eq_take]
  have e : HT.sIx xs.length xs.length (some (-1)) = xs.length - 1 := by
    unfold HT.sIx
    simp
    omega
  rw [e]
end Ck
namespace L2
open PySem
theorem hu1 {A : Around} {k : Nat} (hr : Room k A) : A.units + 1 < cLine := Nat.lt_of_le_of_lt (by omega) hr.un
end L2
namespace Ck
open PySem L2
theorem rngV_knots (n : Nat) : rngV 1 n = (knots n).map V.int := rfl
theorem frees_take {w T : List Int} {j : Nat} {k : Int} (h : T[j]? = some k) : frees w (T.take (j + 1)) = frees w (T.take j) ++ (if k ∈ w then [] else [k]) := by
  unfold frees
  rw [List.take_add_one, h, List.filter_append]
  refine congrArg _ ?_
  by_cases hk : k ∈ w <;> simp [hk]
theorem eld_set {es : List Int} {t v : Int} (h1 : 1 ≤ t) (h2 : t ≤ (es.length : Int)) (k : Int) (hk : 1 ≤ k) : eld (es.set (t - 1).toNat v) k = if k = t then v else eld es k := by
  unfold eld
  rw [getD_set es (t - 1).toNat (k - 1).toNat v (by omega)]
  by_cases e : k = t
  · rw [if_pos (by rw [e]), if_pos e]
  · rw [if_neg (by omega), if_neg e]
/-- the first of the free ones in a rising list is the least -/
theorem frees_head {w T : List Int} (hs : T.Pairwise (· < ·)) {t : Int} {r : List Int} (h : frees w T = t :: r) : t ∈ frees w T ∧ ∀ k ∈ frees w T, t ≤ k := by
  have pw : (frees w T).Pairwise (· < ·) := hs.filter _
  rw [h] at pw ⊢
  refine ⟨by simp, fun k hk => ?_⟩
  rcases List.mem_cons.mp hk with z | z
  · omega
  · have := (List.pairwise_cons.mp pw).1 k z
    omega
end Ck

namespace L2
open PySem PySem.Spec PyProof.Rows

/-! ### lists of pairs as tables -/
section
variable {κ : Type} [DecidableEq κ]
noncomputable def valV (kvs : List (κ × V)) (k : κ) : Option V := (kvs.find? fun kv => decide (kv.1 = k)).map (·.2)
/-- in its place, or at the end -/
noncomputable def putK (kvs : List (κ × V)) (k : κ) (v : V) : List (κ × V) :=
  if (kvs.any fun kv => decide (kv.1 = k)) = true then kvs.map (fun kv => if kv.1 = k then (kv.1, v) else kv) else kvs ++ [(k, v)]
theorem valV_pos {p : κ × V} {r : List (κ × V)} {k : κ} (e : p.1 = k) : valV (p :: r) k = some p.2 := by simp [valV, List.find?_cons, e]
theorem valV_neg {p : κ × V} {r : List (κ × V)} {k : κ} (e : ¬ p.1 = k) : valV (p :: r) k = valV r k := by simp [valV, List.find?_cons, e]
theorem valV_any (k : κ) : ∀ kvs : List (κ × V), (kvs.any fun kv => decide (kv.1 = k)) = (valV kvs k).isSome
  | [] => rfl
  | p :: r => by
    rw [List.any_cons]
    by_cases e : p.1 = k
    · simp only [valV_pos e, decide_eq_true e, Bool.true_or, Option.isSome_some]
    · rw [valV_neg e, decide_eq_false e, Bool.false_or]; exact valV_any k r
theorem valV_map (k j : κ) (y : V) : ∀ kvs : List (κ × V), valV (kvs.map fun kv => if kv.1 = k then (kv.1, y) else kv) j = (valV kvs j).map fun x => if j = k then y else x
  | [] => rfl
  | p :: r => by
    have ih := valV_map k j y r
    rw [List.map_cons]
    by_cases h : p.1 = k
    · rw [if_pos h]
      by_cases e : p.1 = j
      · rw [valV_pos (p := (p.1, y)) e, valV_pos e, Option.map_some, if_pos (e.symm.trans h)]
      · rw [valV_neg (p := (p.1, y)) e, valV_neg e, ih]
    · rw [if_neg h]
      by_cases e : p.1 = j
      · rw [valV_pos (p := p) e, valV_pos e, Option.map_some, if_neg (fun z => h (e.trans z))]
      · rw [valV_neg (p := p) e, valV_neg e, ih]
theorem valV_snoc (k j : κ) (y : V) : ∀ kvs : List (κ × V), valV kvs k = none → valV (kvs ++ [(k, y)]) j = if j = k then some y else valV kvs j
  | [], _ => by
    by_cases e : k = j
    · rw [if_pos e.symm]; exact valV_pos (p := (k, y)) e
    · rw [if_neg (fun z => e z.symm)]; exact valV_neg (p := (k, y)) e
  | p :: r, hn => by
    rw [List.cons_append]
    have hk : ¬ p.1 = k := fun z => by rw [valV_pos z] at hn; cases hn
    rw [valV_neg hk] at hn
    have ih := valV_snoc k j y r hn
    by_cases e : p.1 = j
    · rw [valV_pos e, valV_pos e, if_neg (fun z => hk (e.trans z))]
    · rw [valV_neg e, valV_neg e, ih]
theorem valV_put (kvs : List (κ × V)) (k j : κ) (y : V) : valV (putK kvs k y) j = if j = k then some y else valV kvs j := by
  unfold putK
  by_cases a : (kvs.any fun kv => decide (kv.1 = k)) = true
  · rw [if_pos a, valV_map]
    rw [valV_any] at a
    by_cases e : j = k
    · obtain ⟨x, hx⟩ := Option.isSome_iff_exists.mp a
      rw [if_pos e, e, hx, Option.map_some, if_pos rfl]
    · rw [if_neg e]
      cases valV kvs j with
      | none => rfl
      | some x => rw [Option.map_some, if_neg e]
  · rw [if_neg a]
    refine valV_snoc k j y kvs ?_
    rw [valV_any] at a
    cases q : valV kvs k with
    | none => rfl
    | some x => rw [q] at a; exact (a rfl).elim
theorem length_putK (kvs : List (κ × V)) (k : κ) (v : V) : (putK kvs k v).length ≤ kvs.length + 1 := by
  unfold putK
  split
  · rw [List.length_map]; omega
  · rw [List.length_append, List.length_cons, List.length_nil]; omega
theorem RelO.isSome_eq {o : Option V} {u : Option Value} (r : RelO o u) : o.isSome = u.isSome := by
  cases o with
  | none => cases u with
    | none => rfl
    | some _ => exact (show False from r).elim
  | some _ => cases u with
    | none => exact (show False from r).elim
    | some _ => rfl
/-- raw tables of the same keys -/
theorem KV.val {kvs : List (κ × V)} {vs : List (κ × Value)} (r : KV kvs vs) (k : κ) : RelO (valV kvs k) (valueAt vs k) := by
  unfold KV at r
  induction r with
  | nil => exact True.intro
  | @cons p q ps qs h t ih =>
    obtain ⟨h1, h2⟩ := h
    by_cases e : p.1 = k
    · have e' : q.1 = k := h1.symm.trans e
      have b : valueAt (q :: qs) k = some q.2 := by simp [valueAt, List.find?_cons, e']
      rw [valV_pos e, b]; exact h2
    · have e' : ¬ q.1 = k := fun z => e (h1.trans z)
      have b : valueAt (q :: qs) k = valueAt qs k := by simp [valueAt, List.find?_cons, e']
      rw [valV_neg e, b]; exact ih
theorem KV.any {kvs : List (κ × V)} {vs : List (κ × Value)} (r : KV kvs vs) (k : κ) : (kvs.any fun kv => decide (kv.1 = k)) = vs.any fun kv => decide (kv.1 = k) := by
  unfold KV at r
  induction r with
  | nil => rfl
  | cons h t ih => rw [List.any_cons, List.any_cons, ih, h.1]
theorem KV.repl {kvs : List (κ × V)} {vs : List (κ × Value)} (r : KV kvs vs) (k : κ) {y : V} {u : Value} (ry : RelV y u) :
    KV (kvs.map fun kv => if kv.1 = k then (kv.1, y) else kv) (vs.map fun kv => if kv.1 = k then (kv.1, u) else kv) := by
  unfold KV at r ⊢
  induction r with
  | nil => exact .nil
  | @cons p q ps qs h t ih =>
    rw [List.map_cons, List.map_cons]
    refine .cons ?_ ih
    obtain ⟨h1, h2⟩ := h
    by_cases e : p.1 = k
    · rw [if_pos e, if_pos (h1.symm.trans e)]; exact ⟨h1, ry⟩
    · rw [if_neg e, if_neg (fun z => e (h1.trans z))]; exact ⟨h1, h2⟩
theorem KV.put {kvs : List (κ × V)} {vs : List (κ × Value)} (r : KV kvs vs) (k : κ) {y : V} {u : Value} (ry : RelV y u) : KV (putK kvs k y) (stored vs k u) := by
  unfold putK stored
  rw [r.any k]
  by_cases e : (vs.any fun kv => decide (kv.1 = k)) = true
  · rw [if_pos e, if_pos e]; exact r.repl k ry
  · rw [if_neg e, if_neg e]; exact Paired.snoc r ⟨rfl, ry⟩
theorem KV.length {kvs : List (κ × V)} {vs : List (κ × Value)} (r : KV kvs vs) : kvs.length = vs.length := Paired.length r
end


/-! ### a tracked dict, its keys ints and texts or tuples of these -/
theorem kV_is {P : Program} {w : World} {k : Key} {u : Value} (r : RelV (kV k) u) : (mixKind P w).is k u = true := by
  cases k with
  | inl i => obtain ⟨t, e⟩ := (show ∃ t, u = Value.int i t from r); subst e; exact mixKind_int P w i t
  | inr x => obtain ⟨t, e⟩ := (show ∃ t, u = Value.str x t from r); subst e; exact mixKind_str P w x t
theorem items_are {P : Program} {w : World} : ∀ {ks : List Key} {us : List Value}, Vals (ks.map kV) us → ItemsAre (mixKind P w) ks us
  | [], _, r => by rw [List.map_nil] at r; cases r; exact .nil
  | k :: ks, _, r => by
    rw [List.map_cons] at r
    cases r with
    | cons h t => exact .cons (kV_is h) (items_are t)

/-- raw entries of a dict with tuple keys -/
noncomputable abbrev KT (H : Hp) : List (List Key × V) → List (List Key × Addr × Value) → Prop := Paired fun p q => p.1 = q.1 ∧ H q.2.1 = some (.tup (p.1.map kV)) ∧ RelV p.2 q.2.2
theorem KT.val {H : Hp} {kvs : List (List Key × V)} {xs : List (List Key × Addr × Value)} (r : KT H kvs xs) (k : List Key) : RelO (valV kvs k) ((atKey xs k).map (·.2)) := by
  induction r with
  | nil => exact True.intro
  | @cons p q ps qs h t ih =>
    obtain ⟨h1, _, h2⟩ := h
    by_cases e : p.1 = k
    · have e' : q.1 = k := h1.symm.trans e
      have b : atKey (q :: qs) k = some q.2 := by simp [atKey, List.find?_cons, e']
      rw [valV_pos e, b]; exact h2
    · have e' : ¬ q.1 = k := fun z => e (h1.trans z)
      have b : atKey (q :: qs) k = atKey qs k := by simp [atKey, List.find?_cons, e']
      rw [valV_neg e, b]; exact ih
theorem KT.repl {H : Hp} {kvs : List (List Key × V)} {xs : List (List Key × Addr × Value)} (r : KT H kvs xs) (k : List Key) {y : V} {u : Value} (ry : RelV y u) :
    KT H (kvs.map fun kv => if kv.1 = k then (kv.1, y) else kv) (xs.map (putAt k u)) := by
  induction r with
  | nil => exact .nil
  | @cons p q ps qs h t ih =>
    rw [List.map_cons, List.map_cons]
    refine .cons ?_ ih
    obtain ⟨h1, h2, h3⟩ := h
    unfold putAt
    by_cases e : p.1 = k
    · rw [if_pos e, if_pos (h1.symm.trans e)]; exact ⟨h1, h2, ry⟩
    · rw [if_neg e, if_neg (fun z => e (h1.trans z))]; exact ⟨h1, h2, h3⟩
theorem KT.put {H : Hp} {kvs : List (List Key × V)} {xs : List (List Key × Addr × Value)} (r : KT H kvs xs) (k : List Key) {b : Addr} {y : V} {u : Value} (hb : H b = some (.tup (k.map kV))) (ry : RelV y u) :
    KT H (putK kvs k y) (storedH xs k b u) := by
  have e : (kvs.any fun kv => decide (kv.1 = k)) = (atKey xs k).isSome := by
    rw [valV_any, (r.val k).isSome_eq, Option.isSome_map]
  unfold putK storedH
  rw [e]
  by_cases q : (atKey xs k).isSome = true
  · rw [if_pos q, if_pos q]; exact r.repl k ry
  · rw [if_neg q, if_neg q]; exact Paired.snoc r ⟨rfl, hb, ry⟩
theorem KT.keeps {H H' : Hp} {kvs : List (List Key × V)} {xs : List (List Key × Addr × Value)} (r : KT H kvs xs) (ht : ∀ b ys, H b = some (.tup ys) → H' b = some (.tup ys)) : KT H' kvs xs :=
  Paired.mapP r fun _ _ z => ⟨z.1, ht _ _ z.2.1, z.2.2⟩

section
variable {P : Program} {w : World} {H : Hp} {h : Heap} {a : Addr}
theorem rd_of {u : HO} (ok : HOk P w H h) (e : Rd H a u) : ObjOk P w H h a u := e.ok ok
theorem dk_rd {kvs : List (Key × V)} (ok : HOk P w H h) (e : Rd H a (.dK kvs)) : kvs.length ≤ sizeLine ∧ (a == sysModules) = false ∧ ∃ vs, KV kvs vs ∧ h.DictOf (mixKind P w) a vs :=
  show ObjOk P w H h a (.dK kvs) from rd_of ok e
theorem dk_of {kvs : List (Key × V)} (ok : HOk P w H h) (e : H a = some (.dK kvs)) : kvs.length ≤ sizeLine ∧ (a == sysModules) = false ∧ ∃ vs, KV kvs vs ∧ h.DictOf (mixKind P w) a vs := dk_rd ok (.inl e)
/-- a tracked tuple of ints and texts is a key -/
theorem key_of {ks : List Key} (ok : HOk P w H h) (e : H a = some (.tup (ks.map kV))) : (tupleKind (mixKind P w)).is h ks a := by
  obtain ⟨_, its, r, o, h1, h2, n, h3⟩ := (show ObjOk P w H h a (.tup (ks.map kV)) from ok a _ e)
  exact ⟨o, its.toArray, n, h1, h2, h3, by simpa using items_are r⟩
theorem dt_rd {kvs : List (List Key × V)} (ok : HOk P w H h) (e : Rd H a (.dT kvs)) : kvs.length ≤ sizeLine ∧ (a == sysModules) = false ∧
    ∃ xs, KT H kvs xs ∧ h.DictOfH (tupleKind (mixKind P w)) a xs := by
  obtain ⟨z, y, xs, r, o, es, ep, h1, h2, h3, h4, h5⟩ := (show ObjOk P w H h a (.dT kvs) from rd_of ok e)
  refine ⟨z, y, xs, r, o, es, ep, h1, h2, h3, h4, fun x hx => ?_, h5⟩
  have all : ∀ {l : List (List Key × V)} {m : List (List Key × Addr × Value)}, KT H l m → ∀ x ∈ m, (tupleKind (mixKind P w)).is h x.1 x.2.1 := by
    intro l m q
    induction q with
    | nil => intro x hx; exact nomatch hx
    | @cons p q ps qs hq t ih =>
      intro x hx
      rcases List.mem_cons.mp hx with e | hx
      · subst e
        exact key_of ok (by rw [← hq.1]; exact hq.2.1)
      · exact ih x hx
  exact all r x hx
theorem dt_of {kvs : List (List Key × V)} (ok : HOk P w H h) (e : H a = some (.dT kvs)) : kvs.length ≤ sizeLine ∧ (a == sysModules) = false ∧
    ∃ xs, KT H kvs xs ∧ h.DictOfH (tupleKind (mixKind P w)) a xs := dt_rd ok (.inl e)
end

/-- what the dict at a holds at the key y -/
noncomputable def DGet (H : Hp) (a : Addr) (y : V) (r : Option V) : Prop :=
  (∃ kvs k, Rd H a (.dK kvs) ∧ y = kV k ∧ r = valV kvs k) ∨ ∃ kvs k b, Rd H a (.dT kvs) ∧ y = .ref b ∧ H b = some (.tup (k.map kV)) ∧ r = valV kvs k
/-- the heap behind a[y] = v -/
noncomputable def DPut (H : Hp) (a : Addr) (y v : V) (H' : Hp) : Prop :=
  (∃ kvs k, H a = some (.dK kvs) ∧ y = kV k ∧ kvs.length < sizeLine ∧ H' = upd H a (.dK (putK kvs k v))) ∨
  ∃ kvs k b, H a = some (.dT kvs) ∧ y = .ref b ∧ H b = some (.tup (k.map kV)) ∧ kvs.length < sizeLine ∧ H' = upd H a (.dT (putK kvs k v))
theorem DGet.k {H : Hp} {a : Addr} {kvs : List (Key × V)} {k : Key} (e : H a = some (.dK kvs)) : DGet H a (kV k) (valV kvs k) := .inl ⟨kvs, k, .inl e, rfl, rfl⟩
section
variable {X : Cx} {pins : List (Addr × Obj)} {σ : St} {H : Hp} {s : Shared} {a : Addr} {y v : V} {u r : Value} {o : Option V} {A : Around} {E : Value → Shared → Prop}

theorem Inv.big (I : Inv X pins σ H s) : sysModules < s.heap.objs.size := by
  have h : mainGlobals < s.heap.objs.size := (I.mod.glob.keeps I.bk).lt
  exact Nat.lt_trans (by decide) h

theorem d_notIn {Q : Value → Shared → Prop} (hu : A.units + 1 < cLine) (I : Inv X pins σ H s) (g : DGet H a y o) (ry : RelV y u) (h : ∀ s', Inv X pins σ H s' → Q (.bool (!o.isSome)) s') :
    wpAny (model X.prog X.w) A (compareOp .NotIn u (.ref a)) Q E s := by
  rcases g with ⟨kvs, k, e, ey, l⟩ | ⟨kvs, k, b, e, ey, eb, l⟩
  · subst ey
    obtain ⟨z, hd, vs, rel, dd⟩ := dk_rd I.hok e
    refine wpAny_notIn_of (kV_is ry) hd dd.mapOf ?_
    rw [← (rel.val k).isSome_eq, ← l]
    exact h _ (I.tok _)
  · subst ey
    cases (show u = Value.ref b from ry)
    obtain ⟨z, hd, xs, rel, dd⟩ := dt_rd I.hok e
    refine wpAny_notIn_heap (tupleKind_room_in1 hu) (key_of I.hok eb) hd dd ?_
    have q := (rel.val k).isSome_eq
    rw [Option.isSome_map] at q
    rw [← q, ← l]
    exact h _ (I.tok _)
/-- a dict's object is replaced -/
theorem d_write {h' : Heap} {t' : Nat} {ob : HO} (I : Inv X pins σ H s) (mu : Mut (H a)) (hs : Heap.SameBut a s.heap h') (he : ∃ q, h'.get? a = some q) (new : ObjOk X.prog X.w (upd H a ob) h' a ob) :
    Inv X pins σ (upd H a ob) { s with heap := h', toks := t' } :=
  I.write (x := a) (e := a) mu (.inl rfl) (fun b q hb z => (hs.2 b hb).trans z) he new
theorem dk_new {P : Program} {w : World} {H' : Hp} {h' : Heap} {kvs : List (Key × V)} {vs : List (Key × Value)} (z : kvs.length ≤ sizeLine) (hd : (a == sysModules) = false) (rel : KV kvs vs) (dd : h'.DictOf (mixKind P w) a vs) :
    ObjOk P w H' h' a (.dK kvs) := ⟨z, hd, vs, rel, dd⟩
/-- d[y] = v -/
theorem d_setItem {H' : Hp} {Q : Unit → Shared → Prop} (hu : A.units + 1 < cLine) (I : Inv X pins σ H s) (g : DPut H a y v H') (ry : RelV y u) (rv : RelV v r) (h : ∀ s', Inv X pins σ H' s' → Q () s') :
    wpAny (model X.prog X.w) A (setItem (.ref a) u r) Q E s := by
  rcases g with ⟨kvs, k, e, ey, l, eH⟩ | ⟨kvs, k, b, e, ey, eb, l, eH⟩
  · subst ey eH
    obtain ⟨z, hd, vs, rel, dd⟩ := dk_of I.hok e
    have hz : vs.length ≤ sizeLine := by rw [← rel.length]; exact z
    have hl : (putK kvs k v).length ≤ sizeLine := by have := length_putK kvs k v; omega
    refine wpAny_setItem_pairs (hsz := hz) (kV_is ry) dd fun h' dd' hs => h _ ?_
    have he : ∃ q, h'.get? a = some q := let ⟨q, _, _, hq, _⟩ := dd'; ⟨q, hq⟩
    exact d_write I (by rw [e]; exact True.intro) hs he (dk_new hl hd (rel.put k rv) dd')
  · subst ey eH
    cases (show u = Value.ref b from ry)
    obtain ⟨z, hd, xs, rel, dd⟩ := dt_of I.hok e
    have hz : xs.length ≤ sizeLine := by rw [← Paired.length rel]; exact z
    have hl : (putK kvs k v).length ≤ sizeLine := by have := length_putK kvs k v; omega
    refine wpAny_setItem_heap (hsz := hz) (tupleKind_room_in1 hu) (key_of I.hok eb) dd fun h' dd' hs => h _ ?_
    obtain ⟨q, es, ep, hq, h2, h3, h4, _, h5⟩ := dd'
    refine d_write I (by rw [e]; exact True.intro) hs ⟨q, hq⟩ ⟨hl, hd, _, (rel.put k eb rv).keeps fun c ys ec => ?_, q, es, ep, hq, h2, h3, h4, h5⟩
    rw [upd_ne (ne_of ec e (fun z => nomatch z))]
    exact ec
end

section
variable {X : Cx} {pins : List (Addr × Obj)} {σ : St} {H : Hp} {s : Shared} {a : Addr} {kvs : List (Key × V)} {k : Key} {u : Value} {A : Around} {E : Value → Shared → Prop}
end


/-! ### readings and rules -/
noncomputable def tDNotIn (ty td : TE) : TE := fun σ H Q => ty σ H fun y H1 => td σ H1 fun x H2 => ∃ a o, x = .ref a ∧ DGet H2 a y o ∧ Q (.bl (!o.isSome)) H2
/-- d[y] = v -/
noncomputable def sDPut (td ty tv : TE) : TS := fun D σ H => tv σ H fun v H1 => td σ H1 fun x H2 => ty σ H2 fun y H3 => ∃ a H4, x = .ref a ∧ DPut H3 a y v H4 ∧ D.nx σ H4
section
variable {X : Cx} {o i e value : Expr} {pos pos' tpos : Pos} {td ty tv : TE}
theorem pc_dnotin (hu : X.A.units + 1 < cLine) (hi : PE X i ty) (ho : PE X o td) : PC X .NotIn i o (tDNotIn ty td) := by
  intro pins s σ H Q I h
  refine thn (hi pins s σ H _ I h) fun iv s1 ⟨y, H1, I1, ry, q1⟩ => thn (ho pins s1 σ H1 _ I1 q1) fun u s2 ⟨x, H2, I2, rx, a, ov, ex, g, q2⟩ => ?_
  subst ex
  obtain rfl : u = Value.ref a := rx
  exact d_notIn hu I2 g ry fun s3 I3 => ⟨.bl (!ov.isSome), H2, I3, rfl, q2⟩
theorem ps_dput (hu : X.A.units + 1 < cLine) (ho : PE X o td) (hi : PE X i ty) (hv : PE X value tv) (hs : swapsWith value (some (.Subscript o i pos')) pos.line X.env = pure false) :
    PS X (.Assign [.Subscript o i pos'] value pos) (sDPut td ty tv) := by
  intro pins s σ H D I h
  refine wpAny_Assign_Subscript (thn (hv pins s σ H _ I h) fun r s1 ⟨v, H1, I1, rv, q1⟩ => thn (ho pins s1 σ H1 _ I1 q1) fun u s2 ⟨x, H2, I2, rx, q2⟩ => thn (hi pins s2 σ H2 _ I2 q2) fun iv s3 ⟨y, H3, I3, ry, a, H4, ex, g, q3⟩ => ?_) hs
  subst ex
  obtain rfl : u = Value.ref a := rx
  exact d_setItem hu I3 g ry rv fun s4 I4 => ⟨σ, H4, I4, q3⟩
end


/-! ### displays -/
theorem dk_empty {P : Program} {w : World} {H : Hp} (h : Heap) (hb : sysModules < h.objs.size) : ObjOk P w H (h.push { cls := .type "dict", data := .dict #[] }) h.objs.size (.dK []) :=
  ⟨Nat.zero_le _, beq_eq_false_iff_ne.mpr (Ne.symm (Nat.ne_of_lt hb)), [], .nil, Heap.DictOf.new h⟩
/-- {}, to be a dict of the kind that is wanted -/
noncomputable def tDNewK : TE := fun _ H Q => ∀ p, H p = none → Q (.ref p) (upd H p (.dK []))
section
variable {X : Cx} {pos : Pos}
theorem pe_dnewK : PE X (.Dict [] [] pos) tDNewK := fun pins s σ H Q I h =>
  wpAny_Dict_empty ⟨.ref s.heap.objs.size, _, I.laid (a := s.heap.objs.size) (o := .dK []) (t' := s.toks) (fun _ _ q => Heap.get?_push_of_some _ q) (Nat.le_refl _) (dk_empty s.heap I.big), rfl, h _ (I.hok.fresh (Nat.le_refl _))⟩
end

/-! ### methods -/
section
variable {X : Cx} {pins : List (Addr × Obj)} {σ : St} {H : Hp} {s : Shared} {a : Addr} {y d : V} {u r : Value} {o : Option V} {A : Around} {E : Value → Shared → Prop}
end

section
variable {X : Cx} {o e f : Expr} {apos cpos : Pos} {td ty tx : TE}
end

/-! ### dict(d): a copy -/
section
variable {X : Cx} {pins : List (Addr × Obj)} {σ : St} {H : Hp} {s : Shared} {a : Addr} {kvs : List (Key × V)} {A : Around} {E : Value → Shared → Prop}
end


section
variable {X : Cx} {pins : List (Addr × Obj)} {σ : St} {H : Hp} {s : Shared} {a : Addr} {y : V} {u : Value} {A : Around} {E : Value → Shared → Prop}
end
end L2
namespace L2
open PySem PySem.Spec PyProof.Rows
section
variable {κ : Type} [DecidableEq κ]
end
end L2
set_option Elab.async false
set_option linter.all false
set_option maxRecDepth 100000
set_option maxHeartbeats 4000000
/-! Figures of a number, rings' things and their codes; objects of one of several classes. -/
namespace L2
open PySem PySem.Spec PyProof.Rows
section
variable {X : Cx}
/-- one of two readings -/
noncomputable def tEit (t1 t2 : TE) : TE := fun σ H Q => t1 σ H Q ∨ t2 σ H Q
theorem pe_eit {e : Expr} {t1 t2 : TE} (h1 : PE X e t1) (h2 : PE X e t2) : PE X e (tEit t1 t2) := fun pins s σ H Q I h => h.elim (h1 pins s σ H Q I) (h2 pins s σ H Q I)
end
/-- what isinstance asks of an own class -/
structure InsT (K : PySem.W.Frag) (C : Addr) : Prop where
  cl : Cls K C
  ha : PySem.W.findIn K (.ref C) "__class__" = some (some (.builtin "object.__class__"))
  hn : PySem.W.specialIn K (.builtin "object.__class__") "__get__" = some (some (.builtin "getset_descriptor.__get__"))
  htk : PySem.W.takesIn K (.builtin "object.__class__") = some true
  hm : PySem.W.mroIn K C (.type "object") = some true
theorem InsT.ty {K : PySem.W.Frag} {C a dx : Addr} {fs : List (Str × V)} {H : Hp} (h : InsT K C) (e : H a = some (.ins C dx fs)) : TyOf K H (.ref a) (.ref C) := .ins e h.cl h.ha h.hn h.htk h.hm
end L2
namespace Ck
open PySem L2
noncomputable def fig (b : Int) (cs : List Int) : Int := cs.foldl (fun m c => m * b + c) 0
noncomputable def figs (b : Int) : Nat → Int → List Int
  | 0, _ => []
  | k + 1, m => figs b k (m / b) ++ [m % b]
noncomputable def dv (b : Int) : Nat → Int → Int
  | 0, m => m
  | k + 1, m => dv b k (m / b)
theorem dv_succ (b : Int) : ∀ (k : Nat) (m : Int), dv b (k + 1) m = dv b k m / b
  | 0, _ => rfl
  | k + 1, m => dv_succ b k (m / b)
theorem figs_front (b : Int) : ∀ (k : Nat) (m : Int), figs b (k + 1) m = (dv b k m % b) :: figs b k m
  | 0, m => rfl
  | k + 1, m => by
    show figs b (k + 1) (m / b) ++ [m % b] = _
    rw [figs_front b k (m / b)]
    rfl
theorem figs_len (b : Int) : ∀ (k : Nat) (m : Int), (figs b k m).length = k
  | 0, _ => rfl
  | k + 1, m => by
    show (figs b k (m / b) ++ [m % b]).length = _
    rw [List.length_append, figs_len b k]
    rfl
theorem figs_bound {b : Int} (hb : 0 < b) : ∀ (k : Nat) (m : Int), ∀ c ∈ figs b k m, 0 ≤ c ∧ c < b
  | 0, _, c, h => by cases h
  | k + 1, m, c, h => by
    rcases List.mem_append.mp (show c ∈ figs b k (m / b) ++ [m % b] from h) with z | z
    · exact figs_bound hb k _ c z
    · rw [List.mem_singleton.mp z]
      exact ⟨Int.emod_nonneg _ (by omega), Int.emod_lt_of_pos _ hb⟩
theorem fig_snoc (b : Int) (cs : List Int) (c : Int) : fig b (cs ++ [c]) = fig b cs * b + c := by
  unfold fig
  rw [List.foldl_append]
  rfl
theorem pw_pos {b : Int} (hb : 0 < b) : ∀ k : Nat, 0 < pw b k
  | 0 => (by decide : (0 : Int) < 1)
  | k + 1 => Int.mul_pos (pw_pos hb k) hb
theorem fig_figs {b : Int} (hb : 0 < b) : ∀ (k : Nat) (m : Int), 0 ≤ m → m < pw b k → fig b (figs b k m) = m
  | 0, m, h0, h1 => by
    have : m < 1 := h1
    show (0 : Int) = m
    omega
  | k + 1, m, h0, h1 => by
    show fig b (figs b k (m / b) ++ [m % b]) = m
    have h2 : m / b < pw b k := Int.ediv_lt_of_lt_mul hb h1
    rw [fig_snoc, fig_figs hb k (m / b) (Int.ediv_nonneg h0 (by omega)) h2]
    have := Int.emod_add_mul_ediv m b
    rw [Int.mul_comm b] at this
    omega
theorem fig_lt {b : Int} (hb : 0 < b) {cs : List Int} : ∀ {ds : List Int}, (∀ c ∈ ds, 0 ≤ c ∧ c < b) → ds.reverse = cs → 0 ≤ fig b ds.reverse ∧ fig b ds.reverse < pw b ds.length := by
  intro ds
  induction ds generalizing cs with
  | nil => intro _ _; exact ⟨Int.le_refl _, (by decide : (0 : Int) < 1)⟩
  | cons d ds ih =>
    intro h _
    have i := ih (fun c hc => h c (List.mem_cons_of_mem _ hc)) rfl
    have hd := h d (List.mem_cons_self ..)
    rw [List.reverse_cons, fig_snoc]
    refine ⟨Int.add_nonneg (Int.mul_nonneg i.1 (by omega)) hd.1, ?_⟩
    show fig b ds.reverse * b + d < pw b ds.length * b
    have : (fig b ds.reverse + 1) * b ≤ pw b ds.length * b := Int.mul_le_mul_of_nonneg_right (by omega) (by omega)
    rw [Int.add_mul, Int.one_mul] at this
    omega
theorem fig_range {b : Int} (hb : 0 < b) {cs : List Int} (h : ∀ c ∈ cs, 0 ≤ c ∧ c < b) : 0 ≤ fig b cs ∧ fig b cs < pw b cs.length := by
  have := fig_lt hb (cs := cs) (ds := cs.reverse) (fun c hc => h c (List.mem_reverse.mp hc)) (List.reverse_reverse _)
  rw [List.reverse_reverse, List.length_reverse] at this
  exact this
/-- a thing of the ring family w and its code -/
noncomputable def Rg (w : Nat) (ns cs : List Int) : Prop := (∀ c ∈ cs, 0 ≤ c ∧ c ≤ (cs.length : Int) + 1) ∧ match w with
  | 0 => ns = cs
  | 1 => isTree ns = true ∧ ns.length = cs.length + 1 ∧ ∃ ts, Enc ns (knots ns.length) ts ∧ ts.map (eld ns) = cs ++ [0]
  | _ => Car ns ∧ ns.length = cs.length + 1 ∧ steps ns = cs
theorem rg_codes {cs : List Int} (h : ∀ c ∈ cs, 0 ≤ c ∧ c ≤ (cs.length : Int) + 1) : Rg 0 cs cs := ⟨h, rfl⟩
theorem rg_trees {cs es ts : List Int} (h : ∀ c ∈ cs, 0 ≤ c ∧ c ≤ (cs.length : Int) + 1) (le : es.length = cs.length + 1) (dec : Dec (cs ++ [0]) (knots (cs.length + 1)) ts) (e : ts.map (eld es) = cs ++ [0]) : Rg 1 es cs := by
  have lw : (cs ++ [0]).length = cs.length + 1 := by simp
  have dec' : Dec (cs ++ [0]) (knots (cs ++ [0]).length) ts := by rw [lw]; exact dec
  have gr := dec'.grown (es := es) (by omega) e (fun c hc => by
    rcases List.mem_append.mp hc with w | w
    · have := h c w; omega
    · have : c = 0 := by simpa using w
      omega)
  refine ⟨h, by rw [gr.tree]; exact decide_eq_true (by omega), le, ts, ?_, e⟩
  rw [le]
  exact dec.enc e
theorem tree_code {es cs w0 ts : List Int} (r : Rg 1 es cs) (enc : Enc es (knots es.length) ts) (e : ts.map (eld es) = w0 ++ [0]) : w0 = cs := by
  obtain ⟨_, _, _, ts', enc', e'⟩ := r
  rw [enc_uniq enc enc', e'] at e
  exact (List.append_inj' e rfl).1.symm
theorem steps_walk {cs : List Int} (h : ∀ c ∈ cs, 0 ≤ c ∧ c ≤ (cs.length : Int) + 1) {v : Int} (v0 : 0 ≤ v) (v1 : v < (cs.length : Int) + 2) : steps (walkR ((cs.length : Int) + 2) v cs) = cs := by
  have lwk := walkR_len ((cs.length : Int) + 2) cs v
  unfold steps
  rw [lwk, Nat.add_sub_cancel, show ((cs.length + 1 : Nat) : Int) + 1 = (cs.length : Int) + 2 by omega]
  refine List.ext_getElem (by simp) fun i h1 h2 => ?_
  rw [List.getElem_map, List.getElem_range]
  rw [walkR_steps (by omega) cs v v0 v1 (fun c hc => by have := h c hc; omega) i h2, List.getD_eq_getElem?_getD, List.getElem?_eq_getElem h2]
  rfl
theorem rg_cars {cs : List Int} (h : ∀ c ∈ cs, 0 ≤ c ∧ c ≤ (cs.length : Int) + 1) {v : Int} (v0 : 0 ≤ v) (v1 : v < (cs.length : Int) + 2) (car : Car (walkR ((cs.length : Int) + 2) v cs)) : Rg 2 (walkR ((cs.length : Int) + 2) v cs) cs :=
  ⟨h, car, walkR_len _ _ _, steps_walk h v0 v1⟩
theorem Rg.figs {b : Int} {k : Nat} (e : b = (k : Int) + 2) (m : Int) : ∀ c ∈ Ck.figs b k m, 0 ≤ c ∧ c ≤ ((Ck.figs b k m).length : Int) + 1 := by
  intro c hc
  have := figs_bound (b := b) (by omega) k m c hc
  rw [figs_len]
  omega
theorem Rg.lenO {w : Nat} {ns cs : List Int} (h : Rg w ns cs) (hw : w ≠ 0) : ns.length = cs.length + 1 := by
  obtain ⟨_, h⟩ := h
  match w, hw, h with
  | 1, _, h => exact h.2.1
  | _ + 2, _, h => exact h.2.1
theorem Rg.len {w : Nat} {ns cs : List Int} (h : Rg w ns cs) : ns.length ≤ cs.length + 1 := by
  by_cases hw : w = 0
  · subst hw
    have e : ns = cs := h.2
    rw [e]; omega
  · rw [h.lenO hw]; exact Nat.le_refl _
theorem pw_add (b : Int) (i : Nat) : ∀ j : Nat, pw b (i + j) = pw b i * pw b j
  | 0 => (Int.mul_one _).symm
  | j + 1 => by
    show pw b (i + j) * b = pw b i * (pw b j * b)
    rw [pw_add b i j, Int.mul_assoc]
theorem pw_le {b : Int} (h0 : 0 ≤ b) (h1 : b ≤ 64) : ∀ k : Nat, pw b k ≤ 2 ^ (6 * k)
  | 0 => (by decide : (1 : Int) ≤ 2 ^ 0)
  | k + 1 => by
    have h := pw_le h0 h1 k
    show pw b k * b ≤ 2 ^ (6 * k + 6)
    rw [Int.pow_add]
    have h2 : (0 : Int) ≤ 2 ^ (6 * k) := Int.pow_nonneg (by decide)
    exact Int.le_trans (Int.mul_le_mul_of_nonneg_right h h0) (Int.mul_le_mul_of_nonneg_left h1 h2)
theorem big_of {i : Int} {k : Nat} (h0 : 0 ≤ i) (h1 : i ≤ 2 ^ (6 * k)) (hk : k ≤ 100) : i.natAbs < 2 ^ 1000 := by
  have h2 : ((2 ^ (6 * k) : Nat) : Int) ≤ ((2 ^ 600 : Nat) : Int) := Int.ofNat_le.mpr (Nat.pow_le_pow_right (by decide) (by omega))
  rw [Int.natCast_pow] at h2
  have h3 : i ≤ ((2 ^ 600 : Nat) : Int) := Int.le_trans h1 h2
  have h4 : ((i.natAbs : Nat) : Int) = i := Int.natAbs_of_nonneg h0
  rw [← h4] at h3
  exact Nat.lt_of_le_of_lt (Int.ofNat_le.mp h3) (Nat.pow_lt_pow_right (by decide) (by decide))
theorem low_lt {b m : Int} (hb : 0 < b) {i j : Nat} (h0 : 0 ≤ m) (h1 : m < pw b (i + j)) : 0 ≤ m / pw b i * pw b i + pw b i - 1 ∧ m / pw b i * pw b i + pw b i - 1 < pw b (i + j) := by
  have p := pw_pos hb i
  rw [pw_add] at h1 ⊢
  have h2 : m / pw b i < pw b j := Int.ediv_lt_of_lt_mul p (by rw [Int.mul_comm]; exact h1)
  have h3 : 0 ≤ m / pw b i := Int.ediv_nonneg h0 (by omega)
  have h4 := Int.mul_nonneg h3 (Int.le_of_lt p)
  have h5 : (m / pw b i + 1) * pw b i ≤ pw b j * pw b i := Int.mul_le_mul_of_nonneg_right (by omega) (by omega)
  rw [Int.add_mul, Int.one_mul, Int.mul_comm (pw b j)] at h5
  omega
end Ck
namespace L2
open PySem PySem.Spec PyProof.Rows PyProof
/-- a product of two numbers that are not too long -/
noncomputable def CMulB (i j : Int) : Prop := i.natAbs < 2 ^ 1000 ∧ j.natAbs < 2 ^ 1000
theorem bits_le {i : Int} (h : i.natAbs < 2 ^ 1000) : Builtin.Int.intBits i ≤ 2 ^ 20 := by
  unfold Builtin.Int.intBits
  split
  · exact Nat.zero_le _
  · rename_i z
    have hz : i.natAbs ≠ 0 := by
      intro e
      apply z
      simp [Int.natAbs_eq_zero.mp e]
    have : i.natAbs.log2 < 1000 := (Nat.log2_lt hz).mpr h
    exact Nat.le_trans (show i.natAbs.log2 + 1 ≤ 1000 by omega) (by decide)
theorem op_mulB {X : Cx} : OpR X (binaryOp .Mult) (rI CMulB fun i j => .int (i * j)) := opI fun _ _ _ _ _ _ _ hc q => mul_int q (IntMulOk.of_bits (bits_le hc.1) (bits_le hc.2))
theorem divB {i j : Int} (h0 : 0 < j) (h : j.natAbs < 2 ^ 1000) : CDivL i j := ⟨h0, by
  have hz : j.natAbs ≠ 0 := by omega
  have := (Nat.log2_lt hz).mpr h
  omega⟩
end L2

set_option Elab.async false
set_option linter.all false
set_option maxRecDepth 100000
/-! The head in one piece: the run of the text's top, looked at where it ends. -/
namespace Ck
open PySem PySem.W PySem.Calls PyProof.Rows
/-- what is asked where the top ends -/
noncomputable def endLook {α : Type} (p q : Program) (loose : List Str) (Xt : Shared → Bool) (Yf : Shared → α) (h0 : Heap) (s : Shared) :=
  ((staticsOk (importedModules p.main.body) h0 s.heap && namesBound p s.heap && gensDone s && laidKept h0 s.heap),
    openSeen q loose (importedModules p.main.body) Xt true s, Yf s)
theorem left_whole {p q : Program} {loose : List Str} {Xt : Shared → Bool} {α : Type} {Yf : Shared → α} {Ya : World → α} {N M m : Nat} {H : Params → Heap} {gs : Array GenState} {dr : Drawn} {tk : Nat} {an : Option Value}
    (o : ∀ w : World, (fencedOpening treeTable p w N).map (fun s => (s.heap, s.gens, s.drawn, s.toks)) = some (H w.params, gs, dr, tk))
    (z : ∀ w : World, ((H w.params).isNs mainGlobals && gs.size == 0, (H w.params).objs.size, (H w.params).nsMap mainGlobals "__annotations__") = (true, m, an))
    (r : ∀ (w : World) (os : OsState), ∃ e, topRun treeTable p w m an M ⟨H w.params, gs, dr, tk, os⟩ (topStub p) = some e ∧ endLook p q loose Xt Yf (H w.params) e = (true, openGood q loose, Ya w))
    (le : M ≤ N) : LeftO p q loose Xt Yf Ya N := by
  intro w
  have ow := o w
  cases hf : fencedOpening treeTable p w N with
  | none => rw [hf] at ow; cases ow
  | some s =>
    rw [hf] at ow
    have os := Option.some.inj ow
    have e1 : s.heap = H w.params := congrArg Prod.fst os
    have e2 : s.gens = gs := congrArg (fun x => x.2.1) os
    have e3 : s.drawn = dr := congrArg (fun x => x.2.2.1) os
    have e4 : s.toks = tk := congrArg (fun x => x.2.2.2) os
    obtain ⟨e, run, look⟩ := r w s.os
    have hs : s = ⟨H w.params, gs, dr, tk, s.os⟩ := by rw [← e1, ← e2, ← e3, ← e4]
    have run' := topRun_mono (N - M) _ _ _ _ run
    rw [Nat.add_sub_cancel' le] at run'
    have zw := z w
    have z1 := congrArg Prod.fst zw
    have z2 := congrArg (fun x => x.2.1) zw
    have z3 := congrArg (fun x => x.2.2) zw
    dsimp only at z1 z2 z3
    have l1 := congrArg Prod.fst look
    have l2 := congrArg Prod.snd look
    have tf : topFrom treeTable p w N s = some e := by
      rw [hs]
      unfold topFrom
      dsimp only
      rw [z1, z2, z3, run']
      unfold endLook at l1
      dsimp only at l1
      dsimp only [Option.bind]
      rw [l1]
    unfold openEnds
    rw [hf, Option.bind_some, tf]
    exact congrArg some l2
section
variable {tb : String → Option Builtin} {p : Program} {w : World} {m : Nat} {an : Option Value} {env : Env} {q : Pos}
/-- what the run of the text is asked in the end -/
noncomputable def lookEnd {β : Type} (tb : String → Option Builtin) (p : Program) (w : World) (m : Nat) (an : Option Value) (q : Pos) (c : Code) (n4 : Nat) (L : Shared → β) (r : Flow × SharedT × Code × Pos) : Flow × Code × Option β :=
  (r.1, r.2.2.1, (topRun tb p w m an n4 r.2.1.abs ⟨doneF .next, c, r.2.2.2, [topFrame q]⟩).map L)
theorem run_whole {β : Type} {L : Shared → β} {b : List Stmt} {c : Code} {n1 n2 n3 n4 : Nat} {S0 Sa : Shared} {Sb : SharedT} {pos0 pos1 : Pos} {z : β} (hc : c = .body b env)
    (h1 : topGo tb p w m an n1 S0 (topStub p) = some (Sa, ⟨denote tb c, c, pos0, [topFrame q]⟩))
    (h2 : segRun tb p w m an 1 n2 Sa (blockOf b env c pos0 [topFrame q]) = some (.next, Sb.abs, c, pos1))
    (h3 : (segRunT tb p w m an 1 n3 Sb (piecesOf b env c pos1 [topFrame q])).map (lookEnd tb p w m an q c n4 L) = some (.next, c, some z)) :
    ∃ e, topRun tb p w m an (n1 + (n2 + (n3 + n4))) S0 (topStub p) = some e ∧ L e = z := by
  cases hr : segRunT tb p w m an 1 n3 Sb (piecesOf b env c pos1 [topFrame q]) with
  | none => rw [hr] at h3; cases h3
  | some x =>
    obtain ⟨f, s, d, ps⟩ := x
    rw [hr] at h3
    have h3 := Option.some.inj h3
    unfold lookEnd at h3
    have a1 : f = .next := congrArg Prod.fst h3
    have a2 : d = c := congrArg (fun x => x.2.1) h3
    have a3 := congrArg (fun x => x.2.2) h3
    dsimp only at a3
    subst a1 a2 hc
    cases ht : topRun tb p w m an n4 s.abs ⟨doneF .next, .body b env, ps, [topFrame q]⟩ with
    | none => rw [ht] at a3; cases a3
    | some e =>
      rw [ht] at a3
      have k := piece_app (rest := []) (segRun_of hr) (piece_nil ht)
      rw [List.append_nil] at k
      exact ⟨e, go_top h1 (piece_block h2 k), Option.some.inj a3⟩
end
end Ck

set_option maxHeartbeats 4000000
namespace Ck
open PySem L2
noncomputable def top (i : Nat) : Stmt := PySem.Challenge.pw_countkin_k38_rings_numbered.main.body.getD i (.Pass ⟨0, 0, 0, 0⟩)
/-- where the classes and their methods lie -/
structure ClA where
  C_Codes : Addr
  C_Family : Addr
  C_Trees : Addr
  C_Cars : Addr
  C_RingFamily : Addr
  f_Codes__Family___init__ : Addr
  f_Codes__RingFamily___init__ : Addr
  f_Codes____init__ : Addr
  f_Trees__Family___init__ : Addr
  f_Trees__RingFamily___init__ : Addr
  f_Trees____init__ : Addr
  f_Cars__Family___init__ : Addr
  f_Cars__RingFamily___init__ : Addr
  f_Cars____init__ : Addr
  f_Codes__RingFamily_unchecked_many : Addr
  f_Codes__Family_many : Addr
  f_Trees__RingFamily_unchecked_many : Addr
  f_Trees__Family_many : Addr
  f_Cars__RingFamily_unchecked_many : Addr
  f_Cars__Family_many : Addr
  f_Codes__of_code : Addr
  f_Codes__RingFamily_unchecked_thing : Addr
  f_Codes__Family_thing_of : Addr
  f_Trees__of_code : Addr
  f_Trees__RingFamily_unchecked_thing : Addr
  f_Trees__Family_thing_of : Addr
  f_Cars__is_one : Addr
  f_Cars__of_code : Addr
  f_Cars__RingFamily_unchecked_thing : Addr
  f_Cars__Family_thing_of : Addr
  f_Codes__is_one : Addr
  f_Codes__Family_refuse_other : Addr
  f_Codes__size_of : Addr
  f_Codes__code_of : Addr
  f_Codes__RingFamily_unchecked_number : Addr
  f_Codes__Family_number_of : Addr
  f_Trees__is_one : Addr
  f_Trees__Family_refuse_other : Addr
  f_Trees__size_of : Addr
  f_Trees__code_of : Addr
  f_Trees__RingFamily_unchecked_number : Addr
  f_Trees__Family_number_of : Addr
  f_Cars__Family_refuse_other : Addr
  f_Cars__size_of : Addr
  f_Cars__code_of : Addr
  f_Cars__RingFamily_unchecked_number : Addr
  f_Cars__Family_number_of : Addr
  f_Codes__Family_next_of : Addr
  f_Trees__Family_next_of : Addr
  f_Cars__Family_next_of : Addr
structure ClOk (K : PySem.W.Frag) (mg : Str → Option Value) (ca : ClA) : Prop where
  m_Family : mg "Family" = some (.ref ca.C_Family)
  m_RingFamily : mg "RingFamily" = some (.ref ca.C_RingFamily)
  m_Codes : mg "Codes" = some (.ref ca.C_Codes)
  m_Trees : mg "Trees" = some (.ref ca.C_Trees)
  m_Cars : mg "Cars" = some (.ref ca.C_Cars)
  c_Codes : Cls K ca.C_Codes
  c_Trees : Cls K ca.C_Trees
  c_Cars : Cls K ca.C_Cars
  mt_Codes_many : Meth K ca.C_Codes "many" ca.f_Codes__Family_many
  mt_Trees_many : Meth K ca.C_Trees "many" ca.f_Trees__Family_many
  mt_Cars_many : Meth K ca.C_Cars "many" ca.f_Cars__Family_many
  mt_Codes_thing_of : Meth K ca.C_Codes "thing_of" ca.f_Codes__Family_thing_of
  mt_Trees_thing_of : Meth K ca.C_Trees "thing_of" ca.f_Trees__Family_thing_of
  mt_Cars_thing_of : Meth K ca.C_Cars "thing_of" ca.f_Cars__Family_thing_of
  mt_Codes_number_of : Meth K ca.C_Codes "number_of" ca.f_Codes__Family_number_of
  mt_Trees_number_of : Meth K ca.C_Trees "number_of" ca.f_Trees__Family_number_of
  mt_Cars_number_of : Meth K ca.C_Cars "number_of" ca.f_Cars__Family_number_of
  mt_Codes_next_of : Meth K ca.C_Codes "next_of" ca.f_Codes__Family_next_of
  mt_Trees_next_of : Meth K ca.C_Trees "next_of" ca.f_Trees__Family_next_of
  mt_Cars_next_of : Meth K ca.C_Cars "next_of" ca.f_Cars__Family_next_of
  mt_Codes_unchecked_many : Meth K ca.C_Codes "unchecked_many" ca.f_Codes__RingFamily_unchecked_many
  mt_Trees_unchecked_many : Meth K ca.C_Trees "unchecked_many" ca.f_Trees__RingFamily_unchecked_many
  mt_Cars_unchecked_many : Meth K ca.C_Cars "unchecked_many" ca.f_Cars__RingFamily_unchecked_many
  mt_Codes_unchecked_thing : Meth K ca.C_Codes "unchecked_thing" ca.f_Codes__RingFamily_unchecked_thing
  mt_Codes_of_code : Meth K ca.C_Codes "of_code" ca.f_Codes__of_code
  mt_Trees_unchecked_thing : Meth K ca.C_Trees "unchecked_thing" ca.f_Trees__RingFamily_unchecked_thing
  mt_Trees_of_code : Meth K ca.C_Trees "of_code" ca.f_Trees__of_code
  mt_Cars_unchecked_thing : Meth K ca.C_Cars "unchecked_thing" ca.f_Cars__RingFamily_unchecked_thing
  mt_Cars_of_code : Meth K ca.C_Cars "of_code" ca.f_Cars__of_code
  mt_Cars_is_one : Meth K ca.C_Cars "is_one" ca.f_Cars__is_one
  mt_Codes_refuse_other : Meth K ca.C_Codes "refuse_other" ca.f_Codes__Family_refuse_other
  mt_Codes_unchecked_number : Meth K ca.C_Codes "unchecked_number" ca.f_Codes__RingFamily_unchecked_number
  mt_Codes_is_one : Meth K ca.C_Codes "is_one" ca.f_Codes__is_one
  mt_Codes_size_of : Meth K ca.C_Codes "size_of" ca.f_Codes__size_of
  mt_Codes_code_of : Meth K ca.C_Codes "code_of" ca.f_Codes__code_of
  mt_Trees_refuse_other : Meth K ca.C_Trees "refuse_other" ca.f_Trees__Family_refuse_other
  mt_Trees_unchecked_number : Meth K ca.C_Trees "unchecked_number" ca.f_Trees__RingFamily_unchecked_number
  mt_Trees_is_one : Meth K ca.C_Trees "is_one" ca.f_Trees__is_one
  mt_Trees_size_of : Meth K ca.C_Trees "size_of" ca.f_Trees__size_of
  mt_Trees_code_of : Meth K ca.C_Trees "code_of" ca.f_Trees__code_of
  mt_Cars_refuse_other : Meth K ca.C_Cars "refuse_other" ca.f_Cars__Family_refuse_other
  mt_Cars_unchecked_number : Meth K ca.C_Cars "unchecked_number" ca.f_Cars__RingFamily_unchecked_number
  mt_Cars_size_of : Meth K ca.C_Cars "size_of" ca.f_Cars__size_of
  mt_Cars_code_of : Meth K ca.C_Cars "code_of" ca.f_Cars__code_of
  mk_Codes : Mk K ca.C_Codes ca.f_Codes____init__
  mk_Trees : Mk K ca.C_Trees ca.f_Trees____init__
  mk_Cars : Mk K ca.C_Cars ca.f_Cars____init__
  cm_RingFamily___init___Codes : ClsM K ca.C_RingFamily "__init__" ca.f_Codes__RingFamily___init__
  cm_Family___init___Codes : ClsM K ca.C_Family "__init__" ca.f_Codes__Family___init__
  cm_RingFamily___init___Trees : ClsM K ca.C_RingFamily "__init__" ca.f_Trees__RingFamily___init__
  cm_Family___init___Trees : ClsM K ca.C_Family "__init__" ca.f_Trees__Family___init__
  cm_RingFamily___init___Cars : ClsM K ca.C_RingFamily "__init__" ca.f_Cars__RingFamily___init__
  cm_Family___init___Cars : ClsM K ca.C_Family "__init__" ca.f_Cars__Family___init__
  na_Codes_word : NoAttr K ca.C_Codes "word"
  na_Trees_word : NoAttr K ca.C_Trees "word"
  na_Cars_word : NoAttr K ca.C_Cars "word"
  na_Codes_least : NoAttr K ca.C_Codes "least"
  na_Trees_least : NoAttr K ca.C_Trees "least"
  na_Cars_least : NoAttr K ca.C_Cars "least"
  in_Codes : InsT K ca.C_Codes
  in_Trees : InsT K ca.C_Trees
  in_Cars : InsT K ca.C_Cars
  kit_Codes_Family : PySem.W.kitOne K (.ref ca.C_Codes) (.ref ca.C_Family) = some true
  kit_Trees_Family : PySem.W.kitOne K (.ref ca.C_Trees) (.ref ca.C_Family) = some true
  kit_Cars_Family : PySem.W.kitOne K (.ref ca.C_Cars) (.ref ca.C_Family) = some true
  kit_Codes_RingFamily : PySem.W.kitOne K (.ref ca.C_Codes) (.ref ca.C_RingFamily) = some true
  kit_Trees_RingFamily : PySem.W.kitOne K (.ref ca.C_Trees) (.ref ca.C_RingFamily) = some true
  kit_Cars_RingFamily : PySem.W.kitOne K (.ref ca.C_Cars) (.ref ca.C_RingFamily) = some true
noncomputable abbrev s__law_cell_at : Stmt := top 21
theorem sc__law_cell_at : FnScope ["_law_script", "_law_k"] ["_law_script", "_law_k"] (defScope s__law_cell_at) := ⟨rfl, rfl, rfl, by decide +kernel, rfl, by decide +kernel, by decide +kernel⟩
noncomputable abbrev s__law_number : Stmt := top 30
theorem sc__law_number : FnScope ["_law_script", "_law_size", "_law_many", "_law_some", "_law_number_here", "_law_cell", "_law_low", "_law_k"] ["_law_script", "_law_size", "_law_many"] (defScope s__law_number) := ⟨rfl, rfl, rfl, by decide +kernel, rfl, by decide +kernel, by decide +kernel⟩
noncomputable abbrev s_Codes__Family___init__ : Stmt := inClass (top 9) 0
theorem sc_Codes__Family___init__ : FnScope ["self", "word", "least"] ["self", "word", "least"] (defScope s_Codes__Family___init__) := ⟨rfl, rfl, rfl, by decide +kernel, rfl, by decide +kernel, by decide +kernel⟩
noncomputable abbrev s_Codes__RingFamily___init__ : Stmt := inClass (top 11) 0
theorem sc_Codes__RingFamily___init__ : FnScope ["self", "word"] ["self", "word"] (defScope s_Codes__RingFamily___init__) := ⟨rfl, rfl, rfl, by decide +kernel, rfl, by decide +kernel, by decide +kernel⟩
noncomputable abbrev s_Codes____init__ : Stmt := inClass (top 14) 0
theorem sc_Codes____init__ : FnScope ["self"] ["self"] (defScope s_Codes____init__) := ⟨rfl, rfl, rfl, by decide +kernel, rfl, by decide +kernel, by decide +kernel⟩
noncomputable abbrev s_Trees__Family___init__ : Stmt := inClass (top 9) 0
theorem sc_Trees__Family___init__ : FnScope ["self", "word", "least"] ["self", "word", "least"] (defScope s_Trees__Family___init__) := ⟨rfl, rfl, rfl, by decide +kernel, rfl, by decide +kernel, by decide +kernel⟩
noncomputable abbrev s_Trees__RingFamily___init__ : Stmt := inClass (top 11) 0
theorem sc_Trees__RingFamily___init__ : FnScope ["self", "word"] ["self", "word"] (defScope s_Trees__RingFamily___init__) := ⟨rfl, rfl, rfl, by decide +kernel, rfl, by decide +kernel, by decide +kernel⟩
noncomputable abbrev s_Trees____init__ : Stmt := inClass (top 18) 0
theorem sc_Trees____init__ : FnScope ["self"] ["self"] (defScope s_Trees____init__) := ⟨rfl, rfl, rfl, by decide +kernel, rfl, by decide +kernel, by decide +kernel⟩
noncomputable abbrev s_Cars__Family___init__ : Stmt := inClass (top 9) 0
theorem sc_Cars__Family___init__ : FnScope ["self", "word", "least"] ["self", "word", "least"] (defScope s_Cars__Family___init__) := ⟨rfl, rfl, rfl, by decide +kernel, rfl, by decide +kernel, by decide +kernel⟩
noncomputable abbrev s_Cars__RingFamily___init__ : Stmt := inClass (top 11) 0
theorem sc_Cars__RingFamily___init__ : FnScope ["self", "word"] ["self", "word"] (defScope s_Cars__RingFamily___init__) := ⟨rfl, rfl, rfl, by decide +kernel, rfl, by decide +kernel, by decide +kernel⟩
noncomputable abbrev s_Cars____init__ : Stmt := inClass (top 16) 0
theorem sc_Cars____init__ : FnScope ["self"] ["self"] (defScope s_Cars____init__) := ⟨rfl, rfl, rfl, by decide +kernel, rfl, by decide +kernel, by decide +kernel⟩
noncomputable abbrev s__law_kin : Stmt := top 27
theorem sc__law_kin : FnScope ["_law_word"] ["_law_word"] (defScope s__law_kin) := ⟨rfl, rfl, rfl, by decide +kernel, rfl, by decide +kernel, by decide +kernel⟩
noncomputable abbrev s__law_whole : Stmt := top 22
theorem sc__law_whole : FnScope ["_law_found"] ["_law_found"] (defScope s__law_whole) := ⟨rfl, rfl, rfl, by decide +kernel, rfl, by decide +kernel, by decide +kernel⟩
noncomputable abbrev s_ring_many : Stmt := top 2
theorem sc_ring_many : FnScope ["size", "product", "factor"] ["size"] (defScope s_ring_many) := ⟨rfl, rfl, rfl, by decide +kernel, rfl, by decide +kernel, by decide +kernel⟩
noncomputable abbrev s_Codes__RingFamily_unchecked_many : Stmt := inClass (top 11) 3
theorem sc_Codes__RingFamily_unchecked_many : FnScope ["self", "size"] ["self", "size"] (defScope s_Codes__RingFamily_unchecked_many) := ⟨rfl, rfl, rfl, by decide +kernel, rfl, by decide +kernel, by decide +kernel⟩
noncomputable abbrev s_Codes__Family_many : Stmt := inClass (top 9) 6
theorem sc_Codes__Family_many : FnScope ["self", "size"] ["self", "size"] (defScope s_Codes__Family_many) := ⟨rfl, rfl, rfl, by decide +kernel, rfl, by decide +kernel, by decide +kernel⟩
noncomputable abbrev s_Trees__RingFamily_unchecked_many : Stmt := inClass (top 11) 3
theorem sc_Trees__RingFamily_unchecked_many : FnScope ["self", "size"] ["self", "size"] (defScope s_Trees__RingFamily_unchecked_many) := ⟨rfl, rfl, rfl, by decide +kernel, rfl, by decide +kernel, by decide +kernel⟩
noncomputable abbrev s_Trees__Family_many : Stmt := inClass (top 9) 6
theorem sc_Trees__Family_many : FnScope ["self", "size"] ["self", "size"] (defScope s_Trees__Family_many) := ⟨rfl, rfl, rfl, by decide +kernel, rfl, by decide +kernel, by decide +kernel⟩
noncomputable abbrev s_Cars__RingFamily_unchecked_many : Stmt := inClass (top 11) 3
theorem sc_Cars__RingFamily_unchecked_many : FnScope ["self", "size"] ["self", "size"] (defScope s_Cars__RingFamily_unchecked_many) := ⟨rfl, rfl, rfl, by decide +kernel, rfl, by decide +kernel, by decide +kernel⟩
noncomputable abbrev s_Cars__Family_many : Stmt := inClass (top 9) 6
theorem sc_Cars__Family_many : FnScope ["self", "size"] ["self", "size"] (defScope s_Cars__Family_many) := ⟨rfl, rfl, rfl, by decide +kernel, rfl, by decide +kernel, by decide +kernel⟩
noncomputable abbrev s_Codes__of_code : Stmt := inClass (top 14) 4
theorem sc_Codes__of_code : FnScope ["self", "code"] ["self", "code"] (defScope s_Codes__of_code) := ⟨rfl, rfl, rfl, by decide +kernel, rfl, by decide +kernel, by decide +kernel⟩
noncomputable abbrev s_number_figures : Stmt := top 13
theorem sc_number_figures : FnScope ["number", "base", "length", "figures", "rest", "place"] ["number", "base", "length"] (defScope s_number_figures) := ⟨rfl, rfl, rfl, by decide +kernel, rfl, by decide +kernel, by decide +kernel⟩
noncomputable abbrev s_Codes__RingFamily_unchecked_thing : Stmt := inClass (top 11) 5
theorem sc_Codes__RingFamily_unchecked_thing : FnScope ["self", "size", "number"] ["self", "size", "number"] (defScope s_Codes__RingFamily_unchecked_thing) := ⟨rfl, rfl, rfl, by decide +kernel, rfl, by decide +kernel, by decide +kernel⟩
noncomputable abbrev s_Codes__Family_thing_of : Stmt := inClass (top 9) 9
theorem sc_Codes__Family_thing_of : FnScope ["self", "size", "number", "most"] ["self", "size", "number"] (defScope s_Codes__Family_thing_of) := ⟨rfl, rfl, rfl, by decide +kernel, rfl, by decide +kernel, by decide +kernel⟩
noncomputable abbrev s_Trees__of_code : Stmt := inClass (top 18) 4
theorem sc_Trees__of_code : FnScope ["self", "code", "written", "there", "elders", "place", "elder", "taken"] ["self", "code"] (defScope s_Trees__of_code) := ⟨rfl, rfl, rfl, by decide +kernel, rfl, by decide +kernel, by decide +kernel⟩
noncomputable abbrev s_Trees__RingFamily_unchecked_thing : Stmt := inClass (top 11) 5
theorem sc_Trees__RingFamily_unchecked_thing : FnScope ["self", "size", "number"] ["self", "size", "number"] (defScope s_Trees__RingFamily_unchecked_thing) := ⟨rfl, rfl, rfl, by decide +kernel, rfl, by decide +kernel, by decide +kernel⟩
noncomputable abbrev s_Trees__Family_thing_of : Stmt := inClass (top 9) 9
theorem sc_Trees__Family_thing_of : FnScope ["self", "size", "number", "most"] ["self", "size", "number"] (defScope s_Trees__Family_thing_of) := ⟨rfl, rfl, rfl, by decide +kernel, rfl, by decide +kernel, by decide +kernel⟩
noncomputable abbrev s_Cars__is_one : Stmt := inClass (top 16) 2
theorem sc_Cars__is_one : FnScope ["self", "thing"] ["self", "thing"] (defScope s_Cars__is_one) := ⟨rfl, rfl, rfl, by decide +kernel, rfl, by decide +kernel, by decide +kernel⟩
noncomputable abbrev s_Cars__of_code : Stmt := inClass (top 16) 4
theorem sc_Cars__of_code : FnScope ["self", "code", "ring", "wishes", "step"] ["self", "code"] (defScope s_Cars__of_code) := ⟨rfl, rfl, rfl, by decide +kernel, rfl, by decide +kernel, by decide +kernel⟩
noncomputable abbrev s_Cars__RingFamily_unchecked_thing : Stmt := inClass (top 11) 5
theorem sc_Cars__RingFamily_unchecked_thing : FnScope ["self", "size", "number"] ["self", "size", "number"] (defScope s_Cars__RingFamily_unchecked_thing) := ⟨rfl, rfl, rfl, by decide +kernel, rfl, by decide +kernel, by decide +kernel⟩
noncomputable abbrev s_Cars__Family_thing_of : Stmt := inClass (top 9) 9
theorem sc_Cars__Family_thing_of : FnScope ["self", "size", "number", "most"] ["self", "size", "number"] (defScope s_Cars__Family_thing_of) := ⟨rfl, rfl, rfl, by decide +kernel, rfl, by decide +kernel, by decide +kernel⟩
noncomputable abbrev s__law_is_tree : Stmt := top 23
theorem sc__law_is_tree : FnScope ["_law_elders", "_law_size", "_law_elder", "_law_knot", "_law_here", "_law_k"] ["_law_elders"] (defScope s__law_is_tree) := ⟨rfl, rfl, rfl, by decide +kernel, rfl, by decide +kernel, by decide +kernel⟩
noncomputable abbrev s__law_code : Stmt := top 24
theorem sc__law_code : FnScope ["_law_elders", "_law_there", "_law_code_here", "_law_busy", "_law_knot", "_law_out"] ["_law_elders"] (defScope s__law_code) := ⟨rfl, rfl, rfl, by decide +kernel, rfl, by decide +kernel, by decide +kernel⟩
noncomputable abbrev s__law_all_park : Stmt := top 25
theorem sc__law_all_park : FnScope ["_law_wishes", "_law_size", "_law_k"] ["_law_wishes"] (defScope s__law_all_park) := ⟨rfl, rfl, rfl, by decide +kernel, rfl, by decide +kernel, by decide +kernel⟩
noncomputable abbrev s__law_steps : Stmt := top 26
theorem sc__law_steps : FnScope ["_law_wishes", "_law_size"] ["_law_wishes"] (defScope s__law_steps) := ⟨rfl, rfl, rfl, by decide +kernel, rfl, by decide +kernel, by decide +kernel⟩
noncomputable abbrev s__law_has_code : Stmt := top 28
theorem sc__law_has_code : FnScope ["_law_word", "_law_found", "_law_code_here", "_law_number_here"] ["_law_word", "_law_found", "_law_code_here"] (defScope s__law_has_code) := ⟨rfl, rfl, rfl, by decide +kernel, rfl, by decide +kernel, by decide +kernel⟩
noncomputable abbrev s__law_figures_of : Stmt := top 29
theorem sc__law_figures_of : FnScope ["_law_size", "_law_number_here", "_law_code_here", "_law_k"] ["_law_size", "_law_number_here"] (defScope s__law_figures_of) := ⟨rfl, rfl, rfl, by decide +kernel, rfl, by decide +kernel, by decide +kernel⟩
noncomputable abbrev s_Codes__is_one : Stmt := inClass (top 14) 2
theorem sc_Codes__is_one : FnScope ["self", "thing", "size"] ["self", "thing"] (defScope s_Codes__is_one) := ⟨rfl, rfl, rfl, by decide +kernel, rfl, by decide +kernel, by decide +kernel⟩
noncomputable abbrev s_Codes__Family_refuse_other : Stmt := inClass (top 9) 7
theorem sc_Codes__Family_refuse_other : FnScope ["self", "thing"] ["self", "thing"] (defScope s_Codes__Family_refuse_other) := ⟨rfl, rfl, rfl, by decide +kernel, rfl, by decide +kernel, by decide +kernel⟩
noncomputable abbrev s_figures_number : Stmt := top 12
theorem sc_figures_number : FnScope ["figures", "base", "number", "figure"] ["figures", "base"] (defScope s_figures_number) := ⟨rfl, rfl, rfl, by decide +kernel, rfl, by decide +kernel, by decide +kernel⟩
noncomputable abbrev s_Codes__size_of : Stmt := inClass (top 14) 1
theorem sc_Codes__size_of : FnScope ["self", "thing"] ["self", "thing"] (defScope s_Codes__size_of) := ⟨rfl, rfl, rfl, by decide +kernel, rfl, by decide +kernel, by decide +kernel⟩
noncomputable abbrev s_Codes__code_of : Stmt := inClass (top 14) 3
theorem sc_Codes__code_of : FnScope ["self", "thing"] ["self", "thing"] (defScope s_Codes__code_of) := ⟨rfl, rfl, rfl, by decide +kernel, rfl, by decide +kernel, by decide +kernel⟩
noncomputable abbrev s_Codes__RingFamily_unchecked_number : Stmt := inClass (top 11) 4
theorem sc_Codes__RingFamily_unchecked_number : FnScope ["self", "thing"] ["self", "thing"] (defScope s_Codes__RingFamily_unchecked_number) := ⟨rfl, rfl, rfl, by decide +kernel, rfl, by decide +kernel, by decide +kernel⟩
noncomputable abbrev s_Codes__Family_number_of : Stmt := inClass (top 9) 8
theorem sc_Codes__Family_number_of : FnScope ["self", "thing"] ["self", "thing"] (defScope s_Codes__Family_number_of) := ⟨rfl, rfl, rfl, by decide +kernel, rfl, by decide +kernel, by decide +kernel⟩
noncomputable abbrev s_comes_to_0 : Stmt := top 19
theorem sc_comes_to_0 : FnScope ["elders", "knot", "reached", "step"] ["elders", "knot"] (defScope s_comes_to_0) := ⟨rfl, rfl, rfl, by decide +kernel, rfl, by decide +kernel, by decide +kernel⟩
noncomputable abbrev s_Trees__is_one : Stmt := inClass (top 18) 2
theorem sc_Trees__is_one : FnScope ["self", "thing", "size"] ["self", "thing"] (defScope s_Trees__is_one) := ⟨rfl, rfl, rfl, by decide +kernel, rfl, by decide +kernel, by decide +kernel⟩
noncomputable abbrev s_Trees__Family_refuse_other : Stmt := inClass (top 9) 7
theorem sc_Trees__Family_refuse_other : FnScope ["self", "thing"] ["self", "thing"] (defScope s_Trees__Family_refuse_other) := ⟨rfl, rfl, rfl, by decide +kernel, rfl, by decide +kernel, by decide +kernel⟩
noncomputable abbrev s_Trees__size_of : Stmt := inClass (top 18) 1
theorem sc_Trees__size_of : FnScope ["self", "thing"] ["self", "thing"] (defScope s_Trees__size_of) := ⟨rfl, rfl, rfl, by decide +kernel, rfl, by decide +kernel, by decide +kernel⟩
noncomputable abbrev s_Trees__code_of : Stmt := inClass (top 18) 3
theorem sc_Trees__code_of : FnScope ["self", "thing", "there", "written", "elders", "taken"] ["self", "thing"] (defScope s_Trees__code_of) := ⟨rfl, rfl, rfl, by decide +kernel, rfl, by decide +kernel, by decide +kernel⟩
noncomputable abbrev s_Trees__RingFamily_unchecked_number : Stmt := inClass (top 11) 4
theorem sc_Trees__RingFamily_unchecked_number : FnScope ["self", "thing"] ["self", "thing"] (defScope s_Trees__RingFamily_unchecked_number) := ⟨rfl, rfl, rfl, by decide +kernel, rfl, by decide +kernel, by decide +kernel⟩
noncomputable abbrev s_Trees__Family_number_of : Stmt := inClass (top 9) 8
theorem sc_Trees__Family_number_of : FnScope ["self", "thing"] ["self", "thing"] (defScope s_Trees__Family_number_of) := ⟨rfl, rfl, rfl, by decide +kernel, rfl, by decide +kernel, by decide +kernel⟩
noncomputable abbrev s_Cars__Family_refuse_other : Stmt := inClass (top 9) 7
theorem sc_Cars__Family_refuse_other : FnScope ["self", "thing"] ["self", "thing"] (defScope s_Cars__Family_refuse_other) := ⟨rfl, rfl, rfl, by decide +kernel, rfl, by decide +kernel, by decide +kernel⟩
noncomputable abbrev s_Cars__size_of : Stmt := inClass (top 16) 1
theorem sc_Cars__size_of : FnScope ["self", "thing"] ["self", "thing"] (defScope s_Cars__size_of) := ⟨rfl, rfl, rfl, by decide +kernel, rfl, by decide +kernel, by decide +kernel⟩
noncomputable abbrev s_Cars__code_of : Stmt := inClass (top 16) 3
theorem sc_Cars__code_of : FnScope ["self", "thing", "ring"] ["self", "thing"] (defScope s_Cars__code_of) := ⟨rfl, rfl, rfl, by decide +kernel, rfl, by decide +kernel, by decide +kernel⟩
noncomputable abbrev s_Cars__RingFamily_unchecked_number : Stmt := inClass (top 11) 4
theorem sc_Cars__RingFamily_unchecked_number : FnScope ["self", "thing"] ["self", "thing"] (defScope s_Cars__RingFamily_unchecked_number) := ⟨rfl, rfl, rfl, by decide +kernel, rfl, by decide +kernel, by decide +kernel⟩
noncomputable abbrev s_Cars__Family_number_of : Stmt := inClass (top 9) 8
theorem sc_Cars__Family_number_of : FnScope ["self", "thing"] ["self", "thing"] (defScope s_Cars__Family_number_of) := ⟨rfl, rfl, rfl, by decide +kernel, rfl, by decide +kernel, by decide +kernel⟩
noncomputable abbrev s_Codes__Family_next_of : Stmt := inClass (top 9) 10
theorem sc_Codes__Family_next_of : FnScope ["self", "thing", "number", "size"] ["self", "thing"] (defScope s_Codes__Family_next_of) := ⟨rfl, rfl, rfl, by decide +kernel, rfl, by decide +kernel, by decide +kernel⟩
noncomputable abbrev s_Trees__Family_next_of : Stmt := inClass (top 9) 10
theorem sc_Trees__Family_next_of : FnScope ["self", "thing", "number", "size"] ["self", "thing"] (defScope s_Trees__Family_next_of) := ⟨rfl, rfl, rfl, by decide +kernel, rfl, by decide +kernel, by decide +kernel⟩
noncomputable abbrev s_Cars__Family_next_of : Stmt := inClass (top 9) 10
theorem sc_Cars__Family_next_of : FnScope ["self", "thing", "number", "size"] ["self", "thing"] (defScope s_Cars__Family_next_of) := ⟨rfl, rfl, rfl, by decide +kernel, rfl, by decide +kernel, by decide +kernel⟩
noncomputable abbrev s_law : Stmt := top 31
theorem sc_law : FnScope ["_law_script", "_law_word", "_law_size", "_law_many", "_law_k", "_law_number_here", "_law_kin_here", "_law_other", "_law_last", "_law_thing", "_law_told", "_law_handed", "_law_later"] ["_law_script"] (defScope s_law) := ⟨rfl, rfl, rfl, by decide +kernel, rfl, by decide +kernel, by decide +kernel⟩
noncomputable def sp__law_cell_at (K : PySem.W.Frag) (_ : ClA) : Sp := fun vs H Q _ => ∃ (a : Addr) (ns : List Int) (k : Int), vs = [.ref a, .int k] ∧ SqL K H a (ns.map V.int) ∧ 0 ≤ k ∧ Q (.int (ns.getD k.toNat 0)) H
noncomputable def sp__law_number (K : PySem.W.Frag) (_ : ClA) : Sp := fun vs H Q _ => ∃ (a : Addr) (ns : List Int) (n : Int), vs = [.ref a, .int n, .int (pw (n + 1) (n - 1).toNat)] ∧ SqL K H a (ns.map V.int) ∧ ns.length ≤ 63 ∧ 1 ≤ n ∧ n ≤ 40 ∧ ∀ (m : Int) (H' : Hp), Same H H' → 0 ≤ m → m < pw (n + 1) (n - 1).toNat → Q (.int m) H'
noncomputable def sp_Codes__Family___init__ (_ : PySem.W.Frag) (ca : ClA) : Sp := fun vs H Q _ => ∃ (x dx : Addr) (w : Str) (l : Int), vs = [.ref x, .str w, .int l] ∧ H x = some (.ins ca.C_Codes dx []) ∧ ∀ (fs : List (Str × V)) (H' : Hp), H' = upd H x (.ins ca.C_Codes dx fs) → Flds fs w l → Q .non H'
noncomputable def sp_Codes__RingFamily___init__ (_ : PySem.W.Frag) (ca : ClA) : Sp := fun vs H Q _ => ∃ (x dx : Addr) (w : Str), vs = [.ref x, .str w] ∧ H x = some (.ins ca.C_Codes dx []) ∧ ∀ (fs : List (Str × V)) (H' : Hp), H' = upd H x (.ins ca.C_Codes dx fs) → Flds fs w 1 → Q .non H'
noncomputable def sp_Codes____init__ (_ : PySem.W.Frag) (ca : ClA) : Sp := fun vs H Q _ => ∃ x dx, vs = [.ref x] ∧ H x = some (.ins ca.C_Codes dx []) ∧ ∀ (fs : List (Str × V)) (H' : Hp), H' = upd H x (.ins ca.C_Codes dx fs) → Flds fs "codes" 1 → Q .non H'
noncomputable def sp_Trees__Family___init__ (_ : PySem.W.Frag) (ca : ClA) : Sp := fun vs H Q _ => ∃ (x dx : Addr) (w : Str) (l : Int), vs = [.ref x, .str w, .int l] ∧ H x = some (.ins ca.C_Trees dx []) ∧ ∀ (fs : List (Str × V)) (H' : Hp), H' = upd H x (.ins ca.C_Trees dx fs) → Flds fs w l → Q .non H'
noncomputable def sp_Trees__RingFamily___init__ (_ : PySem.W.Frag) (ca : ClA) : Sp := fun vs H Q _ => ∃ (x dx : Addr) (w : Str), vs = [.ref x, .str w] ∧ H x = some (.ins ca.C_Trees dx []) ∧ ∀ (fs : List (Str × V)) (H' : Hp), H' = upd H x (.ins ca.C_Trees dx fs) → Flds fs w 1 → Q .non H'
noncomputable def sp_Trees____init__ (_ : PySem.W.Frag) (ca : ClA) : Sp := fun vs H Q _ => ∃ x dx, vs = [.ref x] ∧ H x = some (.ins ca.C_Trees dx []) ∧ ∀ (fs : List (Str × V)) (H' : Hp), H' = upd H x (.ins ca.C_Trees dx fs) → Flds fs "trees" 1 → Q .non H'
noncomputable def sp_Cars__Family___init__ (_ : PySem.W.Frag) (ca : ClA) : Sp := fun vs H Q _ => ∃ (x dx : Addr) (w : Str) (l : Int), vs = [.ref x, .str w, .int l] ∧ H x = some (.ins ca.C_Cars dx []) ∧ ∀ (fs : List (Str × V)) (H' : Hp), H' = upd H x (.ins ca.C_Cars dx fs) → Flds fs w l → Q .non H'
noncomputable def sp_Cars__RingFamily___init__ (_ : PySem.W.Frag) (ca : ClA) : Sp := fun vs H Q _ => ∃ (x dx : Addr) (w : Str), vs = [.ref x, .str w] ∧ H x = some (.ins ca.C_Cars dx []) ∧ ∀ (fs : List (Str × V)) (H' : Hp), H' = upd H x (.ins ca.C_Cars dx fs) → Flds fs w 1 → Q .non H'
noncomputable def sp_Cars____init__ (_ : PySem.W.Frag) (ca : ClA) : Sp := fun vs H Q _ => ∃ x dx, vs = [.ref x] ∧ H x = some (.ins ca.C_Cars dx []) ∧ ∀ (fs : List (Str × V)) (H' : Hp), H' = upd H x (.ins ca.C_Cars dx fs) → Flds fs "cars" 1 → Q .non H'
noncomputable def sp__law_kin (K : PySem.W.Frag) (ca : ClA) : Sp := fun vs H Q _ => ∃ (w : Int), vs = [.int w] ∧ 0 ≤ w ∧ w < 3 ∧
  ∀ (x dx : Addr) (fs : List (Str × V)) (H' : Hp), Same H H' → ((w = 0 → H' x = some (.ins ca.C_Codes dx fs) → Flds fs "codes" 1 → Q (.ref x) H') ∧ (w = 1 → H' x = some (.ins ca.C_Trees dx fs) → Flds fs "trees" 1 → Q (.ref x) H') ∧ (w = 2 → H' x = some (.ins ca.C_Cars dx fs) → Flds fs "cars" 1 → Q (.ref x) H'))
noncomputable def sp__law_whole (_ : PySem.W.Frag) (_ : ClA) : Sp := fun vs H Q _ => ∃ n : Int, vs = [.int n] ∧ Q (.bl true) H
noncomputable def sp_ring_many (_ : PySem.W.Frag) (_ : ClA) : Sp := fun vs H Q _ => ∃ n : Int, vs = [.int n] ∧ 1 ≤ n ∧ n ≤ 61 ∧ ∀ H', Same H H' → Q (.int (pw (n + 1) (n - 1).toNat)) H'
noncomputable def sp_Codes__RingFamily_unchecked_many (K : PySem.W.Frag) (_ : ClA) : Sp := fun vs H Q _ => ∃ (x : Addr) (n : Int), vs = [.ref x, .int n] ∧ 1 ≤ n ∧ n ≤ 40 ∧ ∀ H', Same H H' → Q (.int (pw (n + 1) (n - 1).toNat)) H'
noncomputable def sp_Codes__Family_many (K : PySem.W.Frag) (ca : ClA) : Sp := fun vs H Q _ => ∃ (x dx : Addr) (fs : List (Str × V)) (wd : Str) (n : Int), vs = [.ref x, .int n] ∧ H x = some (.ins ca.C_Codes dx fs) ∧ Flds fs wd 1 ∧ 1 ≤ n ∧ n ≤ 40 ∧ ∀ H', Same H H' → Q (.int (pw (n + 1) (n - 1).toNat)) H'
noncomputable def sp_Trees__RingFamily_unchecked_many (K : PySem.W.Frag) (_ : ClA) : Sp := fun vs H Q _ => ∃ (x : Addr) (n : Int), vs = [.ref x, .int n] ∧ 1 ≤ n ∧ n ≤ 40 ∧ ∀ H', Same H H' → Q (.int (pw (n + 1) (n - 1).toNat)) H'
noncomputable def sp_Trees__Family_many (K : PySem.W.Frag) (ca : ClA) : Sp := fun vs H Q _ => ∃ (x dx : Addr) (fs : List (Str × V)) (wd : Str) (n : Int), vs = [.ref x, .int n] ∧ H x = some (.ins ca.C_Trees dx fs) ∧ Flds fs wd 1 ∧ 1 ≤ n ∧ n ≤ 40 ∧ ∀ H', Same H H' → Q (.int (pw (n + 1) (n - 1).toNat)) H'
noncomputable def sp_Cars__RingFamily_unchecked_many (K : PySem.W.Frag) (_ : ClA) : Sp := fun vs H Q _ => ∃ (x : Addr) (n : Int), vs = [.ref x, .int n] ∧ 1 ≤ n ∧ n ≤ 40 ∧ ∀ H', Same H H' → Q (.int (pw (n + 1) (n - 1).toNat)) H'
noncomputable def sp_Cars__Family_many (K : PySem.W.Frag) (ca : ClA) : Sp := fun vs H Q _ => ∃ (x dx : Addr) (fs : List (Str × V)) (wd : Str) (n : Int), vs = [.ref x, .int n] ∧ H x = some (.ins ca.C_Cars dx fs) ∧ Flds fs wd 1 ∧ 1 ≤ n ∧ n ≤ 40 ∧ ∀ H', Same H H' → Q (.int (pw (n + 1) (n - 1).toNat)) H'
noncomputable def sp_Codes__of_code (K : PySem.W.Frag) (_ : ClA) : Sp := fun vs H Q _ => ∃ (x l : Addr) (ns : List Int), vs = [.ref x, .ref l] ∧ SqL K H l (ns.map V.int) ∧ ∀ (p : Addr) (H' : Hp), Same H H' → H p = none → H' p = some (.lst (ns.map V.int)) → Q (.ref p) H'
noncomputable def sp_number_figures (K : PySem.W.Frag) (_ : ClA) : Sp := fun vs H Q _ => ∃ (m b z : Int), vs = [.int m, .int b, .int z] ∧ 0 < b ∧ b ≤ 1000 ∧ 0 ≤ z ∧ z ≤ 1000 ∧ ∀ (p : Addr) (H' : Hp), Same H H' → H p = none → H' p = some (.lst ((figs b z.toNat m).map V.int)) → Q (.ref p) H'
noncomputable def sp_Codes__RingFamily_unchecked_thing (K : PySem.W.Frag) (ca : ClA) : Sp := fun vs H Q _ => ∃ (x dx : Addr) (fs : List (Str × V)) (wd : Str) (n m : Int), vs = [.ref x, .int n, .int m] ∧ H x = some (.ins ca.C_Codes dx fs) ∧ Flds fs wd 1 ∧ 1 ≤ n ∧ n ≤ 40 ∧ 0 ≤ m ∧ m < pw (n + 1) (n - 1).toNat ∧
  ∀ (p : Addr) (ns : List Int) (H' : Hp), Same H H' → H p = none → H' p = some (.lst (ns.map V.int)) → Rg 0 ns (figs (n + 1) (n - 1).toNat m) → Q (.ref p) H'
noncomputable def sp_Codes__Family_thing_of (K : PySem.W.Frag) (ca : ClA) : Sp := fun vs H Q _ => ∃ (x dx : Addr) (fs : List (Str × V)) (wd : Str) (n m : Int), vs = [.ref x, .int n, .int m] ∧ H x = some (.ins ca.C_Codes dx fs) ∧ Flds fs wd 1 ∧ 1 ≤ n ∧ n ≤ 40 ∧ 0 ≤ m ∧ m < pw (n + 1) (n - 1).toNat ∧
  ∀ (p : Addr) (ns : List Int) (H' : Hp), Same H H' → H p = none → H' p = some (.lst (ns.map V.int)) → Rg 0 ns (figs (n + 1) (n - 1).toNat m) → Q (.ref p) H'
noncomputable def sp_Trees__of_code (K : PySem.W.Frag) (_ : ClA) : Sp := fun vs H Q _ => ∃ (x l : Addr) (cs : List Int), vs = [.ref x, .ref l] ∧ H l = some (.lst (cs.map V.int)) ∧ cs.length ≤ 100 ∧
  ∀ (p : Addr) (es ts : List Int) (H' : Hp), Same H H' → H p = none → H' p = some (.lst (es.map V.int)) → es.length = cs.length + 1 → Dec (cs ++ [0]) (knots (cs.length + 1)) ts → ts.map (eld es) = cs ++ [0] → Q (.ref p) H'
noncomputable def sp_Trees__RingFamily_unchecked_thing (K : PySem.W.Frag) (ca : ClA) : Sp := fun vs H Q _ => ∃ (x dx : Addr) (fs : List (Str × V)) (wd : Str) (n m : Int), vs = [.ref x, .int n, .int m] ∧ H x = some (.ins ca.C_Trees dx fs) ∧ Flds fs wd 1 ∧ 1 ≤ n ∧ n ≤ 40 ∧ 0 ≤ m ∧ m < pw (n + 1) (n - 1).toNat ∧
  ∀ (p : Addr) (ns : List Int) (H' : Hp), Same H H' → H p = none → H' p = some (.lst (ns.map V.int)) → Rg 1 ns (figs (n + 1) (n - 1).toNat m) → Q (.ref p) H'
noncomputable def sp_Trees__Family_thing_of (K : PySem.W.Frag) (ca : ClA) : Sp := fun vs H Q _ => ∃ (x dx : Addr) (fs : List (Str × V)) (wd : Str) (n m : Int), vs = [.ref x, .int n, .int m] ∧ H x = some (.ins ca.C_Trees dx fs) ∧ Flds fs wd 1 ∧ 1 ≤ n ∧ n ≤ 40 ∧ 0 ≤ m ∧ m < pw (n + 1) (n - 1).toNat ∧
  ∀ (p : Addr) (ns : List Int) (H' : Hp), Same H H' → H p = none → H' p = some (.lst (ns.map V.int)) → Rg 1 ns (figs (n + 1) (n - 1).toNat m) → Q (.ref p) H'
noncomputable def sp_Cars__is_one (K : PySem.W.Frag) (_ : ClA) : Sp := fun vs H Q _ => ∃ (x l : Addr) (ns : List Int), vs = [.ref x, .ref l] ∧ SqL K H l (ns.map V.int) ∧ ns.length < 64 ∧ ∀ H', Same H H' → Q (.bl (isCar ns)) H'
noncomputable def sp_Cars__of_code (K : PySem.W.Frag) (ca : ClA) : Sp := fun vs H Q _ => ∃ (x dx : Addr) (fs : List (Str × V)) (l : Addr) (cs : List Int), vs = [.ref x, .ref l] ∧ H x = some (.ins ca.C_Cars dx fs) ∧ fs.lookup ("is_one" : Str) = none ∧ H l = some (.lst (cs.map V.int)) ∧ cs.length ≤ 40 ∧
  ∀ (p : Addr) (v : Int) (H' : Hp), Same H H' → H p = none → H' p = some (.lst ((walkR ((cs.length : Int) + 2) v cs).map V.int)) → 0 ≤ v → v < (cs.length : Int) + 2 → Car (walkR ((cs.length : Int) + 2) v cs) → Q (.ref p) H'
noncomputable def sp_Cars__RingFamily_unchecked_thing (K : PySem.W.Frag) (ca : ClA) : Sp := fun vs H Q _ => ∃ (x dx : Addr) (fs : List (Str × V)) (wd : Str) (n m : Int), vs = [.ref x, .int n, .int m] ∧ H x = some (.ins ca.C_Cars dx fs) ∧ Flds fs wd 1 ∧ 1 ≤ n ∧ n ≤ 40 ∧ 0 ≤ m ∧ m < pw (n + 1) (n - 1).toNat ∧
  ∀ (p : Addr) (ns : List Int) (H' : Hp), Same H H' → H p = none → H' p = some (.lst (ns.map V.int)) → Rg 2 ns (figs (n + 1) (n - 1).toNat m) → Q (.ref p) H'
noncomputable def sp_Cars__Family_thing_of (K : PySem.W.Frag) (ca : ClA) : Sp := fun vs H Q _ => ∃ (x dx : Addr) (fs : List (Str × V)) (wd : Str) (n m : Int), vs = [.ref x, .int n, .int m] ∧ H x = some (.ins ca.C_Cars dx fs) ∧ Flds fs wd 1 ∧ 1 ≤ n ∧ n ≤ 40 ∧ 0 ≤ m ∧ m < pw (n + 1) (n - 1).toNat ∧
  ∀ (p : Addr) (ns : List Int) (H' : Hp), Same H H' → H p = none → H' p = some (.lst (ns.map V.int)) → Rg 2 ns (figs (n + 1) (n - 1).toNat m) → Q (.ref p) H'
noncomputable def sp__law_is_tree (K : PySem.W.Frag) (_ : ClA) : Sp := fun vs H Q _ => ∃ (l : Addr) (ns : List Int), vs = [.ref l] ∧ H l = some (.lst (ns.map V.int)) ∧ ns.length ≤ 1000 ∧ ∀ H', Same H H' → Q (.bl (isTree ns)) H'
noncomputable def sp__law_code (K : PySem.W.Frag) (_ : ClA) : Sp := fun vs H Q _ => ∃ (l : Addr) (es : List Int), vs = [.ref l] ∧ H l = some (.lst (es.map V.int)) ∧ es.length ≤ 100 ∧ isTree es = true ∧
  ∀ (p : Addr) (w0 ts : List Int) (H' : Hp), Same H H' → H p = none → H' p = some (.lst (w0.map V.int)) → Enc es (knots es.length) ts → ts.map (eld es) = w0 ++ [0] → Q (.ref p) H'
noncomputable def sp__law_all_park (K : PySem.W.Frag) (_ : ClA) : Sp := fun vs H Q _ => ∃ (l : Addr) (ws : List Int), vs = [.ref l] ∧ H l = some (.lst (ws.map V.int)) ∧ ws ≠ [] ∧ ws.length ≤ 1000 ∧ Car ws ∧ ∀ H', Same H H' → Q (.bl true) H'
noncomputable def sp__law_steps (K : PySem.W.Frag) (_ : ClA) : Sp := fun vs H Q _ => ∃ (l : Addr) (ws : List Int), vs = [.ref l] ∧ H l = some (.lst (ws.map V.int)) ∧ ws.length ≤ 1000 ∧ ∀ (p : Addr) (H' : Hp), Same H H' → H p = none → H' p = some (.lst ((steps ws).map V.int)) → Q (.ref p) H'
noncomputable def sp__law_has_code (K : PySem.W.Frag) (_ : ClA) : Sp := fun vs H Q _ => ∃ (w : Nat) (l p : Addr) (ns cs : List Int), vs = [.int (w : Int), .ref l, .ref p] ∧ w < 3 ∧ H l = some (.lst (ns.map V.int)) ∧ H p = some (.lst (cs.map V.int)) ∧ Rg w ns cs ∧ cs.length ≤ 39 ∧ ∀ H', Same H H' → Q (.bl true) H'
noncomputable def sp__law_figures_of (K : PySem.W.Frag) (_ : ClA) : Sp := fun vs H Q _ => ∃ (n m : Int), vs = [.int n, .int m] ∧ 1 ≤ n ∧ n ≤ 40 ∧ ∀ (p : Addr) (H' : Hp), Same H H' → H p = none → H' p = some (.lst ((figs (n + 1) (n - 1).toNat m).map V.int)) → Q (.ref p) H'
noncomputable def sp_Codes__is_one (K : PySem.W.Frag) (_ : ClA) : Sp := fun vs H Q _ => ∃ (x l : Addr) (cs : List Int), vs = [.ref x, .ref l] ∧ H l = some (.lst (cs.map V.int)) ∧ cs.length ≤ 1000 ∧ ∀ H', Same H H' → Q (.bl (cs.all fun c => decide (0 ≤ c) && decide (c ≤ (cs.length : Int) + 1))) H'
noncomputable def sp_Codes__Family_refuse_other (K : PySem.W.Frag) (ca : ClA) : Sp := fun vs H Q _ => ∃ (x dx : Addr) (fs : List (Str × V)) (l : Addr) (cs : List Int), vs = [.ref x, .ref l] ∧ H x = some (.ins ca.C_Codes dx fs) ∧ fs.lookup ("is_one" : Str) = none ∧ H l = some (.lst (cs.map V.int)) ∧ cs.length ≤ 1000 ∧ (∀ c ∈ cs, 0 ≤ c ∧ c ≤ (cs.length : Int) + 1) ∧ ∀ H', Same H H' → Q .non H'
noncomputable def sp_figures_number (K : PySem.W.Frag) (_ : ClA) : Sp := fun vs H Q _ => ∃ (l : Addr) (cs : List Int) (b : Int), vs = [.ref l, .int b] ∧ SqL K H l (cs.map V.int) ∧ 0 ≤ b ∧ b ≤ 1000 ∧ Q (.int (fig b cs)) H
noncomputable def sp_Codes__size_of (K : PySem.W.Frag) (_ : ClA) : Sp := fun vs H Q _ => ∃ (x l : Addr) (ns cs : List Int), vs = [.ref x, .ref l] ∧ H l = some (.lst (ns.map V.int)) ∧ Rg 0 ns cs ∧ Q (.int ((cs.length : Int) + 1)) H
noncomputable def sp_Codes__code_of (K : PySem.W.Frag) (_ : ClA) : Sp := fun vs H Q _ => ∃ (x l : Addr) (ns : List Int), vs = [.ref x, .ref l] ∧ SqL K H l (ns.map V.int) ∧ ∀ (p : Addr) (H' : Hp), Same H H' → H p = none → H' p = some (.lst (ns.map V.int)) → Q (.ref p) H'
noncomputable def sp_Codes__RingFamily_unchecked_number (K : PySem.W.Frag) (ca : ClA) : Sp := fun vs H Q _ => ∃ (x dx : Addr) (fs : List (Str × V)) (wd : Str) (l : Addr) (ns cs : List Int), vs = [.ref x, .ref l] ∧ H x = some (.ins ca.C_Codes dx fs) ∧ Flds fs wd 1 ∧ H l = some (.lst (ns.map V.int)) ∧ Rg 0 ns cs ∧ cs.length ≤ 39 ∧ ∀ H', Same H H' → Q (.int (fig ((cs.length : Int) + 2) cs)) H'
noncomputable def sp_Codes__Family_number_of (K : PySem.W.Frag) (ca : ClA) : Sp := fun vs H Q _ => ∃ (x dx : Addr) (fs : List (Str × V)) (wd : Str) (l : Addr) (ns cs : List Int), vs = [.ref x, .ref l] ∧ H x = some (.ins ca.C_Codes dx fs) ∧ Flds fs wd 1 ∧ H l = some (.lst (ns.map V.int)) ∧ Rg 0 ns cs ∧ cs.length ≤ 39 ∧ ∀ H', Same H H' → Q (.int (fig ((cs.length : Int) + 2) cs)) H'
noncomputable def sp_comes_to_0 (K : PySem.W.Frag) (_ : ClA) : Sp := fun vs H Q _ => ∃ (l : Addr) (es : List Int) (r : Int), vs = [.ref l, .int r] ∧ SqL K H l (es.map V.int) ∧ es.length ≤ 1000 ∧ inR es = true ∧ 0 ≤ r ∧ r ≤ (es.length : Int) ∧ Q (.bl (decide (wlk es es.length r = 0))) H
noncomputable def sp_Trees__is_one (K : PySem.W.Frag) (_ : ClA) : Sp := fun vs H Q _ => ∃ (x l : Addr) (ns : List Int), vs = [.ref x, .ref l] ∧ H l = some (.lst (ns.map V.int)) ∧ ns.length ≤ 1000 ∧ ∀ H', Same H H' → Q (.bl (isTree ns)) H'
noncomputable def sp_Trees__Family_refuse_other (K : PySem.W.Frag) (ca : ClA) : Sp := fun vs H Q _ => ∃ (x dx : Addr) (fs : List (Str × V)) (l : Addr) (es : List Int), vs = [.ref x, .ref l] ∧ H x = some (.ins ca.C_Trees dx fs) ∧ fs.lookup ("is_one" : Str) = none ∧ H l = some (.lst (es.map V.int)) ∧ es.length ≤ 1000 ∧ isTree es = true ∧ ∀ H', Same H H' → Q .non H'
noncomputable def sp_Trees__size_of (K : PySem.W.Frag) (_ : ClA) : Sp := fun vs H Q _ => ∃ (x l : Addr) (ns cs : List Int), vs = [.ref x, .ref l] ∧ H l = some (.lst (ns.map V.int)) ∧ Rg 1 ns cs ∧ Q (.int ((cs.length : Int) + 1)) H
noncomputable def sp_Trees__code_of (K : PySem.W.Frag) (_ : ClA) : Sp := fun vs H Q _ => ∃ (x l : Addr) (es : List Int), vs = [.ref x, .ref l] ∧ H l = some (.lst (es.map V.int)) ∧ es.length ≤ 100 ∧ isTree es = true ∧
  ∀ (p : Addr) (w0 ts : List Int) (H' : Hp), Same H H' → H p = none → H' p = some (.lst (w0.map V.int)) → Enc es (knots es.length) ts → ts.map (eld es) = w0 ++ [0] → Q (.ref p) H'
noncomputable def sp_Trees__RingFamily_unchecked_number (K : PySem.W.Frag) (ca : ClA) : Sp := fun vs H Q _ => ∃ (x dx : Addr) (fs : List (Str × V)) (wd : Str) (l : Addr) (ns cs : List Int), vs = [.ref x, .ref l] ∧ H x = some (.ins ca.C_Trees dx fs) ∧ Flds fs wd 1 ∧ H l = some (.lst (ns.map V.int)) ∧ Rg 1 ns cs ∧ cs.length ≤ 39 ∧ ∀ H', Same H H' → Q (.int (fig ((cs.length : Int) + 2) cs)) H'
noncomputable def sp_Trees__Family_number_of (K : PySem.W.Frag) (ca : ClA) : Sp := fun vs H Q _ => ∃ (x dx : Addr) (fs : List (Str × V)) (wd : Str) (l : Addr) (ns cs : List Int), vs = [.ref x, .ref l] ∧ H x = some (.ins ca.C_Trees dx fs) ∧ Flds fs wd 1 ∧ H l = some (.lst (ns.map V.int)) ∧ Rg 1 ns cs ∧ cs.length ≤ 39 ∧ ∀ H', Same H H' → Q (.int (fig ((cs.length : Int) + 2) cs)) H'
noncomputable def sp_Cars__Family_refuse_other (K : PySem.W.Frag) (ca : ClA) : Sp := fun vs H Q _ => ∃ (x dx : Addr) (fs : List (Str × V)) (l : Addr) (ns : List Int), vs = [.ref x, .ref l] ∧ H x = some (.ins ca.C_Cars dx fs) ∧ fs.lookup ("is_one" : Str) = none ∧ SqL K H l (ns.map V.int) ∧ ns ≠ [] ∧ ns.length < 64 ∧ Car ns ∧ ∀ H', Same H H' → Q .non H'
noncomputable def sp_Cars__size_of (K : PySem.W.Frag) (_ : ClA) : Sp := fun vs H Q _ => ∃ (x l : Addr) (ns cs : List Int), vs = [.ref x, .ref l] ∧ H l = some (.lst (ns.map V.int)) ∧ Rg 2 ns cs ∧ Q (.int ((cs.length : Int) + 1)) H
noncomputable def sp_Cars__code_of (K : PySem.W.Frag) (_ : ClA) : Sp := fun vs H Q _ => ∃ (x l : Addr) (ws : List Int), vs = [.ref x, .ref l] ∧ H l = some (.lst (ws.map V.int)) ∧ ws.length ≤ 1000 ∧ ∀ (p : Addr) (H' : Hp), Same H H' → H p = none → H' p = some (.lst ((steps ws).map V.int)) → Q (.ref p) H'
noncomputable def sp_Cars__RingFamily_unchecked_number (K : PySem.W.Frag) (ca : ClA) : Sp := fun vs H Q _ => ∃ (x dx : Addr) (fs : List (Str × V)) (wd : Str) (l : Addr) (ns cs : List Int), vs = [.ref x, .ref l] ∧ H x = some (.ins ca.C_Cars dx fs) ∧ Flds fs wd 1 ∧ H l = some (.lst (ns.map V.int)) ∧ Rg 2 ns cs ∧ cs.length ≤ 39 ∧ ∀ H', Same H H' → Q (.int (fig ((cs.length : Int) + 2) cs)) H'
noncomputable def sp_Cars__Family_number_of (K : PySem.W.Frag) (ca : ClA) : Sp := fun vs H Q _ => ∃ (x dx : Addr) (fs : List (Str × V)) (wd : Str) (l : Addr) (ns cs : List Int), vs = [.ref x, .ref l] ∧ H x = some (.ins ca.C_Cars dx fs) ∧ Flds fs wd 1 ∧ H l = some (.lst (ns.map V.int)) ∧ Rg 2 ns cs ∧ cs.length ≤ 39 ∧ ∀ H', Same H H' → Q (.int (fig ((cs.length : Int) + 2) cs)) H'
noncomputable def sp_Codes__Family_next_of (K : PySem.W.Frag) (ca : ClA) : Sp := fun vs H Q _ => ∃ (x dx : Addr) (fs : List (Str × V)) (wd : Str) (l : Addr) (ns cs : List Int), vs = [.ref x, .ref l] ∧ H x = some (.ins ca.C_Codes dx fs) ∧ Flds fs wd 1 ∧ H l = some (.lst (ns.map V.int)) ∧ Rg 0 ns cs ∧ cs.length ≤ 39 ∧
  (∀ H', Same H H' → fig ((cs.length : Int) + 2) cs + 1 = pw ((cs.length : Int) + 2) cs.length → Q .non H') ∧
  ∀ (p : Addr) (ms : List Int) (H' : Hp), Same H H' → H p = none → H' p = some (.lst (ms.map V.int)) → fig ((cs.length : Int) + 2) cs + 1 < pw ((cs.length : Int) + 2) cs.length → Rg 0 ms (figs ((cs.length : Int) + 2) cs.length (fig ((cs.length : Int) + 2) cs + 1)) → Q (.ref p) H'
noncomputable def sp_Trees__Family_next_of (K : PySem.W.Frag) (ca : ClA) : Sp := fun vs H Q _ => ∃ (x dx : Addr) (fs : List (Str × V)) (wd : Str) (l : Addr) (ns cs : List Int), vs = [.ref x, .ref l] ∧ H x = some (.ins ca.C_Trees dx fs) ∧ Flds fs wd 1 ∧ H l = some (.lst (ns.map V.int)) ∧ Rg 1 ns cs ∧ cs.length ≤ 39 ∧
  (∀ H', Same H H' → fig ((cs.length : Int) + 2) cs + 1 = pw ((cs.length : Int) + 2) cs.length → Q .non H') ∧
  ∀ (p : Addr) (ms : List Int) (H' : Hp), Same H H' → H p = none → H' p = some (.lst (ms.map V.int)) → fig ((cs.length : Int) + 2) cs + 1 < pw ((cs.length : Int) + 2) cs.length → Rg 1 ms (figs ((cs.length : Int) + 2) cs.length (fig ((cs.length : Int) + 2) cs + 1)) → Q (.ref p) H'
noncomputable def sp_Cars__Family_next_of (K : PySem.W.Frag) (ca : ClA) : Sp := fun vs H Q _ => ∃ (x dx : Addr) (fs : List (Str × V)) (wd : Str) (l : Addr) (ns cs : List Int), vs = [.ref x, .ref l] ∧ H x = some (.ins ca.C_Cars dx fs) ∧ Flds fs wd 1 ∧ H l = some (.lst (ns.map V.int)) ∧ Rg 2 ns cs ∧ cs.length ≤ 39 ∧
  (∀ H', Same H H' → fig ((cs.length : Int) + 2) cs + 1 = pw ((cs.length : Int) + 2) cs.length → Q .non H') ∧
  ∀ (p : Addr) (ms : List Int) (H' : Hp), Same H H' → H p = none → H' p = some (.lst (ms.map V.int)) → fig ((cs.length : Int) + 2) cs + 1 < pw ((cs.length : Int) + 2) cs.length → Rg 2 ms (figs ((cs.length : Int) + 2) cs.length (fig ((cs.length : Int) + 2) cs + 1)) → Q (.ref p) H'
noncomputable def sp_law (K : PySem.W.Frag) (_ : ClA) : Sp := fun vs H Q _ => ∃ (a : Addr) (ns : List Int), vs = [.ref a] ∧ SqL K H a (ns.map V.int) ∧ ns.length ≤ 63 ∧ ∀ H', Q (.bl true) H'
section
variable {P : Program} {w : World} {K : PySem.W.Frag} {mg : Str → Option Value} {base : Heap}
theorem ok__law_cell_at {ca : ClA} (CA : ClOk K mg ca) {f : Addr} {fd : FuncData} (F : Fun K "_law_cell_at" "_law_cell_at" s__law_cell_at f fd) (m_len : mg "len" = none) : FnOk P w K mg base CX0 1 f fd ["_law_script", "_law_k"] (sp__law_cell_at K ca) := by
  refine F.ok sc__law_cell_at (fun vs H Q E h => ?_) (fun cdv A outer s H vs Q E hr h => ?_)
  · obtain ⟨a, ns, k, rfl, hS, h0, q⟩ := h
    rfl
  obtain ⟨a, ns, k, rfl, hS, h0, q⟩ := h
  refine ⟨_, pss_cons (ps_if (pt_cmpR op_lt (pv 1) (pe_callB call_len_seq rfl m_len bb_len (pa_cons (pv 0) pa_nil)) (nomark _)) (pss_one (ps_ret (pe_ix ix_list (pv 0) (pv 1) (fun _ _ => rfl)))) pss_nil)
    (pss_one (ps_ret pe_int)), ?_⟩
  have hl : (ns.map V.int).length = ns.length := List.length_map _
  refine ⟨_, rfl, _, rfl, a, _, rfl, .inl hS, _, _, rfl, rfl, _, rfl, ite2 (fun c => ?_) (fun c => ?_)⟩
  · have c' : k < (((ns.map V.int).length : Nat) : Int) := of_decide_eq_true c
    rw [hl] at c'
    exact ⟨_, rfl, _, rfl, a, _, _, _, rfl, rfl, hS, atI_int h0 c', q⟩
  · have c' : ¬ k < (((ns.map V.int).length : Nat) : Int) := of_decide_eq_false (Bool.eq_false_iff.mpr c)
    rw [hl] at c'
    have e : ns.getD k.toNat 0 = 0 := by rw [List.getD_eq_getElem?_getD, List.getElem?_eq_none (by omega)]; rfl
    rw [e] at q
    exact q
theorem ok__law_number {ca : ClA} (CA : ClOk K mg ca) {f : Addr} {fd : FuncData} (F : Fun K "_law_number" "_law_number" s__law_number f fd) {f0 : Addr} {fd0 : FuncData} (d__law_cell_at : Def P w K mg base "_law_cell_at" ["_law_script", "_law_k"] 1 (sp__law_cell_at K ca) f0 fd0) (m_range : mg "range" = none) : FnOk P w K mg base CX0 2 f fd ["_law_script", "_law_size", "_law_many"] (sp__law_number K ca) := by
  refine F.ok sc__law_number (fun vs H Q E h => ?_) (fun cdv A outer s H vs Q E hr h => ?_)
  · obtain ⟨a, ns, n, rfl, hS, h63, n1, n40, q⟩ := h
    rfl
  obtain ⟨a, ns, n, rfl, hS, h63, n1, n40, q⟩ := h
  refine ⟨_, pss_cons (ps_set (i := 3) sc__law_number.nd rfl (Or.inl rfl) (pe_op op_mod (pcall d__law_cell_at hr (pa_cons (pv 0) (pa_cons pe_int pa_nil))) pe_int))
    (pss_cons (ps_if (pt_cmpR op_eq (pv 3) pe_int (nomark _)) (pss_one (ps_ret pe_int)) pss_nil)
    (pss_cons (ps_if (pt_cmpR op_eq (pv 3) pe_int (nomark _)) (pss_one (ps_ret (pe_op op_sub (pv 2) pe_int))) pss_nil)
    (pss_cons (ps_set (i := 4) sc__law_number.nd rfl (Or.inl rfl) pe_int)
    (pss_cons (ps_for PassesOwn.never rfl (pi_list (pe_slice sl_list (pv 0) po_none (po_some pe_int))) (pg_name (i := 5) sc__law_number.nd rfl (Or.inl rfl)) (pss_one (ps_set (i := 4) sc__law_number.nd rfl (Or.inl rfl) (pe_op op_mod (pe_op op_add (pe_op op_add (pe_op op_mulB (pv 4) pe_int) (pe_op op_mod (pv 5) (pe_op op_pow pe_int pe_int))) pe_int) (pv 2)))))
    (pss_cons (ps_if (pt_cmpR op_eq (pv 3) pe_int (nomark _)) (pss_cons (ps_set (i := 6) sc__law_number.nd rfl (Or.inl rfl) pe_int)
    (pss_cons (ps_for PassesOwn.never rfl (pi_range1 rfl m_range (pa_cons (pe_op op_mod (pcall d__law_cell_at hr (pa_cons (pv 0) (pa_cons pe_int pa_nil))) (pv 1)) pa_nil)) (pg_name (i := 7) sc__law_number.nd rfl (Or.inl rfl)) (pss_one (ps_set (i := 6) sc__law_number.nd rfl (Or.inl rfl) (pe_op op_mulB (pv 6) (pe_op op_add (pv 1) pe_int)))))
    (pss_one (ps_set (i := 4) sc__law_number.nd rfl (Or.inl rfl) (pe_op op_sub (pe_op op_add (pe_op op_mulB (pe_op op_fdivL (pv 4) (pv 6)) (pv 6)) (pv 6)) pe_int))))) pss_nil)
    (pss_one (ps_ret (pv 4)))))))), ?_⟩
  have pp := pw_pos (b := n + 1) (by omega) (n - 1).toNat
  have pl := pw_le (b := n + 1) (by omega) (by omega) (n - 1).toNat
  refine ⟨_, rfl, a, ns, 1, rfl, hS, by decide, _, _, rfl, rfl, pm (by decide), ?_⟩
  try dsimp only
  generalize ns.getD (1 : Int).toNat 0 % 4 = so
  refine ⟨_, rfl, rfl, _, rfl, ite2 (fun _ => q _ _ (Same.refl H) (by omega) pp) (fun _ => ⟨_, rfl, rfl, _, rfl, ite2 (fun _ => ⟨_, rfl, _, _, rfl, rfl, q _ _ (Same.refl H) (by omega) (by omega)⟩) (fun _ => ?_)⟩)⟩
  refine ⟨_, rfl, _, rfl, a, _, rfl, hS, fun p hp => ⟨p, rfl, ⟨_, SqL.of upd_same⟩, ?_⟩⟩
  rw [cutV_map]
  have s1 := Same.new (Same.refl H) hp (.lst ((cutI ns none (some 63)).map V.int))
  refine for_list (xs := (cutI ns none (some 63)).map V.int) (fun i σ H' => ∃ (o1 o2 o3 : Option V) (m : Int), σ = [some (.ref a), some (.int n), some (.int (pw (n + 1) (n - 1).toNat)), some (.int so), some (.int m), o1, o2, o3] ∧ Same H H' ∧ H' p = some (.lst ((cutI ns none (some 63)).map V.int)) ∧ 0 ≤ m ∧ m < pw (n + 1) (n - 1).toNat)
    ⟨_, _, _, 0, rfl, s1, upd_same, by omega, pp⟩ (fun i σ H' _ h => by obtain ⟨_, _, _, _, _, _, h, _⟩ := h; exact SqL.of h) ?_ ?_
  · rintro i x σ H' hx ⟨o1, o2, o3, m, rfl, sm, hp', m0, m1⟩
    obtain ⟨c, rfl⟩ := get_int hx
    refine ⟨_, rfl, _, _, rfl, rfl, ⟨big_of m0 (Int.le_trans (Int.le_of_lt m1) pl) (by omega), by decide⟩, _, rfl, _, _, rfl, rfl, ⟨by decide, by decide, by decide⟩, _, _, rfl, rfl, (by show (0 : Int) < 10 ^ 40; decide), _, _, rfl, rfl, _, _, rfl, rfl, _, rfl, _, _, rfl, rfl, pp, ?_⟩
    exact ⟨_, _, _, _, rfl, sm, hp', Int.emod_nonneg _ (by omega), Int.emod_lt_of_pos _ pp⟩
  · rintro σ H1 ⟨o1, o2, o3, m, rfl, sm, _, m0, m1⟩
    refine ⟨_, rfl, rfl, _, rfl, ite2 (fun _ => ?_) (fun _ => ⟨_, rfl, q _ _ sm m0 m1⟩)⟩
    have c0 := Int.emod_nonneg (ns.getD (2 : Int).toNat 0) (show n ≠ 0 by omega)
    have c1 := Int.emod_lt_of_pos (ns.getD (2 : Int).toNat 0) (show 0 < n by omega)
    refine ⟨_, rfl, a, ns, 2, rfl, sm.seq hS, by decide, _, rfl, _, _, rfl, rfl, by omega, _, rfl, by omega, by omega, for_range (lo := 0) (n := (ns.getD (2 : Int).toNat 0 % n).toNat) (fun i σ H' => ∃ (o1 o3 : Option V), σ = [some (.ref a), some (.int n), some (.int (pw (n + 1) (n - 1).toNat)), some (.int so), some (.int m), o1, some (.int (pw (n + 1) i)), o3] ∧ H1 = H' ∧ i ≤ 40) ⟨_, _, rfl, rfl, Nat.zero_le _⟩ ?_ ?_⟩
    · rintro i σ H' hi ⟨o1, o3, rfl, rfl, hle⟩
      generalize ns.getD (2 : Int).toNat 0 % n = e at c0 c1 hi
      have p1 := pw_pos (b := n + 1) (by omega) i
      have p2 := pw_le (b := n + 1) (by omega) (by omega) i
      exact ⟨_, rfl, _, rfl, _, _, rfl, rfl, _, _, rfl, rfl, ⟨big_of (Int.le_of_lt p1) p2 (by omega), Nat.lt_of_lt_of_le (show (n + 1).natAbs < 64 by omega) (by decide)⟩, _, _, rfl, rfl, by omega⟩
    · rintro σ H' ⟨o1, o3, rfl, rfl, hle⟩
      generalize ns.getD (2 : Int).toNat 0 % n = e at c0 c1 hle ⊢
      have p1 := pw_pos (b := n + 1) (by omega) e.toNat
      have p2 := pw_le (b := n + 1) (by omega) (by omega) e.toNat
      have b1 := big_of (Int.le_of_lt p1) p2 (by omega)
      have d0 : 0 ≤ m / pw (n + 1) e.toNat := Int.ediv_nonneg m0 (by omega)
      have d1 : m / pw (n + 1) e.toNat ≤ m := Int.ediv_le_self _ m0
      have b2 := big_of d0 (Int.le_trans d1 (Int.le_trans (Int.le_of_lt m1) pl)) (by omega)
      obtain ⟨j, ej⟩ : ∃ j, (n - 1).toNat = e.toNat + j := ⟨(n - 1).toNat - e.toNat, by omega⟩
      have r := low_lt (b := n + 1) (m := m) (by omega) (i := e.toNat) (j := j) m0 (by rw [← ej]; exact m1)
      rw [← ej] at r
      refine ⟨_, rfl, _, rfl, _, _, rfl, rfl, divB p1 b1, _, rfl, _, _, rfl, rfl, ⟨b2, b1⟩, _, rfl, _, _, rfl, rfl, _, _, rfl, rfl, ?_⟩
      exact ⟨_, rfl, q _ _ sm r.1 r.2⟩
theorem ok_Codes__Family___init__ {ca : ClA} (CA : ClOk K mg ca) {fd : FuncData} (F : Fun K "__init__" "Family.__init__" s_Codes__Family___init__ ca.f_Codes__Family___init__ fd) : FnOk P w K mg base CX0 1 ca.f_Codes__Family___init__ fd ["self", "word", "least"] (sp_Codes__Family___init__ K ca) := by
  refine F.ok sc_Codes__Family___init__ (fun vs H Q E h => ?_) (fun cdv A outer s H vs Q E hr h => ?_)
  · obtain ⟨x, dx, w, l, rfl, hx, q⟩ := h
    rfl
  obtain ⟨x, dx, w, l, rfl, hx, q⟩ := h
  refine ⟨_, pss_cons (ps_fld (pv 0) (pv 1) rfl)
    (pss_one (ps_fld (pv 0) (pv 2) rfl)), ?_⟩
  refine ⟨_, rfl, _, rfl, x, ca.C_Codes, dx, _, rfl, hx, CA.c_Codes, CA.na_Codes_word, (by show 0 < 1000; decide), ?_⟩
  refine ⟨_, rfl, _, rfl, x, ca.C_Codes, dx, _, rfl, upd_same, CA.c_Codes, CA.na_Codes_least, (by show 1 < 1000; decide), ?_⟩
  exact q _ _ upd_upd (flds_mk w l)
theorem ok_Codes__RingFamily___init__ {ca : ClA} (CA : ClOk K mg ca) {fd : FuncData} (F : Fun K "__init__" "RingFamily.__init__" s_Codes__RingFamily___init__ ca.f_Codes__RingFamily___init__ fd) {fd0 : FuncData} (d_Codes__Family___init__ : MDef P w K mg base ["self", "word", "least"] 1 (sp_Codes__Family___init__ K ca) ca.f_Codes__Family___init__ fd0) : FnOk P w K mg base CX0 3 ca.f_Codes__RingFamily___init__ fd ["self", "word"] (sp_Codes__RingFamily___init__ K ca) := by
  refine F.ok sc_Codes__RingFamily___init__ (fun vs H Q E h => ?_) (fun cdv A outer s H vs Q E hr h => ?_)
  · obtain ⟨x, dx, w, rfl, hx, q⟩ := h
    rfl
  obtain ⟨x, dx, w, rfl, hx, q⟩ := h
  refine ⟨_, pss_one (ps_expr (pcls CA.m_Family CA.cm_Family___init___Codes d_Codes__Family___init__ hr (pa_cons (pv 0) (pa_cons (pv 1) (pa_cons pe_int pa_nil))))), ?_⟩
  exact ⟨_, rfl, _, rfl, x, dx, w, 1, rfl, hx, fun fs H' e f => q fs H' e f⟩
theorem ok_Codes____init__ {ca : ClA} (CA : ClOk K mg ca) {fd : FuncData} (F : Fun K "__init__" "Codes.__init__" s_Codes____init__ ca.f_Codes____init__ fd) {fd0 : FuncData} (d_Codes__RingFamily___init__ : MDef P w K mg base ["self", "word"] 3 (sp_Codes__RingFamily___init__ K ca) ca.f_Codes__RingFamily___init__ fd0) : FnOk P w K mg base CX0 5 ca.f_Codes____init__ fd ["self"] (sp_Codes____init__ K ca) := by
  refine F.ok sc_Codes____init__ (fun vs H Q E h => ?_) (fun cdv A outer s H vs Q E hr h => ?_)
  · obtain ⟨x, dx, rfl, hx, q⟩ := h
    rfl
  obtain ⟨x, dx, rfl, hx, q⟩ := h
  refine ⟨_, pss_one (ps_expr (pcls CA.m_RingFamily CA.cm_RingFamily___init___Codes d_Codes__RingFamily___init__ hr (pa_cons (pv 0) (pa_cons pe_str pa_nil)))), ?_⟩
  exact ⟨_, rfl, x, dx, _, rfl, hx, fun fs H' e f => q fs H' e f⟩
theorem ok_Trees__Family___init__ {ca : ClA} (CA : ClOk K mg ca) {fd : FuncData} (F : Fun K "__init__" "Family.__init__" s_Trees__Family___init__ ca.f_Trees__Family___init__ fd) : FnOk P w K mg base CX0 1 ca.f_Trees__Family___init__ fd ["self", "word", "least"] (sp_Trees__Family___init__ K ca) := by
  refine F.ok sc_Trees__Family___init__ (fun vs H Q E h => ?_) (fun cdv A outer s H vs Q E hr h => ?_)
  · obtain ⟨x, dx, w, l, rfl, hx, q⟩ := h
    rfl
  obtain ⟨x, dx, w, l, rfl, hx, q⟩ := h
  refine ⟨_, pss_cons (ps_fld (pv 0) (pv 1) rfl)
    (pss_one (ps_fld (pv 0) (pv 2) rfl)), ?_⟩
  refine ⟨_, rfl, _, rfl, x, ca.C_Trees, dx, _, rfl, hx, CA.c_Trees, CA.na_Trees_word, (by show 0 < 1000; decide), ?_⟩
  refine ⟨_, rfl, _, rfl, x, ca.C_Trees, dx, _, rfl, upd_same, CA.c_Trees, CA.na_Trees_least, (by show 1 < 1000; decide), ?_⟩
  exact q _ _ upd_upd (flds_mk w l)
theorem ok_Trees__RingFamily___init__ {ca : ClA} (CA : ClOk K mg ca) {fd : FuncData} (F : Fun K "__init__" "RingFamily.__init__" s_Trees__RingFamily___init__ ca.f_Trees__RingFamily___init__ fd) {fd0 : FuncData} (d_Trees__Family___init__ : MDef P w K mg base ["self", "word", "least"] 1 (sp_Trees__Family___init__ K ca) ca.f_Trees__Family___init__ fd0) : FnOk P w K mg base CX0 3 ca.f_Trees__RingFamily___init__ fd ["self", "word"] (sp_Trees__RingFamily___init__ K ca) := by
  refine F.ok sc_Trees__RingFamily___init__ (fun vs H Q E h => ?_) (fun cdv A outer s H vs Q E hr h => ?_)
  · obtain ⟨x, dx, w, rfl, hx, q⟩ := h
    rfl
  obtain ⟨x, dx, w, rfl, hx, q⟩ := h
  refine ⟨_, pss_one (ps_expr (pcls CA.m_Family CA.cm_Family___init___Trees d_Trees__Family___init__ hr (pa_cons (pv 0) (pa_cons (pv 1) (pa_cons pe_int pa_nil))))), ?_⟩
  exact ⟨_, rfl, _, rfl, x, dx, w, 1, rfl, hx, fun fs H' e f => q fs H' e f⟩
theorem ok_Trees____init__ {ca : ClA} (CA : ClOk K mg ca) {fd : FuncData} (F : Fun K "__init__" "Trees.__init__" s_Trees____init__ ca.f_Trees____init__ fd) {fd0 : FuncData} (d_Trees__RingFamily___init__ : MDef P w K mg base ["self", "word"] 3 (sp_Trees__RingFamily___init__ K ca) ca.f_Trees__RingFamily___init__ fd0) : FnOk P w K mg base CX0 5 ca.f_Trees____init__ fd ["self"] (sp_Trees____init__ K ca) := by
  refine F.ok sc_Trees____init__ (fun vs H Q E h => ?_) (fun cdv A outer s H vs Q E hr h => ?_)
  · obtain ⟨x, dx, rfl, hx, q⟩ := h
    rfl
  obtain ⟨x, dx, rfl, hx, q⟩ := h
  refine ⟨_, pss_one (ps_expr (pcls CA.m_RingFamily CA.cm_RingFamily___init___Trees d_Trees__RingFamily___init__ hr (pa_cons (pv 0) (pa_cons pe_str pa_nil)))), ?_⟩
  exact ⟨_, rfl, x, dx, _, rfl, hx, fun fs H' e f => q fs H' e f⟩
theorem ok_Cars__Family___init__ {ca : ClA} (CA : ClOk K mg ca) {fd : FuncData} (F : Fun K "__init__" "Family.__init__" s_Cars__Family___init__ ca.f_Cars__Family___init__ fd) : FnOk P w K mg base CX0 1 ca.f_Cars__Family___init__ fd ["self", "word", "least"] (sp_Cars__Family___init__ K ca) := by
  refine F.ok sc_Cars__Family___init__ (fun vs H Q E h => ?_) (fun cdv A outer s H vs Q E hr h => ?_)
  · obtain ⟨x, dx, w, l, rfl, hx, q⟩ := h
    rfl
  obtain ⟨x, dx, w, l, rfl, hx, q⟩ := h
  refine ⟨_, pss_cons (ps_fld (pv 0) (pv 1) rfl)
    (pss_one (ps_fld (pv 0) (pv 2) rfl)), ?_⟩
  refine ⟨_, rfl, _, rfl, x, ca.C_Cars, dx, _, rfl, hx, CA.c_Cars, CA.na_Cars_word, (by show 0 < 1000; decide), ?_⟩
  refine ⟨_, rfl, _, rfl, x, ca.C_Cars, dx, _, rfl, upd_same, CA.c_Cars, CA.na_Cars_least, (by show 1 < 1000; decide), ?_⟩
  exact q _ _ upd_upd (flds_mk w l)
theorem ok_Cars__RingFamily___init__ {ca : ClA} (CA : ClOk K mg ca) {fd : FuncData} (F : Fun K "__init__" "RingFamily.__init__" s_Cars__RingFamily___init__ ca.f_Cars__RingFamily___init__ fd) {fd0 : FuncData} (d_Cars__Family___init__ : MDef P w K mg base ["self", "word", "least"] 1 (sp_Cars__Family___init__ K ca) ca.f_Cars__Family___init__ fd0) : FnOk P w K mg base CX0 3 ca.f_Cars__RingFamily___init__ fd ["self", "word"] (sp_Cars__RingFamily___init__ K ca) := by
  refine F.ok sc_Cars__RingFamily___init__ (fun vs H Q E h => ?_) (fun cdv A outer s H vs Q E hr h => ?_)
  · obtain ⟨x, dx, w, rfl, hx, q⟩ := h
    rfl
  obtain ⟨x, dx, w, rfl, hx, q⟩ := h
  refine ⟨_, pss_one (ps_expr (pcls CA.m_Family CA.cm_Family___init___Cars d_Cars__Family___init__ hr (pa_cons (pv 0) (pa_cons (pv 1) (pa_cons pe_int pa_nil))))), ?_⟩
  exact ⟨_, rfl, _, rfl, x, dx, w, 1, rfl, hx, fun fs H' e f => q fs H' e f⟩
theorem ok_Cars____init__ {ca : ClA} (CA : ClOk K mg ca) {fd : FuncData} (F : Fun K "__init__" "Cars.__init__" s_Cars____init__ ca.f_Cars____init__ fd) {fd0 : FuncData} (d_Cars__RingFamily___init__ : MDef P w K mg base ["self", "word"] 3 (sp_Cars__RingFamily___init__ K ca) ca.f_Cars__RingFamily___init__ fd0) : FnOk P w K mg base CX0 5 ca.f_Cars____init__ fd ["self"] (sp_Cars____init__ K ca) := by
  refine F.ok sc_Cars____init__ (fun vs H Q E h => ?_) (fun cdv A outer s H vs Q E hr h => ?_)
  · obtain ⟨x, dx, rfl, hx, q⟩ := h
    rfl
  obtain ⟨x, dx, rfl, hx, q⟩ := h
  refine ⟨_, pss_one (ps_expr (pcls CA.m_RingFamily CA.cm_RingFamily___init___Cars d_Cars__RingFamily___init__ hr (pa_cons (pv 0) (pa_cons pe_str pa_nil)))), ?_⟩
  exact ⟨_, rfl, x, dx, _, rfl, hx, fun fs H' e f => q fs H' e f⟩
theorem ok__law_kin {ca : ClA} (CA : ClOk K mg ca) {f : Addr} {fd : FuncData} (F : Fun K "_law_kin" "_law_kin" s__law_kin f fd) {fd0 : FuncData} (d_Codes____init__ : MDef P w K mg base ["self"] 5 (sp_Codes____init__ K ca) ca.f_Codes____init__ fd0) {fd1 : FuncData} (d_Trees____init__ : MDef P w K mg base ["self"] 5 (sp_Trees____init__ K ca) ca.f_Trees____init__ fd1) {fd2 : FuncData} (d_Cars____init__ : MDef P w K mg base ["self"] 5 (sp_Cars____init__ K ca) ca.f_Cars____init__ fd2) : FnOk P w K mg base CX0 7 f fd ["_law_word"] (sp__law_kin K ca) := by
  refine F.ok sc__law_kin (fun vs H Q E h => ?_) (fun cdv A outer s H vs Q E hr h => ?_)
  · obtain ⟨w, rfl, w0, w3, q⟩ := h
    rfl
  obtain ⟨w, rfl, w0, w3, q⟩ := h
  refine ⟨_, pss_cons (ps_if (pt_cmpR op_eq (pv 0) pe_int (nomark _)) (pss_one (ps_ret (pmake0 CA.mk_Codes CA.m_Codes d_Codes____init__ hr))) pss_nil)
    (pss_cons (ps_if (pt_cmpR op_eq (pv 0) pe_int (nomark _)) (pss_one (ps_ret (pmake0 CA.mk_Trees CA.m_Trees d_Trees____init__ hr))) pss_nil)
    (pss_one (ps_ret (pmake0 CA.mk_Cars CA.m_Cars d_Cars____init__ hr)))), ?_⟩
  refine ⟨_, rfl, rfl, _, rfl, ?_⟩
  by_cases h0 : w = 0
  · refine iteP (congrArg V.int h0) ?_
    intro x dx nx ndx nex
    refine ⟨x, dx, rfl, upd_same, fun fsx Hx1 ex fx => ⟨rfl, ?_⟩⟩
    have sx : Same H Hx1 := by rw [ex]; exact ((Same.new (Same.refl H) ndx _).upd nx _).upd nx _
    have hx : Hx1 x = some (.ins ca.C_Codes dx fsx) := by rw [ex]; exact upd_same

    exact (q x dx fsx Hx1 sx).1 h0 hx fx
  refine iteN (fun z => h0 (by injection z)) ⟨_, rfl, rfl, _, rfl, ?_⟩
  by_cases h1 : w = 1
  · refine iteP (congrArg V.int h1) ?_
    intro x dx nx ndx nex
    refine ⟨x, dx, rfl, upd_same, fun fsx Hx1 ex fx => ⟨rfl, ?_⟩⟩
    have sx : Same H Hx1 := by rw [ex]; exact ((Same.new (Same.refl H) ndx _).upd nx _).upd nx _
    have hx : Hx1 x = some (.ins ca.C_Trees dx fsx) := by rw [ex]; exact upd_same

    exact (q x dx fsx Hx1 sx).2.1 h1 hx fx
  refine iteN (fun z => h1 (by injection z)) ?_
  intro x dx nx ndx nex
  refine ⟨x, dx, rfl, upd_same, fun fsx Hx1 ex fx => ⟨rfl, ?_⟩⟩
  have sx : Same H Hx1 := by rw [ex]; exact ((Same.new (Same.refl H) ndx _).upd nx _).upd nx _
  have hx : Hx1 x = some (.ins ca.C_Cars dx fsx) := by rw [ex]; exact upd_same

  exact (q x dx fsx Hx1 sx).2.2 (by omega) hx fx
theorem ok__law_whole {ca : ClA} (CA : ClOk K mg ca) {f : Addr} {fd : FuncData} (F : Fun K "_law_whole" "_law_whole" s__law_whole f fd) (m_isinstance : mg "isinstance" = none) (m_int : mg "int" = none) (m_bool : mg "bool" = none) : FnOk P w K mg base CX0 1 f fd ["_law_found"] (sp__law_whole K ca) := by
  refine F.ok sc__law_whole (fun vs H Q E h => ?_) (fun cdv A outer s H vs Q E hr h => ?_)
  · obtain ⟨n, rfl, q⟩ := h
    rfl
  obtain ⟨n, rfl, q⟩ := h
  refine ⟨_, pss_one (ps_ret (pe_and (pe_callB call_isinst rfl m_isinstance bb_isinstance (pa_cons (pv 0) (pa_cons (pe_bltn (v := .ty "int") rfl m_int bb_int rfl) pa_nil))) (pe_one (pe_not (pe_callB call_isinst rfl m_isinstance bb_isinstance (pa_cons (pv 0) (pa_cons (pe_bltn (v := .ty "bool") rfl m_bool bb_bool rfl) pa_nil))))))), ?_⟩
  exact ⟨_, rfl, _, _, _, _, _, rfl, relTy, .int _, kit_int_int, _, rfl, iteT ⟨_, rfl, _, _, _, _, _, rfl, relTy, .int _, kit_int_bool, _, rfl, q⟩⟩
theorem ok_ring_many {ca : ClA} (CA : ClOk K mg ca) {f : Addr} {fd : FuncData} (F : Fun K "ring_many" "ring_many" s_ring_many f fd) : FnOk P w K mg base CX0 1 f fd ["size"] (sp_ring_many K ca) := by
  refine F.ok sc_ring_many (fun vs H Q E h => ?_) (fun cdv A outer s H vs Q E hr h => ?_)
  · obtain ⟨n, rfl, h0, h1, q⟩ := h
    rfl
  obtain ⟨n, rfl, h0, h1, q⟩ := h
  refine ⟨_, pss_cons (ps_set (i := 1) sc_ring_many.nd rfl (Or.inl rfl) pe_int)
    (pss_cons (ps_for PassesOwn.never rfl (pi_list (pe_op op_rep (pe_lst (pa_cons (pe_op op_add (pv 0) pe_int) pa_nil)) (pe_op op_sub (pv 0) pe_int))) (pg_name (i := 2) sc_ring_many.nd rfl (Or.inl rfl)) (pss_one (ps_set (i := 1) sc_ring_many.nd rfl (Or.inl rfl) (pe_op op_mul (pv 1) (pv 2)))))
    (pss_one (ps_ret (pv 1)))), ?_⟩
  refine ⟨_, rfl, _, _, rfl, rfl, (by show 1 ≤ sizeLine; decide), fun p0 hp0 => ⟨_, rfl, _, _, rfl, rfl, p0, _, _, rfl, rfl, upd_same, by omega, by omega, ?_, fun p1 hp1 => ⟨p1, rfl, ⟨_, SqL.of upd_same⟩, ?_⟩⟩⟩
  · show 1 * (n - 1).toNat ≤ sizeLine
    exact sz (by omega)
  rw [rep_one]
  have s0 : Same H (upd H p0 (.lst [.int (n + 1)])) := Same.new (Same.refl H) hp0 _
  have s1 := Same.new s0 hp1 (.lst (List.replicate (n - 1).toNat (V.int (n + 1))))
  refine for_list (xs := List.replicate (n - 1).toNat (V.int (n + 1))) (fun i σ H' => ∃ o, σ = [some (.int n), some (.int (pw (n + 1) i)), o] ∧ Same H H' ∧ H' p1 = some (.lst (List.replicate (n - 1).toNat (V.int (n + 1)))))
    ⟨_, rfl, s1, upd_same⟩ (fun i σ H' _ h => SqL.of h.choose_spec.2.2) ?_ ?_
  · rintro i x σ H' hx ⟨o, rfl, sm, hp⟩
    obtain ⟨_, ex⟩ : i < (n - 1).toNat ∧ V.int (n + 1) = x := by
      rw [List.getElem?_replicate] at hx
      split at hx
      · rename_i hi; cases hx; exact ⟨hi, rfl⟩
      · cases hx
    subst ex
    exact ⟨_, rfl, _, rfl, _, _, rfl, rfl, .inr ⟨by omega, by omega⟩, _, rfl, sm, hp⟩
  · rintro σ H' ⟨o, rfl, sm, hp⟩
    rw [List.length_replicate]
    exact ⟨_, rfl, q H' sm⟩
theorem ok_Codes__RingFamily_unchecked_many {ca : ClA} (CA : ClOk K mg ca) {fd : FuncData} (F : Fun K "unchecked_many" "RingFamily.unchecked_many" s_Codes__RingFamily_unchecked_many ca.f_Codes__RingFamily_unchecked_many fd) {f0 : Addr} {fd0 : FuncData} (d_ring_many : Def P w K mg base "ring_many" ["size"] 1 (sp_ring_many K ca) f0 fd0) : FnOk P w K mg base CX0 2 ca.f_Codes__RingFamily_unchecked_many fd ["self", "size"] (sp_Codes__RingFamily_unchecked_many K ca) := by
  refine F.ok sc_Codes__RingFamily_unchecked_many (fun vs H Q E h => ?_) (fun cdv A outer s H vs Q E hr h => ?_)
  · obtain ⟨x, n, rfl, n1, n40, q⟩ := h
    rfl
  obtain ⟨x, n, rfl, n1, n40, q⟩ := h
  refine ⟨_, pss_one (ps_ret (pcall d_ring_many hr (pa_cons (pv 1) pa_nil))), ?_⟩
  exact ⟨_, rfl, n, rfl, n1, by omega, q⟩
theorem ok_Codes__Family_many {ca : ClA} (CA : ClOk K mg ca) {fd : FuncData} (F : Fun K "many" "Family.many" s_Codes__Family_many ca.f_Codes__Family_many fd) {fd0 : FuncData} (d_Codes__RingFamily_unchecked_many : MDef P w K mg base ["self", "size"] 2 (sp_Codes__RingFamily_unchecked_many K ca) ca.f_Codes__RingFamily_unchecked_many fd0) {u_GREATEST_SIZE : Value} (g_GREATEST_SIZE : mg "GREATEST_SIZE" = some u_GREATEST_SIZE ∧ RelV (.int 40) u_GREATEST_SIZE) : FnOk P w K mg base CX0 3 ca.f_Codes__Family_many fd ["self", "size"] (sp_Codes__Family_many K ca) := by
  refine F.ok sc_Codes__Family_many (fun vs H Q E h => ?_) (fun cdv A outer s H vs Q E hr h => ?_)
  · obtain ⟨x, dx, fs, wd, n, rfl, hx, fl, n1, n40, q⟩ := h
    rfl
  obtain ⟨x, dx, fs, wd, n, rfl, hx, fl, n1, n40, q⟩ := h
  refine ⟨_, pss_cons (ps_if (PW.pt (pw_or (pt_cmpR op_lt (pv 1) (pe_fld (pv 0) rfl) (nomark _)) (pw_or1 (pt_cmpR op_gt (pv 1) (pe_glob (v := .int 40) rfl g_GREATEST_SIZE.1 g_GREATEST_SIZE.2) (nomark _))))) (pss_one ps_never) pss_nil)
    (pss_one (ps_ret (pmeth (pv 0) CA.c_Codes CA.mt_Codes_unchecked_many d_Codes__RingFamily_unchecked_many hr (pa_cons (pv 1) pa_nil)))), ?_⟩
  refine ⟨_, rfl, _, rfl, x, _, dx, fs, _, rfl, hx, CA.c_Codes, CA.na_Codes_least, fl.least, _, _, rfl, rfl, _, rfl, iteN (by omega) ⟨_, rfl, _, _, rfl, rfl, _, rfl, iteN (by omega) ?_⟩⟩
  exact ⟨_, rfl, x, dx, fs, rfl, hx, fl.no "unchecked_many" (by decide) (by decide), _, rfl, x, n, rfl, n1, n40, q⟩
theorem ok_Trees__RingFamily_unchecked_many {ca : ClA} (CA : ClOk K mg ca) {fd : FuncData} (F : Fun K "unchecked_many" "RingFamily.unchecked_many" s_Trees__RingFamily_unchecked_many ca.f_Trees__RingFamily_unchecked_many fd) {f0 : Addr} {fd0 : FuncData} (d_ring_many : Def P w K mg base "ring_many" ["size"] 1 (sp_ring_many K ca) f0 fd0) : FnOk P w K mg base CX0 2 ca.f_Trees__RingFamily_unchecked_many fd ["self", "size"] (sp_Trees__RingFamily_unchecked_many K ca) := by
  refine F.ok sc_Trees__RingFamily_unchecked_many (fun vs H Q E h => ?_) (fun cdv A outer s H vs Q E hr h => ?_)
  · obtain ⟨x, n, rfl, n1, n40, q⟩ := h
    rfl
  obtain ⟨x, n, rfl, n1, n40, q⟩ := h
  refine ⟨_, pss_one (ps_ret (pcall d_ring_many hr (pa_cons (pv 1) pa_nil))), ?_⟩
  exact ⟨_, rfl, n, rfl, n1, by omega, q⟩
theorem ok_Trees__Family_many {ca : ClA} (CA : ClOk K mg ca) {fd : FuncData} (F : Fun K "many" "Family.many" s_Trees__Family_many ca.f_Trees__Family_many fd) {fd0 : FuncData} (d_Trees__RingFamily_unchecked_many : MDef P w K mg base ["self", "size"] 2 (sp_Trees__RingFamily_unchecked_many K ca) ca.f_Trees__RingFamily_unchecked_many fd0) {u_GREATEST_SIZE : Value} (g_GREATEST_SIZE : mg "GREATEST_SIZE" = some u_GREATEST_SIZE ∧ RelV (.int 40) u_GREATEST_SIZE) : FnOk P w K mg base CX0 3 ca.f_Trees__Family_many fd ["self", "size"] (sp_Trees__Family_many K ca) := by
  refine F.ok sc_Trees__Family_many (fun vs H Q E h => ?_) (fun cdv A outer s H vs Q E hr h => ?_)
  · obtain ⟨x, dx, fs, wd, n, rfl, hx, fl, n1, n40, q⟩ := h
    rfl
  obtain ⟨x, dx, fs, wd, n, rfl, hx, fl, n1, n40, q⟩ := h
  refine ⟨_, pss_cons (ps_if (PW.pt (pw_or (pt_cmpR op_lt (pv 1) (pe_fld (pv 0) rfl) (nomark _)) (pw_or1 (pt_cmpR op_gt (pv 1) (pe_glob (v := .int 40) rfl g_GREATEST_SIZE.1 g_GREATEST_SIZE.2) (nomark _))))) (pss_one ps_never) pss_nil)
    (pss_one (ps_ret (pmeth (pv 0) CA.c_Trees CA.mt_Trees_unchecked_many d_Trees__RingFamily_unchecked_many hr (pa_cons (pv 1) pa_nil)))), ?_⟩
  refine ⟨_, rfl, _, rfl, x, _, dx, fs, _, rfl, hx, CA.c_Trees, CA.na_Trees_least, fl.least, _, _, rfl, rfl, _, rfl, iteN (by omega) ⟨_, rfl, _, _, rfl, rfl, _, rfl, iteN (by omega) ?_⟩⟩
  exact ⟨_, rfl, x, dx, fs, rfl, hx, fl.no "unchecked_many" (by decide) (by decide), _, rfl, x, n, rfl, n1, n40, q⟩
theorem ok_Cars__RingFamily_unchecked_many {ca : ClA} (CA : ClOk K mg ca) {fd : FuncData} (F : Fun K "unchecked_many" "RingFamily.unchecked_many" s_Cars__RingFamily_unchecked_many ca.f_Cars__RingFamily_unchecked_many fd) {f0 : Addr} {fd0 : FuncData} (d_ring_many : Def P w K mg base "ring_many" ["size"] 1 (sp_ring_many K ca) f0 fd0) : FnOk P w K mg base CX0 2 ca.f_Cars__RingFamily_unchecked_many fd ["self", "size"] (sp_Cars__RingFamily_unchecked_many K ca) := by
  refine F.ok sc_Cars__RingFamily_unchecked_many (fun vs H Q E h => ?_) (fun cdv A outer s H vs Q E hr h => ?_)
  · obtain ⟨x, n, rfl, n1, n40, q⟩ := h
    rfl
  obtain ⟨x, n, rfl, n1, n40, q⟩ := h
  refine ⟨_, pss_one (ps_ret (pcall d_ring_many hr (pa_cons (pv 1) pa_nil))), ?_⟩
  exact ⟨_, rfl, n, rfl, n1, by omega, q⟩
theorem ok_Cars__Family_many {ca : ClA} (CA : ClOk K mg ca) {fd : FuncData} (F : Fun K "many" "Family.many" s_Cars__Family_many ca.f_Cars__Family_many fd) {fd0 : FuncData} (d_Cars__RingFamily_unchecked_many : MDef P w K mg base ["self", "size"] 2 (sp_Cars__RingFamily_unchecked_many K ca) ca.f_Cars__RingFamily_unchecked_many fd0) {u_GREATEST_SIZE : Value} (g_GREATEST_SIZE : mg "GREATEST_SIZE" = some u_GREATEST_SIZE ∧ RelV (.int 40) u_GREATEST_SIZE) : FnOk P w K mg base CX0 3 ca.f_Cars__Family_many fd ["self", "size"] (sp_Cars__Family_many K ca) := by
  refine F.ok sc_Cars__Family_many (fun vs H Q E h => ?_) (fun cdv A outer s H vs Q E hr h => ?_)
  · obtain ⟨x, dx, fs, wd, n, rfl, hx, fl, n1, n40, q⟩ := h
    rfl
  obtain ⟨x, dx, fs, wd, n, rfl, hx, fl, n1, n40, q⟩ := h
  refine ⟨_, pss_cons (ps_if (PW.pt (pw_or (pt_cmpR op_lt (pv 1) (pe_fld (pv 0) rfl) (nomark _)) (pw_or1 (pt_cmpR op_gt (pv 1) (pe_glob (v := .int 40) rfl g_GREATEST_SIZE.1 g_GREATEST_SIZE.2) (nomark _))))) (pss_one ps_never) pss_nil)
    (pss_one (ps_ret (pmeth (pv 0) CA.c_Cars CA.mt_Cars_unchecked_many d_Cars__RingFamily_unchecked_many hr (pa_cons (pv 1) pa_nil)))), ?_⟩
  refine ⟨_, rfl, _, rfl, x, _, dx, fs, _, rfl, hx, CA.c_Cars, CA.na_Cars_least, fl.least, _, _, rfl, rfl, _, rfl, iteN (by omega) ⟨_, rfl, _, _, rfl, rfl, _, rfl, iteN (by omega) ?_⟩⟩
  exact ⟨_, rfl, x, dx, fs, rfl, hx, fl.no "unchecked_many" (by decide) (by decide), _, rfl, x, n, rfl, n1, n40, q⟩
theorem ok_Codes__of_code {ca : ClA} (CA : ClOk K mg ca) {fd : FuncData} (F : Fun K "of_code" "Codes.of_code" s_Codes__of_code ca.f_Codes__of_code fd) (m_list : mg "list" = none) : FnOk P w K mg base CX0 1 ca.f_Codes__of_code fd ["self", "code"] (sp_Codes__of_code K ca) := by
  refine F.ok sc_Codes__of_code (fun vs H Q E h => ?_) (fun cdv A outer s H vs Q E hr h => ?_)
  · obtain ⟨x, l, ns, rfl, hl, q⟩ := h
    rfl
  obtain ⟨x, l, ns, rfl, hl, q⟩ := h
  refine ⟨_, pss_one (ps_ret (pe_callTy call_list_of rfl m_list bb_list (pa_cons (pv 1) pa_nil))), ?_⟩
  exact ⟨_, rfl, l, _, rfl, .inl hl, fun p hp => q p _ (Same.new (Same.refl H) hp _) hp upd_same⟩
theorem ok_number_figures {ca : ClA} (CA : ClOk K mg ca) {f : Addr} {fd : FuncData} (F : Fun K "number_figures" "number_figures" s_number_figures f fd) (m_range : mg "range" = none) : FnOk P w K mg base CX0 1 f fd ["number", "base", "length"] (sp_number_figures K ca) := by
  refine F.ok sc_number_figures (fun vs H Q E h => ?_) (fun cdv A outer s H vs Q E hr h => ?_)
  · obtain ⟨m, b, z, rfl, b0, b1, z0, z1, q⟩ := h
    rfl
  obtain ⟨m, b, z, rfl, b0, b1, z0, z1, q⟩ := h
  refine ⟨_, pss_cons (ps_set (i := 3) sc_number_figures.nd rfl (Or.inl rfl) (pe_op op_rep (pe_lst (pa_cons pe_int pa_nil)) (pv 2)))
    (pss_cons (ps_set (i := 4) sc_number_figures.nd rfl (Or.inl rfl) (pv 0))
    (pss_cons (ps_for PassesOwn.never rfl (pi_down rfl m_range (pa_cons (pe_op op_sub (pv 2) pe_int) (pa_cons (pe_un un_neg pe_int) (pa_cons (pe_un un_neg pe_int) pa_nil)))) (pg_name (i := 5) sc_number_figures.nd rfl (Or.inl rfl)) (pss_cons (ps_asg (pe_op op_mod (pv 4) (pv 1)) (pg_sub (pv 3) (pv 5) set_list))
    (pss_one (ps_set (i := 4) sc_number_figures.nd rfl (Or.inl rfl) (pe_op op_fdivL (pv 4) (pv 1))))))
    (pss_one (ps_ret (pv 3))))), ?_⟩
  refine ⟨(by show 1 ≤ sizeLine; decide), fun p0 hp0 => ⟨_, rfl, p0, _, _, rfl, rfl, upd_same, by omega, by omega, ?_, fun p1 hp1 => ?_⟩⟩
  · show 1 * z.toNat ≤ sizeLine
    exact sz (by omega)
  rw [rep_one]
  have s0 := Same.new (Same.refl H) hp0 (.lst [.int 0])
  have s1 := Same.new s0 hp1 (.lst (List.replicate z.toNat (V.int 0)))
  have f1 : H p1 = none := s0.free hp1
  have h1 : upd (upd H p0 (.lst [.int 0])) p1 (.lst (List.replicate z.toNat (V.int 0))) p1 = some (.lst ((List.replicate (z.toNat - 0) 0 ++ figs b 0 m).map V.int)) := by
    rw [upd_same]
    show some (HO.lst _) = some (HO.lst _)
    congr 2
    show _ = (List.replicate z.toNat (0 : Int) ++ []).map V.int
    rw [List.append_nil, List.map_replicate]
  generalize upd (upd H p0 (.lst [.int 0])) p1 (.lst (List.replicate z.toNat (V.int 0))) = H1 at s1 h1 ⊢
  refine ⟨_, rfl, _, rfl, _, _, rfl, rfl, _, rfl, _, rfl, _, _, rfl, ⟨by omega, by omega, by omega, by omega⟩, for_down (lo := z - 1) (n := (z - 1 - (-1)).toNat) (fun i σ H' => ∃ (o : Option V), σ = [some (.int m), some (.int b), some (.int z), some (.ref p1), some (.int (dv b i m)), o] ∧ Same H H' ∧ H' p1 = some (.lst ((List.replicate (z.toNat - i) 0 ++ figs b i m).map V.int)) ∧ i ≤ z.toNat) ⟨_, rfl, s1, h1, Nat.zero_le _⟩ ?_ ?_⟩
  · rintro i σ H' hi ⟨o, rfl, sm, hp, hle⟩
    have hlt : i < z.toNat := by omega
    have hj : ixN ((List.replicate (z.toNat - i) 0 ++ figs b i m).map V.int).length (z - 1 - (i : Int)) = some (z.toNat - i - 1) := by
      rw [List.length_map, List.length_append, List.length_replicate, figs_len]
      unfold ixN
      rw [if_pos (by omega), if_pos (by omega)]
      exact congrArg some (by omega)
    refine ⟨_, rfl, _, rfl, _, _, rfl, rfl, by omega, _, rfl, _, rfl, p1, _, _, _, rfl, rfl, hp, hj, ?_⟩
    refine ⟨_, rfl, _, rfl, _, _, rfl, rfl, ?_, ?_⟩
    · exact ⟨by omega, Nat.lt_of_le_of_lt (Nat.log2_le_self _) (by omega)⟩
    refine ⟨_, by rw [dv_succ]; rfl, sm.upd f1 _, ?_, hlt⟩
    rw [upd_same, figs_front]
    congr 2
    obtain ⟨r, hr3⟩ : ∃ r, z.toNat - i = r + 1 := ⟨z.toNat - i - 1, by omega⟩
    rw [show z.toNat - (i + 1) = r by omega, hr3, Nat.add_sub_cancel, List.replicate_succ', List.append_assoc, List.map_append, List.map_append]
    have l : (List.map V.int (List.replicate r (0 : Int))).length = r := by simp
    rw [List.set_append, if_neg (by rw [l]; omega), l, Nat.sub_self, List.map_append]
    rfl
  · rintro σ H' ⟨o, rfl, sm, hp, hle⟩
    have e : (z - 1 - (-1)).toNat = z.toNat := by omega
    rw [e, Nat.sub_self, List.replicate_zero, List.nil_append] at hp
    exact ⟨_, rfl, q p1 H' sm f1 hp⟩
theorem ok_Codes__RingFamily_unchecked_thing {ca : ClA} (CA : ClOk K mg ca) {fd : FuncData} (F : Fun K "unchecked_thing" "RingFamily.unchecked_thing" s_Codes__RingFamily_unchecked_thing ca.f_Codes__RingFamily_unchecked_thing fd) {fd0 : FuncData} (d_Codes__of_code : MDef P w K mg base ["self", "code"] 1 (sp_Codes__of_code K ca) ca.f_Codes__of_code fd0) {f1 : Addr} {fd1 : FuncData} (d_number_figures : Def P w K mg base "number_figures" ["number", "base", "length"] 1 (sp_number_figures K ca) f1 fd1) : FnOk P w K mg base CX0 2 ca.f_Codes__RingFamily_unchecked_thing fd ["self", "size", "number"] (sp_Codes__RingFamily_unchecked_thing K ca) := by
  refine F.ok sc_Codes__RingFamily_unchecked_thing (fun vs H Q E h => ?_) (fun cdv A outer s H vs Q E hr h => ?_)
  · obtain ⟨x, dx, fs, wd, n, m, rfl, hx, fl, n1, n40, m0, m1, q⟩ := h
    rfl
  obtain ⟨x, dx, fs, wd, n, m, rfl, hx, fl, n1, n40, m0, m1, q⟩ := h
  refine ⟨_, pss_one (ps_ret (pmeth (pv 0) CA.c_Codes CA.mt_Codes_of_code d_Codes__of_code hr (pa_cons (pcall d_number_figures hr (pa_cons (pv 2) (pa_cons (pe_op op_add (pv 1) pe_int) (pa_cons (pe_op op_sub (pv 1) pe_int) pa_nil)))) pa_nil))), ?_⟩
  refine ⟨_, rfl, x, dx, fs, rfl, hx, fl.no "of_code" (by decide) (by decide), _, rfl, _, rfl, _, _, rfl, rfl, _, rfl, _, _, rfl, rfl, m, n + 1, n - 1, rfl, by omega, by omega, by omega, by omega, fun pf H1 s1 ff hf => ?_⟩
  have lf := figs_len (n + 1) (n - 1).toNat m
  have bd := Rg.figs (b := n + 1) (k := (n - 1).toNat) (by omega) m

  exact ⟨x, pf, _, rfl, SqL.of hf, fun p H2 s2 f2 h2 => q p _ H2 (s1.trans s2) (s1.free f2) h2 (rg_codes bd)⟩
theorem ok_Codes__Family_thing_of {ca : ClA} (CA : ClOk K mg ca) {fd : FuncData} (F : Fun K "thing_of" "Family.thing_of" s_Codes__Family_thing_of ca.f_Codes__Family_thing_of fd) {fd0 : FuncData} (d_Codes__Family_many : MDef P w K mg base ["self", "size"] 3 (sp_Codes__Family_many K ca) ca.f_Codes__Family_many fd0) {fd1 : FuncData} (d_Codes__RingFamily_unchecked_thing : MDef P w K mg base ["self", "size", "number"] 2 (sp_Codes__RingFamily_unchecked_thing K ca) ca.f_Codes__RingFamily_unchecked_thing fd1) : FnOk P w K mg base CX0 4 ca.f_Codes__Family_thing_of fd ["self", "size", "number"] (sp_Codes__Family_thing_of K ca) := by
  refine F.ok sc_Codes__Family_thing_of (fun vs H Q E h => ?_) (fun cdv A outer s H vs Q E hr h => ?_)
  · obtain ⟨x, dx, fs, wd, n, m, rfl, hx, fl, n1, n40, m0, m1, q⟩ := h
    rfl
  obtain ⟨x, dx, fs, wd, n, m, rfl, hx, fl, n1, n40, m0, m1, q⟩ := h
  refine ⟨_, pss_cons (ps_set (i := 3) sc_Codes__Family_thing_of.nd rfl (Or.inl rfl) (pmeth (pv 0) CA.c_Codes CA.mt_Codes_many d_Codes__Family_many hr (pa_cons (pv 1) pa_nil)))
    (pss_cons (ps_if (PW.pt (pw_or (pt_cmpR op_lt (pv 2) pe_int (nomark _)) (pw_or1 (pt_cmpR op_ge (pv 2) (pv 3) (nomark _))))) (pss_one ps_never) pss_nil)
    (pss_one (ps_ret (pmeth (pv 0) CA.c_Codes CA.mt_Codes_unchecked_thing d_Codes__RingFamily_unchecked_thing hr (pa_cons (pv 1) (pa_cons (pv 2) pa_nil)))))), ?_⟩
  refine ⟨_, rfl, x, dx, fs, rfl, hx, fl.no "many" (by decide) (by decide), _, rfl, x, dx, fs, wd, n, rfl, hx, fl, n1, n40, fun H1 s1 => ?_⟩
  refine ⟨_, rfl, _, _, rfl, rfl, _, rfl, iteN (by omega) ⟨_, rfl, _, rfl, _, _, rfl, rfl, _, rfl, iteN (by omega) ?_⟩⟩
  exact ⟨_, rfl, x, dx, fs, rfl, s1 _ _ hx, fl.no "unchecked_thing" (by decide) (by decide), _, rfl, _, rfl, x, dx, fs, wd, n, m, rfl, s1 _ _ hx, fl, n1, n40, m0, m1, fun p ns H2 s2 f2 h2 rg => q p ns H2 (s1.trans s2) (s1.free f2) h2 rg⟩
theorem ok_Trees__of_code {ca : ClA} (CA : ClOk K mg ca) {fd : FuncData} (F : Fun K "of_code" "Trees.of_code" s_Trees__of_code ca.f_Trees__of_code fd) (m_list : mg "list" = none) (m_range : mg "range" = none) (m_len : mg "len" = none) (m_enumerate : mg "enumerate" = none) (m_min : mg "min" = none) : FnOk P w K mg base CX0 1 ca.f_Trees__of_code fd ["self", "code"] (sp_Trees__of_code K ca) := by
  refine F.ok sc_Trees__of_code (fun vs H Q E h => ?_) (fun cdv A outer s H vs Q E hr h => ?_)
  · obtain ⟨x, l, cs, rfl, hl, hz, q⟩ := h
    rfl
  obtain ⟨x, l, cs, rfl, hl, hz, q⟩ := h
  refine ⟨_, pss_cons (ps_set (i := 2) sc_Trees__of_code.nd rfl (Or.inr rfl) (pe_op op_cat (pv 1) (pe_lst (pa_cons pe_int pa_nil))))
    (pss_cons (ps_set (i := 3) sc_Trees__of_code.nd rfl (Or.inl rfl) (pe_lr2 rfl rfl m_list rfl m_range (pa_cons pe_int (pa_cons (pe_op op_add (pe_callB call_len_seq rfl m_len bb_len (pa_cons (pv 2) pa_nil)) pe_int) pa_nil))))
    (pss_cons (ps_set (i := 4) sc_Trees__of_code.nd rfl (Or.inl rfl) (pe_op op_rep (pe_lst (pa_cons pe_int pa_nil)) (pe_callB call_len_seq rfl m_len bb_len (pa_cons (pv 2) pa_nil))))
    (pss_cons (ps_for PassesOwn.never rfl (pi_enum rfl m_enumerate (pa_cons (pv 2) pa_nil)) (pg_tup rfl (pgs_cons (pg_name (i := 5) sc_Trees__of_code.nd rfl (Or.inr rfl)) (pgs_cons (pg_name (i := 6) sc_Trees__of_code.nd rfl (Or.inl rfl)) pgs_nil))) (pss_cons (ps_set (i := 7) sc_Trees__of_code.nd rfl (Or.inl rfl) (pe_callB (call_minL rfl) rfl m_min bb_min (pa_cons (pe_comp rfl (pi_list (pv 3)) rfl rfl rfl rfl (N := ["knot", "written", "place"]) (.own (.cap (j := 2) rfl rfl rfl (.cap (j := 5) rfl rfl rfl .nil))) (fun _ _ _ _ _ _ => (pg_name (i := 0) (by show List.Nodup (["knot", "written", "place"] : List Str); decide +kernel) rfl (Or.inl rfl))) (fun _ _ _ _ _ _ => (pts_one (pt_cmpR (op_notinK (K := K) rfl) (pv 0) (pe_slice (sl_listK (K := K) rfl) (pv 1) (po_some (pv 2)) po_none) (by rfl)))) (fun _ _ _ _ _ _ => (pv 0))) pa_nil)))
    (pss_cons (ps_asg (pv 6) (pg_sub (pv 4) (pe_op op_sub (pv 7) pe_int) set_list))
    (pss_one (ps_expr (pe_bm PySem.F.plainAttrs_list PySem.F.slot_list_remove PySem.F.type_list_remove mt_remove (pv 3) (pa_cons (pv 7) pa_nil)))))))
    (pss_one (ps_ret (pv 4)))))), ?_⟩
  refine ⟨_, rfl, (by show 1 ≤ sizeLine; decide), fun p0 hp0 => ?_⟩
  have s1 := Same.new (Same.refl H) hp0 (.lst [.int 0])
  refine ⟨l, p0, _, _, rfl, rfl, s1 _ _ hl, upd_same, ?_, fun pw hpw => ?_⟩
  · rw [List.length_map]; exact sz (by simp; omega)
  have s2 := Same.new s1 hpw (.lst (cs.map V.int ++ [.int 0]))
  have hw2 : upd (upd H p0 (.lst [.int 0])) pw (.lst (cs.map V.int ++ [.int 0])) pw = some (.lst ((cs ++ [0]).map V.int)) := by rw [upd_same, List.map_append]; rfl
  generalize upd (upd H p0 (.lst [.int 0])) pw (.lst (cs.map V.int ++ [.int 0])) = H2 at s2 hw2 ⊢
  have lw : (cs ++ [0]).length = cs.length + 1 := by simp
  have e0 : cs ++ [0] = cs ++ [0] := rfl
  generalize hws : cs ++ [0] = ws at hw2 lw q
  have lwm : (ws.map V.int).length = ws.length := List.length_map _
  refine ⟨_, rfl, pw, _, rfl, .inl (SqL.of hw2), _, _, rfl, rfl, _, _, rfl, ⟨by decide, by decide, by omega, by omega⟩, by omega, fun pt hpt => ?_⟩
  rw [show ((((ws.map V.int).length : Nat) : Int) + 1 - 1).toNat = ws.length by omega, rngV_knots]
  have s3 := Same.new s2 hpt (.lst ((knots ws.length).map V.int))
  have k3 := Same.new (Same.refl H2) hpt (.lst ((knots ws.length).map V.int))
  have ht3 : upd H2 pt (.lst ((knots ws.length).map V.int)) pt = some (.lst ((knots ws.length).map V.int)) := upd_same
  have hw3 := k3 _ _ hw2
  have fpt : H pt = none := s2.free hpt
  generalize upd H2 pt (.lst ((knots ws.length).map V.int)) = H3 at s3 ht3 hw3 ⊢
  refine ⟨(by show 1 ≤ sizeLine; decide), fun q0 hq0 => ?_⟩
  have s4 := Same.new s3 hq0 (.lst [.int 0])
  have k4 := Same.new (Same.refl H3) hq0 (.lst [.int 0])
  refine ⟨_, rfl, pw, _, rfl, .inl (SqL.of (k4 _ _ hw3)), q0, _, _, rfl, rfl, upd_same, by omega, by omega, ?_, fun pe hpe => ?_⟩
  · show 1 * _ ≤ sizeLine
    exact sz (by omega)
  have fpe : H pe = none := s4.free hpe
  have s5 := Same.new s4 hpe (.lst (List.replicate (((ws.map V.int).length : Nat) : Int).toNat [V.int 0]).flatten)
  have k5 := k4.trans (Same.new (Same.refl _) hpe (.lst (List.replicate (((ws.map V.int).length : Nat) : Int).toNat [V.int 0]).flatten))
  have nte : pt ≠ pe := ne_of_none (k4 _ _ ht3) hpe
  have nwe : pw ≠ pe := ne_of_none (k4 _ _ hw3) hpe
  have nwt : pw ≠ pt := ne_of_none hw2 hpt
  have he5 : upd (upd H3 q0 (.lst [.int 0])) pe (.lst (List.replicate (((ws.map V.int).length : Nat) : Int).toNat [V.int 0]).flatten) pe = some (.lst ((List.replicate ws.length (0 : Int)).map V.int)) := by
    rw [upd_same, rep_one, show (((ws.map V.int).length : Nat) : Int).toNat = ws.length by omega, List.map_replicate]
  generalize upd (upd H3 q0 (.lst [.int 0])) pe (.lst (List.replicate (((ws.map V.int).length : Nat) : Int).toNat [V.int 0]).flatten) = H5 at s5 k5 he5 ⊢
  refine ⟨_, rfl, pw, rfl, ⟨_, SqL.of (k5 _ _ hw3)⟩, for_enum (xs := ws.map V.int) (fun i σ H' => ∃ (o1 o2 o3 : Option V) (T done es : List Int), σ = [some (.ref x), some (.ref l), some (.ref pw), some (.ref pt), some (.ref pe), o1, o2, o3] ∧ Same H H' ∧ H' pw = some (.lst (ws.map V.int)) ∧ H' pt = some (.lst (T.map V.int)) ∧ H' pe = some (.lst (es.map V.int)) ∧ es.length = ws.length ∧ (done ++ T).Perm (knots ws.length) ∧ done.length = i ∧ done.map (eld es) = ws.take i ∧ ∀ ts, Dec (ws.drop i) T ts → Dec ws (knots ws.length) (done ++ ts))
    ⟨_, _, _, knots ws.length, [], List.replicate ws.length 0, rfl, s5, k5 _ _ hw3, k5 _ _ ht3, he5, by simp, List.Perm.refl _, rfl, rfl, fun ts h => h⟩ (fun i σ H' _ h => by obtain ⟨_, _, _, _, _, _, _, _, hw, _⟩ := h; exact SqL.of hw) ?_ ?_⟩
  · rintro i v σ H6 U hv ⟨o1, o2, o3, T, done, es, rfl, sm, hw6, ht6, he6, les, pm, ld, hdone, cont⟩ hU
    obtain ⟨c, rfl⟩ := get_int hv
    have hc : ws[i]? = some c := by
      rw [List.getElem?_map] at hv
      cases h : ws[i]? with
      | none => rw [h] at hv; cases hv
      | some d => rw [h] at hv; injection hv with hv; injection hv with hv; rw [hv]
    have hi : i < ws.length := (List.getElem?_eq_some_iff.mp hc).1
    have lT : done.length + T.length = ws.length := by have := pm.length_eq; rw [List.length_append, knots_len] at this; exact this
    have nd : (done ++ T).Nodup := pm.nodup_iff.mpr (knots_nd _)
    have bT : ∀ k ∈ T, 1 ≤ k ∧ k ≤ (ws.length : Int) := fun k hk => mem_knots.mp (pm.mem_iff.mp (List.mem_append_right _ hk))
    have bD : ∀ k ∈ done, 1 ≤ k ∧ k ≤ (ws.length : Int) := fun k hk => mem_knots.mp (pm.mem_iff.mp (List.mem_append_left _ hk))
    have ndT : T.Nodup := (List.nodup_append.mp nd).2.1
    refine ⟨U, _, rfl, SqT.of upd_same, rfl, _, _, rfl, _, _, rfl, rfl, ?_⟩
    have nwU : pw ≠ U := ne_of_none hw6 hU
    have ntU : pt ≠ U := ne_of_none ht6 hU
    have neU : pe ≠ U := ne_of_none he6 hU
    have hw7 := (upd_ne (o := .tup [.int (i : Int), .int c]) nwU).trans hw6
    have ht7 := (upd_ne (o := .tup [.int (i : Int), .int c]) ntU).trans ht6
    have he7 := (upd_ne (o := .tup [.int (i : Int), .int c]) neU).trans he6
    have sm7 := Same.new sm hU (.tup [.int (i : Int), .int c])
    generalize upd H6 U (.tup [.int (i : Int), .int c]) = H7 at hw7 ht7 he7 sm7 ⊢
    have lTm : (T.map V.int).length = T.length := List.length_map _
    refine ⟨_, rfl, pt, rfl, ⟨_, SqL.of ht7⟩, fun D hD => comp_walk (xs := T.map V.int) (fun j ys H' => Same H7 H' ∧ H' D = some (.lst ys) ∧ ys = (frees (ws.drop i) (T.take j)).map V.int ∧ j ≤ T.length) (by rw [lTm]; exact sz (by omega)) ⟨Same.new (Same.refl H7) hD _, upd_same, rfl, Nat.zero_le _⟩ (fun j ys H' hj h => ⟨SqL.of (h.1 _ _ ht7), ?_⟩) (fun j u ys H' R R0 hu h r r0 => ?_) (fun ys H' h => ?_)⟩
    · rw [h.2.2.1, List.length_map]
      unfold frees
      exact Nat.le_trans (List.length_filter_le _ _) (by rw [List.length_take]; omega)
    · obtain ⟨sj, hy, ey, hj⟩ := h
      obtain ⟨k, rfl⟩ := get_int hu
      have hk : T[j]? = some k := by
        rw [List.getElem?_map] at hu
        cases h : T[j]? with
        | none => rw [h] at hu; cases hu
        | some d => rw [h] at hu; injection hu with hu; injection hu with hu; rw [hu]
      have hj' : j < T.length := (List.getElem?_eq_some_iff.mp hk).1
      refine ⟨Ext.set rfl, _, rfl, _, rfl, _, rfl, _, rfl, pw, _, rfl, SqL.of (sj _ _ hw7), fun c2 hc2 => ?_⟩
      rw [cutV_from, ← List.map_drop]
      have nDc : D ≠ c2 := ne_of_none hy hc2
      have hy2 := (upd_ne (o := .lst ((ws.drop i).map V.int)) nDc).trans hy
      have sj2 := Same.new sj hc2 (.lst ((ws.drop i).map V.int))
      refine ⟨k, c2, ws.drop i, rfl, rfl, SqL.of upd_same, _, rfl, ?_⟩
      by_cases hin : k ∈ ws.drop i
      · refine iteNS hin (r0 _ ⟨sj2, hy2, ?_, hj'⟩)
        rw [frees_take hk, if_pos hin, List.append_nil]
        exact ey
      · refine iteNN hin ⟨_, rfl, r _ _ hy2 ⟨sj2.upd hD _, upd_same, ?_, hj'⟩⟩
        rw [frees_take hk, if_neg hin, List.map_append, ← ey]
        rfl
    · obtain ⟨s8, hy, ey, _⟩ := h
      rw [lTm, List.take_length] at ey
      have hne : frees (ws.drop i) T ≠ [] := by
        have hd : ∃ w0, ws.drop i = w0 ++ [0] ∧ w0.length + 1 = T.length := by
          refine ⟨cs.drop i, ?_, ?_⟩
          · rw [← hws, List.drop_append_of_le_length (by omega)]
          · rw [List.length_drop]; omega
        obtain ⟨w0, e, le⟩ := hd
        rw [e]
        exact frees_ne ndT (fun k hk => (bT k hk).1) le
      rw [ey] at hy
      refine ⟨D, frees (ws.drop i) T, rfl, SqL.of hy, hne, fun t ht hmin => ?_⟩
      have sm8 := sm7.trans s8
      have hw8 := s8 _ _ hw7
      have ht8 := s8 _ _ ht7
      have he8 := s8 _ _ he7
      obtain ⟨htT, htw⟩ := mem_frees.mp ht
      have bt := bT t htT
      refine ⟨_, rfl, _, rfl, _, rfl, _, _, rfl, rfl, pe, _, _, _, rfl, rfl, he8, ixN_nat (by omega) (by rw [List.length_map]; omega), ?_⟩
      rw [← List.map_set]
      have ht9 : upd H' pe (.lst ((es.set (t - 1).toNat c).map V.int)) pt = some (.lst (T.map V.int)) := (upd_ne nte).trans ht8
      refine ⟨_, rfl, .inl ⟨rfl, _, SqL.of ht9⟩, _, rfl, pt, T, t, rfl, rfl, ht9, htT, ?_⟩
      have ed : ws.drop i = c :: ws.drop (i + 1) := by rw [List.drop_eq_getElem_cons hi, (List.getElem?_eq_some_iff.mp hc).2]
      have tnd : t ∉ done := fun z => (List.nodup_append.mp nd).2.2 t z t htT rfl
      refine ⟨_, _, _, T.erase t, done ++ [t], es.set (t - 1).toNat c, rfl, (sm8.upd fpe _).upd fpt _, (upd_ne nwt).trans ((upd_ne nwe).trans hw8), upd_same, (upd_ne (Ne.symm nte)).trans upd_same, by rw [List.length_set]; exact les, ?_, by simp [ld], ?_, ?_⟩
      · refine List.Perm.trans ?_ pm
        rw [List.append_assoc]
        exact List.Perm.append_left done (List.perm_cons_erase htT).symm
      · rw [List.map_append, List.take_add_one, hc, ← hdone]
        refine congr (congrArg _ ?_) ?_
        · refine List.map_congr_left fun k hk => ?_
          rw [eld_set bt.1 (by omega) k (bD k hk).1, if_neg (fun z => tnd (by rw [← z]; exact hk))]
        · show [eld (es.set (t - 1).toNat c) t] = [c]
          rw [eld_set bt.1 (by omega) t bt.1, if_pos rfl]
      · intro ts hts
        rw [List.append_assoc]
        refine cont _ ?_
        rw [ed] at ht hmin ⊢
        exact .cons ht hmin hts
  · rintro σ H6 ⟨o1, o2, o3, T, done, es, rfl, sm, hw6, ht6, he6, les, pm, ld, hdone, cont⟩
    rw [lwm] at ld hdone cont
    have lT : done.length + T.length = ws.length := by have := pm.length_eq; rw [List.length_append, knots_len] at this; exact this
    have hT : T = [] := List.eq_nil_of_length_eq_zero (by omega)
    subst hT
    rw [List.take_length] at hdone
    rw [List.drop_length] at cont
    have dec := cont [] .nil
    rw [List.append_nil, lw] at dec
    exact ⟨_, rfl, q pe es done H6 sm fpe he6 (by omega) dec hdone⟩
theorem ok_Trees__RingFamily_unchecked_thing {ca : ClA} (CA : ClOk K mg ca) {fd : FuncData} (F : Fun K "unchecked_thing" "RingFamily.unchecked_thing" s_Trees__RingFamily_unchecked_thing ca.f_Trees__RingFamily_unchecked_thing fd) {fd0 : FuncData} (d_Trees__of_code : MDef P w K mg base ["self", "code"] 1 (sp_Trees__of_code K ca) ca.f_Trees__of_code fd0) {f1 : Addr} {fd1 : FuncData} (d_number_figures : Def P w K mg base "number_figures" ["number", "base", "length"] 1 (sp_number_figures K ca) f1 fd1) : FnOk P w K mg base CX0 2 ca.f_Trees__RingFamily_unchecked_thing fd ["self", "size", "number"] (sp_Trees__RingFamily_unchecked_thing K ca) := by
  refine F.ok sc_Trees__RingFamily_unchecked_thing (fun vs H Q E h => ?_) (fun cdv A outer s H vs Q E hr h => ?_)
  · obtain ⟨x, dx, fs, wd, n, m, rfl, hx, fl, n1, n40, m0, m1, q⟩ := h
    rfl
  obtain ⟨x, dx, fs, wd, n, m, rfl, hx, fl, n1, n40, m0, m1, q⟩ := h
  refine ⟨_, pss_one (ps_ret (pmeth (pv 0) CA.c_Trees CA.mt_Trees_of_code d_Trees__of_code hr (pa_cons (pcall d_number_figures hr (pa_cons (pv 2) (pa_cons (pe_op op_add (pv 1) pe_int) (pa_cons (pe_op op_sub (pv 1) pe_int) pa_nil)))) pa_nil))), ?_⟩
  refine ⟨_, rfl, x, dx, fs, rfl, hx, fl.no "of_code" (by decide) (by decide), _, rfl, _, rfl, _, _, rfl, rfl, _, rfl, _, _, rfl, rfl, m, n + 1, n - 1, rfl, by omega, by omega, by omega, by omega, fun pf H1 s1 ff hf => ?_⟩
  have lf := figs_len (n + 1) (n - 1).toNat m
  have bd := Rg.figs (b := n + 1) (k := (n - 1).toNat) (by omega) m

  refine ⟨x, pf, _, rfl, hf, by omega, fun p es ts H2 s2 f2 h2 le dec e => ?_⟩
  exact q p _ H2 (s1.trans s2) (s1.free f2) h2 (rg_trees bd le dec e)
theorem ok_Trees__Family_thing_of {ca : ClA} (CA : ClOk K mg ca) {fd : FuncData} (F : Fun K "thing_of" "Family.thing_of" s_Trees__Family_thing_of ca.f_Trees__Family_thing_of fd) {fd0 : FuncData} (d_Trees__Family_many : MDef P w K mg base ["self", "size"] 3 (sp_Trees__Family_many K ca) ca.f_Trees__Family_many fd0) {fd1 : FuncData} (d_Trees__RingFamily_unchecked_thing : MDef P w K mg base ["self", "size", "number"] 2 (sp_Trees__RingFamily_unchecked_thing K ca) ca.f_Trees__RingFamily_unchecked_thing fd1) : FnOk P w K mg base CX0 4 ca.f_Trees__Family_thing_of fd ["self", "size", "number"] (sp_Trees__Family_thing_of K ca) := by
  refine F.ok sc_Trees__Family_thing_of (fun vs H Q E h => ?_) (fun cdv A outer s H vs Q E hr h => ?_)
  · obtain ⟨x, dx, fs, wd, n, m, rfl, hx, fl, n1, n40, m0, m1, q⟩ := h
    rfl
  obtain ⟨x, dx, fs, wd, n, m, rfl, hx, fl, n1, n40, m0, m1, q⟩ := h
  refine ⟨_, pss_cons (ps_set (i := 3) sc_Trees__Family_thing_of.nd rfl (Or.inl rfl) (pmeth (pv 0) CA.c_Trees CA.mt_Trees_many d_Trees__Family_many hr (pa_cons (pv 1) pa_nil)))
    (pss_cons (ps_if (PW.pt (pw_or (pt_cmpR op_lt (pv 2) pe_int (nomark _)) (pw_or1 (pt_cmpR op_ge (pv 2) (pv 3) (nomark _))))) (pss_one ps_never) pss_nil)
    (pss_one (ps_ret (pmeth (pv 0) CA.c_Trees CA.mt_Trees_unchecked_thing d_Trees__RingFamily_unchecked_thing hr (pa_cons (pv 1) (pa_cons (pv 2) pa_nil)))))), ?_⟩
  refine ⟨_, rfl, x, dx, fs, rfl, hx, fl.no "many" (by decide) (by decide), _, rfl, x, dx, fs, wd, n, rfl, hx, fl, n1, n40, fun H1 s1 => ?_⟩
  refine ⟨_, rfl, _, _, rfl, rfl, _, rfl, iteN (by omega) ⟨_, rfl, _, rfl, _, _, rfl, rfl, _, rfl, iteN (by omega) ?_⟩⟩
  exact ⟨_, rfl, x, dx, fs, rfl, s1 _ _ hx, fl.no "unchecked_thing" (by decide) (by decide), _, rfl, _, rfl, x, dx, fs, wd, n, m, rfl, s1 _ _ hx, fl, n1, n40, m0, m1, fun p ns H2 s2 f2 h2 rg => q p ns H2 (s1.trans s2) (s1.free f2) h2 rg⟩
theorem ok_Cars__is_one {ca : ClA} (CA : ClOk K mg ca) {fd : FuncData} (F : Fun K "is_one" "Cars.is_one" s_Cars__is_one ca.f_Cars__is_one fd) (m_min : mg "min" = none) (m_all : mg "all" = none) (m_sorted : mg "sorted" = none) (m_enumerate : mg "enumerate" = none) : FnOk P w K mg base CX0 1 ca.f_Cars__is_one fd ["self", "thing"] (sp_Cars__is_one K ca) := by
  refine F.ok sc_Cars__is_one (fun vs H Q E h => ?_) (fun cdv A outer s H vs Q E hr h => ?_)
  · obtain ⟨x, l, ns, rfl, hl, h64, q⟩ := h
    rfl
  obtain ⟨x, l, ns, rfl, hl, h64, q⟩ := h
  refine ⟨_, pss_cons (ps_if (PW.pt (pw_or (pt_cmpR (op_eq_list (hu0 hr)) (pv 1) (pe_lst pa_nil) (nomark _)) (pw_or1 (pt_cmpR op_lt (pe_callB (call_minL rfl) rfl m_min bb_min (pa_cons (pv 1) pa_nil)) pe_int (nomark _))))) (pss_one (ps_ret pe_bl)) pss_nil)
    (pss_one (ps_ret (pe_callB (call_all rfl) rfl m_all bb_all (pa_cons (pe_comp rfl (pi_enum rfl m_enumerate (pa_cons (pe_callB call_sorted rfl m_sorted bb_sorted (pa_cons (pv 1) pa_nil)) pa_nil)) rfl rfl rfl rfl (N := ["place", "wish"]) (.own (.own .nil)) (fun _ _ _ _ _ _ => (pg_tupK (K := K) (n := 2) rfl rfl (pgs_cons (pg_name (i := 0) (by show List.Nodup (["place", "wish"] : List Str); decide +kernel) rfl (Or.inl rfl)) (pgs_cons (pg_name (i := 1) (by show List.Nodup (["place", "wish"] : List Str); decide +kernel) rfl (Or.inl rfl)) pgs_nil)))) (fun _ _ _ _ _ _ => pts_nil) (fun _ _ _ _ _ _ => (pe_cmpR op_le (pv 1) (pv 0) (nomark _)))) pa_nil)))), ?_⟩
  refine ⟨_, rfl, Nat.zero_le _, fun pe hpe => ?_⟩
  have s1 := Same.new (Same.refl H) hpe (.lst [])
  have hl1 := s1.seq hl
  have he1 : upd H pe (.lst []) pe = some (.lst []) := upd_same
  generalize upd H pe (.lst []) = H1 at s1 hl1 he1 ⊢
  by_cases hne : ns = []
  · subst hne
    exact ⟨l, pe, _, _, rfl, rfl, hl1, SqL.of he1, rfl, rfl, _, rfl, iteT (iteT (q _ s1))⟩
  refine ⟨l, pe, _, _, rfl, rfl, hl1, SqL.of he1, flat_ints ns, rfl, _, rfl, ite2 (fun c => ?_) (fun _ => ⟨_, rfl, l, ns, rfl, hl1, hne, fun m hm hall => ?_⟩)⟩
  · cases ns with
    | nil => exact absurd rfl hne
    | cons n ns => exact absurd c (by intro z; cases z)
  refine ⟨_, _, rfl, rfl, _, rfl, ?_⟩
  by_cases m0 : m < 0
  · refine iteP m0 ?_
    rw [isCar_neg hm m0] at q
    exact q _ s1
  refine iteN m0 ?_
  have hpos : ∀ x ∈ ns, 0 ≤ x := fun x hx => by have := hall x hx; omega
  refine ⟨_, rfl, l, ns, rfl, hl1, h64, fun ps ms hps hp hs => ?_⟩
  have s2 := Same.new s1 hps (.lst (ms.map V.int))
  have hm2 : upd H1 ps (.lst (ms.map V.int)) ps = some (.lst (ms.map V.int)) := upd_same
  generalize upd H1 ps (.lst (ms.map V.int)) = H2 at s2 hm2 ⊢
  have lm : (ms.map V.int).length = ms.length := List.length_map _
  have lms := hp.length_eq
  refine ⟨ps, rfl, ⟨_, SqL.of hm2⟩, fun D hD => comp_enum (xs := ms.map V.int) (fun i ys H' => Same H2 H' ∧ H' D = some (.lst ys) ∧ ys = ((List.range i).map fun (k : Nat) => decide (ms.getD k 0 ≤ (k : Int))).map V.bl) (by rw [lm]; exact sz (by omega)) ⟨Same.new (Same.refl H2) hD _, upd_same, rfl⟩ (fun i ys H' hi h => ⟨SqL.of (h.1 _ _ hm2), ?_⟩) (fun i v ys H' T R R0 hx h hT r r0 => ?_) (fun ys H' h => ?_)⟩
  · rw [h.2.2]; simp
  · obtain ⟨sm, hy, ey⟩ := h
    obtain ⟨c, rfl⟩ := get_int hx
    have hc : ms.getD i 0 = c := by
      rw [List.getElem?_map] at hx
      rw [List.getD_eq_getElem?_getD]
      cases h : ms[i]? with
      | none => rw [h] at hx; cases hx
      | some d => rw [h] at hx; injection hx with hx; injection hx with hx
    have nT : D ≠ T := ne_of_none hy hT
    have hy1 := (upd_ne (o := .tup [.int (i : Int), .int c]) nT).trans hy
    refine ⟨T, _, rfl, SqT.of upd_same, rfl, _, _, rfl, _, _, rfl, rfl, (Ext.set rfl).trans (Ext.set rfl), ttN (iteT ?_)⟩
    refine ⟨_, rfl, _, rfl, _, _, rfl, rfl, ?_⟩
    refine r _ _ hy1 ⟨(Same.new sm hT _).upd hD _, upd_same, ?_⟩
    rw [ey, List.range_succ, List.map_append, List.map_append, ← hc]
    rfl
  · obtain ⟨sm, hy, ey⟩ := h
    subst ey
    refine ⟨D, _, rfl, SqL.of hy, ?_⟩
    rw [lm, isCar_sorted hne hpos hp hs]
    exact q _ (s2.trans sm)
theorem ok_Cars__of_code {ca : ClA} (CA : ClOk K mg ca) {fd : FuncData} (F : Fun K "of_code" "Cars.of_code" s_Cars__of_code ca.f_Cars__of_code fd) {fd0 : FuncData} (d_Cars__is_one : MDef P w K mg base ["self", "thing"] 1 (sp_Cars__is_one K ca) ca.f_Cars__is_one fd0) (m_len : mg "len" = none) : FnOk P w K mg base CX0 2 ca.f_Cars__of_code fd ["self", "code"] (sp_Cars__of_code K ca) := by
  refine F.ok sc_Cars__of_code (fun vs H Q E h => ?_) (fun cdv A outer s H vs Q E hr h => ?_)
  · obtain ⟨x, dx, fs, l, cs, rfl, hx, fo, hl, hz, q⟩ := h
    rfl
  obtain ⟨x, dx, fs, l, cs, rfl, hx, fo, hl, hz, q⟩ := h
  refine ⟨_, pss_cons (ps_set (i := 2) sc_Cars__of_code.nd rfl (Or.inr rfl) (pe_op op_add (pe_callB call_len_seq rfl m_len bb_len (pa_cons (pv 1) pa_nil)) pe_int))
    (pss_cons (ps_set (i := 3) sc_Cars__of_code.nd rfl (Or.inl rfl) (pe_lst (pa_cons pe_int pa_nil)))
    (pss_cons (ps_for PassesOwn.never rfl (pi_list (pv 1)) (pg_name (i := 4) sc_Cars__of_code.nd rfl (Or.inl rfl)) (pss_one (ps_expr (pe_bm PySem.F.plainAttrs_list PySem.F.slot_list_append PySem.F.type_list_append mt_append (pv 3) (pa_cons (pe_op op_mod (pe_op op_add (pe_ix ix_list (pv 3) (pe_un un_neg pe_int) (fun _ _ => rfl)) (pv 4)) (pv 2)) pa_nil)))))
    (pss_cons (ps_while PassesOwn.never (pt_not (pt_val (pmeth (pv 0) CA.c_Cars CA.mt_Cars_is_one d_Cars__is_one hr (pa_cons (pv 3) pa_nil)))) (pss_one (ps_setComp (i := 3) sc_Cars__of_code.nd rfl (Or.inl rfl) rfl rfl (pi_list (pv 3)) rfl rfl rfl rfl (N := ["wish", "ring"]) (.own (.cap (j := 2) rfl rfl rfl .nil)) (fun _ _ _ _ _ _ => (pg_name (i := 0) (by show List.Nodup (["wish", "ring"] : List Str); decide +kernel) rfl (Or.inl rfl))) (fun _ _ _ _ _ _ => pts_nil) (fun _ _ _ _ _ _ => (pe_op op_mod (pe_op op_add (pv 0) pe_int) (pv 1))))))
    (pss_one (ps_ret (pv 3)))))), ?_⟩
  have lm : (cs.map V.int).length = cs.length := List.length_map _
  refine ⟨_, rfl, l, _, rfl, .inl (SqL.of hl), _, _, rfl, rfl, ?_⟩
  try dsimp only
  rw [lm]
  refine ⟨(by show 1 ≤ sizeLine; decide), fun pw hpw => ?_⟩
  have s1 := Same.new (Same.refl H) hpw (.lst [.int 0])
  have hw1 : upd H pw (.lst [.int 0]) pw = some (.lst ((walkR ((cs.length : Int) + 2) 0 (cs.take 0)).map V.int)) := upd_same
  generalize upd H pw (.lst [.int 0]) = H1 at s1 hw1 ⊢
  refine ⟨_, rfl, l, rfl, ⟨_, SqL.of (s1 _ _ hl)⟩, for_list (xs := cs.map V.int) (fun i σ H' => ∃ (o1 : Option V), σ = [some (.ref x), some (.ref l), some (.int ((cs.length : Int) + 2)), some (.ref pw), o1] ∧ Same H H' ∧ H' pw = some (.lst ((walkR ((cs.length : Int) + 2) 0 (cs.take i)).map V.int))) ⟨_, rfl, s1, hw1⟩ (fun i σ H' _ h => SqL.of (h.choose_spec.2.1 _ _ hl)) ?_ ?_⟩
  · rintro i u σ H' hu ⟨o1, rfl, sm, hw⟩
    obtain ⟨c, rfl⟩ := get_int hu
    have hc : cs[i]? = some c := by
      rw [List.getElem?_map] at hu
      cases h : cs[i]? with
      | none => rw [h] at hu; cases hu
      | some d => rw [h] at hu; injection hu with hu; injection hu with hu; rw [hu]
    have hi : i < cs.length := (List.getElem?_eq_some_iff.mp hc).1
    have lw := walkR_len ((cs.length : Int) + 2) (cs.take i) 0
    rw [List.length_take] at lw
    have hat : atI ((walkR ((cs.length : Int) + 2) 0 (cs.take i)).map V.int) (-1) = some (.int ((walkR ((cs.length : Int) + 2) 0 (cs.take i)).getLastD 0)) := by
      have hne : walkR ((cs.length : Int) + 2) 0 (cs.take i) ≠ [] := fun z => by rw [z] at lw; simp at lw
      obtain ⟨ys, y, e⟩ : ∃ ys y, walkR ((cs.length : Int) + 2) 0 (cs.take i) = ys ++ [y] := ⟨_, _, (List.dropLast_concat_getLast hne).symm⟩
      rw [e, List.map_append]
      show atI (ys.map V.int ++ [V.int y]) (-1) = _
      rw [atI_last]
      simp
    refine ⟨_, rfl, .inl ⟨rfl, _, SqL.of hw⟩, _, rfl, _, rfl, pw, _, _, _, rfl, rfl, SqL.of hw, hat, _, rfl, _, _, rfl, rfl, _, rfl, _, _, rfl, rfl, by omega, pw, _, _, rfl, rfl, hw, by rw [List.length_map]; exact sz' (by omega), ?_⟩
    refine ⟨_, rfl, sm.upd hpw _, ?_⟩
    rw [upd_same, List.take_add_one, hc]
    show some (HO.lst _) = some (HO.lst ((walkR _ 0 (cs.take i ++ [c])).map V.int))
    rw [walkR_snoc, List.map_append]
    rfl
  · rintro σ H2 ⟨o1, rfl, sm, hw⟩
    rw [lm, List.take_length] at hw
    have lw := walkR_len ((cs.length : Int) + 2) cs 0
    obtain ⟨S, hS, carS⟩ := car_exists (walkR ((cs.length : Int) + 2) 0 cs) fun w hw' => by
      have := walkR_bound (N := (cs.length : Int) + 2) (by omega) cs 0 (by decide) (by omega) w hw'
      omega
    rw [lw, show ((cs.length + 1 : Nat) : Int) + 1 = (cs.length : Int) + 2 by omega, walkR_rot, Int.zero_add] at carS
    rw [lw] at hS
    refine ⟨fun m σ H' => ∃ (o1 : Option V) (s : Nat) (pw : Addr), σ = [some (.ref x), some (.ref l), some (.int ((cs.length : Int) + 2)), some (.ref pw), o1] ∧ Same H H' ∧ H pw = none ∧ H' pw = some (.lst ((walkR ((cs.length : Int) + 2) ((s : Int) % ((cs.length : Int) + 2)) cs).map V.int)) ∧ s ≤ S ∧ m = S - s, ⟨_, _, 0, pw, rfl, sm, hpw, hw, Nat.zero_le _, rfl⟩, ?_⟩
    rintro m σ H' ⟨o1, s, pw, rfl, sm, fpw, hw, hs, hm⟩
    have v0 := Int.emod_nonneg (s : Int) (show (cs.length : Int) + 2 ≠ 0 by omega)
    have v1 := Int.emod_lt_of_pos (s : Int) (show (0 : Int) < (cs.length : Int) + 2 by omega)
    have lw := walkR_len ((cs.length : Int) + 2) cs ((s : Int) % ((cs.length : Int) + 2))
    refine ⟨_, rfl, x, dx, fs, rfl, sm _ _ hx, fo, _, rfl, x, pw, _, rfl, SqL.of hw, by omega, fun H3 s3 => ⟨_, rfl, ?_⟩⟩
    have sm3 := sm.trans s3
    have hw3 := s3 _ _ hw
    cases hb : isCar (walkR ((cs.length : Int) + 2) ((s : Int) % ((cs.length : Int) + 2)) cs) with
    | true =>
      have car := ((isCar_iff _).mp hb).2
      exact iteF ⟨_, rfl, q pw _ H3 sm3 fpw hw3 v0 v1 car⟩
    | false =>
      have hne : s ≠ S := fun z => by
        subst z
        have : isCar (walkR ((cs.length : Int) + 2) ((s : Int) % ((cs.length : Int) + 2)) cs) = true := isCar_true carS fun z => by rw [z] at lw; simp at lw
        rw [hb] at this
        cases this
      refine iteT ⟨fun σ' H' => ∃ (o1 : Option V) (pw : Addr), σ' = [some (.ref x), some (.ref l), some (.int ((cs.length : Int) + 2)), some (.ref pw), o1] ∧ Same H H' ∧ H pw = none ∧ H' pw = some (.lst ((walkR ((cs.length : Int) + 2) (((s + 1 : Nat) : Int) % ((cs.length : Int) + 2)) cs).map V.int)), ?_, ?_⟩
      · rintro σ' H' ⟨o1, pw, rfl, a1, a2, a3⟩
        exact ⟨S - (s + 1), by omega, o1, s + 1, pw, rfl, a1, a2, a3, by omega, rfl⟩
      · refine ⟨_, rfl, pw, rfl, ⟨_, SqL.of hw3⟩, fun D hD => comp_list (fun v => match v with | .int c => .int ((c + 1) % ((cs.length : Int) + 2)) | v => v) (by rw [List.length_map]; exact sz (by omega)) (SqL.of hw3) hD (fun i u H' R R0 hu hb hR => ?_) ?_⟩
        · obtain ⟨c, rfl⟩ := get_int hu
          exact ⟨Ext.set rfl, ttN (iteT ⟨_, rfl, _, _, rfl, rfl, _, rfl, _, _, rfl, rfl, by omega, hR⟩)⟩
        · have em : ((walkR ((cs.length : Int) + 2) ((s : Int) % ((cs.length : Int) + 2)) cs).map V.int).map (fun v => match v with | .int c => V.int ((c + 1) % ((cs.length : Int) + 2)) | v => v) = (walkR ((cs.length : Int) + 2) (((s + 1 : Nat) : Int) % ((cs.length : Int) + 2)) cs).map V.int := by
            have e1 := walkR_rot (N := (cs.length : Int) + 2) 1 cs ((s : Int) % ((cs.length : Int) + 2))
            rw [Int.emod_add_emod, show (s : Int) + 1 = ((s + 1 : Nat) : Int) by omega] at e1
            rw [← e1]
            unfold rot
            rw [List.map_map, List.map_map]
            rfl
          rw [em]
          exact ⟨_, D, rfl, Same.new sm3 hD _, sm3.free hD, upd_same⟩
theorem ok_Cars__RingFamily_unchecked_thing {ca : ClA} (CA : ClOk K mg ca) {fd : FuncData} (F : Fun K "unchecked_thing" "RingFamily.unchecked_thing" s_Cars__RingFamily_unchecked_thing ca.f_Cars__RingFamily_unchecked_thing fd) {fd0 : FuncData} (d_Cars__of_code : MDef P w K mg base ["self", "code"] 2 (sp_Cars__of_code K ca) ca.f_Cars__of_code fd0) {f1 : Addr} {fd1 : FuncData} (d_number_figures : Def P w K mg base "number_figures" ["number", "base", "length"] 1 (sp_number_figures K ca) f1 fd1) : FnOk P w K mg base CX0 3 ca.f_Cars__RingFamily_unchecked_thing fd ["self", "size", "number"] (sp_Cars__RingFamily_unchecked_thing K ca) := by
  refine F.ok sc_Cars__RingFamily_unchecked_thing (fun vs H Q E h => ?_) (fun cdv A outer s H vs Q E hr h => ?_)
  · obtain ⟨x, dx, fs, wd, n, m, rfl, hx, fl, n1, n40, m0, m1, q⟩ := h
    rfl
  obtain ⟨x, dx, fs, wd, n, m, rfl, hx, fl, n1, n40, m0, m1, q⟩ := h
  refine ⟨_, pss_one (ps_ret (pmeth (pv 0) CA.c_Cars CA.mt_Cars_of_code d_Cars__of_code hr (pa_cons (pcall d_number_figures hr (pa_cons (pv 2) (pa_cons (pe_op op_add (pv 1) pe_int) (pa_cons (pe_op op_sub (pv 1) pe_int) pa_nil)))) pa_nil))), ?_⟩
  refine ⟨_, rfl, x, dx, fs, rfl, hx, fl.no "of_code" (by decide) (by decide), _, rfl, _, rfl, _, _, rfl, rfl, _, rfl, _, _, rfl, rfl, m, n + 1, n - 1, rfl, by omega, by omega, by omega, by omega, fun pf H1 s1 ff hf => ?_⟩
  have lf := figs_len (n + 1) (n - 1).toNat m
  have bd := Rg.figs (b := n + 1) (k := (n - 1).toNat) (by omega) m

  refine ⟨x, dx, fs, pf, _, rfl, s1 _ _ hx, fl.no "is_one" (by decide) (by decide), hf, by omega, fun p v H2 s2 f2 h2 v0 v1 car => ?_⟩
  exact q p _ H2 (s1.trans s2) (s1.free f2) h2 (rg_cars bd v0 v1 car)
theorem ok_Cars__Family_thing_of {ca : ClA} (CA : ClOk K mg ca) {fd : FuncData} (F : Fun K "thing_of" "Family.thing_of" s_Cars__Family_thing_of ca.f_Cars__Family_thing_of fd) {fd0 : FuncData} (d_Cars__Family_many : MDef P w K mg base ["self", "size"] 3 (sp_Cars__Family_many K ca) ca.f_Cars__Family_many fd0) {fd1 : FuncData} (d_Cars__RingFamily_unchecked_thing : MDef P w K mg base ["self", "size", "number"] 3 (sp_Cars__RingFamily_unchecked_thing K ca) ca.f_Cars__RingFamily_unchecked_thing fd1) : FnOk P w K mg base CX0 4 ca.f_Cars__Family_thing_of fd ["self", "size", "number"] (sp_Cars__Family_thing_of K ca) := by
  refine F.ok sc_Cars__Family_thing_of (fun vs H Q E h => ?_) (fun cdv A outer s H vs Q E hr h => ?_)
  · obtain ⟨x, dx, fs, wd, n, m, rfl, hx, fl, n1, n40, m0, m1, q⟩ := h
    rfl
  obtain ⟨x, dx, fs, wd, n, m, rfl, hx, fl, n1, n40, m0, m1, q⟩ := h
  refine ⟨_, pss_cons (ps_set (i := 3) sc_Cars__Family_thing_of.nd rfl (Or.inl rfl) (pmeth (pv 0) CA.c_Cars CA.mt_Cars_many d_Cars__Family_many hr (pa_cons (pv 1) pa_nil)))
    (pss_cons (ps_if (PW.pt (pw_or (pt_cmpR op_lt (pv 2) pe_int (nomark _)) (pw_or1 (pt_cmpR op_ge (pv 2) (pv 3) (nomark _))))) (pss_one ps_never) pss_nil)
    (pss_one (ps_ret (pmeth (pv 0) CA.c_Cars CA.mt_Cars_unchecked_thing d_Cars__RingFamily_unchecked_thing hr (pa_cons (pv 1) (pa_cons (pv 2) pa_nil)))))), ?_⟩
  refine ⟨_, rfl, x, dx, fs, rfl, hx, fl.no "many" (by decide) (by decide), _, rfl, x, dx, fs, wd, n, rfl, hx, fl, n1, n40, fun H1 s1 => ?_⟩
  refine ⟨_, rfl, _, _, rfl, rfl, _, rfl, iteN (by omega) ⟨_, rfl, _, rfl, _, _, rfl, rfl, _, rfl, iteN (by omega) ?_⟩⟩
  exact ⟨_, rfl, x, dx, fs, rfl, s1 _ _ hx, fl.no "unchecked_thing" (by decide) (by decide), _, rfl, _, rfl, x, dx, fs, wd, n, m, rfl, s1 _ _ hx, fl, n1, n40, m0, m1, fun p ns H2 s2 f2 h2 rg => q p ns H2 (s1.trans s2) (s1.free f2) h2 rg⟩
theorem ok__law_is_tree {ca : ClA} (CA : ClOk K mg ca) {f : Addr} {fd : FuncData} (F : Fun K "_law_is_tree" "_law_is_tree" s__law_is_tree f fd) (m_len : mg "len" = none) (m_range : mg "range" = none) : FnOk P w K mg base CX0 1 f fd ["_law_elders"] (sp__law_is_tree K ca) := by
  refine F.ok sc__law_is_tree (fun vs H Q E h => ?_) (fun cdv A outer s H vs Q E hr h => ?_)
  · obtain ⟨l, es, rfl, hl, hz, q⟩ := h
    rfl
  obtain ⟨l, es, rfl, hl, hz, q⟩ := h
  refine ⟨_, pss_cons (ps_set (i := 1) sc__law_is_tree.nd rfl (Or.inl rfl) (pe_callB call_len_seq rfl m_len bb_len (pa_cons (pv 0) pa_nil)))
    (pss_cons (ps_for PassesOwn.never rfl (pi_list (pv 0)) (pg_name (i := 2) sc__law_is_tree.nd rfl (Or.inl rfl)) (pss_one (ps_if (PW.pt (pw_or (pt_cmpR op_lt (pv 2) pe_int (nomark _)) (pw_or1 (pt_cmpR op_gt (pv 2) (pv 1) (nomark _))))) (pss_one (ps_ret pe_bl)) pss_nil)))
    (pss_cons (ps_for PassesOwn.never rfl (pi_range2 rfl m_range (pa_cons pe_int (pa_cons (pe_op op_add (pv 1) pe_int) pa_nil))) (pg_name (i := 3) sc__law_is_tree.nd rfl (Or.inl rfl)) (pss_cons (ps_set (i := 4) sc__law_is_tree.nd rfl (Or.inl rfl) (pv 3))
    (pss_cons (ps_for PassesOwn.never rfl (pi_range1 rfl m_range (pa_cons (pv 1) pa_nil)) (pg_name (i := 5) sc__law_is_tree.nd rfl (Or.inl rfl)) (pss_one (ps_if (pt_cmpR op_ne (pv 4) pe_int (nomark _)) (pss_one (ps_set (i := 4) sc__law_is_tree.nd rfl (Or.inl rfl) (pe_ix ix_list (pv 0) (pe_op op_sub (pv 4) pe_int) (fun _ _ => rfl)))) pss_nil)))
    (pss_one (ps_if (pt_cmpR op_ne (pv 4) pe_int (nomark _)) (pss_one (ps_ret pe_bl)) pss_nil)))))
    (pss_one (ps_ret (pe_cmpR op_gt (pv 1) pe_int (nomark _)))))), ?_⟩
  have lm : (es.map V.int).length = es.length := List.length_map _
  have q := q H (Same.refl H)
  refine ⟨_, rfl, l, _, rfl, .inl (SqL.of hl), ?_⟩
  rw [lm]
  refine ⟨_, rfl, l, rfl, ⟨_, SqL.of hl⟩, for_list (xs := es.map V.int) (fun i σ H' => ∃ (o1 o2 o3 o4 : Option V), σ = [some (.ref l), some (.int (es.length : Int)), o1, o2, o3, o4] ∧ H = H' ∧ ∀ e ∈ es.take i, 0 ≤ e ∧ e ≤ (es.length : Int)) ⟨_, _, _, _, rfl, rfl, fun e he => by simp at he⟩ (fun i σ H' _ h => by obtain ⟨_, _, _, _, _, e, _⟩ := h; rw [← e]; exact SqL.of hl) ?_ ?_⟩
  · rintro i v σ H' hv ⟨o1, o2, o3, o4, rfl, rfl, all⟩
    obtain ⟨c, rfl⟩ := get_int hv
    have hc : es[i]? = some c := by
      rw [List.getElem?_map] at hv
      cases h : es[i]? with
      | none => rw [h] at hv; cases hv
      | some d => rw [h] at hv; injection hv with hv; injection hv with hv; rw [hv]
    have no : ¬ (0 ≤ c ∧ c ≤ (es.length : Int)) → Q (.bl false) H := fun h => by
      have hin : inR es = false := by
        cases e : inR es with
        | false => rfl
        | true => exact absurd ((inR_iff es).mp e c (List.mem_of_getElem? hc)) h
      have hn : es ≠ [] := fun z => by rw [z] at hc; cases hc
      rw [isTree_cons hn, hin, Bool.false_and] at q
      exact q
    refine ⟨_, rfl, _, _, rfl, rfl, _, rfl, ?_⟩
    by_cases c0 : c < 0
    · exact iteP c0 (iteT (no (by omega)))
    refine iteN c0 ⟨_, rfl, _, rfl, _, _, rfl, rfl, _, rfl, ?_⟩
    by_cases c1 : (es.length : Int) < c
    · exact iteP c1 (no (by omega))
    refine iteN c1 ⟨_, _, _, _, rfl, rfl, fun e he => ?_⟩
    rw [List.take_add_one, hc] at he
    rcases List.mem_append.mp he with z | z
    · exact all e z
    · have : e = c := by simpa using z
      omega
  rintro σ H' ⟨o1, o2, o3, o4, rfl, rfl, all⟩
  rw [lm, List.take_length] at all
  have hin : inR es = true := (inR_iff es).mpr all
  refine ⟨_, rfl, _, _, rfl, rfl, _, _, rfl, ⟨by decide, by decide, by omega, by omega⟩, for_range (lo := 1) (n := ((es.length : Int) + 1 - 1).toNat) (fun i σ H' => ∃ (o1 o2 o3 o4 : Option V), σ = [some (.ref l), some (.int (es.length : Int)), o1, o2, o3, o4] ∧ H = H' ∧ ∀ j : Nat, j < i → cm0 es j = true) ⟨_, _, _, _, rfl, rfl, fun j hj => absurd hj (Nat.not_lt_zero _)⟩ ?_ ?_⟩
  · rintro i σ H' hi ⟨o1, o2, o3, o4, rfl, rfl, all2⟩
    refine ⟨_, rfl, _, rfl, _, rfl, by omega, by omega, for_range (lo := 0) (n := ((es.length : Nat) : Int).toNat) (fun m σ H' => ∃ (o4 : Option V), σ = [some (.ref l), some (.int (es.length : Int)), o1, some (.int ((1 : Int) + (i : Int))), some (.int (wlk es m ((1 : Int) + (i : Int)))), o4] ∧ H = H') ⟨_, rfl, rfl⟩ ?_ ?_⟩
    · rintro m σ H' hm ⟨o4, rfl, rfl⟩
      have b := wlk_in hin m (r := (1 : Int) + (i : Int)) (by omega) (by omega)
      have es1 := wlk_succ es m ((1 : Int) + (i : Int))
      generalize wlk es m ((1 : Int) + (i : Int)) = u at b es1
      refine ⟨_, rfl, rfl, _, rfl, ?_⟩
      by_cases hu : u = 0
      · refine iteNS (by rw [hu]) ?_
        have e : stp es u = u := by unfold stp; rw [if_neg (by omega)]
        rw [e] at es1
        rw [← es1]
        exact ⟨_, rfl, rfl⟩
      · have at1 := atI_int (ns := es) (i := u - 1) (by omega) (by omega)
        refine iteNN (ne_int hu) ⟨_, rfl, _, rfl, _, _, rfl, rfl, l, _, _, _, rfl, rfl, SqL.of hl, at1, ?_⟩
        have e : stp es u = es.getD (u - 1).toNat 0 := by unfold stp; rw [if_pos (by omega)]
        rw [← e, ← es1]
        exact ⟨_, rfl, rfl⟩
    · rintro σ H' ⟨o4, rfl, rfl⟩
      have ec : cm0 es i = decide (wlk es es.length ((1 : Int) + (i : Int)) = 0) := by unfold cm0; rw [show (1 : Int) + (i : Int) = (i : Int) + 1 by omega]
      rw [show ((es.length : Nat) : Int).toNat = es.length by omega]
      refine ⟨_, rfl, rfl, _, rfl, ?_⟩
      by_cases hu : wlk es es.length ((1 : Int) + (i : Int)) = 0
      · refine iteNS (by rw [hu]) ⟨_, _, _, _, rfl, rfl, fun j hj => ?_⟩
        by_cases e : j = i
        · rw [e, ec]; exact decide_eq_true hu
        · exact all2 j (by omega)
      · refine iteNN (ne_int hu) ?_
        have hn : es ≠ [] := fun z => by rw [z] at hi; simp at hi
        have e2 : (List.range es.length).all (cm0 es) = false := by
          cases e : (List.range es.length).all (cm0 es) with
          | false => rfl
          | true =>
            have := List.all_eq_true.mp e i (List.mem_range.mpr (by omega))
            rw [ec] at this
            exact absurd (of_decide_eq_true this) hu
        rw [isTree_cons hn, hin, e2] at q
        exact q
  · rintro σ H' ⟨o1, o2, o3, o4, rfl, rfl, all2⟩
    refine ⟨_, rfl, _, _, rfl, rfl, ?_⟩
    have e : isTree es = decide ((0 : Int) < (es.length : Int)) := by
      by_cases hn : es = []
      · subst hn; rfl
      · have hpos : 0 < es.length := List.length_pos_iff.mpr hn
        rw [decide_eq_true (by omega), isTree_cons hn, hin, Bool.true_and, List.all_eq_true]
        intro k hk
        exact all2 k (by have := List.mem_range.mp hk; omega)
    rw [e] at q
    exact q
theorem ok__law_code {ca : ClA} (CA : ClOk K mg ca) {f : Addr} {fd : FuncData} (F : Fun K "_law_code" "_law_code" s__law_code f fd) (m_list : mg "list" = none) (m_range : mg "range" = none) (m_len : mg "len" = none) : FnOk P w K mg base CX0 1 f fd ["_law_elders"] (sp__law_code K ca) := by
  refine F.ok sc__law_code (fun vs H Q E h => ?_) (fun cdv A outer s H vs Q E hr h => ?_)
  · obtain ⟨l, es, rfl, hl, hz, htree, q⟩ := h
    rfl
  obtain ⟨l, es, rfl, hl, hz, htree, q⟩ := h
  refine ⟨_, pss_cons (ps_set (i := 1) sc__law_code.nd rfl (Or.inl rfl) (pe_lr2 rfl rfl m_list rfl m_range (pa_cons pe_int (pa_cons (pe_op op_add (pe_callB call_len_seq rfl m_len bb_len (pa_cons (pv 0) pa_nil)) pe_int) pa_nil))))
    (pss_cons (ps_set (i := 2) sc__law_code.nd rfl (Or.inl rfl) (pe_lst pa_nil))
    (pss_cons (ps_while PassesOwn.never (pt_cmpR op_gt (pe_callB call_len_seq rfl m_len bb_len (pa_cons (pv 1) pa_nil)) pe_int (nomark _)) (pss_cons (ps_set (i := 3) sc__law_code.nd rfl (Or.inr rfl) pe_dnewK)
    (pss_cons (ps_for PassesOwn.never rfl (pi_list (pv 1)) (pg_name (i := 4) sc__law_code.nd rfl (Or.inl rfl)) (pss_one (ps_dput (hu1 hr) (pv 3) (pe_ix ix_list (pv 0) (pe_op op_sub (pv 4) pe_int) (fun _ _ => rfl)) pe_bl rfl)))
    (pss_cons (ps_set (i := 5) sc__law_code.nd rfl (Or.inl rfl) (pe_ix ix_list (pe_comp rfl (pi_list (pv 1)) rfl rfl rfl rfl (N := ["_law_knot", "_law_busy"]) (.own (.cap (j := 3) rfl rfl rfl .nil)) (fun _ _ _ _ _ _ => (pg_name (i := 0) (by show List.Nodup (["_law_knot", "_law_busy"] : List Str); decide +kernel) rfl (Or.inl rfl))) (fun _ _ _ _ _ _ => (pts_one (pt_cmp (pc_dnotin (hu1 hr) (pv 0) (pv 1)) (by rfl)))) (fun _ _ _ _ _ _ => (pv 0))) pe_int (fun _ _ => rfl)))
    (pss_cons (ps_expr (pe_bm PySem.F.plainAttrs_list PySem.F.slot_list_remove PySem.F.type_list_remove mt_remove (pv 1) (pa_cons (pv 5) pa_nil)))
    (pss_one (ps_expr (pe_bm PySem.F.plainAttrs_list PySem.F.slot_list_append PySem.F.type_list_append mt_append (pv 2) (pa_cons (pe_ix ix_list (pv 0) (pe_op op_sub (pv 5) pe_int) (fun _ _ => rfl)) pa_nil)))))))))
    (pss_one (ps_ret (pv 2))))), ?_⟩
  have lem : (es.map V.int).length = es.length := List.length_map _
  obtain ⟨hn, hin, reach⟩ := tree_facts htree
  have hpos : 0 < es.length := List.length_pos_iff.mpr hn
  refine ⟨_, rfl, l, _, rfl, .inl (SqL.of hl), _, _, rfl, rfl, _, _, rfl, ⟨by decide, by decide, by omega, by omega⟩, by omega, fun pt hpt => ?_⟩
  rw [show ((((es.map V.int).length : Nat) : Int) + 1 - 1).toNat = es.length by omega, rngV_knots]
  have s1 := Same.new (Same.refl H) hpt (.lst ((knots es.length).map V.int))
  have ht1 : upd H pt (.lst ((knots es.length).map V.int)) pt = some (.lst ((knots es.length).map V.int)) := upd_same
  generalize upd H pt (.lst ((knots es.length).map V.int)) = H1 at s1 ht1 ⊢
  refine ⟨Nat.zero_le _, fun pc hpc => ?_⟩
  have s2 := Same.new s1 hpc (.lst [])
  have fpc : H pc = none := s1.free hpc
  have ntc : pt ≠ pc := ne_of_none ht1 hpc
  have ht2 := (upd_ne (o := .lst []) ntc).trans ht1
  have hc2 : upd H1 pc (.lst []) pc = some (.lst (([] : List Int).map V.int)) := upd_same
  generalize upd H1 pc (.lst []) = H2 at s2 ht2 hc2 ⊢
  refine ⟨fun m σ H' => ∃ (o1 o2 o3 : Option V) (T done : List Int), σ = [some (.ref l), some (.ref pt), some (.ref pc), o1, o2, o3] ∧ Same H H' ∧ H' pt = some (.lst (T.map V.int)) ∧ H' pc = some (.lst ((done.map (eld es)).map V.int)) ∧ (done ++ T).Perm (knots es.length) ∧ T.Pairwise (· < ·) ∧ T ≠ [] ∧ m = T.length ∧ ∀ ts, Enc es T ts → Enc es (knots es.length) (done ++ ts),
    ⟨_, _, _, _, knots es.length, [], rfl, s2, ht2, hc2, List.Perm.refl _, knots_lt _, (fun z => by have := knots_len es.length; rw [z] at this; simp at this; omega), rfl, fun ts h => h⟩, ?_⟩
  rintro m σ H3 ⟨o1, o2, o3, T, done, rfl, sm, ht3, hc3, pm, sT, neT, hm, cont⟩
  have lTm : (T.map V.int).length = T.length := List.length_map _
  have lT : done.length + T.length = es.length := by have := pm.length_eq; rw [List.length_append, knots_len] at this; exact this
  have bT : ∀ k ∈ T, 1 ≤ k ∧ k ≤ (es.length : Int) := fun k hk => mem_knots.mp (pm.mem_iff.mp (List.mem_append_right _ hk))
  have ndT : T.Nodup := sT.imp fun h => Int.ne_of_lt h
  have hleaf := leaf_ne hin reach ndT bT neT
  refine ⟨_, rfl, pt, _, rfl, .inl (SqL.of ht3), _, _, rfl, rfl, _, rfl, ?_⟩
  by_cases h1 : (1 : Int) < (((T.map V.int).length : Nat) : Int)
  · refine iteP h1 ⟨fun σ' H' => ∃ (o1 o2 o3 : Option V) (T' done' : List Int), σ' = [some (.ref l), some (.ref pt), some (.ref pc), o1, o2, o3] ∧ Same H H' ∧ H' pt = some (.lst (T'.map V.int)) ∧ H' pc = some (.lst ((done'.map (eld es)).map V.int)) ∧ (done' ++ T').Perm (knots es.length) ∧ T'.Pairwise (· < ·) ∧ T' ≠ [] ∧ T'.length < m ∧ ∀ ts, Enc es T' ts → Enc es (knots es.length) (done' ++ ts), ?_, ?_⟩
    · rintro σ' H' ⟨o1, o2, o3, T', done', rfl, a1, a2, a3, a4, a5, a6, a7, a8⟩
      exact ⟨T'.length, a7, o1, o2, o3, T', done', rfl, a1, a2, a3, a4, a5, a6, rfl, a8⟩
    · intro pb hpb
      have sb := Same.new sm hpb (.dK [])
      have fpb : H pb = none := sm.free hpb
      have ntb : pt ≠ pb := ne_of_none ht3 hpb
      have ncb : pc ≠ pb := ne_of_none hc3 hpb
      have kb := Same.new (Same.refl H3) hpb (.dK [])
      have hb4 : upd H3 pb (.dK []) pb = some (.dK []) := upd_same
      have ht4 := kb _ _ ht3
      have hc4 := kb _ _ hc3
      generalize upd H3 pb (.dK []) = H4 at sb ht4 hc4 hb4 ⊢
      refine ⟨_, rfl, pt, rfl, ⟨_, SqL.of ht4⟩, for_list (xs := T.map V.int) (fun j σ H' => ∃ (o2 o3 : Option V) (kvs : List (Key × V)), σ = [some (.ref l), some (.ref pt), some (.ref pc), some (.ref pb), o2, o3] ∧ Same H H' ∧ H' pt = some (.lst (T.map V.int)) ∧ H' pc = some (.lst ((done.map (eld es)).map V.int)) ∧ H' pb = some (.dK kvs) ∧ kvs.length ≤ j ∧ ∀ k : Int, (valV kvs (.inl k)).isSome = decide (k ∈ (T.take j).map (eld es))) ⟨_, _, [], rfl, sb, ht4, hc4, hb4, Nat.le_refl _, fun k => by simp [valV]⟩ (fun j σ H' _ h => by obtain ⟨_, _, _, _, _, h, _⟩ := h; exact SqL.of h) ?_ ?_⟩
      · rintro j v σ H5 hv ⟨o2, o3, kvs, rfl, s5, ht5, hc5, hb5, lk, hk⟩
        obtain ⟨k, rfl⟩ := get_int hv
        have hkj : T[j]? = some k := by
          rw [List.getElem?_map] at hv
          cases h : T[j]? with
          | none => rw [h] at hv; cases hv
          | some d => rw [h] at hv; injection hv with hv; injection hv with hv; rw [hv]
        have hj : j < T.length := (List.getElem?_eq_some_iff.mp hkj).1
        have bk := bT k (List.mem_of_getElem? hkj)
        have atk := atI_int (ns := es) (i := k - 1) (by omega) (by omega)
        refine ⟨_, rfl, _, rfl, _, rfl, _, _, rfl, rfl, l, _, _, _, rfl, rfl, SqL.of (s5 _ _ hl), atk, pb, _, rfl, .inl ⟨kvs, .inl (eld es k), hb5, rfl, sz' (by omega), rfl⟩, ?_⟩
        refine ⟨_, _, putK kvs (.inl (eld es k)) (.bl true), rfl, s5.upd fpb _, (upd_ne ntb).trans ht5, (upd_ne ncb).trans hc5, upd_same, ?_, fun k' => ?_⟩
        · have := length_putK (k := (Sum.inl (eld es k) : Key)) (v := V.bl true) kvs
          omega
        · rw [valV_put, List.take_add_one, hkj, List.map_append]
          by_cases e : k' = eld es k
          · subst e
            simp
          · have e' : ¬ (Sum.inl k' : Key) = (Sum.inl (eld es k) : Key) := fun z => e (by injection z)
            rw [if_neg e', hk k']
            simp [e]
      · rintro σ H5 ⟨o2, o3, kvs, rfl, s5, ht5, hc5, hb5, lk, hk⟩
        rw [lTm, List.take_length] at hk
        refine ⟨_, rfl, pt, rfl, ⟨_, SqL.of ht5⟩, fun D hD => comp_walk (xs := T.map V.int) (fun j ys H' => Same H5 H' ∧ H' D = some (.lst ys) ∧ ys = (frees (T.map (eld es)) (T.take j)).map V.int ∧ j ≤ T.length) (by rw [lTm]; exact sz (by omega)) ⟨Same.new (Same.refl H5) hD _, upd_same, rfl, Nat.zero_le _⟩ (fun j ys H' hj h => ⟨SqL.of (h.1 _ _ ht5), ?_⟩) (fun j u ys H' R R0 hu h r r0 => ?_) (fun ys H' h => ?_)⟩
        · rw [h.2.2.1, List.length_map]
          unfold frees
          exact Nat.le_trans (List.length_filter_le _ _) (by rw [List.length_take]; omega)
        · obtain ⟨sj, hy, ey, hj⟩ := h
          obtain ⟨k, rfl⟩ := get_int hu
          have hkj : T[j]? = some k := by
            rw [List.getElem?_map] at hu
            cases h : T[j]? with
            | none => rw [h] at hu; cases hu
            | some d => rw [h] at hu; injection hu with hu; injection hu with hu; rw [hu]
          have hj' : j < T.length := (List.getElem?_eq_some_iff.mp hkj).1
          refine ⟨Ext.set rfl, _, rfl, _, rfl, pb, _, rfl, DGet.k (k := .inl k) (sj _ _ hb5), _, rfl, ?_⟩
          rw [hk k]
          by_cases hin' : k ∈ T.map (eld es)
          · refine iteNS hin' (r0 _ ⟨sj, hy, ?_, hj'⟩)
            rw [frees_take hkj, if_pos hin', List.append_nil]
            exact ey
          · refine iteNN hin' ⟨_, rfl, r _ _ hy ⟨sj.upd hD _, upd_same, ?_, hj'⟩⟩
            rw [frees_take hkj, if_neg hin', List.map_append, ← ey]
            rfl
        · obtain ⟨s6, hy, ey, _⟩ := h
          rw [lTm, List.take_length] at ey
          obtain ⟨t, r, ef⟩ : ∃ t r, frees (T.map (eld es)) T = t :: r := List.exists_cons_of_ne_nil hleaf
          obtain ⟨htf, hmin⟩ := frees_head sT ef
          obtain ⟨htT, _⟩ := mem_frees.mp htf
          have bt := bT t htT
          rw [ey, ef] at hy
          refine ⟨D, _, _, _, rfl, rfl, SqL.of hy, (atI_nat (j := 0) (by rw [List.map_cons]; rfl) : atI ((t :: r).map V.int) 0 = some (.int t)), ?_⟩
          have s06 := s5.trans s6
          have ht6 := s6 _ _ ht5
          have hc6 := s6 _ _ hc5
          refine ⟨_, rfl, .inl ⟨rfl, _, SqL.of ht6⟩, _, rfl, pt, T, t, rfl, rfl, ht6, htT, ?_⟩
          have hc7 : upd H' pt (.lst ((T.erase t).map V.int)) pc = some (.lst ((done.map (eld es)).map V.int)) := (upd_ne (Ne.symm ntc)).trans hc6
          have s07 := s06.upd hpt (.lst ((T.erase t).map V.int))
          have att := atI_int (ns := es) (i := t - 1) (by omega) (by omega)
          refine ⟨_, rfl, .inl ⟨rfl, _, SqL.of hc7⟩, _, rfl, _, rfl, _, _, rfl, rfl, l, _, _, _, rfl, rfl, SqL.of (s07 _ _ hl), att, pc, _, _, rfl, rfl, hc7, by rw [List.length_map, List.length_map]; exact sz' (by omega), ?_⟩
          have le : (T.erase t).length = T.length - 1 := List.length_erase_of_mem htT
          refine ⟨_, _, _, T.erase t, done ++ [t], rfl, s07.upd fpc _, (upd_ne ntc).trans upd_same, ?_, ?_, sT.sublist (List.erase_sublist ..), (fun z => by rw [z] at le; simp at le; omega), by omega, fun ts hts => ?_⟩
          · rw [upd_same, List.map_append, List.map_append]; rfl
          · refine List.Perm.trans ?_ pm
            rw [List.append_assoc]
            exact List.Perm.append_left done (List.perm_cons_erase htT).symm
          · rw [List.append_assoc]
            exact cont _ (.cons htf hmin hts)
  · refine iteN h1 ?_
    obtain ⟨t, hT⟩ : ∃ t, T = [t] := by
      cases T with
      | nil => exact absurd rfl neT
      | cons t r =>
        cases r with
        | nil => exact ⟨t, rfl⟩
        | cons u r => simp at h1; omega
    subst hT
    obtain ⟨u, r, ef⟩ : ∃ u r, frees ([t].map (eld es)) [t] = u :: r := List.exists_cons_of_ne_nil hleaf
    obtain ⟨htf, hmin⟩ := frees_head sT ef
    have eu : u = t := by have := (mem_frees.mp htf).1; simpa using this
    subst eu
    have enc := cont [u] (.cons htf hmin (by rw [List.erase_cons_head]; exact .nil))
    have cl : ∀ k ∈ knots es.length, eld es k = 0 ∨ eld es k ∈ knots es.length := fun k hk => by
      have bk := mem_knots.mp hk
      have hkl : (k - 1).toNat < es.length := by omega
      have hm : eld es k ∈ es := by
        unfold eld
        rw [List.getD_eq_getElem?_getD, List.getElem?_eq_getElem hkl]
        exact List.getElem_mem _
      have := (inR_iff es).mp hin _ hm
      by_cases z : eld es k = 0
      · exact .inl z
      · exact .inr (mem_knots.mpr ⟨by omega, this.2⟩)
    obtain ⟨w0, e⟩ := enc.last (knots_nd _) cl (fun z => by have := knots_len es.length; rw [z] at this; simp at this; omega)
    have e2 : done.map (eld es) = w0 := by
      rw [List.map_append] at e
      exact (List.append_inj' e rfl).1
    rw [e2] at hc3
    exact ⟨_, rfl, q pc w0 (done ++ [u]) H3 sm fpc hc3 enc e⟩
theorem ok__law_all_park {ca : ClA} (CA : ClOk K mg ca) {f : Addr} {fd : FuncData} (F : Fun K "_law_all_park" "_law_all_park" s__law_all_park f fd) (m_len : mg "len" = none) (m_range : mg "range" = none) : FnOk P w K mg base CX0 1 f fd ["_law_wishes"] (sp__law_all_park K ca) := by
  refine F.ok sc__law_all_park (fun vs H Q E h => ?_) (fun cdv A outer s H vs Q E hr h => ?_)
  · obtain ⟨l, ws, rfl, hl, hne, hz, car, q⟩ := h
    rfl
  obtain ⟨l, ws, rfl, hl, hne, hz, car, q⟩ := h
  refine ⟨_, pss_cons (ps_set (i := 1) sc__law_all_park.nd rfl (Or.inl rfl) (pe_callB call_len_seq rfl m_len bb_len (pa_cons (pv 0) pa_nil)))
    (pss_cons (ps_for PassesOwn.never rfl (pi_range1 rfl m_range (pa_cons (pv 1) pa_nil)) (pg_name (i := 2) sc__law_all_park.nd rfl (Or.inr rfl)) (pss_cons (ps_if (PW.pt (pw_or (pt_cmpR op_lt (pe_ix ix_list (pv 0) (pv 2) (fun _ _ => rfl)) pe_int (nomark _)) (pw_or1 (pt_cmpR op_ge (pe_ix ix_list (pv 0) (pv 2) (fun _ _ => rfl)) (pv 1) (nomark _))))) (pss_one (ps_ret pe_bl)) pss_nil)
    (pss_one (ps_if (pt_cmpR op_lt (pe_callB call_len_seq rfl m_len bb_len (pa_cons (pe_comp rfl (pi_list (pv 0)) rfl rfl rfl rfl (N := ["_law_wish", "_law_k"]) (.own (.cap (j := 2) rfl rfl rfl .nil)) (fun _ _ _ _ _ _ => (pg_name (i := 0) (by show List.Nodup (["_law_wish", "_law_k"] : List Str); decide +kernel) rfl (Or.inl rfl))) (fun _ _ _ _ _ _ => (pts_one (pt_cmpR op_le (pv 0) (pv 1) (nomark _)))) (fun _ _ _ _ _ _ => (pv 0))) pa_nil)) (pe_op op_add (pv 2) pe_int) (nomark _)) (pss_one (ps_ret pe_bl)) pss_nil))))
    (pss_one (ps_ret (pe_cmpR op_gt (pv 1) pe_int (nomark _))))), ?_⟩
  have lm : (ws.map V.int).length = ws.length := List.length_map _
  have hpos : 0 < ws.length := List.length_pos_iff.mpr hne
  refine ⟨_, rfl, l, _, rfl, .inl (SqL.of hl), ?_⟩
  rw [lm]
  refine ⟨_, rfl, _, rfl, by omega, by omega, for_range (lo := 0) (n := ((ws.length : Nat) : Int).toNat) (fun i σ H' => ∃ (o1 : Option V), σ = [some (.ref l), some (.int (ws.length : Int)), o1] ∧ Same H H') ⟨_, rfl, Same.refl H⟩ ?_ ?_⟩
  · rintro i σ H5 hi ⟨o1, rfl, sm⟩
    have hi' : i < ws.length := by omega
    have atk := atI_int (ns := ws) (i := (0 : Int) + (i : Int)) (by omega) (by omega)
    have hl5 := sm _ _ hl
    have hm : ws.getD ((0 : Int) + (i : Int)).toNat 0 ∈ ws := by
      rw [List.getD_eq_getElem?_getD, List.getElem?_eq_getElem (show ((0 : Int) + (i : Int)).toNat < ws.length by omega)]
      exact List.getElem_mem _
    have w0 := car.pos _ hm
    have w1 := car.le _ hm
    refine ⟨_, rfl, _, rfl, l, _, _, _, rfl, rfl, SqL.of hl5, atk, _, _, rfl, rfl, _, rfl, iteN (by omega) ?_⟩
    refine ⟨_, rfl, _, rfl, l, _, _, _, rfl, rfl, SqL.of hl5, atk, _, rfl, _, _, rfl, rfl, _, rfl, iteN (by omega) ?_⟩
    refine ⟨_, rfl, l, rfl, ⟨_, SqL.of hl5⟩, fun D hD => comp_walk (xs := ws.map V.int) (fun j ys H' => Same H H' ∧ H' D = some (.lst ys) ∧ ys = ((ws.take j).filter fun x => decide (x ≤ (i : Int))).map V.int ∧ j ≤ ws.length) (by rw [lm]; exact sz (by omega)) ⟨Same.new sm hD _, upd_same, rfl, Nat.zero_le _⟩ (fun j ys H' hj h => ⟨SqL.of (h.1 _ _ hl), ?_⟩) (fun j v ys H' R R0 hv h r r0 => ?_) (fun ys H' h => ?_)⟩
    · rw [h.2.2.1, List.length_map]
      exact Nat.le_trans (List.length_filter_le _ _) (by rw [List.length_take]; omega)
    · obtain ⟨sj, hy, ey, hj⟩ := h
      obtain ⟨c, rfl⟩ := get_int hv
      have hc : ws[j]? = some c := by
        rw [List.getElem?_map] at hv
        cases h : ws[j]? with
        | none => rw [h] at hv; cases hv
        | some d => rw [h] at hv; injection hv with hv; injection hv with hv; rw [hv]
      have hj' : j < ws.length := (List.getElem?_eq_some_iff.mp hc).1
      have et : (ws.take (j + 1)).filter (fun x => decide (x ≤ (i : Int))) = (ws.take j).filter (fun x => decide (x ≤ (i : Int))) ++ (if decide (c ≤ (i : Int)) = true then [c] else []) := by
        rw [List.take_add_one, hc, List.filter_append]
        refine congrArg _ ?_
        by_cases hle : c ≤ (i : Int) <;> simp [hle]
      refine ⟨Ext.set rfl, _, rfl, _, rfl, _, _, rfl, rfl, _, rfl, ?_⟩
      rw [show (0 : Int) + (i : Int) = (i : Int) by omega]
      by_cases hle : c ≤ (i : Int)
      · refine iteP hle ⟨_, rfl, r _ _ hy ⟨sj.upd (sm.free hD) _, upd_same, ?_, hj'⟩⟩
        rw [et, if_pos (decide_eq_true hle), List.map_append, ← ey]
        rfl
      · refine iteN hle (r0 _ ⟨sj, hy, ?_, hj'⟩)
        rw [et, if_neg (by rw [decide_eq_false hle]; decide), List.append_nil]
        exact ey
    · obtain ⟨sj, hy, ey, hj⟩ := h
      rw [lm, List.take_length] at ey
      have lf := car.few i hi'
      rw [List.countP_eq_length_filter] at lf
      refine ⟨D, _, rfl, .inl (SqL.of hy), _, rfl, _, _, rfl, rfl, _, _, rfl, rfl, _, rfl, iteN ?_ ⟨_, rfl, sj⟩⟩
      rw [ey, List.length_map]
      omega
  · rintro σ H5 ⟨o1, rfl, sm⟩
    refine ⟨_, rfl, _, _, rfl, rfl, ?_⟩
    try dsimp only
    rw [decide_eq_true (show (0 : Int) < (ws.length : Int) by omega)]
    exact q _ sm
theorem ok__law_steps {ca : ClA} (CA : ClOk K mg ca) {f : Addr} {fd : FuncData} (F : Fun K "_law_steps" "_law_steps" s__law_steps f fd) (m_len : mg "len" = none) (m_range : mg "range" = none) : FnOk P w K mg base CX0 1 f fd ["_law_wishes"] (sp__law_steps K ca) := by
  refine F.ok sc__law_steps (fun vs H Q E h => ?_) (fun cdv A outer s H vs Q E hr h => ?_)
  · obtain ⟨l, ws, rfl, hl, hz, q⟩ := h
    rfl
  obtain ⟨l, ws, rfl, hl, hz, q⟩ := h
  refine ⟨_, pss_cons (ps_set (i := 1) sc__law_steps.nd rfl (Or.inr rfl) (pe_callB call_len_seq rfl m_len bb_len (pa_cons (pv 0) pa_nil)))
    (pss_one (ps_ret (pe_comp rfl (pi_range2 rfl m_range (pa_cons pe_int (pa_cons (pv 1) pa_nil))) rfl rfl rfl rfl (N := ["_law_k", "_law_size", "_law_wishes"]) (.own (.cap (j := 1) rfl rfl rfl (.cap (j := 0) rfl rfl rfl .nil))) (fun _ _ _ _ _ _ => (pg_name (i := 0) (by show List.Nodup (["_law_k", "_law_size", "_law_wishes"] : List Str); decide +kernel) rfl (Or.inl rfl))) (fun _ _ _ _ _ _ => pts_nil) (fun _ _ _ _ _ _ => (pe_op op_mod (pe_op op_sub (pe_ix (ix_listK (K := K) rfl) (pv 2) (pv 0) (fun _ _ => rfl)) (pe_ix (ix_listK (K := K) rfl) (pv 2) (pe_op op_sub (pv 0) pe_int) (fun _ _ => rfl))) (pe_op op_add (pv 1) pe_int)))))), ?_⟩
  have lm : (ws.map V.int).length = ws.length := List.length_map _
  refine ⟨_, rfl, l, _, rfl, .inl (SqL.of hl), ?_⟩
  rw [lm]
  have at1 : ∀ i : Nat, i < ws.length → atI (ws.map V.int) (i : Int) = some (.int (ws.getD i 0)) := fun i hi => by
    have := atI_int (ns := ws) (i := (i : Int)) (by omega) (by omega)
    rw [show ((i : Int)).toNat = i by omega] at this
    exact this
  refine ⟨_, rfl, _, _, rfl, ⟨by decide, by decide, by omega, by omega⟩, fun D hD => comp_range (lo := 1) (n := ((ws.length : Int) - 1).toNat) (fun (i : Nat) => .int ((ws.getD (i + 1) 0 - ws.getD i 0) % ((ws.length : Int) + 1))) (sz (by omega)) (fun i H' R R0 hi hb hR => ?_) ?_⟩
  · have a1 := at1 (i + 1) (by omega)
    have a0 := at1 i (by omega)
    rw [show ((i + 1 : Nat) : Int) = (1 : Int) + (i : Int) by omega] at a1
    rw [show ((i : Nat) : Int) = (1 : Int) + (i : Int) - 1 by omega] at a0
    have nD : l ≠ D := ne_of_none hl hD
    have hl3 := (hb l nD).trans hl
    exact ⟨Ext.set rfl, ttN (iteT ⟨_, rfl, _, rfl, l, _, _, _, rfl, rfl, SqL.of hl3, a1, _, rfl, _, rfl, _, _, rfl, rfl, l, _, _, _, rfl, rfl, SqL.of hl3, a0, _, _, rfl, rfl, _, rfl, _, _, rfl, rfl, _, _, rfl, rfl, by omega, hR⟩)⟩
  · have em : (List.range ((ws.length : Int) - 1).toNat).map (fun (i : Nat) => V.int ((ws.getD (i + 1) 0 - ws.getD i 0) % ((ws.length : Int) + 1))) = (steps ws).map V.int := by
      unfold steps
      rw [List.map_map, show ((ws.length : Int) - 1).toNat = ws.length - 1 by omega]
      rfl
    rw [em]
    exact q D _ (Same.new (Same.refl H) hD _) hD upd_same
theorem ok__law_has_code {ca : ClA} (CA : ClOk K mg ca) {f : Addr} {fd : FuncData} (F : Fun K "_law_has_code" "_law_has_code" s__law_has_code f fd) {f0 : Addr} {fd0 : FuncData} (d__law_whole : Def P w K mg base "_law_whole" ["_law_found"] 1 (sp__law_whole K ca) f0 fd0) {f1 : Addr} {fd1 : FuncData} (d__law_is_tree : Def P w K mg base "_law_is_tree" ["_law_elders"] 1 (sp__law_is_tree K ca) f1 fd1) {f2 : Addr} {fd2 : FuncData} (d__law_code : Def P w K mg base "_law_code" ["_law_elders"] 1 (sp__law_code K ca) f2 fd2) {f3 : Addr} {fd3 : FuncData} (d__law_all_park : Def P w K mg base "_law_all_park" ["_law_wishes"] 1 (sp__law_all_park K ca) f3 fd3) {f4 : Addr} {fd4 : FuncData} (d__law_steps : Def P w K mg base "_law_steps" ["_law_wishes"] 1 (sp__law_steps K ca) f4 fd4) (m_isinstance : mg "isinstance" = none) (m_list : mg "list" = none) (m_len : mg "len" = none) (m_int : mg "int" = none) : FnOk P w K mg base CX0 2 f fd ["_law_word", "_law_found", "_law_code_here"] (sp__law_has_code K ca) := by
  refine F.ok sc__law_has_code (fun vs H Q E h => ?_) (fun cdv A outer s H vs Q E hr h => ?_)
  · obtain ⟨w, l, p, ns, cs, rfl, hw, hl, hp, rg, hc, q⟩ := h
    rfl
  obtain ⟨w, l, p, ns, cs, rfl, hw, hl, hp, rg, hc, q⟩ := h
  refine ⟨_, pss_cons (ps_if (PW.pt (pw_or (pt_not (pt_val (pe_callB call_isinst rfl m_isinstance bb_isinstance (pa_cons (pv 1) (pa_cons (pe_bltn (v := .ty "list") rfl m_list bb_list rfl) pa_nil))))) (pw_or1 (pt_cmpR op_ne (pe_callB call_len_seq rfl m_len bb_len (pa_cons (pv 1) pa_nil)) (pe_op op_add (pe_callB call_len_seq rfl m_len bb_len (pa_cons (pv 2) pa_nil)) (pe_callTy call_int1 rfl m_int bb_int (pa_cons (pe_cmpR op_gt (pv 0) pe_int (nomark _)) pa_nil))) (nomark _))))) (pss_one (ps_ret pe_bl)) pss_nil)
    (pss_cons (ps_for PassesOwn.never rfl (pi_list (pv 1)) (pg_name (i := 3) sc__law_has_code.nd rfl (Or.inl rfl)) (pss_one (ps_if (pt_not (pt_val (pcall d__law_whole hr (pa_cons (pv 3) pa_nil)))) (pss_one (ps_ret pe_bl)) pss_nil)))
    (pss_cons (ps_if (pt_cmpR op_eq (pv 0) pe_int (nomark _)) (pss_one (ps_ret (pe_cmpR (op_eq_list (hu0 hr)) (pv 1) (pv 2) (nomark _)))) pss_nil)
    (pss_cons (ps_if (pt_cmpR op_eq (pv 0) pe_int (nomark _)) (pss_one (ps_ret (pe_and (pcall d__law_is_tree hr (pa_cons (pv 1) pa_nil)) (pe_one (pe_cmpR (op_eq_list (hu0 hr)) (pcall d__law_code hr (pa_cons (pv 1) pa_nil)) (pv 2) (nomark _)))))) pss_nil)
    (pss_one (ps_ret (pe_and (pcall d__law_all_park hr (pa_cons (pv 1) pa_nil)) (pe_one (pe_cmpR (op_eq_list (hu0 hr)) (pcall d__law_steps hr (pa_cons (pv 1) pa_nil)) (pv 2) (nomark _))))))))), ?_⟩
  have lm : (ns.map V.int).length = ns.length := List.length_map _
  have lc : (cs.map V.int).length = cs.length := List.length_map _
  have le := rg.len
  have el : ((ns.map V.int).length : Int) = ((cs.map V.int).length : Int) + (if decide ((w : Int) > 0) = true then 1 else 0) := by
    rw [lm, lc]
    by_cases h : w = 0
    · subst h
      have e : ns = cs := rg.2
      rw [e]; simp
    · rw [rg.lenO h, if_pos (decide_eq_true (by omega))]; omega
  have last : ∀ (b : Bool) (H' : Hp), b = true → Same H H' → Q (.bl b) H' := fun b H' e s => by rw [e]; exact q _ s
  refine ⟨_, rfl, _, _, _, _, _, rfl, relTy, .lst hl, kit_list_list, _, rfl, iteF ⟨_, rfl, l, _, rfl, .inl (SqL.of hl), _, rfl, p, _, rfl, .inl (SqL.of hp), _, rfl, _, _, rfl, rfl, .inr ⟨_, rfl, _, _, rfl, rfl, rfl, _, rfl, iteNS (congrArg V.int el) ?_⟩⟩⟩
  refine ⟨_, rfl, l, rfl, ⟨_, SqL.of hl⟩, for_list (xs := ns.map V.int) (fun i σ H' => ∃ (o1 : Option V), σ = [some (.int (w : Int)), some (.ref l), some (.ref p), o1] ∧ H = H') ⟨_, rfl, rfl⟩ (fun i σ H' _ h => by obtain ⟨o1, _, e⟩ := h; rw [← e]; exact SqL.of hl) ?_ ?_⟩
  · rintro i v σ H' hv ⟨o1, rfl, rfl⟩
    obtain ⟨c, rfl⟩ := get_int hv
    exact ⟨_, rfl, c, rfl, _, rfl, iteF ⟨_, rfl, rfl⟩⟩
  rintro σ H' ⟨o1, rfl, rfl⟩
  refine ⟨_, rfl, rfl, _, rfl, ?_⟩
  by_cases h0 : w = 0
  · subst h0
    have e : ns = cs := rg.2
    subst e
    refine iteP rfl ⟨_, rfl, _, rfl, l, p, _, _, rfl, rfl, SqL.of hl, SqL.of hp, flat_ints _, flat_ints _, ?_⟩
    exact last _ _ (eqL_self _) (Same.refl H)
  refine iteN (fun z => h0 (by injection z with z; omega)) ⟨_, rfl, rfl, _, rfl, ?_⟩
  by_cases h1 : w = 1
  · subst h1
    refine iteP rfl ⟨_, rfl, l, ns, rfl, hl, by omega, fun H4 s4 => ⟨_, rfl, ?_⟩⟩
    rw [rg.2.1]
    refine iteT ⟨_, rfl, l, ns, rfl, s4 _ _ hl, by omega, rg.2.1, fun pc w0 ts' H5 s5 f5 h5 enc e' => ?_⟩
    have ew := tree_code rg enc e'
    subst ew
    have s45 := s4.trans s5
    refine ⟨_, rfl, pc, p, _, _, rfl, rfl, SqL.of h5, SqL.of (s45 _ _ hp), flat_ints _, flat_ints _, ?_⟩
    exact last _ _ (eqL_self _) s45
  have h2 : w = 2 := by omega
  subst h2
  have hne : ns ≠ [] := by
    intro z
    have := rg.lenO (by decide)
    rw [z] at this
    cases this
  refine iteN (fun z => h1 (by injection z with z; omega)) ⟨_, rfl, l, ns, rfl, hl, hne, by omega, rg.2.1, fun H4 s4 => ⟨_, rfl, iteT ⟨_, rfl, l, ns, rfl, s4 _ _ hl, by omega, fun pc H5 s5 f5 h5 => ?_⟩⟩⟩
  have es : steps ns = cs := rg.2.2.2
  rw [es] at h5
  have s45 := s4.trans s5
  refine ⟨_, rfl, pc, p, _, _, rfl, rfl, SqL.of h5, SqL.of (s45 _ _ hp), flat_ints _, flat_ints _, ?_⟩
  exact last _ _ (eqL_self _) s45
theorem ok__law_figures_of {ca : ClA} (CA : ClOk K mg ca) {f : Addr} {fd : FuncData} (F : Fun K "_law_figures_of" "_law_figures_of" s__law_figures_of f fd) (m_range : mg "range" = none) : FnOk P w K mg base CX0 1 f fd ["_law_size", "_law_number_here"] (sp__law_figures_of K ca) := by
  refine F.ok sc__law_figures_of (fun vs H Q E h => ?_) (fun cdv A outer s H vs Q E hr h => ?_)
  · obtain ⟨n, m, rfl, n1, n40, q⟩ := h
    rfl
  obtain ⟨n, m, rfl, n1, n40, q⟩ := h
  refine ⟨_, pss_cons (ps_set (i := 2) sc__law_figures_of.nd rfl (Or.inl rfl) (pe_lst pa_nil))
    (pss_cons (ps_for PassesOwn.never rfl (pi_range1 rfl m_range (pa_cons (pe_op op_sub (pv 0) pe_int) pa_nil)) (pg_name (i := 3) sc__law_figures_of.nd rfl (Or.inl rfl)) (pss_cons (ps_set (i := 2) sc__law_figures_of.nd rfl (Or.inl rfl) (pe_op op_cat (pe_lst (pa_cons (pe_op op_mod (pv 1) (pe_op op_add (pv 0) pe_int)) pa_nil)) (pv 2)))
    (pss_one (ps_set (i := 1) sc__law_figures_of.nd rfl (Or.inl rfl) (pe_op op_fdivL (pv 1) (pe_op op_add (pv 0) pe_int))))))
    (pss_one (ps_ret (pv 2)))), ?_⟩
  refine ⟨Nat.zero_le _, fun p0 hp0 => ?_⟩
  have s0 := Same.new (Same.refl H) hp0 (.lst [])
  refine ⟨_, rfl, _, _, rfl, rfl, _, rfl, by omega, by omega, for_range (lo := 0) (n := (n - 1).toNat) (fun i σ H' => ∃ (o : Option V) (pc : Addr), σ = [some (.int n), some (.int (dv (n + 1) i m)), some (.ref pc), o] ∧ Same H H' ∧ H pc = none ∧ H' pc = some (.lst ((figs (n + 1) i m).map V.int)) ∧ i ≤ 40) ⟨_, p0, rfl, s0, hp0, upd_same, Nat.zero_le _⟩ ?_ ?_⟩
  · rintro i σ H' hi ⟨o, pc, rfl, sm, fc, hpc, hle⟩
    have lf := figs_len (n + 1) i m
    refine ⟨_, rfl, _, rfl, _, _, rfl, rfl, _, _, rfl, rfl, by omega, (by show 1 ≤ sizeLine; decide), fun q1 hq1 => ?_⟩
    have s1 := Same.new (Same.refl H') hq1 (.lst [.int (dv (n + 1) i m % (n + 1))])
    refine ⟨_, rfl, q1, pc, _, _, rfl, rfl, upd_same, s1 _ _ hpc, sz (by rw [List.length_map, lf]; simp; omega), fun q2 hq2 => ?_⟩
    have s2 := Same.new s1 hq2 (.lst ([.int (dv (n + 1) i m % (n + 1))] ++ (figs (n + 1) i m).map V.int))
    refine ⟨_, rfl, _, rfl, _, _, rfl, rfl, _, _, rfl, rfl, ⟨by omega, Nat.lt_of_le_of_lt (Nat.log2_le_self _) (by omega)⟩, ?_⟩
    refine ⟨_, q2, by rw [dv_succ]; rfl, sm.trans s2, sm.free (s1.free hq2), ?_, by omega⟩
    rw [figs_front]
    exact upd_same
  · rintro σ H' ⟨o, pc, rfl, sm, fc, hpc, hle⟩
    exact ⟨_, rfl, q pc H' sm fc hpc⟩
theorem ok_Codes__is_one {ca : ClA} (CA : ClOk K mg ca) {fd : FuncData} (F : Fun K "is_one" "Codes.is_one" s_Codes__is_one ca.f_Codes__is_one fd) (m_len : mg "len" = none) (m_all : mg "all" = none) : FnOk P w K mg base CX0 1 ca.f_Codes__is_one fd ["self", "thing"] (sp_Codes__is_one K ca) := by
  refine F.ok sc_Codes__is_one (fun vs H Q E h => ?_) (fun cdv A outer s H vs Q E hr h => ?_)
  · obtain ⟨x, l, cs, rfl, hl, hz, q⟩ := h
    rfl
  obtain ⟨x, l, cs, rfl, hl, hz, q⟩ := h
  refine ⟨_, pss_cons (ps_set (i := 2) sc_Codes__is_one.nd rfl (Or.inr rfl) (pe_op op_add (pe_callB call_len_seq rfl m_len bb_len (pa_cons (pv 1) pa_nil)) pe_int))
    (pss_one (ps_ret (pe_callB (call_all rfl) rfl m_all bb_all (pa_cons (pe_comp rfl (pi_list (pv 1)) rfl rfl rfl rfl (N := ["number", "size"]) (.own (.cap (j := 2) rfl rfl rfl .nil)) (fun _ _ _ _ _ _ => (pg_name (i := 0) (by show List.Nodup (["number", "size"] : List Str); decide +kernel) rfl (Or.inl rfl))) (fun _ _ _ _ _ _ => pts_nil) (fun _ _ _ _ _ _ => (pe_chain op_le op_le pe_int (pv 0) (pv 1)))) pa_nil)))), ?_⟩
  have lm : (cs.map V.int).length = cs.length := List.length_map _
  refine ⟨_, rfl, l, _, rfl, .inl (SqL.of hl), _, _, rfl, rfl, ?_⟩
  try dsimp only
  rw [lm]
  refine ⟨_, rfl, l, rfl, ⟨_, SqL.of hl⟩, fun D hD => comp_list (fun v => match v with | .int c => .bl (decide (0 ≤ c) && decide (c ≤ (cs.length : Int) + 1)) | v => v) (by rw [lm]; exact sz (by omega)) (SqL.of hl) hD (fun i v H' R R0 hx hb hR => ?_) ?_⟩
  · obtain ⟨c, rfl⟩ := get_int hx
    refine ⟨Ext.set rfl, ttN (iteT ⟨_, rfl, _, _, rfl, rfl, _, rfl, ?_⟩)⟩
    by_cases h0 : 0 ≤ c
    · refine iteP h0 ⟨_, rfl, _, _, rfl, rfl, ?_⟩
      have hR' : R (.bl (decide (0 ≤ c) && decide (c ≤ (cs.length : Int) + 1))) H' := hR
      rw [decide_eq_true h0, Bool.true_and] at hR'
      exact hR'
    · refine iteN h0 ?_
      have hR' : R (.bl (decide (0 ≤ c) && decide (c ≤ (cs.length : Int) + 1))) H' := hR
      rw [decide_eq_false h0, Bool.false_and] at hR'
      exact hR'
  have em : (cs.map V.int).map (fun v => match v with | .int c => .bl (decide (0 ≤ c) && decide (c ≤ (cs.length : Int) + 1)) | v => v) = (cs.map fun c => decide (0 ≤ c) && decide (c ≤ (cs.length : Int) + 1)).map V.bl := by rw [List.map_map, List.map_map]; rfl
  rw [em]
  refine ⟨D, _, rfl, SqL.of upd_same, ?_⟩
  have ea : (cs.map fun c => decide (0 ≤ c) && decide (c ≤ (cs.length : Int) + 1)).all id = cs.all fun c => decide (0 ≤ c) && decide (c ≤ (cs.length : Int) + 1) := by rw [List.all_map]; rfl
  rw [ea]
  exact q _ (Same.new (Same.refl H) hD _)
theorem ok_Codes__Family_refuse_other {ca : ClA} (CA : ClOk K mg ca) {fd : FuncData} (F : Fun K "refuse_other" "Family.refuse_other" s_Codes__Family_refuse_other ca.f_Codes__Family_refuse_other fd) {fd0 : FuncData} (d_Codes__is_one : MDef P w K mg base ["self", "thing"] 1 (sp_Codes__is_one K ca) ca.f_Codes__is_one fd0) : FnOk P w K mg base CX0 2 ca.f_Codes__Family_refuse_other fd ["self", "thing"] (sp_Codes__Family_refuse_other K ca) := by
  refine F.ok sc_Codes__Family_refuse_other (fun vs H Q E h => ?_) (fun cdv A outer s H vs Q E hr h => ?_)
  · obtain ⟨x, dx, fs, l, cs, rfl, hx, fo, hl, hz, hb, q⟩ := h
    rfl
  obtain ⟨x, dx, fs, l, cs, rfl, hx, fo, hl, hz, hb, q⟩ := h
  refine ⟨_, pss_one (ps_if (pt_not (pt_val (pmeth (pv 0) CA.c_Codes CA.mt_Codes_is_one d_Codes__is_one hr (pa_cons (pv 1) pa_nil)))) (pss_one ps_never) pss_nil), ?_⟩
  have e : (cs.all fun c => decide (0 ≤ c) && decide (c ≤ (cs.length : Int) + 1)) = true := by
    rw [List.all_eq_true]
    intro c hc
    have := hb c hc
    rw [Bool.and_eq_true]
    exact ⟨decide_eq_true this.1, decide_eq_true this.2⟩
  exact ⟨_, rfl, x, dx, fs, rfl, hx, fo, _, rfl, x, l, cs, rfl, hl, hz, fun H1 s1 => ⟨_, rfl, by rw [e]; exact iteF (q H1 s1)⟩⟩
theorem ok_figures_number {ca : ClA} (CA : ClOk K mg ca) {f : Addr} {fd : FuncData} (F : Fun K "figures_number" "figures_number" s_figures_number f fd) : FnOk P w K mg base CX0 1 f fd ["figures", "base"] (sp_figures_number K ca) := by
  refine F.ok sc_figures_number (fun vs H Q E h => ?_) (fun cdv A outer s H vs Q E hr h => ?_)
  · obtain ⟨l, cs, b, rfl, hl, b0, b1, q⟩ := h
    rfl
  obtain ⟨l, cs, b, rfl, hl, b0, b1, q⟩ := h
  refine ⟨_, pss_cons (ps_set (i := 2) sc_figures_number.nd rfl (Or.inl rfl) pe_int)
    (pss_cons (ps_for PassesOwn.never rfl (pi_list (pv 0)) (pg_name (i := 3) sc_figures_number.nd rfl (Or.inl rfl)) (pss_one (ps_set (i := 2) sc_figures_number.nd rfl (Or.inl rfl) (pe_op op_add (pe_op op_mul (pv 2) (pv 1)) (pv 3)))))
    (pss_one (ps_ret (pv 2)))), ?_⟩
  refine ⟨_, rfl, l, rfl, ⟨_, hl⟩, for_list (xs := cs.map V.int) (fun i σ H' => ∃ (o : Option V), σ = [some (.ref l), some (.int b), some (.int (fig b (cs.take i))), o] ∧ H = H') ⟨_, rfl, rfl⟩ (fun i σ H' _ h => by obtain ⟨o, _, e⟩ := h; rw [← e]; exact hl) ?_ ?_⟩
  · rintro i v σ H' hv ⟨o, rfl, rfl⟩
    obtain ⟨c, rfl⟩ := get_int hv
    have hc : cs[i]? = some c := by
      rw [List.getElem?_map] at hv
      cases h : cs[i]? with
      | none => rw [h] at hv; cases hv
      | some d => rw [h] at hv; injection hv with hv; injection hv with hv; rw [hv]
    have e : fig b (cs.take (i + 1)) = fig b (cs.take i) * b + c := by rw [List.take_add_one, hc]; exact fig_snoc _ _ _
    refine ⟨_, rfl, _, rfl, _, _, rfl, rfl, .inr ⟨by omega, by omega⟩, _, rfl, _, _, rfl, rfl, ?_⟩
    rw [e]
    exact ⟨_, rfl, rfl⟩
  · rintro σ H' ⟨o, rfl, rfl⟩
    rw [List.length_map, List.take_length]
    exact ⟨_, rfl, q⟩
theorem ok_Codes__size_of {ca : ClA} (CA : ClOk K mg ca) {fd : FuncData} (F : Fun K "size_of" "Codes.size_of" s_Codes__size_of ca.f_Codes__size_of fd) (m_len : mg "len" = none) : FnOk P w K mg base CX0 1 ca.f_Codes__size_of fd ["self", "thing"] (sp_Codes__size_of K ca) := by
  refine F.ok sc_Codes__size_of (fun vs H Q E h => ?_) (fun cdv A outer s H vs Q E hr h => ?_)
  · obtain ⟨x, l, ns, cs, rfl, hl, rg, q⟩ := h
    rfl
  obtain ⟨x, l, ns, cs, rfl, hl, rg, q⟩ := h
  refine ⟨_, pss_one (ps_ret (pe_op op_add (pe_callB call_len_seq rfl m_len bb_len (pa_cons (pv 1) pa_nil)) pe_int)), ?_⟩
  obtain ⟨_, rfl⟩ := rg
  refine ⟨_, rfl, l, _, rfl, .inl (SqL.of hl), _, _, rfl, rfl, ?_⟩
  try dsimp only
  rw [List.length_map]
  exact q
theorem ok_Codes__code_of {ca : ClA} (CA : ClOk K mg ca) {fd : FuncData} (F : Fun K "code_of" "Codes.code_of" s_Codes__code_of ca.f_Codes__code_of fd) (m_list : mg "list" = none) : FnOk P w K mg base CX0 1 ca.f_Codes__code_of fd ["self", "thing"] (sp_Codes__code_of K ca) := by
  refine F.ok sc_Codes__code_of (fun vs H Q E h => ?_) (fun cdv A outer s H vs Q E hr h => ?_)
  · obtain ⟨x, l, ns, rfl, hl, q⟩ := h
    rfl
  obtain ⟨x, l, ns, rfl, hl, q⟩ := h
  refine ⟨_, pss_one (ps_ret (pe_callTy call_list_of rfl m_list bb_list (pa_cons (pv 1) pa_nil))), ?_⟩
  exact ⟨_, rfl, l, _, rfl, .inl hl, fun p hp => q p _ (Same.new (Same.refl H) hp _) hp upd_same⟩
theorem ok_Codes__RingFamily_unchecked_number {ca : ClA} (CA : ClOk K mg ca) {fd : FuncData} (F : Fun K "unchecked_number" "RingFamily.unchecked_number" s_Codes__RingFamily_unchecked_number ca.f_Codes__RingFamily_unchecked_number fd) {f0 : Addr} {fd0 : FuncData} (d_figures_number : Def P w K mg base "figures_number" ["figures", "base"] 1 (sp_figures_number K ca) f0 fd0) {fd1 : FuncData} (d_Codes__size_of : MDef P w K mg base ["self", "thing"] 1 (sp_Codes__size_of K ca) ca.f_Codes__size_of fd1) {fd2 : FuncData} (d_Codes__code_of : MDef P w K mg base ["self", "thing"] 1 (sp_Codes__code_of K ca) ca.f_Codes__code_of fd2) : FnOk P w K mg base CX0 2 ca.f_Codes__RingFamily_unchecked_number fd ["self", "thing"] (sp_Codes__RingFamily_unchecked_number K ca) := by
  refine F.ok sc_Codes__RingFamily_unchecked_number (fun vs H Q E h => ?_) (fun cdv A outer s H vs Q E hr h => ?_)
  · obtain ⟨x, dx, fs, wd, l, ns, cs, rfl, hx, fl, hl, rg, hc, q⟩ := h
    rfl
  obtain ⟨x, dx, fs, wd, l, ns, cs, rfl, hx, fl, hl, rg, hc, q⟩ := h
  refine ⟨_, pss_one (ps_ret (pcall d_figures_number hr (pa_cons (pmeth (pv 0) CA.c_Codes CA.mt_Codes_code_of d_Codes__code_of hr (pa_cons (pv 1) pa_nil)) (pa_cons (pe_op op_add (pmeth (pv 0) CA.c_Codes CA.mt_Codes_size_of d_Codes__size_of hr (pa_cons (pv 1) pa_nil)) pe_int) pa_nil)))), ?_⟩
  refine ⟨_, rfl, x, dx, fs, rfl, hx, fl.no "code_of" (by decide) (by decide), _, rfl, x, l, ns, rfl, SqL.of hl, fun p H1 s1 f1 h1 => ?_⟩
  rw [show ns = cs from rg.2] at h1
  refine ⟨_, rfl, x, dx, fs, rfl, s1 _ _ hx, fl.no "size_of" (by decide) (by decide), _, rfl, x, l, ns, cs, rfl, s1 _ _ hl, rg, _, _, rfl, rfl, ?_⟩
  try dsimp only
  rw [show (cs.length : Int) + 1 + 1 = (cs.length : Int) + 2 by omega]
  exact ⟨p, cs, _, rfl, SqL.of h1, by omega, by omega, q _ s1⟩
theorem ok_Codes__Family_number_of {ca : ClA} (CA : ClOk K mg ca) {fd : FuncData} (F : Fun K "number_of" "Family.number_of" s_Codes__Family_number_of ca.f_Codes__Family_number_of fd) {fd0 : FuncData} (d_Codes__Family_refuse_other : MDef P w K mg base ["self", "thing"] 2 (sp_Codes__Family_refuse_other K ca) ca.f_Codes__Family_refuse_other fd0) {fd1 : FuncData} (d_Codes__RingFamily_unchecked_number : MDef P w K mg base ["self", "thing"] 2 (sp_Codes__RingFamily_unchecked_number K ca) ca.f_Codes__RingFamily_unchecked_number fd1) : FnOk P w K mg base CX0 3 ca.f_Codes__Family_number_of fd ["self", "thing"] (sp_Codes__Family_number_of K ca) := by
  refine F.ok sc_Codes__Family_number_of (fun vs H Q E h => ?_) (fun cdv A outer s H vs Q E hr h => ?_)
  · obtain ⟨x, dx, fs, wd, l, ns, cs, rfl, hx, fl, hl, rg, hc, q⟩ := h
    rfl
  obtain ⟨x, dx, fs, wd, l, ns, cs, rfl, hx, fl, hl, rg, hc, q⟩ := h
  refine ⟨_, pss_cons (ps_expr (pmeth (pv 0) CA.c_Codes CA.mt_Codes_refuse_other d_Codes__Family_refuse_other hr (pa_cons (pv 1) pa_nil)))
    (pss_one (ps_ret (pmeth (pv 0) CA.c_Codes CA.mt_Codes_unchecked_number d_Codes__RingFamily_unchecked_number hr (pa_cons (pv 1) pa_nil)))), ?_⟩
  refine ⟨_, rfl, x, dx, fs, rfl, hx, fl.no "refuse_other" (by decide) (by decide), _, rfl, x, dx, fs, l, ns, rfl, hx, fl.no "is_one" (by decide) (by decide), hl, (by have := rg.len; omega), (by have e : ns = cs := rg.2; rw [e]; exact rg.1), fun H1 s1 => ?_⟩
  exact ⟨_, rfl, x, dx, fs, rfl, s1 _ _ hx, fl.no "unchecked_number" (by decide) (by decide), _, rfl, x, dx, fs, wd, l, ns, cs, rfl, s1 _ _ hx, fl, s1 _ _ hl, rg, hc, fun H2 s2 => q _ (s1.trans s2)⟩
theorem ok_comes_to_0 {ca : ClA} (CA : ClOk K mg ca) {f : Addr} {fd : FuncData} (F : Fun K "comes_to_0" "comes_to_0" s_comes_to_0 f fd) (m_range : mg "range" = none) (m_len : mg "len" = none) : FnOk P w K mg base CX0 1 f fd ["elders", "knot"] (sp_comes_to_0 K ca) := by
  refine F.ok sc_comes_to_0 (fun vs H Q E h => ?_) (fun cdv A outer s H vs Q E hr h => ?_)
  · obtain ⟨l, es, r, rfl, hl, hz, hin, r0, r1, q⟩ := h
    rfl
  obtain ⟨l, es, r, rfl, hl, hz, hin, r0, r1, q⟩ := h
  refine ⟨_, pss_cons (ps_set (i := 2) sc_comes_to_0.nd rfl (Or.inl rfl) (pv 1))
    (pss_cons (ps_for PassesOwn.never rfl (pi_range1 rfl m_range (pa_cons (pe_callB call_len_seq rfl m_len bb_len (pa_cons (pv 0) pa_nil)) pa_nil)) (pg_name (i := 3) sc_comes_to_0.nd rfl (Or.inl rfl)) (pss_one (ps_if (pt_cmpR op_gt (pv 2) pe_int (nomark _)) (pss_one (ps_set (i := 2) sc_comes_to_0.nd rfl (Or.inl rfl) (pe_ix ix_list (pv 0) (pe_op op_sub (pv 2) pe_int) (fun _ _ => rfl)))) pss_nil)))
    (pss_one (ps_ret (pe_cmpR op_eq (pv 2) pe_int (nomark _))))), ?_⟩
  have lm : (es.map V.int).length = es.length := List.length_map _
  refine ⟨_, rfl, _, rfl, l, _, rfl, .inl hl, _, rfl, by omega, by omega, for_range (lo := 0) (n := (((es.map V.int).length : Nat) : Int).toNat) (fun i σ H' => ∃ (o : Option V), σ = [some (.ref l), some (.int r), some (.int (wlk es i r)), o] ∧ H = H') ⟨_, rfl, rfl⟩ ?_ ?_⟩
  · rintro i σ H' hi ⟨o, rfl, rfl⟩
    have b := wlk_in hin i r0 r1
    have es1 := wlk_succ es i r
    generalize wlk es i r = u at b es1
    refine ⟨_, rfl, _, _, rfl, rfl, _, rfl, ?_⟩
    by_cases hu : 0 < u
    · have at1 := atI_int (ns := es) (i := u - 1) (by omega) (by omega)
      refine iteP hu ⟨_, rfl, _, rfl, _, _, rfl, rfl, l, _, _, _, rfl, rfl, hl, at1, ?_⟩
      have e : stp es u = es.getD (u - 1).toNat 0 := by unfold stp; rw [if_pos hu]
      rw [← e, ← es1]
      exact ⟨_, rfl, rfl⟩
    · refine iteN hu ?_
      have e : stp es u = u := by unfold stp; rw [if_neg hu]
      rw [e] at es1
      rw [← es1]
      exact ⟨_, rfl, rfl⟩
  · rintro σ H' ⟨o, rfl, rfl⟩
    refine ⟨_, rfl, rfl, ?_⟩
    rw [show (((es.map V.int).length : Nat) : Int).toNat = es.length by omega, dec_int]
    exact q
theorem ok_Trees__is_one {ca : ClA} (CA : ClOk K mg ca) {fd : FuncData} (F : Fun K "is_one" "Trees.is_one" s_Trees__is_one ca.f_Trees__is_one fd) {f0 : Addr} {fd0 : FuncData} (d_comes_to_0 : Def P w K mg base "comes_to_0" ["elders", "knot"] 1 (sp_comes_to_0 K ca) f0 fd0) (m_len : mg "len" = none) (m_all : mg "all" = none) (m_range : mg "range" = none) : FnOk P w K mg base CX0 2 ca.f_Trees__is_one fd ["self", "thing"] (sp_Trees__is_one K ca) := by
  refine F.ok sc_Trees__is_one (fun vs H Q E h => ?_) (fun cdv A outer s H vs Q E hr h => ?_)
  · obtain ⟨x, l, es, rfl, hl, hz, q⟩ := h
    rfl
  obtain ⟨x, l, es, rfl, hl, hz, q⟩ := h
  refine ⟨_, pss_cons (ps_set (i := 2) sc_Trees__is_one.nd rfl (Or.inr rfl) (pe_callB call_len_seq rfl m_len bb_len (pa_cons (pv 1) pa_nil)))
    (pss_cons (ps_if (PW.pt (pw_or (pt_cmpR op_eq (pv 2) pe_int (nomark _)) (pw_or1 (pt_not (pt_val (pe_callB (call_all rfl) rfl m_all bb_all (pa_cons (pe_comp rfl (pi_list (pv 1)) rfl rfl rfl rfl (N := ["elder", "size"]) (.own (.cap (j := 2) rfl rfl rfl .nil)) (fun _ _ _ _ _ _ => (pg_name (i := 0) (by show List.Nodup (["elder", "size"] : List Str); decide +kernel) rfl (Or.inl rfl))) (fun _ _ _ _ _ _ => pts_nil) (fun _ _ _ _ _ _ => (pe_chain op_le op_le pe_int (pv 0) (pv 1)))) pa_nil))))))) (pss_one (ps_ret pe_bl)) pss_nil)
    (pss_one (ps_ret (pe_callB (call_all rfl) rfl m_all bb_all (pa_cons (pe_comp rfl (pi_range2 rfl m_range (pa_cons pe_int (pa_cons (pe_op op_add (pv 2) pe_int) pa_nil))) rfl rfl rfl rfl (N := ["knot", "thing"]) (.own (.cap (j := 1) rfl rfl rfl .nil)) (fun _ _ _ _ _ _ => (pg_name (i := 0) (by show List.Nodup (["knot", "thing"] : List Str); decide +kernel) rfl (Or.inl rfl))) (fun _ _ _ _ _ _ => pts_nil) (fun _ _ _ _ _ _ => (pcall d_comes_to_0 hr (pa_cons (pv 1) (pa_cons (pv 0) pa_nil))))) pa_nil))))), ?_⟩
  have lm : (es.map V.int).length = es.length := List.length_map _
  refine ⟨_, rfl, l, _, rfl, .inl (SqL.of hl), ?_⟩
  rw [lm]
  refine ⟨_, rfl, rfl, _, rfl, ?_⟩
  by_cases hn : es = []
  · subst hn
    exact iteP rfl (iteT (q _ (Same.refl H)))
  have hpos : 0 < es.length := List.length_pos_iff.mpr hn
  refine iteN (ne_int (by omega)) ?_
  refine ⟨_, rfl, l, rfl, ⟨_, SqL.of hl⟩, fun D hD => comp_list (fun v => match v with | .int c => .bl (decide (0 ≤ c) && decide (c ≤ (es.length : Int))) | v => v) (by rw [lm]; exact sz (by omega)) (SqL.of hl) hD (fun i v H' R R0 hx hb hR => ?_) ?_⟩
  · obtain ⟨c, rfl⟩ := get_int hx
    refine ⟨Ext.set rfl, ttN (iteT ⟨_, rfl, _, _, rfl, rfl, _, rfl, ?_⟩)⟩
    by_cases h0 : 0 ≤ c
    · refine iteP h0 ⟨_, rfl, _, _, rfl, rfl, ?_⟩
      have hR' : R (.bl (decide (0 ≤ c) && decide (c ≤ (es.length : Int)))) H' := hR
      rw [decide_eq_true h0, Bool.true_and] at hR'
      exact hR'
    · refine iteN h0 ?_
      have hR' : R (.bl (decide (0 ≤ c) && decide (c ≤ (es.length : Int)))) H' := hR
      rw [decide_eq_false h0, Bool.false_and] at hR'
      exact hR'
  have em : (es.map V.int).map (fun v => match v with | .int c => .bl (decide (0 ≤ c) && decide (c ≤ (es.length : Int))) | v => v) = (es.map fun c => decide (0 ≤ c) && decide (c ≤ (es.length : Int))).map V.bl := by rw [List.map_map, List.map_map]; rfl
  rw [em]
  have s1 := Same.new (Same.refl H) hD (.lst ((es.map fun c => decide (0 ≤ c) && decide (c ≤ (es.length : Int))).map V.bl))
  refine ⟨D, _, rfl, SqL.of upd_same, _, rfl, ?_⟩
  have ea : (es.map fun c => decide (0 ≤ c) && decide (c ≤ (es.length : Int))).all id = inR es := by rw [List.all_map]; rfl
  rw [ea]
  rw [isTree_cons hn] at q
  cases hin : inR es with
  | false =>
    rw [hin, Bool.false_and] at q
    exact iteT (q _ s1)
  | true =>
    rw [hin, Bool.true_and] at q
    refine iteF ?_
    generalize upd H D (.lst ((es.map fun c => decide (0 ≤ c) && decide (c ≤ (es.length : Int))).map V.bl)) = H1 at s1 ⊢
    have hl1 := s1 _ _ hl
    refine ⟨_, rfl, _, _, rfl, rfl, _, _, rfl, ⟨by decide, by decide, by omega, by omega⟩, fun D2 hD2 => comp_range (lo := 1) (n := ((es.length : Int) + 1 - 1).toNat) (fun (i : Nat) => .bl (cm0 es i)) (sz (by omega)) (fun i H' R R0 hi hb hR => ?_) ?_⟩
    · have nD : l ≠ D2 := ne_of_none hl1 hD2
      have hl3 := (hb l nD).trans hl1
      refine ⟨Ext.set rfl, ttN (iteT ⟨_, rfl, _, rfl, l, es, _, rfl, SqL.of hl3, hz, hin, by omega, by omega, ?_⟩)⟩
      unfold cm0 at hR
      rw [show (1 : Int) + (i : Int) = (i : Int) + 1 by omega]
      exact hR
    · have em2 : (List.range ((es.length : Int) + 1 - 1).toNat).map (fun (i : Nat) => V.bl (cm0 es i)) = ((List.range es.length).map (cm0 es)).map V.bl := by rw [List.map_map, show ((es.length : Int) + 1 - 1).toNat = es.length by omega]; rfl
      rw [em2]
      refine ⟨D2, _, rfl, SqL.of upd_same, ?_⟩
      have ea2 : ((List.range es.length).map (cm0 es)).all id = (List.range es.length).all (cm0 es) := by rw [List.all_map]; rfl
      rw [ea2]
      exact q _ (Same.new s1 hD2 _)
theorem ok_Trees__Family_refuse_other {ca : ClA} (CA : ClOk K mg ca) {fd : FuncData} (F : Fun K "refuse_other" "Family.refuse_other" s_Trees__Family_refuse_other ca.f_Trees__Family_refuse_other fd) {fd0 : FuncData} (d_Trees__is_one : MDef P w K mg base ["self", "thing"] 2 (sp_Trees__is_one K ca) ca.f_Trees__is_one fd0) : FnOk P w K mg base CX0 3 ca.f_Trees__Family_refuse_other fd ["self", "thing"] (sp_Trees__Family_refuse_other K ca) := by
  refine F.ok sc_Trees__Family_refuse_other (fun vs H Q E h => ?_) (fun cdv A outer s H vs Q E hr h => ?_)
  · obtain ⟨x, dx, fs, l, es, rfl, hx, fo, hl, hz, ht, q⟩ := h
    rfl
  obtain ⟨x, dx, fs, l, es, rfl, hx, fo, hl, hz, ht, q⟩ := h
  refine ⟨_, pss_one (ps_if (pt_not (pt_val (pmeth (pv 0) CA.c_Trees CA.mt_Trees_is_one d_Trees__is_one hr (pa_cons (pv 1) pa_nil)))) (pss_one ps_never) pss_nil), ?_⟩
  exact ⟨_, rfl, x, dx, fs, rfl, hx, fo, _, rfl, x, l, es, rfl, hl, hz, fun H1 s1 => ⟨_, rfl, by rw [ht]; exact iteF (q H1 s1)⟩⟩
theorem ok_Trees__size_of {ca : ClA} (CA : ClOk K mg ca) {fd : FuncData} (F : Fun K "size_of" "Trees.size_of" s_Trees__size_of ca.f_Trees__size_of fd) (m_len : mg "len" = none) : FnOk P w K mg base CX0 1 ca.f_Trees__size_of fd ["self", "thing"] (sp_Trees__size_of K ca) := by
  refine F.ok sc_Trees__size_of (fun vs H Q E h => ?_) (fun cdv A outer s H vs Q E hr h => ?_)
  · obtain ⟨x, l, ns, cs, rfl, hl, rg, q⟩ := h
    rfl
  obtain ⟨x, l, ns, cs, rfl, hl, rg, q⟩ := h
  refine ⟨_, pss_one (ps_ret (pe_callB call_len_seq rfl m_len bb_len (pa_cons (pv 1) pa_nil))), ?_⟩
  refine ⟨_, rfl, l, _, rfl, .inl (SqL.of hl), ?_⟩
  have e : ((ns.map V.int).length : Int) = (cs.length : Int) + 1 := by rw [List.length_map, rg.lenO (by decide)]; omega
  rw [e]
  exact q
theorem ok_Trees__code_of {ca : ClA} (CA : ClOk K mg ca) {fd : FuncData} (F : Fun K "code_of" "Trees.code_of" s_Trees__code_of ca.f_Trees__code_of fd) (m_list : mg "list" = none) (m_range : mg "range" = none) (m_len : mg "len" = none) (m_min : mg "min" = none) : FnOk P w K mg base CX0 1 ca.f_Trees__code_of fd ["self", "thing"] (sp_Trees__code_of K ca) := by
  refine F.ok sc_Trees__code_of (fun vs H Q E h => ?_) (fun cdv A outer s H vs Q E hr h => ?_)
  · obtain ⟨x, l, es, rfl, hl, hz, htree, q⟩ := h
    rfl
  obtain ⟨x, l, es, rfl, hl, hz, htree, q⟩ := h
  refine ⟨_, pss_cons (ps_set (i := 2) sc_Trees__code_of.nd rfl (Or.inl rfl) (pe_lr2 rfl rfl m_list rfl m_range (pa_cons pe_int (pa_cons (pe_op op_add (pe_callB call_len_seq rfl m_len bb_len (pa_cons (pv 1) pa_nil)) pe_int) pa_nil))))
    (pss_cons (ps_set (i := 3) sc_Trees__code_of.nd rfl (Or.inl rfl) (pe_lst pa_nil))
    (pss_cons (ps_while PassesOwn.never (pt_cmpR (op_ne_list (hu0 hr)) (pv 2) (pe_lst pa_nil) (nomark _)) (pss_cons (ps_set (i := 4) sc_Trees__code_of.nd rfl (Or.inr rfl) (pe_comp rfl (pi_list (pv 2)) rfl rfl rfl rfl (N := ["knot", "thing"]) (.own (.cap (j := 1) rfl rfl rfl .nil)) (fun _ _ _ _ _ _ => (pg_name (i := 0) (by show List.Nodup (["knot", "thing"] : List Str); decide +kernel) rfl (Or.inl rfl))) (fun _ _ _ _ _ _ => pts_nil) (fun _ _ _ _ _ _ => (pe_ix (ix_listK (K := K) rfl) (pv 1) (pe_op op_sub (pv 0) pe_int) (fun _ _ => rfl)))))
    (pss_cons (ps_set (i := 5) sc_Trees__code_of.nd rfl (Or.inl rfl) (pe_callB (call_minL rfl) rfl m_min bb_min (pa_cons (pe_comp rfl (pi_list (pv 2)) rfl rfl rfl rfl (N := ["knot", "elders"]) (.own (.cap (j := 4) rfl rfl rfl .nil)) (fun _ _ _ _ _ _ => (pg_name (i := 0) (by show List.Nodup (["knot", "elders"] : List Str); decide +kernel) rfl (Or.inl rfl))) (fun _ _ _ _ _ _ => (pts_one (pt_cmpR (op_notinK (K := K) rfl) (pv 0) (pv 1) (by rfl)))) (fun _ _ _ _ _ _ => (pv 0))) pa_nil)))
    (pss_cons (ps_expr (pe_bm PySem.F.plainAttrs_list PySem.F.slot_list_append PySem.F.type_list_append mt_append (pv 3) (pa_cons (pe_ix ix_list (pv 1) (pe_op op_sub (pv 5) pe_int) (fun _ _ => rfl)) pa_nil)))
    (pss_one (ps_expr (pe_bm PySem.F.plainAttrs_list PySem.F.slot_list_remove PySem.F.type_list_remove mt_remove (pv 2) (pa_cons (pv 5) pa_nil))))))))
    (pss_one (ps_ret (pe_slice sl_list (pv 3) po_none (po_some (pe_un un_neg pe_int))))))), ?_⟩
  have lem : (es.map V.int).length = es.length := List.length_map _
  obtain ⟨hn, hin, reach⟩ := tree_facts htree
  have hpos : 0 < es.length := List.length_pos_iff.mpr hn
  refine ⟨_, rfl, l, _, rfl, .inl (SqL.of hl), _, _, rfl, rfl, _, _, rfl, ⟨by decide, by decide, by omega, by omega⟩, by omega, fun pt hpt => ?_⟩
  rw [show ((((es.map V.int).length : Nat) : Int) + 1 - 1).toNat = es.length by omega, rngV_knots]
  have s1 := Same.new (Same.refl H) hpt (.lst ((knots es.length).map V.int))
  have ht1 : upd H pt (.lst ((knots es.length).map V.int)) pt = some (.lst ((knots es.length).map V.int)) := upd_same
  generalize upd H pt (.lst ((knots es.length).map V.int)) = H1 at s1 ht1 ⊢
  refine ⟨Nat.zero_le _, fun pc hpc => ?_⟩
  have s2 := Same.new s1 hpc (.lst [])
  have fpc : H pc = none := s1.free hpc
  have ntc : pt ≠ pc := ne_of_none ht1 hpc
  have ht2 := (upd_ne (o := .lst []) ntc).trans ht1
  have hc2 : upd H1 pc (.lst []) pc = some (.lst (([] : List Int).map V.int)) := upd_same
  generalize upd H1 pc (.lst []) = H2 at s2 ht2 hc2 ⊢
  refine ⟨fun m σ H' => ∃ (o1 o2 : Option V) (T done : List Int), σ = [some (.ref x), some (.ref l), some (.ref pt), some (.ref pc), o1, o2] ∧ Same H H' ∧ H' pt = some (.lst (T.map V.int)) ∧ H' pc = some (.lst ((done.map (eld es)).map V.int)) ∧ (done ++ T).Perm (knots es.length) ∧ m = T.length ∧ ∀ ts, Enc es T ts → Enc es (knots es.length) (done ++ ts),
    ⟨_, _, _, knots es.length, [], rfl, s2, ht2, hc2, List.Perm.refl _, rfl, fun ts h => h⟩, ?_⟩
  rintro m σ H3 ⟨o1, o2, T, done, rfl, sm, ht3, hc3, pm, hm, cont⟩
  have lTm : (T.map V.int).length = T.length := List.length_map _
  have lT : done.length + T.length = es.length := by have := pm.length_eq; rw [List.length_append, knots_len] at this; exact this
  refine ⟨_, rfl, Nat.zero_le _, fun pz hpz => ?_⟩
  have sz3 := Same.new sm hpz (.lst [])
  have kz := Same.new (Same.refl H3) hpz (.lst [])
  have hz4 : upd H3 pz (.lst []) pz = some (.lst []) := upd_same
  have ht4 := kz _ _ ht3
  have hc4 := kz _ _ hc3
  generalize upd H3 pz (.lst []) = H4 at sz3 ht4 hc4 hz4 ⊢
  refine ⟨pt, pz, _, _, rfl, rfl, SqL.of ht4, SqL.of hz4, flat_ints T, rfl, _, rfl, ?_⟩
  by_cases neT : T = []
  · subst neT
    refine iteF ?_
    have enc := cont [] .nil
    rw [List.append_nil] at enc
    have cl : ∀ k ∈ knots es.length, eld es k = 0 ∨ eld es k ∈ knots es.length := fun k hk => by
      have bk := mem_knots.mp hk
      have hkl : (k - 1).toNat < es.length := by omega
      have hm : eld es k ∈ es := by
        unfold eld
        rw [List.getD_eq_getElem?_getD, List.getElem?_eq_getElem hkl]
        exact List.getElem_mem _
      have := (inR_iff es).mp hin _ hm
      by_cases z : eld es k = 0
      · exact .inl z
      · exact .inr (mem_knots.mpr ⟨by omega, this.2⟩)
    obtain ⟨w0, e⟩ := enc.last (knots_nd _) cl (fun z => by have := knots_len es.length; rw [z] at this; simp at this; omega)
    rw [e] at hc4
    refine ⟨_, rfl, _, rfl, _, rfl, pc, _, rfl, SqL.of hc4, fun p hp => ?_⟩
    have ed : ((w0 ++ [0]).map V.int).dropLast = w0.map V.int := by rw [List.map_append]; exact List.dropLast_concat
    rw [cutV_but, ed]
    exact q p w0 done _ (Same.new sz3 hp _) (sz3.free hp) upd_same enc e
  have bT : ∀ k ∈ T, 1 ≤ k ∧ k ≤ (es.length : Int) := fun k hk => mem_knots.mp (pm.mem_iff.mp (List.mem_append_right _ hk))
  have nd : (done ++ T).Nodup := pm.nodup_iff.mpr (knots_nd _)
  have ndT : T.Nodup := (List.nodup_append.mp nd).2.1
  have hleaf := leaf_ne hin reach ndT bT neT
  have hcond : (!eqL (T.map V.int) []) = true := by
    cases T with
    | nil => exact absurd rfl neT
    | cons t r => rfl
  refine ite2 (fun _ => ?_) (fun c => absurd hcond c)
  refine ⟨fun σ' H' => ∃ (o1 o2 : Option V) (T' done' : List Int), σ' = [some (.ref x), some (.ref l), some (.ref pt), some (.ref pc), o1, o2] ∧ Same H H' ∧ H' pt = some (.lst (T'.map V.int)) ∧ H' pc = some (.lst ((done'.map (eld es)).map V.int)) ∧ (done' ++ T').Perm (knots es.length) ∧ T'.length < m ∧ ∀ ts, Enc es T' ts → Enc es (knots es.length) (done' ++ ts), ?_, ?_⟩
  · rintro σ' H' ⟨o1, o2, T', done', rfl, a1, a2, a3, a4, a5, a6⟩
    exact ⟨T'.length, a5, o1, o2, T', done', rfl, a1, a2, a3, a4, rfl, a6⟩
  refine ⟨_, rfl, pt, rfl, ⟨_, SqL.of ht4⟩, fun pel hpel => comp_list (fun v => match v with | .int k => .int (eld es k) | v => v) (by rw [lTm]; exact sz (by omega)) (SqL.of ht4) hpel (fun i v H' R R0 hv hb hR => ?_) ?_⟩
  · obtain ⟨k, rfl⟩ := get_int hv
    have hkm : k ∈ T := by
      have := List.mem_of_getElem? hv
      obtain ⟨k', hk', e⟩ := List.mem_map.mp this
      injection e with e
      rw [← e]; exact hk'
    have bk := bT k hkm
    have atk := atI_int (ns := es) (i := k - 1) (by omega) (by omega)
    have hl4 := sz3 _ _ hl
    have nl : l ≠ pel := ne_of_none hl4 hpel
    exact ⟨Ext.set rfl, ttN (iteT ⟨_, rfl, _, rfl, _, _, rfl, rfl, l, _, _, _, rfl, rfl, SqL.of ((hb l nl).trans hl4), atk, hR⟩)⟩
  have em : (T.map V.int).map (fun v => match v with | .int k => V.int (eld es k) | v => v) = (T.map (eld es)).map V.int := by rw [List.map_map, List.map_map]; rfl
  rw [em]
  have s5 := Same.new sz3 hpel (.lst ((T.map (eld es)).map V.int))
  have k5 := Same.new (Same.refl H4) hpel (.lst ((T.map (eld es)).map V.int))
  have he5 : upd H4 pel (.lst ((T.map (eld es)).map V.int)) pel = some (.lst ((T.map (eld es)).map V.int)) := upd_same
  have ht5 := k5 _ _ ht4
  have hc5 := k5 _ _ hc4
  generalize upd H4 pel (.lst ((T.map (eld es)).map V.int)) = H5 at s5 he5 ht5 hc5 ⊢
  refine ⟨_, rfl, pt, rfl, ⟨_, SqL.of ht5⟩, fun D hD => comp_walk (xs := T.map V.int) (fun j ys H' => Same H5 H' ∧ H' D = some (.lst ys) ∧ ys = (frees (T.map (eld es)) (T.take j)).map V.int ∧ j ≤ T.length) (by rw [lTm]; exact sz (by omega)) ⟨Same.new (Same.refl H5) hD _, upd_same, rfl, Nat.zero_le _⟩ (fun j ys H' hj h => ⟨SqL.of (h.1 _ _ ht5), ?_⟩) (fun j u ys H' R R0 hu h r r0 => ?_) (fun ys H' h => ?_)⟩
  · rw [h.2.2.1, List.length_map]
    unfold frees
    exact Nat.le_trans (List.length_filter_le _ _) (by rw [List.length_take]; omega)
  · obtain ⟨sj, hy, ey, hj⟩ := h
    obtain ⟨k, rfl⟩ := get_int hu
    have hkj : T[j]? = some k := by
      rw [List.getElem?_map] at hu
      cases h : T[j]? with
      | none => rw [h] at hu; cases hu
      | some d => rw [h] at hu; injection hu with hu; injection hu with hu; rw [hu]
    have hj' : j < T.length := (List.getElem?_eq_some_iff.mp hkj).1
    refine ⟨Ext.set rfl, _, rfl, _, rfl, k, pel, T.map (eld es), rfl, rfl, SqL.of (sj _ _ he5), _, rfl, ?_⟩
    by_cases hin' : k ∈ T.map (eld es)
    · refine iteNS hin' (r0 _ ⟨sj, hy, ?_, hj'⟩)
      rw [frees_take hkj, if_pos hin', List.append_nil]
      exact ey
    · refine iteNN hin' ⟨_, rfl, r _ _ hy ⟨sj.upd hD _, upd_same, ?_, hj'⟩⟩
      rw [frees_take hkj, if_neg hin', List.map_append, ← ey]
      rfl
  · obtain ⟨s6, hy, ey, _⟩ := h
    rw [lTm, List.take_length] at ey
    rw [ey] at hy
    refine ⟨D, frees (T.map (eld es)) T, rfl, SqL.of hy, hleaf, fun t ht hmin => ?_⟩
    obtain ⟨htT, _⟩ := mem_frees.mp ht
    have bt := bT t htT
    have s06 := s5.trans s6
    have ht6 := s6 _ _ ht5
    have hc6 := s6 _ _ hc5
    have att := atI_int (ns := es) (i := t - 1) (by omega) (by omega)
    refine ⟨_, rfl, .inl ⟨rfl, _, SqL.of hc6⟩, _, rfl, _, rfl, _, _, rfl, rfl, l, _, _, _, rfl, rfl, SqL.of (s06 _ _ hl), att, pc, _, _, rfl, rfl, hc6, by rw [List.length_map, List.length_map]; exact sz' (by omega), ?_⟩
    have ht7 : upd H' pc (.lst ((done.map (eld es)).map V.int ++ [.int (es.getD (t - 1).toNat 0)])) pt = some (.lst (T.map V.int)) := (upd_ne ntc).trans ht6
    refine ⟨_, rfl, .inl ⟨rfl, _, SqL.of ht7⟩, _, rfl, pt, T, t, rfl, rfl, ht7, htT, ?_⟩
    have le : (T.erase t).length = T.length - 1 := List.length_erase_of_mem htT
    have hTp := List.length_pos_of_mem htT
    refine ⟨_, _, T.erase t, done ++ [t], rfl, (s06.upd fpc _).upd hpt _, upd_same, ?_, ?_, by omega, fun ts hts => ?_⟩
    · refine (upd_ne (Ne.symm ntc)).trans ?_
      rw [upd_same, List.map_append, List.map_append]; rfl
    · refine List.Perm.trans ?_ pm
      rw [List.append_assoc]
      exact List.Perm.append_left done (List.perm_cons_erase htT).symm
    · rw [List.append_assoc]
      exact cont _ (.cons ht hmin hts)
theorem ok_Trees__RingFamily_unchecked_number {ca : ClA} (CA : ClOk K mg ca) {fd : FuncData} (F : Fun K "unchecked_number" "RingFamily.unchecked_number" s_Trees__RingFamily_unchecked_number ca.f_Trees__RingFamily_unchecked_number fd) {f0 : Addr} {fd0 : FuncData} (d_figures_number : Def P w K mg base "figures_number" ["figures", "base"] 1 (sp_figures_number K ca) f0 fd0) {fd1 : FuncData} (d_Trees__size_of : MDef P w K mg base ["self", "thing"] 1 (sp_Trees__size_of K ca) ca.f_Trees__size_of fd1) {fd2 : FuncData} (d_Trees__code_of : MDef P w K mg base ["self", "thing"] 1 (sp_Trees__code_of K ca) ca.f_Trees__code_of fd2) : FnOk P w K mg base CX0 2 ca.f_Trees__RingFamily_unchecked_number fd ["self", "thing"] (sp_Trees__RingFamily_unchecked_number K ca) := by
  refine F.ok sc_Trees__RingFamily_unchecked_number (fun vs H Q E h => ?_) (fun cdv A outer s H vs Q E hr h => ?_)
  · obtain ⟨x, dx, fs, wd, l, ns, cs, rfl, hx, fl, hl, rg, hc, q⟩ := h
    rfl
  obtain ⟨x, dx, fs, wd, l, ns, cs, rfl, hx, fl, hl, rg, hc, q⟩ := h
  refine ⟨_, pss_one (ps_ret (pcall d_figures_number hr (pa_cons (pmeth (pv 0) CA.c_Trees CA.mt_Trees_code_of d_Trees__code_of hr (pa_cons (pv 1) pa_nil)) (pa_cons (pe_op op_add (pmeth (pv 0) CA.c_Trees CA.mt_Trees_size_of d_Trees__size_of hr (pa_cons (pv 1) pa_nil)) pe_int) pa_nil)))), ?_⟩
  refine ⟨_, rfl, x, dx, fs, rfl, hx, fl.no "code_of" (by decide) (by decide), _, rfl, x, l, ns, rfl, hl, (by have := rg.len; omega), rg.2.1, fun p w0 ts H1 s1 f1 h1 enc e => ?_⟩
  rw [tree_code rg enc e] at h1
  refine ⟨_, rfl, x, dx, fs, rfl, s1 _ _ hx, fl.no "size_of" (by decide) (by decide), _, rfl, x, l, ns, cs, rfl, s1 _ _ hl, rg, _, _, rfl, rfl, ?_⟩
  try dsimp only
  rw [show (cs.length : Int) + 1 + 1 = (cs.length : Int) + 2 by omega]
  exact ⟨p, cs, _, rfl, SqL.of h1, by omega, by omega, q _ s1⟩
theorem ok_Trees__Family_number_of {ca : ClA} (CA : ClOk K mg ca) {fd : FuncData} (F : Fun K "number_of" "Family.number_of" s_Trees__Family_number_of ca.f_Trees__Family_number_of fd) {fd0 : FuncData} (d_Trees__Family_refuse_other : MDef P w K mg base ["self", "thing"] 3 (sp_Trees__Family_refuse_other K ca) ca.f_Trees__Family_refuse_other fd0) {fd1 : FuncData} (d_Trees__RingFamily_unchecked_number : MDef P w K mg base ["self", "thing"] 2 (sp_Trees__RingFamily_unchecked_number K ca) ca.f_Trees__RingFamily_unchecked_number fd1) : FnOk P w K mg base CX0 4 ca.f_Trees__Family_number_of fd ["self", "thing"] (sp_Trees__Family_number_of K ca) := by
  refine F.ok sc_Trees__Family_number_of (fun vs H Q E h => ?_) (fun cdv A outer s H vs Q E hr h => ?_)
  · obtain ⟨x, dx, fs, wd, l, ns, cs, rfl, hx, fl, hl, rg, hc, q⟩ := h
    rfl
  obtain ⟨x, dx, fs, wd, l, ns, cs, rfl, hx, fl, hl, rg, hc, q⟩ := h
  refine ⟨_, pss_cons (ps_expr (pmeth (pv 0) CA.c_Trees CA.mt_Trees_refuse_other d_Trees__Family_refuse_other hr (pa_cons (pv 1) pa_nil)))
    (pss_one (ps_ret (pmeth (pv 0) CA.c_Trees CA.mt_Trees_unchecked_number d_Trees__RingFamily_unchecked_number hr (pa_cons (pv 1) pa_nil)))), ?_⟩
  refine ⟨_, rfl, x, dx, fs, rfl, hx, fl.no "refuse_other" (by decide) (by decide), _, rfl, x, dx, fs, l, ns, rfl, hx, fl.no "is_one" (by decide) (by decide), hl, (by have := rg.len; omega), rg.2.1, fun H1 s1 => ?_⟩
  exact ⟨_, rfl, x, dx, fs, rfl, s1 _ _ hx, fl.no "unchecked_number" (by decide) (by decide), _, rfl, x, dx, fs, wd, l, ns, cs, rfl, s1 _ _ hx, fl, s1 _ _ hl, rg, hc, fun H2 s2 => q _ (s1.trans s2)⟩
theorem ok_Cars__Family_refuse_other {ca : ClA} (CA : ClOk K mg ca) {fd : FuncData} (F : Fun K "refuse_other" "Family.refuse_other" s_Cars__Family_refuse_other ca.f_Cars__Family_refuse_other fd) {fd0 : FuncData} (d_Cars__is_one : MDef P w K mg base ["self", "thing"] 1 (sp_Cars__is_one K ca) ca.f_Cars__is_one fd0) : FnOk P w K mg base CX0 2 ca.f_Cars__Family_refuse_other fd ["self", "thing"] (sp_Cars__Family_refuse_other K ca) := by
  refine F.ok sc_Cars__Family_refuse_other (fun vs H Q E h => ?_) (fun cdv A outer s H vs Q E hr h => ?_)
  · obtain ⟨x, dx, fs, l, ns, rfl, hx, fo, hl, hne, h64, car, q⟩ := h
    rfl
  obtain ⟨x, dx, fs, l, ns, rfl, hx, fo, hl, hne, h64, car, q⟩ := h
  refine ⟨_, pss_one (ps_if (pt_not (pt_val (pmeth (pv 0) CA.c_Cars CA.mt_Cars_is_one d_Cars__is_one hr (pa_cons (pv 1) pa_nil)))) (pss_one ps_never) pss_nil), ?_⟩
  exact ⟨_, rfl, x, dx, fs, rfl, hx, fo, _, rfl, x, l, ns, rfl, hl, h64, fun H1 s1 => ⟨_, rfl, by rw [isCar_true car hne]; exact iteF (q H1 s1)⟩⟩
theorem ok_Cars__size_of {ca : ClA} (CA : ClOk K mg ca) {fd : FuncData} (F : Fun K "size_of" "Cars.size_of" s_Cars__size_of ca.f_Cars__size_of fd) (m_len : mg "len" = none) : FnOk P w K mg base CX0 1 ca.f_Cars__size_of fd ["self", "thing"] (sp_Cars__size_of K ca) := by
  refine F.ok sc_Cars__size_of (fun vs H Q E h => ?_) (fun cdv A outer s H vs Q E hr h => ?_)
  · obtain ⟨x, l, ns, cs, rfl, hl, rg, q⟩ := h
    rfl
  obtain ⟨x, l, ns, cs, rfl, hl, rg, q⟩ := h
  refine ⟨_, pss_one (ps_ret (pe_callB call_len_seq rfl m_len bb_len (pa_cons (pv 1) pa_nil))), ?_⟩
  refine ⟨_, rfl, l, _, rfl, .inl (SqL.of hl), ?_⟩
  have e : ((ns.map V.int).length : Int) = (cs.length : Int) + 1 := by rw [List.length_map, rg.lenO (by decide)]; omega
  rw [e]
  exact q
theorem ok_Cars__code_of {ca : ClA} (CA : ClOk K mg ca) {fd : FuncData} (F : Fun K "code_of" "Cars.code_of" s_Cars__code_of ca.f_Cars__code_of fd) (m_len : mg "len" = none) (m_range : mg "range" = none) : FnOk P w K mg base CX0 1 ca.f_Cars__code_of fd ["self", "thing"] (sp_Cars__code_of K ca) := by
  refine F.ok sc_Cars__code_of (fun vs H Q E h => ?_) (fun cdv A outer s H vs Q E hr h => ?_)
  · obtain ⟨x, l, ws, rfl, hl, hz, q⟩ := h
    rfl
  obtain ⟨x, l, ws, rfl, hl, hz, q⟩ := h
  refine ⟨_, pss_cons (ps_set (i := 2) sc_Cars__code_of.nd rfl (Or.inr rfl) (pe_op op_add (pe_callB call_len_seq rfl m_len bb_len (pa_cons (pv 1) pa_nil)) pe_int))
    (pss_one (ps_ret (pe_comp rfl (pi_range2 rfl m_range (pa_cons pe_int (pa_cons (pe_callB call_len_seq rfl m_len bb_len (pa_cons (pv 1) pa_nil)) pa_nil))) rfl rfl rfl rfl (N := ["k", "ring", "thing"]) (.own (.cap (j := 2) rfl rfl rfl (.cap (j := 1) rfl rfl rfl .nil))) (fun _ _ _ _ _ _ => (pg_name (i := 0) (by show List.Nodup (["k", "ring", "thing"] : List Str); decide +kernel) rfl (Or.inl rfl))) (fun _ _ _ _ _ _ => pts_nil) (fun _ _ _ _ _ _ => (pe_op op_mod (pe_op op_sub (pe_ix (ix_listK (K := K) rfl) (pv 2) (pv 0) (fun _ _ => rfl)) (pe_ix (ix_listK (K := K) rfl) (pv 2) (pe_op op_sub (pv 0) pe_int) (fun _ _ => rfl))) (pv 1)))))), ?_⟩
  have lm : (ws.map V.int).length = ws.length := List.length_map _
  refine ⟨_, rfl, l, _, rfl, .inl (SqL.of hl), _, _, rfl, rfl, ?_⟩
  try dsimp only
  rw [lm]
  have at1 : ∀ i : Nat, i < ws.length → atI (ws.map V.int) (i : Int) = some (.int (ws.getD i 0)) := fun i hi => by
    have := atI_int (ns := ws) (i := (i : Int)) (by omega) (by omega)
    rw [show ((i : Int)).toNat = i by omega] at this
    exact this
  refine ⟨_, rfl, l, _, rfl, .inl (SqL.of hl), _, _, rfl, ⟨by decide, by decide, by omega, by omega⟩, fun D hD => comp_range (lo := 1) (n := (((ws.map V.int).length : Int) - 1).toNat) (fun (i : Nat) => .int ((ws.getD (i + 1) 0 - ws.getD i 0) % ((ws.length : Int) + 1))) (sz (by omega)) (fun i H' R R0 hi hb hR => ?_) ?_⟩
  · have a1 := at1 (i + 1) (by omega)
    have a0 := at1 i (by omega)
    rw [show ((i + 1 : Nat) : Int) = (1 : Int) + (i : Int) by omega] at a1
    rw [show ((i : Nat) : Int) = (1 : Int) + (i : Int) - 1 by omega] at a0
    have nD : l ≠ D := ne_of_none hl hD
    have hl3 := (hb l nD).trans hl
    exact ⟨Ext.set rfl, ttN (iteT ⟨_, rfl, _, rfl, l, _, _, _, rfl, rfl, SqL.of hl3, a1, _, rfl, _, rfl, _, _, rfl, rfl, l, _, _, _, rfl, rfl, SqL.of hl3, a0, _, _, rfl, rfl, _, rfl, _, _, rfl, rfl, by omega, hR⟩)⟩
  · rw [lm]
    have em : (List.range ((ws.length : Int) - 1).toNat).map (fun (i : Nat) => V.int ((ws.getD (i + 1) 0 - ws.getD i 0) % ((ws.length : Int) + 1))) = (steps ws).map V.int := by
      unfold steps
      rw [List.map_map, show ((ws.length : Int) - 1).toNat = ws.length - 1 by omega]
      rfl
    rw [em]
    exact q D _ (Same.new (Same.refl H) hD _) hD upd_same
theorem ok_Cars__RingFamily_unchecked_number {ca : ClA} (CA : ClOk K mg ca) {fd : FuncData} (F : Fun K "unchecked_number" "RingFamily.unchecked_number" s_Cars__RingFamily_unchecked_number ca.f_Cars__RingFamily_unchecked_number fd) {f0 : Addr} {fd0 : FuncData} (d_figures_number : Def P w K mg base "figures_number" ["figures", "base"] 1 (sp_figures_number K ca) f0 fd0) {fd1 : FuncData} (d_Cars__size_of : MDef P w K mg base ["self", "thing"] 1 (sp_Cars__size_of K ca) ca.f_Cars__size_of fd1) {fd2 : FuncData} (d_Cars__code_of : MDef P w K mg base ["self", "thing"] 1 (sp_Cars__code_of K ca) ca.f_Cars__code_of fd2) : FnOk P w K mg base CX0 2 ca.f_Cars__RingFamily_unchecked_number fd ["self", "thing"] (sp_Cars__RingFamily_unchecked_number K ca) := by
  refine F.ok sc_Cars__RingFamily_unchecked_number (fun vs H Q E h => ?_) (fun cdv A outer s H vs Q E hr h => ?_)
  · obtain ⟨x, dx, fs, wd, l, ns, cs, rfl, hx, fl, hl, rg, hc, q⟩ := h
    rfl
  obtain ⟨x, dx, fs, wd, l, ns, cs, rfl, hx, fl, hl, rg, hc, q⟩ := h
  refine ⟨_, pss_one (ps_ret (pcall d_figures_number hr (pa_cons (pmeth (pv 0) CA.c_Cars CA.mt_Cars_code_of d_Cars__code_of hr (pa_cons (pv 1) pa_nil)) (pa_cons (pe_op op_add (pmeth (pv 0) CA.c_Cars CA.mt_Cars_size_of d_Cars__size_of hr (pa_cons (pv 1) pa_nil)) pe_int) pa_nil)))), ?_⟩
  refine ⟨_, rfl, x, dx, fs, rfl, hx, fl.no "code_of" (by decide) (by decide), _, rfl, x, l, ns, rfl, hl, (by have := rg.len; omega), fun p H1 s1 f1 h1 => ?_⟩
  rw [show steps ns = cs from rg.2.2.2] at h1
  refine ⟨_, rfl, x, dx, fs, rfl, s1 _ _ hx, fl.no "size_of" (by decide) (by decide), _, rfl, x, l, ns, cs, rfl, s1 _ _ hl, rg, _, _, rfl, rfl, ?_⟩
  try dsimp only
  rw [show (cs.length : Int) + 1 + 1 = (cs.length : Int) + 2 by omega]
  exact ⟨p, cs, _, rfl, SqL.of h1, by omega, by omega, q _ s1⟩
theorem ok_Cars__Family_number_of {ca : ClA} (CA : ClOk K mg ca) {fd : FuncData} (F : Fun K "number_of" "Family.number_of" s_Cars__Family_number_of ca.f_Cars__Family_number_of fd) {fd0 : FuncData} (d_Cars__Family_refuse_other : MDef P w K mg base ["self", "thing"] 2 (sp_Cars__Family_refuse_other K ca) ca.f_Cars__Family_refuse_other fd0) {fd1 : FuncData} (d_Cars__RingFamily_unchecked_number : MDef P w K mg base ["self", "thing"] 2 (sp_Cars__RingFamily_unchecked_number K ca) ca.f_Cars__RingFamily_unchecked_number fd1) : FnOk P w K mg base CX0 3 ca.f_Cars__Family_number_of fd ["self", "thing"] (sp_Cars__Family_number_of K ca) := by
  refine F.ok sc_Cars__Family_number_of (fun vs H Q E h => ?_) (fun cdv A outer s H vs Q E hr h => ?_)
  · obtain ⟨x, dx, fs, wd, l, ns, cs, rfl, hx, fl, hl, rg, hc, q⟩ := h
    rfl
  obtain ⟨x, dx, fs, wd, l, ns, cs, rfl, hx, fl, hl, rg, hc, q⟩ := h
  refine ⟨_, pss_cons (ps_expr (pmeth (pv 0) CA.c_Cars CA.mt_Cars_refuse_other d_Cars__Family_refuse_other hr (pa_cons (pv 1) pa_nil)))
    (pss_one (ps_ret (pmeth (pv 0) CA.c_Cars CA.mt_Cars_unchecked_number d_Cars__RingFamily_unchecked_number hr (pa_cons (pv 1) pa_nil)))), ?_⟩
  refine ⟨_, rfl, x, dx, fs, rfl, hx, fl.no "refuse_other" (by decide) (by decide), _, rfl, x, dx, fs, l, ns, rfl, hx, fl.no "is_one" (by decide) (by decide), SqL.of hl, (by intro z; have := rg.lenO (by decide); rw [z] at this; cases this), (by have := rg.len; omega), rg.2.1, fun H1 s1 => ?_⟩
  exact ⟨_, rfl, x, dx, fs, rfl, s1 _ _ hx, fl.no "unchecked_number" (by decide) (by decide), _, rfl, x, dx, fs, wd, l, ns, cs, rfl, s1 _ _ hx, fl, s1 _ _ hl, rg, hc, fun H2 s2 => q _ (s1.trans s2)⟩
theorem ok_Codes__Family_next_of {ca : ClA} (CA : ClOk K mg ca) {fd : FuncData} (F : Fun K "next_of" "Family.next_of" s_Codes__Family_next_of ca.f_Codes__Family_next_of fd) {fd0 : FuncData} (d_Codes__Family_number_of : MDef P w K mg base ["self", "thing"] 3 (sp_Codes__Family_number_of K ca) ca.f_Codes__Family_number_of fd0) {fd1 : FuncData} (d_Codes__size_of : MDef P w K mg base ["self", "thing"] 1 (sp_Codes__size_of K ca) ca.f_Codes__size_of fd1) {fd2 : FuncData} (d_Codes__RingFamily_unchecked_many : MDef P w K mg base ["self", "size"] 2 (sp_Codes__RingFamily_unchecked_many K ca) ca.f_Codes__RingFamily_unchecked_many fd2) {fd3 : FuncData} (d_Codes__RingFamily_unchecked_thing : MDef P w K mg base ["self", "size", "number"] 2 (sp_Codes__RingFamily_unchecked_thing K ca) ca.f_Codes__RingFamily_unchecked_thing fd3) : FnOk P w K mg base CX0 4 ca.f_Codes__Family_next_of fd ["self", "thing"] (sp_Codes__Family_next_of K ca) := by
  refine F.ok sc_Codes__Family_next_of (fun vs H Q E h => ?_) (fun cdv A outer s H vs Q E hr h => ?_)
  · obtain ⟨x, dx, fs, wd, l, ns, cs, rfl, hx, fl, hl, rg, hc, q0, q1⟩ := h
    rfl
  obtain ⟨x, dx, fs, wd, l, ns, cs, rfl, hx, fl, hl, rg, hc, q0, q1⟩ := h
  refine ⟨_, pss_cons (ps_set (i := 2) sc_Codes__Family_next_of.nd rfl (Or.inl rfl) (pe_op op_add (pmeth (pv 0) CA.c_Codes CA.mt_Codes_number_of d_Codes__Family_number_of hr (pa_cons (pv 1) pa_nil)) pe_int))
    (pss_cons (ps_set (i := 3) sc_Codes__Family_next_of.nd rfl (Or.inl rfl) (pmeth (pv 0) CA.c_Codes CA.mt_Codes_size_of d_Codes__size_of hr (pa_cons (pv 1) pa_nil)))
    (pss_cons (ps_if (pt_cmpR op_eq (pv 2) (pmeth (pv 0) CA.c_Codes CA.mt_Codes_unchecked_many d_Codes__RingFamily_unchecked_many hr (pa_cons (pv 3) pa_nil)) (nomark _)) (pss_one (ps_ret pe_non)) pss_nil)
    (pss_one (ps_ret (pmeth (pv 0) CA.c_Codes CA.mt_Codes_unchecked_thing d_Codes__RingFamily_unchecked_thing hr (pa_cons (pv 3) (pa_cons (pv 2) pa_nil))))))), ?_⟩
  have fr := fig_range (b := (cs.length : Int) + 2) (by omega) (cs := cs) (fun c hc => by have := rg.1 c hc; omega)
  refine ⟨_, rfl, x, dx, fs, rfl, hx, fl.no "number_of" (by decide) (by decide), _, rfl, x, dx, fs, wd, l, ns, cs, rfl, hx, fl, hl, rg, hc, fun H1 s1 => ⟨_, _, rfl, rfl, ?_⟩⟩
  refine ⟨_, rfl, x, dx, fs, rfl, s1 _ _ hx, fl.no "size_of" (by decide) (by decide), _, rfl, x, l, ns, cs, rfl, s1 _ _ hl, rg, ?_⟩
  refine ⟨_, rfl, _, rfl, x, dx, fs, rfl, s1 _ _ hx, fl.no "unchecked_many" (by decide) (by decide), _, rfl, x, (cs.length : Int) + 1, rfl, by omega, by omega, fun H2 s2 => ⟨rfl, _, rfl, ?_⟩⟩
  have e2 : (cs.length : Int) + 1 + 1 = (cs.length : Int) + 2 := by omega
  have e3 : ((cs.length : Int) + 1 - 1).toNat = cs.length := by omega
  have s12 := s1.trans s2
  by_cases e : fig ((cs.length : Int) + 2) cs + 1 = pw ((cs.length : Int) + 2) cs.length
  · refine iteP (by rw [e2, e3]; exact congrArg V.int e) ?_
    exact q0 _ s12 e
  · refine iteN (by rw [e2, e3]; exact fun z => e (by injection z)) ?_
    refine ⟨_, rfl, x, dx, fs, rfl, s12 _ _ hx, fl.no "unchecked_thing" (by decide) (by decide), _, rfl, _, rfl, x, dx, fs, wd, (cs.length : Int) + 1, fig ((cs.length : Int) + 2) cs + 1, rfl, s12 _ _ hx, fl, by omega, by omega, by omega, (by rw [e2, e3]; omega), fun p ms H3 s3 f3 h3 rg3 => ?_⟩
    rw [e2, e3] at rg3
    exact q1 p ms H3 (s12.trans s3) (s12.free f3) h3 (by omega) rg3
theorem ok_Trees__Family_next_of {ca : ClA} (CA : ClOk K mg ca) {fd : FuncData} (F : Fun K "next_of" "Family.next_of" s_Trees__Family_next_of ca.f_Trees__Family_next_of fd) {fd0 : FuncData} (d_Trees__Family_number_of : MDef P w K mg base ["self", "thing"] 4 (sp_Trees__Family_number_of K ca) ca.f_Trees__Family_number_of fd0) {fd1 : FuncData} (d_Trees__size_of : MDef P w K mg base ["self", "thing"] 1 (sp_Trees__size_of K ca) ca.f_Trees__size_of fd1) {fd2 : FuncData} (d_Trees__RingFamily_unchecked_many : MDef P w K mg base ["self", "size"] 2 (sp_Trees__RingFamily_unchecked_many K ca) ca.f_Trees__RingFamily_unchecked_many fd2) {fd3 : FuncData} (d_Trees__RingFamily_unchecked_thing : MDef P w K mg base ["self", "size", "number"] 2 (sp_Trees__RingFamily_unchecked_thing K ca) ca.f_Trees__RingFamily_unchecked_thing fd3) : FnOk P w K mg base CX0 5 ca.f_Trees__Family_next_of fd ["self", "thing"] (sp_Trees__Family_next_of K ca) := by
  refine F.ok sc_Trees__Family_next_of (fun vs H Q E h => ?_) (fun cdv A outer s H vs Q E hr h => ?_)
  · obtain ⟨x, dx, fs, wd, l, ns, cs, rfl, hx, fl, hl, rg, hc, q0, q1⟩ := h
    rfl
  obtain ⟨x, dx, fs, wd, l, ns, cs, rfl, hx, fl, hl, rg, hc, q0, q1⟩ := h
  refine ⟨_, pss_cons (ps_set (i := 2) sc_Trees__Family_next_of.nd rfl (Or.inl rfl) (pe_op op_add (pmeth (pv 0) CA.c_Trees CA.mt_Trees_number_of d_Trees__Family_number_of hr (pa_cons (pv 1) pa_nil)) pe_int))
    (pss_cons (ps_set (i := 3) sc_Trees__Family_next_of.nd rfl (Or.inl rfl) (pmeth (pv 0) CA.c_Trees CA.mt_Trees_size_of d_Trees__size_of hr (pa_cons (pv 1) pa_nil)))
    (pss_cons (ps_if (pt_cmpR op_eq (pv 2) (pmeth (pv 0) CA.c_Trees CA.mt_Trees_unchecked_many d_Trees__RingFamily_unchecked_many hr (pa_cons (pv 3) pa_nil)) (nomark _)) (pss_one (ps_ret pe_non)) pss_nil)
    (pss_one (ps_ret (pmeth (pv 0) CA.c_Trees CA.mt_Trees_unchecked_thing d_Trees__RingFamily_unchecked_thing hr (pa_cons (pv 3) (pa_cons (pv 2) pa_nil))))))), ?_⟩
  have fr := fig_range (b := (cs.length : Int) + 2) (by omega) (cs := cs) (fun c hc => by have := rg.1 c hc; omega)
  refine ⟨_, rfl, x, dx, fs, rfl, hx, fl.no "number_of" (by decide) (by decide), _, rfl, x, dx, fs, wd, l, ns, cs, rfl, hx, fl, hl, rg, hc, fun H1 s1 => ⟨_, _, rfl, rfl, ?_⟩⟩
  refine ⟨_, rfl, x, dx, fs, rfl, s1 _ _ hx, fl.no "size_of" (by decide) (by decide), _, rfl, x, l, ns, cs, rfl, s1 _ _ hl, rg, ?_⟩
  refine ⟨_, rfl, _, rfl, x, dx, fs, rfl, s1 _ _ hx, fl.no "unchecked_many" (by decide) (by decide), _, rfl, x, (cs.length : Int) + 1, rfl, by omega, by omega, fun H2 s2 => ⟨rfl, _, rfl, ?_⟩⟩
  have e2 : (cs.length : Int) + 1 + 1 = (cs.length : Int) + 2 := by omega
  have e3 : ((cs.length : Int) + 1 - 1).toNat = cs.length := by omega
  have s12 := s1.trans s2
  by_cases e : fig ((cs.length : Int) + 2) cs + 1 = pw ((cs.length : Int) + 2) cs.length
  · refine iteP (by rw [e2, e3]; exact congrArg V.int e) ?_
    exact q0 _ s12 e
  · refine iteN (by rw [e2, e3]; exact fun z => e (by injection z)) ?_
    refine ⟨_, rfl, x, dx, fs, rfl, s12 _ _ hx, fl.no "unchecked_thing" (by decide) (by decide), _, rfl, _, rfl, x, dx, fs, wd, (cs.length : Int) + 1, fig ((cs.length : Int) + 2) cs + 1, rfl, s12 _ _ hx, fl, by omega, by omega, by omega, (by rw [e2, e3]; omega), fun p ms H3 s3 f3 h3 rg3 => ?_⟩
    rw [e2, e3] at rg3
    exact q1 p ms H3 (s12.trans s3) (s12.free f3) h3 (by omega) rg3
theorem ok_Cars__Family_next_of {ca : ClA} (CA : ClOk K mg ca) {fd : FuncData} (F : Fun K "next_of" "Family.next_of" s_Cars__Family_next_of ca.f_Cars__Family_next_of fd) {fd0 : FuncData} (d_Cars__Family_number_of : MDef P w K mg base ["self", "thing"] 3 (sp_Cars__Family_number_of K ca) ca.f_Cars__Family_number_of fd0) {fd1 : FuncData} (d_Cars__size_of : MDef P w K mg base ["self", "thing"] 1 (sp_Cars__size_of K ca) ca.f_Cars__size_of fd1) {fd2 : FuncData} (d_Cars__RingFamily_unchecked_many : MDef P w K mg base ["self", "size"] 2 (sp_Cars__RingFamily_unchecked_many K ca) ca.f_Cars__RingFamily_unchecked_many fd2) {fd3 : FuncData} (d_Cars__RingFamily_unchecked_thing : MDef P w K mg base ["self", "size", "number"] 3 (sp_Cars__RingFamily_unchecked_thing K ca) ca.f_Cars__RingFamily_unchecked_thing fd3) : FnOk P w K mg base CX0 4 ca.f_Cars__Family_next_of fd ["self", "thing"] (sp_Cars__Family_next_of K ca) := by
  refine F.ok sc_Cars__Family_next_of (fun vs H Q E h => ?_) (fun cdv A outer s H vs Q E hr h => ?_)
  · obtain ⟨x, dx, fs, wd, l, ns, cs, rfl, hx, fl, hl, rg, hc, q0, q1⟩ := h
    rfl
  obtain ⟨x, dx, fs, wd, l, ns, cs, rfl, hx, fl, hl, rg, hc, q0, q1⟩ := h
  refine ⟨_, pss_cons (ps_set (i := 2) sc_Cars__Family_next_of.nd rfl (Or.inl rfl) (pe_op op_add (pmeth (pv 0) CA.c_Cars CA.mt_Cars_number_of d_Cars__Family_number_of hr (pa_cons (pv 1) pa_nil)) pe_int))
    (pss_cons (ps_set (i := 3) sc_Cars__Family_next_of.nd rfl (Or.inl rfl) (pmeth (pv 0) CA.c_Cars CA.mt_Cars_size_of d_Cars__size_of hr (pa_cons (pv 1) pa_nil)))
    (pss_cons (ps_if (pt_cmpR op_eq (pv 2) (pmeth (pv 0) CA.c_Cars CA.mt_Cars_unchecked_many d_Cars__RingFamily_unchecked_many hr (pa_cons (pv 3) pa_nil)) (nomark _)) (pss_one (ps_ret pe_non)) pss_nil)
    (pss_one (ps_ret (pmeth (pv 0) CA.c_Cars CA.mt_Cars_unchecked_thing d_Cars__RingFamily_unchecked_thing hr (pa_cons (pv 3) (pa_cons (pv 2) pa_nil))))))), ?_⟩
  have fr := fig_range (b := (cs.length : Int) + 2) (by omega) (cs := cs) (fun c hc => by have := rg.1 c hc; omega)
  refine ⟨_, rfl, x, dx, fs, rfl, hx, fl.no "number_of" (by decide) (by decide), _, rfl, x, dx, fs, wd, l, ns, cs, rfl, hx, fl, hl, rg, hc, fun H1 s1 => ⟨_, _, rfl, rfl, ?_⟩⟩
  refine ⟨_, rfl, x, dx, fs, rfl, s1 _ _ hx, fl.no "size_of" (by decide) (by decide), _, rfl, x, l, ns, cs, rfl, s1 _ _ hl, rg, ?_⟩
  refine ⟨_, rfl, _, rfl, x, dx, fs, rfl, s1 _ _ hx, fl.no "unchecked_many" (by decide) (by decide), _, rfl, x, (cs.length : Int) + 1, rfl, by omega, by omega, fun H2 s2 => ⟨rfl, _, rfl, ?_⟩⟩
  have e2 : (cs.length : Int) + 1 + 1 = (cs.length : Int) + 2 := by omega
  have e3 : ((cs.length : Int) + 1 - 1).toNat = cs.length := by omega
  have s12 := s1.trans s2
  by_cases e : fig ((cs.length : Int) + 2) cs + 1 = pw ((cs.length : Int) + 2) cs.length
  · refine iteP (by rw [e2, e3]; exact congrArg V.int e) ?_
    exact q0 _ s12 e
  · refine iteN (by rw [e2, e3]; exact fun z => e (by injection z)) ?_
    refine ⟨_, rfl, x, dx, fs, rfl, s12 _ _ hx, fl.no "unchecked_thing" (by decide) (by decide), _, rfl, _, rfl, x, dx, fs, wd, (cs.length : Int) + 1, fig ((cs.length : Int) + 2) cs + 1, rfl, s12 _ _ hx, fl, by omega, by omega, by omega, (by rw [e2, e3]; omega), fun p ms H3 s3 f3 h3 rg3 => ?_⟩
    rw [e2, e3] at rg3
    exact q1 p ms H3 (s12.trans s3) (s12.free f3) h3 (by omega) rg3
theorem ok_law {ca : ClA} (CA : ClOk K mg ca) {f : Addr} {fd : FuncData} (F : Fun K "law" "law" s_law f fd) {f0 : Addr} {fd0 : FuncData} (d__law_cell_at : Def P w K mg base "_law_cell_at" ["_law_script", "_law_k"] 1 (sp__law_cell_at K ca) f0 fd0) {f1 : Addr} {fd1 : FuncData} (d__law_number : Def P w K mg base "_law_number" ["_law_script", "_law_size", "_law_many"] 2 (sp__law_number K ca) f1 fd1) {f2 : Addr} {fd2 : FuncData} (d__law_kin : Def P w K mg base "_law_kin" ["_law_word"] 7 (sp__law_kin K ca) f2 fd2) {f3 : Addr} {fd3 : FuncData} (d__law_whole : Def P w K mg base "_law_whole" ["_law_found"] 1 (sp__law_whole K ca) f3 fd3) {fd4 : FuncData} (d_Codes__Family_many : MDef P w K mg base ["self", "size"] 3 (sp_Codes__Family_many K ca) ca.f_Codes__Family_many fd4) {fd5 : FuncData} (d_Trees__Family_many : MDef P w K mg base ["self", "size"] 3 (sp_Trees__Family_many K ca) ca.f_Trees__Family_many fd5) {fd6 : FuncData} (d_Cars__Family_many : MDef P w K mg base ["self", "size"] 3 (sp_Cars__Family_many K ca) ca.f_Cars__Family_many fd6) {fd7 : FuncData} (d_Codes__Family_thing_of : MDef P w K mg base ["self", "size", "number"] 4 (sp_Codes__Family_thing_of K ca) ca.f_Codes__Family_thing_of fd7) {fd8 : FuncData} (d_Trees__Family_thing_of : MDef P w K mg base ["self", "size", "number"] 4 (sp_Trees__Family_thing_of K ca) ca.f_Trees__Family_thing_of fd8) {fd9 : FuncData} (d_Cars__Family_thing_of : MDef P w K mg base ["self", "size", "number"] 4 (sp_Cars__Family_thing_of K ca) ca.f_Cars__Family_thing_of fd9) {f10 : Addr} {fd10 : FuncData} (d__law_has_code : Def P w K mg base "_law_has_code" ["_law_word", "_law_found", "_law_code_here"] 2 (sp__law_has_code K ca) f10 fd10) {f11 : Addr} {fd11 : FuncData} (d__law_figures_of : Def P w K mg base "_law_figures_of" ["_law_size", "_law_number_here"] 1 (sp__law_figures_of K ca) f11 fd11) {fd12 : FuncData} (d_Codes__Family_number_of : MDef P w K mg base ["self", "thing"] 3 (sp_Codes__Family_number_of K ca) ca.f_Codes__Family_number_of fd12) {fd13 : FuncData} (d_Trees__Family_number_of : MDef P w K mg base ["self", "thing"] 4 (sp_Trees__Family_number_of K ca) ca.f_Trees__Family_number_of fd13) {fd14 : FuncData} (d_Cars__Family_number_of : MDef P w K mg base ["self", "thing"] 3 (sp_Cars__Family_number_of K ca) ca.f_Cars__Family_number_of fd14) {fd15 : FuncData} (d_Codes__Family_next_of : MDef P w K mg base ["self", "thing"] 4 (sp_Codes__Family_next_of K ca) ca.f_Codes__Family_next_of fd15) {fd16 : FuncData} (d_Trees__Family_next_of : MDef P w K mg base ["self", "thing"] 5 (sp_Trees__Family_next_of K ca) ca.f_Trees__Family_next_of fd16) {fd17 : FuncData} (d_Cars__Family_next_of : MDef P w K mg base ["self", "thing"] 4 (sp_Cars__Family_next_of K ca) ca.f_Cars__Family_next_of fd17) (m_range : mg "range" = none) (m_isinstance : mg "isinstance" = none) (m_list : mg "list" = none) : FnOk P w K mg base CX0 8 f fd ["_law_script"] (sp_law K ca) := by
  refine F.ok sc_law (fun vs H Q E h => ?_) (fun cdv A outer s H vs Q E hr h => ?_)
  · obtain ⟨a, ns, rfl, hS, h63, q⟩ := h
    rfl
  obtain ⟨a, ns, rfl, hS, h63, q⟩ := h
  refine ⟨_, pss_cons (ps_set (i := 1) sc_law.nd rfl (Or.inl rfl) (pe_op op_mod (pcall d__law_cell_at hr (pa_cons (pv 0) (pa_cons pe_int pa_nil))) pe_int))
    (pss_cons (ps_set (i := 2) sc_law.nd rfl (Or.inl rfl) (pe_op op_add pe_int (pe_op op_mod (pe_op op_fdivL (pcall d__law_cell_at hr (pa_cons (pv 0) (pa_cons pe_int pa_nil))) pe_int) pe_int)))
    (pss_cons (ps_set (i := 3) sc_law.nd rfl (Or.inl rfl) pe_int)
    (pss_cons (ps_for PassesOwn.never rfl (pi_range1 rfl m_range (pa_cons (pe_op op_sub (pv 2) pe_int) pa_nil)) (pg_name (i := 4) sc_law.nd rfl (Or.inl rfl)) (pss_one (ps_set (i := 3) sc_law.nd rfl (Or.inl rfl) (pe_op op_mul (pv 3) (pe_op op_add (pv 2) pe_int)))))
    (pss_cons (ps_set (i := 5) sc_law.nd rfl (Or.inl rfl) (pcall d__law_number hr (pa_cons (pv 0) (pa_cons (pv 2) (pa_cons (pv 3) pa_nil)))))
    (pss_cons (ps_set (i := 6) sc_law.nd rfl (Or.inl rfl) (pcall d__law_kin hr (pa_cons (pv 1) pa_nil)))
    (pss_cons (ps_if (PW.pt (pw_or (pt_not (pt_val (pe_callB call_isinst rfl m_isinstance bb_isinstance (pa_cons (pv 6) (pa_cons (pe_glob (v := .ref ca.C_Family) rfl CA.m_Family rfl) pa_nil))))) (pw_or1 (pt_not (pt_val (pe_callB call_isinst rfl m_isinstance bb_isinstance (pa_cons (pv 6) (pa_cons (pe_glob (v := .ref ca.C_RingFamily) rfl CA.m_RingFamily rfl) pa_nil)))))))) (pss_one (ps_ret pe_bl)) pss_nil)
    (pss_cons (ps_if (pt_cmpR op_ne (pe_fld (pv 6) rfl) (pe_ix ix_list (pe_lst (pa_cons pe_str (pa_cons pe_str (pa_cons pe_str pa_nil)))) (pv 1) (fun _ _ => rfl)) (nomark _)) (pss_one (ps_ret pe_bl)) pss_nil)
    (pss_cons (ps_if (PW.pt (pw_or (pt_not (pt_val (pcall d__law_whole hr (pa_cons (pe_fld (pv 6) rfl) pa_nil)))) (pw_or (pt_cmpR op_ne (pe_fld (pv 6) rfl) pe_int (nomark _)) (pw_or (pt_not (pt_val (pcall d__law_whole hr (pa_cons (pe_eit (pmeth (pv 6) CA.c_Codes CA.mt_Codes_many d_Codes__Family_many hr (pa_cons (pv 2) pa_nil)) (pe_eit (pmeth (pv 6) CA.c_Trees CA.mt_Trees_many d_Trees__Family_many hr (pa_cons (pv 2) pa_nil)) (pmeth (pv 6) CA.c_Cars CA.mt_Cars_many d_Cars__Family_many hr (pa_cons (pv 2) pa_nil)))) pa_nil)))) (pw_or1 (pt_cmpR op_ne (pe_eit (pmeth (pv 6) CA.c_Codes CA.mt_Codes_many d_Codes__Family_many hr (pa_cons (pv 2) pa_nil)) (pe_eit (pmeth (pv 6) CA.c_Trees CA.mt_Trees_many d_Trees__Family_many hr (pa_cons (pv 2) pa_nil)) (pmeth (pv 6) CA.c_Cars CA.mt_Cars_many d_Cars__Family_many hr (pa_cons (pv 2) pa_nil)))) (pv 3) (nomark _))))))) (pss_one (ps_ret pe_bl)) pss_nil)
    (pss_cons (ps_set (i := 7) sc_law.nd rfl (Or.inl rfl) (pe_op op_add pe_int (pe_op op_mod (pcall d__law_cell_at hr (pa_cons (pv 0) (pa_cons pe_int pa_nil))) pe_int)))
    (pss_cons (ps_set (i := 8) sc_law.nd rfl (Or.inl rfl) pe_int)
    (pss_cons (ps_for PassesOwn.never rfl (pi_range1 rfl m_range (pa_cons (pe_op op_sub (pv 7) pe_int) pa_nil)) (pg_name (i := 4) sc_law.nd rfl (Or.inl rfl)) (pss_one (ps_set (i := 8) sc_law.nd rfl (Or.inl rfl) (pe_op op_add (pe_op op_mul (pv 8) (pe_op op_add (pv 7) pe_int)) (pv 7)))))
    (pss_cons (ps_set (i := 9) sc_law.nd rfl (Or.inl rfl) (pe_eit (pmeth (pv 6) CA.c_Codes CA.mt_Codes_thing_of d_Codes__Family_thing_of hr (pa_cons (pv 2) (pa_cons (pv 5) pa_nil))) (pe_eit (pmeth (pv 6) CA.c_Trees CA.mt_Trees_thing_of d_Trees__Family_thing_of hr (pa_cons (pv 2) (pa_cons (pv 5) pa_nil))) (pmeth (pv 6) CA.c_Cars CA.mt_Cars_thing_of d_Cars__Family_thing_of hr (pa_cons (pv 2) (pa_cons (pv 5) pa_nil))))))
    (pss_cons (ps_if (pt_not (pt_val (pcall d__law_has_code hr (pa_cons (pv 1) (pa_cons (pv 9) (pa_cons (pcall d__law_figures_of hr (pa_cons (pv 2) (pa_cons (pv 5) pa_nil))) pa_nil)))))) (pss_one (ps_ret pe_bl)) pss_nil)
    (pss_cons (ps_for PassesOwn.never rfl (pi_range1 rfl m_range (pa_cons pe_int pa_nil)) (pg_name (i := 4) sc_law.nd rfl (Or.inl rfl)) (pss_cut (ps_if (pt_cmpR op_eq (pv 4) (pe_op op_mod (pcall d__law_cell_at hr (pa_cons (pv 0) (pa_cons pe_int pa_nil))) pe_int) (nomark _)) (pss_cons (ps_set (i := 10) sc_law.nd rfl (Or.inl rfl) (pe_eit (pmeth (pv 6) CA.c_Codes CA.mt_Codes_number_of d_Codes__Family_number_of hr (pa_cons (pe_eit (pmeth (pv 6) CA.c_Codes CA.mt_Codes_thing_of d_Codes__Family_thing_of hr (pa_cons (pv 7) (pa_cons (pv 8) pa_nil))) (pe_eit (pmeth (pv 6) CA.c_Trees CA.mt_Trees_thing_of d_Trees__Family_thing_of hr (pa_cons (pv 7) (pa_cons (pv 8) pa_nil))) (pmeth (pv 6) CA.c_Cars CA.mt_Cars_thing_of d_Cars__Family_thing_of hr (pa_cons (pv 7) (pa_cons (pv 8) pa_nil))))) pa_nil)) (pe_eit (pmeth (pv 6) CA.c_Trees CA.mt_Trees_number_of d_Trees__Family_number_of hr (pa_cons (pe_eit (pmeth (pv 6) CA.c_Codes CA.mt_Codes_thing_of d_Codes__Family_thing_of hr (pa_cons (pv 7) (pa_cons (pv 8) pa_nil))) (pe_eit (pmeth (pv 6) CA.c_Trees CA.mt_Trees_thing_of d_Trees__Family_thing_of hr (pa_cons (pv 7) (pa_cons (pv 8) pa_nil))) (pmeth (pv 6) CA.c_Cars CA.mt_Cars_thing_of d_Cars__Family_thing_of hr (pa_cons (pv 7) (pa_cons (pv 8) pa_nil))))) pa_nil)) (pmeth (pv 6) CA.c_Cars CA.mt_Cars_number_of d_Cars__Family_number_of hr (pa_cons (pe_eit (pmeth (pv 6) CA.c_Codes CA.mt_Codes_thing_of d_Codes__Family_thing_of hr (pa_cons (pv 7) (pa_cons (pv 8) pa_nil))) (pe_eit (pmeth (pv 6) CA.c_Trees CA.mt_Trees_thing_of d_Trees__Family_thing_of hr (pa_cons (pv 7) (pa_cons (pv 8) pa_nil))) (pmeth (pv 6) CA.c_Cars CA.mt_Cars_thing_of d_Cars__Family_thing_of hr (pa_cons (pv 7) (pa_cons (pv 8) pa_nil))))) pa_nil)))))
    (pss_one (ps_if (PW.pt (pw_or (pt_not (pt_val (pcall d__law_whole hr (pa_cons (pv 10) pa_nil)))) (pw_or1 (pt_cmpR op_ne (pv 10) (pv 8) (nomark _))))) (pss_one (ps_ret pe_bl)) pss_nil))) pss_nil)
    (pss_cons (ps_set (i := 11) sc_law.nd rfl (Or.inl rfl) (pe_callTy call_list_of rfl m_list bb_list (pa_cons (pv 9) pa_nil)))
    (pss_cons (ps_set (i := 10) sc_law.nd rfl (Or.inl rfl) (pe_eit (pmeth (pv 6) CA.c_Codes CA.mt_Codes_number_of d_Codes__Family_number_of hr (pa_cons (pv 11) pa_nil)) (pe_eit (pmeth (pv 6) CA.c_Trees CA.mt_Trees_number_of d_Trees__Family_number_of hr (pa_cons (pv 11) pa_nil)) (pmeth (pv 6) CA.c_Cars CA.mt_Cars_number_of d_Cars__Family_number_of hr (pa_cons (pv 11) pa_nil)))))
    (pss_cons (ps_set (i := 12) sc_law.nd rfl (Or.inl rfl) (pe_eit (pmeth (pv 6) CA.c_Codes CA.mt_Codes_next_of d_Codes__Family_next_of hr (pa_cons (pv 11) pa_nil)) (pe_eit (pmeth (pv 6) CA.c_Trees CA.mt_Trees_next_of d_Trees__Family_next_of hr (pa_cons (pv 11) pa_nil)) (pmeth (pv 6) CA.c_Cars CA.mt_Cars_next_of d_Cars__Family_next_of hr (pa_cons (pv 11) pa_nil)))))
    (pss_cons (ps_if (PW.pt (pw_or (pt_not (pt_val (pcall d__law_whole hr (pa_cons (pv 10) pa_nil)))) (pw_or (pt_cmpR op_ne (pv 10) (pv 5) (nomark _)) (pw_or1 (pt_cmpR (op_ne_list (hu0 hr)) (pv 11) (pv 9) (nomark _)))))) (pss_one (ps_ret pe_bl)) pss_nil)
    (pss_one (ps_if (pt_cmpR op_eq (pe_op op_add (pv 5) pe_int) (pv 3) (nomark _)) (pss_one (ps_if (pt_cmpR op_notN (pv 12) pe_non (nomark _)) (pss_one (ps_ret pe_bl)) pss_nil)) (pss_one (ps_if (pt_not (pt_val (pcall d__law_has_code hr (pa_cons (pv 1) (pa_cons (pv 12) (pa_cons (pcall d__law_figures_of hr (pa_cons (pv 2) (pa_cons (pe_op op_add (pv 5) pe_int) pa_nil))) pa_nil)))))) (pss_one (ps_ret pe_bl)) (pss_one (ps_expr (pe_bm PySem.F.plainAttrs_list PySem.F.slot_list_append PySem.F.type_list_append mt_append (pv 12) (pa_cons pe_int pa_nil))))))))))))))
    (pss_one (ps_ret pe_bl)))))))))))))))), ?_⟩
  have w0 := Int.emod_nonneg (ns.getD (0 : Int).toNat 0) (show (3 : Int) ≠ 0 by decide)
  have w3 := Int.emod_lt_of_pos (ns.getD (0 : Int).toNat 0) (show (0 : Int) < 3 by decide)
  refine ⟨_, rfl, a, ns, 0, rfl, hS, by decide, _, _, rfl, rfl, pm (by decide), ?_⟩
  try dsimp only
  generalize ns.getD (0 : Int).toNat 0 % 3 = w at w0 w3 ⊢
  have z0 := Int.emod_nonneg (ns.getD (0 : Int).toNat 0 / 3) (show (40 : Int) ≠ 0 by decide)
  have z1 := Int.emod_lt_of_pos (ns.getD (0 : Int).toNat 0 / 3) (show (0 : Int) < 40 by decide)
  refine ⟨_, rfl, a, ns, 0, rfl, hS, by decide, _, _, rfl, rfl, ⟨by decide, by decide +kernel⟩, _, _, rfl, rfl, pm (by decide), _, _, rfl, rfl, ?_⟩
  try dsimp only
  obtain ⟨n, en⟩ : ∃ n, 1 + ns.getD (0 : Int).toNat 0 / 3 % 40 = n := ⟨_, rfl⟩
  rw [en]
  have n1 : 1 ≤ n := by omega
  have n40 : n ≤ 40 := by omega
  refine ⟨_, rfl, _, _, rfl, rfl, _, rfl, by omega, by omega, for_range (lo := 0) (n := (n - 1).toNat) (fun i σ H' => ∃ (o4 o5 o6 o7 o8 o9 o10 o11 o12 : Option V), σ = [some (.ref a), some (.int w), some (.int n), some (.int (pw (n + 1) i)), o4, o5, o6, o7, o8, o9, o10, o11, o12] ∧ H = H') ⟨_, _, _, _, _, _, _, _, _, rfl, rfl⟩ ?_ ?_⟩
  · rintro i σ H' hi ⟨o4, o5, o6, o7, o8, o9, o10, o11, o12, rfl, rfl⟩
    exact ⟨_, rfl, _, rfl, _, _, rfl, rfl, _, _, rfl, rfl, .inr ⟨by omega, by omega⟩, _, _, _, _, _, _, _, _, _, rfl, rfl⟩
  rintro σ H' ⟨o4, o5, o6, o7, o8, o9, o10, o11, o12, rfl, rfl⟩
  refine ⟨_, rfl, _, rfl, _, rfl, a, ns, n, rfl, hS, h63, n1, n40, fun m H1 s1 m0 m1 => ?_⟩
  refine ⟨_, rfl, w, rfl, w0, w3, fun x dx fs H2 s12 => ?_⟩
  have s2 := s1.trans s12
  refine ⟨fun ew hx fl => ?_, fun ew hx fl => ?_, fun ew hx fl => ?_⟩
  · skip
    subst ew
    refine ⟨_, rfl, _, _, _, _, _, rfl, relRef, CA.in_Codes.ty hx, CA.kit_Codes_Family, _, rfl, iteF ⟨_, rfl, _, _, _, _, _, rfl, relRef, CA.in_Codes.ty hx, CA.kit_Codes_RingFamily, _, rfl, iteF ?_⟩⟩
    refine ⟨_, rfl, x, _, dx, fs, _, rfl, hx, CA.c_Codes, CA.na_Codes_word, fl.word, (by show 3 ≤ sizeLine; decide), fun pl hpl => ⟨_, rfl, pl, _, _, _, rfl, rfl, SqL.of upd_same, rfl, rfl, _, rfl, iteNS rfl ?_⟩⟩
    have s3 := Same.new (Same.refl H2) hpl (.lst [.str "codes", .str "trees", .str "cars"])
    have hx3 := s3 _ _ hx
    have t3 := s2.trans s3
    generalize upd H2 pl (.lst [.str "codes", .str "trees", .str "cars"]) = H3 at s3 hx3 t3 ⊢
    refine ⟨_, rfl, x, _, dx, fs, _, rfl, hx3, CA.c_Codes, CA.na_Codes_least, fl.least, 1, rfl, _, rfl, iteF ⟨_, rfl, x, _, dx, fs, _, rfl, hx3, CA.c_Codes, CA.na_Codes_least, fl.least, rfl, _, rfl, iteNS rfl ?_⟩⟩
    refine (.inl ⟨_, rfl, x, dx, fs, rfl, hx3, fl.no "many" (by decide) (by decide), _, rfl, x, dx, fs, _, n, rfl, hx3, fl, n1, n40, fun H4 s4 => ⟨_, rfl, _, rfl, iteF ((.inl ⟨_, rfl, x, dx, fs, rfl, s4 _ _ hx3, fl.no "many" (by decide) (by decide), _, rfl, x, dx, fs, _, n, rfl, s4 _ _ hx3, fl, n1, n40, fun H5 s5 => ⟨_, rfl, rfl, _, rfl, iteNS rfl ?_⟩⟩))⟩⟩)
    have s45 := s4.trans s5
    have hx5 := s45 _ _ hx3
    have t5 := t3.trans s45
    have g0 := Int.emod_nonneg (ns.getD (3 : Int).toNat 0) (show (40 : Int) ≠ 0 by decide)
    have g1 := Int.emod_lt_of_pos (ns.getD (3 : Int).toNat 0) (show (0 : Int) < 40 by decide)
    refine ⟨_, rfl, a, ns, 3, rfl, t5.seq hS, by decide, _, _, rfl, rfl, pm (by decide), _, _, rfl, rfl, ?_⟩
    obtain ⟨h, eh⟩ : ∃ h, 1 + ns.getD (3 : Int).toNat 0 % 40 = h := ⟨_, rfl⟩
    have h1 : 1 ≤ h := by omega
    have h40 : h ≤ 40 := by omega
    refine ⟨_, rfl, _, _, rfl, rfl, _, rfl, by omega, by omega, for_range (lo := 0) (n := (1 + ns.getD (3 : Int).toNat 0 % 40 - 1).toNat) (fun i σ H' => ∃ (o4 o9 o10 o11 o12 : Option V), σ = [some (.ref a), some (.int 0), some (.int n), some (.int (pw (n + 1) (n - 1).toNat)), o4, some (.int m), some (.ref x), some (.int (1 + ns.getD (3 : Int).toNat 0 % 40)), some (.int (pw (h + 1) i - 1)), o9, o10, o11, o12] ∧ H5 = H') ⟨_, _, _, _, _, rfl, rfl⟩ ?_ ?_⟩
    · rintro i σ H' hi ⟨o4, o9, o10, o11, o12, rfl, rfl⟩
      have e : pw (h + 1) (i + 1) - 1 = (pw (h + 1) i - 1) * (1 + ns.getD (3 : Int).toNat 0 % 40 + 1) + (1 + ns.getD (3 : Int).toNat 0 % 40) := by
        rw [eh]
        show pw (h + 1) i * (h + 1) - 1 = _
        rw [Int.sub_mul, Int.one_mul]
        omega
      rw [e]
      exact ⟨_, rfl, _, rfl, _, _, rfl, rfl, _, _, rfl, rfl, .inr ⟨by omega, by omega⟩, _, rfl, _, _, rfl, rfl, _, _, _, _, _, rfl, rfl⟩
    rintro σ H' ⟨o4, o9, o10, o11, o12, rfl, rfl⟩
    rw [eh]
    have ph := pw_pos (b := h + 1) (by omega) (h - 1).toNat
    refine (.inl ⟨_, rfl, x, dx, fs, rfl, hx5, fl.no "thing_of" (by decide) (by decide), _, rfl, _, rfl, x, dx, fs, _, n, m, rfl, hx5, fl, n1, n40, m0, m1, fun pt ts H6 s6 f6 h6 rg => ?_⟩)
    have t6 := t5.trans s6
    have hx6 := s6 _ _ hx5
    have lf := figs_len (n + 1) (n - 1).toNat m
    refine ⟨_, rfl, _, rfl, _, rfl, _, rfl, n, m, rfl, n1, n40, fun pc H7 s7 f7 h7 => ⟨0, pt, pc, ts, _, rfl, by decide, s7 _ _ h6, h7, rg, by omega, fun H8 s8 => ⟨_, rfl, iteF ?_⟩⟩⟩
    have s78 := s7.trans s8
    have t8 := t6.trans s78
    have hx8 := s78 _ _ hx6
    have h8 := s78 _ _ h6
    have eb : ((figs (n + 1) (n - 1).toNat m).length : Int) + 2 = n + 1 := by omega
    have ec : (figs (n + 1) (n - 1).toNat m).length = (n - 1).toNat := lf
    have ef : fig (n + 1) (figs (n + 1) (n - 1).toNat m) = m := fig_figs (by omega) _ _ m0 m1
    refine ⟨_, rfl, by decide, by decide, for_range (lo := 0) (n := 2) (fun k σ H' => ∃ (o4 o10 o11 o12 : Option V), σ = [some (.ref a), some (.int 0), some (.int n), some (.int (pw (n + 1) (n - 1).toNat)), o4, some (.int m), some (.ref x), some (.int h), some (.int (pw (h + 1) (h - 1).toNat - 1)), some (.ref pt), o10, o11, o12] ∧ Same H8 H') ⟨_, _, _, _, rfl, Same.refl H8⟩ ?_ ?_⟩
    · rintro k σ HA hk ⟨o4, o10, o11, o12, rfl, sA⟩
      refine ⟨fun σ H' => ∃ (o10 o11 o12 : Option V), σ = [some (.ref a), some (.int 0), some (.int n), some (.int (pw (n + 1) (n - 1).toNat)), some (.int ((0 : Int) + (k : Int))), some (.int m), some (.ref x), some (.int h), some (.int (pw (h + 1) (h - 1).toNat - 1)), some (.ref pt), o10, o11, o12] ∧ Same H8 H', ?_, ?_⟩
      · refine ⟨_, rfl, _, rfl, a, ns, 4, rfl, (t8.trans sA).seq hS, by decide, _, _, rfl, rfl, pm (by decide), rfl, _, rfl, ite2 (fun _ => ?_) (fun _ => ⟨_, _, _, rfl, sA⟩)⟩
        have hxA := sA _ _ hx8
        refine (.inl ⟨_, rfl, x, dx, fs, rfl, hxA, fl.no "number_of" (by decide) (by decide), (.inl ⟨_, rfl, x, dx, fs, rfl, hxA, fl.no "thing_of" (by decide) (by decide), _, rfl, _, rfl, x, dx, fs, _, h, pw (h + 1) (h - 1).toNat - 1, rfl, hxA, fl, h1, h40, by omega, by omega, fun pu us HB sB fB hB rgu => ⟨x, dx, fs, _, pu, us, _, rfl, sB _ _ hxA, fl, hB, rgu, by have := figs_len (h + 1) (h - 1).toNat (pw (h + 1) (h - 1).toNat - 1); omega, fun HC sC => ?_⟩⟩)⟩)
        have lu := figs_len (h + 1) (h - 1).toNat (pw (h + 1) (h - 1).toNat - 1)
        have e1 : fig (((figs (h + 1) (h - 1).toNat (pw (h + 1) (h - 1).toNat - 1)).length : Int) + 2) (figs (h + 1) (h - 1).toNat (pw (h + 1) (h - 1).toNat - 1)) = pw (h + 1) (h - 1).toNat - 1 := by
          rw [show ((figs (h + 1) (h - 1).toNat (pw (h + 1) (h - 1).toNat - 1)).length : Int) + 2 = h + 1 by omega]
          exact fig_figs (by omega) _ _ (by omega) (by omega)
        rw [e1]
        exact ⟨_, rfl, _, rfl, _, rfl, iteF ⟨_, rfl, _, rfl, rfl, _, rfl, iteNS rfl ⟨_, _, _, rfl, sA.trans (sB.trans sC)⟩⟩⟩
      rintro σ HB ⟨o10, o11, o12, rfl, sB⟩
      have hxB := sB _ _ hx8
      refine ⟨_, rfl, pt, _, rfl, .inl (SqL.of (sB _ _ h8)), fun pn hpn => ?_⟩
      have kC := Same.new (Same.refl HB) hpn (.lst (ts.map V.int))
      have hnC : upd HB pn (.lst (ts.map V.int)) pn = some (.lst (ts.map V.int)) := upd_same
      have sC := sB.trans kC
      generalize upd HB pn (.lst (ts.map V.int)) = HC at kC hnC sC ⊢
      have hxC := sC _ _ hx8
      refine (.inl ⟨_, rfl, x, dx, fs, rfl, hxC, fl.no "number_of" (by decide) (by decide), _, rfl, x, dx, fs, _, pn, ts, _, rfl, hxC, fl, hnC, rg, by omega, fun HD sD => ?_⟩)
      rw [eb, ef]
      have hxD := sD _ _ hxC
      have hnD := sD _ _ hnC
      have sD' := sC.trans sD
      refine (.inl ⟨_, rfl, x, dx, fs, rfl, hxD, fl.no "next_of" (by decide) (by decide), _, rfl, x, dx, fs, _, pn, ts, _, rfl, hxD, fl, hnD, rg, by omega, fun HE sE e => ?_, fun pr rs HE sE fE hE lt rg2 => ?_⟩)
      · rw [eb, ec, ef] at e
        have ht := (sD'.trans sE) _ _ h8
        refine ⟨_, rfl, _, rfl, _, rfl, iteF ⟨_, rfl, _, rfl, rfl, _, rfl, iteNS rfl ⟨_, rfl, _, rfl, pn, pt, _, _, rfl, rfl, SqL.of (sE _ _ hnD), SqL.of ht, flat_ints _, flat_ints _, _, rfl, ?_⟩⟩⟩
        rw [eqL_self]
        refine iteF ⟨_, rfl, _, _, rfl, rfl, _, rfl, rfl, _, rfl, iteP (congrArg V.int e) ⟨_, rfl, rfl, _, rfl, ?_⟩⟩
        have eN : (!decide (V.non = V.non)) = false := by simp
        rw [eN]
        exact iteF ⟨_, _, _, _, rfl, sD'.trans sE⟩
      · rw [eb, ec, ef] at lt rg2
        have ht := (sD'.trans sE) _ _ h8
        refine ⟨_, rfl, _, rfl, _, rfl, iteF ⟨_, rfl, _, rfl, rfl, _, rfl, iteNS rfl ⟨_, rfl, _, rfl, pn, pt, _, _, rfl, rfl, SqL.of (sE _ _ hnD), SqL.of ht, flat_ints _, flat_ints _, _, rfl, ?_⟩⟩⟩
        rw [eqL_self]
        have lg := figs_len (n + 1) (n - 1).toNat (m + 1)
        refine iteF ⟨_, rfl, _, _, rfl, rfl, _, rfl, rfl, _, rfl, iteN (fun z => by injection z with z; omega) ⟨_, rfl, _, rfl, _, rfl, _, rfl, _, _, rfl, rfl, n, m + 1, rfl, n1, n40, fun pd HF sF fF hF => ⟨0, pr, pd, rs, _, rfl, by decide, sF _ _ hE, hF, rg2, by omega, fun HG sG => ⟨_, rfl, iteF ?_⟩⟩⟩⟩
        have sFG := sF.trans sG
        have hrG := sFG _ _ hE
        have lr := rg2.len
        refine ⟨_, rfl, .inl ⟨rfl, _, SqL.of hrG⟩, pr, _, _, rfl, rfl, hrG, sz' (by rw [List.length_map]; omega), ?_⟩
        exact ⟨_, _, _, _, rfl, (((sD'.trans sE).trans sFG).upd (sD'.free fE) _)⟩
    · rintro σ HA ⟨o4, o10, o11, o12, rfl, sA⟩
      exact q _

  · skip
    subst ew
    refine ⟨_, rfl, _, _, _, _, _, rfl, relRef, CA.in_Trees.ty hx, CA.kit_Trees_Family, _, rfl, iteF ⟨_, rfl, _, _, _, _, _, rfl, relRef, CA.in_Trees.ty hx, CA.kit_Trees_RingFamily, _, rfl, iteF ?_⟩⟩
    refine ⟨_, rfl, x, _, dx, fs, _, rfl, hx, CA.c_Trees, CA.na_Trees_word, fl.word, (by show 3 ≤ sizeLine; decide), fun pl hpl => ⟨_, rfl, pl, _, _, _, rfl, rfl, SqL.of upd_same, rfl, rfl, _, rfl, iteNS rfl ?_⟩⟩
    have s3 := Same.new (Same.refl H2) hpl (.lst [.str "codes", .str "trees", .str "cars"])
    have hx3 := s3 _ _ hx
    have t3 := s2.trans s3
    generalize upd H2 pl (.lst [.str "codes", .str "trees", .str "cars"]) = H3 at s3 hx3 t3 ⊢
    refine ⟨_, rfl, x, _, dx, fs, _, rfl, hx3, CA.c_Trees, CA.na_Trees_least, fl.least, 1, rfl, _, rfl, iteF ⟨_, rfl, x, _, dx, fs, _, rfl, hx3, CA.c_Trees, CA.na_Trees_least, fl.least, rfl, _, rfl, iteNS rfl ?_⟩⟩
    refine (.inr (.inl ⟨_, rfl, x, dx, fs, rfl, hx3, fl.no "many" (by decide) (by decide), _, rfl, x, dx, fs, _, n, rfl, hx3, fl, n1, n40, fun H4 s4 => ⟨_, rfl, _, rfl, iteF ((.inr (.inl ⟨_, rfl, x, dx, fs, rfl, s4 _ _ hx3, fl.no "many" (by decide) (by decide), _, rfl, x, dx, fs, _, n, rfl, s4 _ _ hx3, fl, n1, n40, fun H5 s5 => ⟨_, rfl, rfl, _, rfl, iteNS rfl ?_⟩⟩)))⟩⟩))
    have s45 := s4.trans s5
    have hx5 := s45 _ _ hx3
    have t5 := t3.trans s45
    have g0 := Int.emod_nonneg (ns.getD (3 : Int).toNat 0) (show (40 : Int) ≠ 0 by decide)
    have g1 := Int.emod_lt_of_pos (ns.getD (3 : Int).toNat 0) (show (0 : Int) < 40 by decide)
    refine ⟨_, rfl, a, ns, 3, rfl, t5.seq hS, by decide, _, _, rfl, rfl, pm (by decide), _, _, rfl, rfl, ?_⟩
    obtain ⟨h, eh⟩ : ∃ h, 1 + ns.getD (3 : Int).toNat 0 % 40 = h := ⟨_, rfl⟩
    have h1 : 1 ≤ h := by omega
    have h40 : h ≤ 40 := by omega
    refine ⟨_, rfl, _, _, rfl, rfl, _, rfl, by omega, by omega, for_range (lo := 0) (n := (1 + ns.getD (3 : Int).toNat 0 % 40 - 1).toNat) (fun i σ H' => ∃ (o4 o9 o10 o11 o12 : Option V), σ = [some (.ref a), some (.int 1), some (.int n), some (.int (pw (n + 1) (n - 1).toNat)), o4, some (.int m), some (.ref x), some (.int (1 + ns.getD (3 : Int).toNat 0 % 40)), some (.int (pw (h + 1) i - 1)), o9, o10, o11, o12] ∧ H5 = H') ⟨_, _, _, _, _, rfl, rfl⟩ ?_ ?_⟩
    · rintro i σ H' hi ⟨o4, o9, o10, o11, o12, rfl, rfl⟩
      have e : pw (h + 1) (i + 1) - 1 = (pw (h + 1) i - 1) * (1 + ns.getD (3 : Int).toNat 0 % 40 + 1) + (1 + ns.getD (3 : Int).toNat 0 % 40) := by
        rw [eh]
        show pw (h + 1) i * (h + 1) - 1 = _
        rw [Int.sub_mul, Int.one_mul]
        omega
      rw [e]
      exact ⟨_, rfl, _, rfl, _, _, rfl, rfl, _, _, rfl, rfl, .inr ⟨by omega, by omega⟩, _, rfl, _, _, rfl, rfl, _, _, _, _, _, rfl, rfl⟩
    rintro σ H' ⟨o4, o9, o10, o11, o12, rfl, rfl⟩
    rw [eh]
    have ph := pw_pos (b := h + 1) (by omega) (h - 1).toNat
    refine (.inr (.inl ⟨_, rfl, x, dx, fs, rfl, hx5, fl.no "thing_of" (by decide) (by decide), _, rfl, _, rfl, x, dx, fs, _, n, m, rfl, hx5, fl, n1, n40, m0, m1, fun pt ts H6 s6 f6 h6 rg => ?_⟩))
    have t6 := t5.trans s6
    have hx6 := s6 _ _ hx5
    have lf := figs_len (n + 1) (n - 1).toNat m
    refine ⟨_, rfl, _, rfl, _, rfl, _, rfl, n, m, rfl, n1, n40, fun pc H7 s7 f7 h7 => ⟨1, pt, pc, ts, _, rfl, by decide, s7 _ _ h6, h7, rg, by omega, fun H8 s8 => ⟨_, rfl, iteF ?_⟩⟩⟩
    have s78 := s7.trans s8
    have t8 := t6.trans s78
    have hx8 := s78 _ _ hx6
    have h8 := s78 _ _ h6
    have eb : ((figs (n + 1) (n - 1).toNat m).length : Int) + 2 = n + 1 := by omega
    have ec : (figs (n + 1) (n - 1).toNat m).length = (n - 1).toNat := lf
    have ef : fig (n + 1) (figs (n + 1) (n - 1).toNat m) = m := fig_figs (by omega) _ _ m0 m1
    refine ⟨_, rfl, by decide, by decide, for_range (lo := 0) (n := 2) (fun k σ H' => ∃ (o4 o10 o11 o12 : Option V), σ = [some (.ref a), some (.int 1), some (.int n), some (.int (pw (n + 1) (n - 1).toNat)), o4, some (.int m), some (.ref x), some (.int h), some (.int (pw (h + 1) (h - 1).toNat - 1)), some (.ref pt), o10, o11, o12] ∧ Same H8 H') ⟨_, _, _, _, rfl, Same.refl H8⟩ ?_ ?_⟩
    · rintro k σ HA hk ⟨o4, o10, o11, o12, rfl, sA⟩
      refine ⟨fun σ H' => ∃ (o10 o11 o12 : Option V), σ = [some (.ref a), some (.int 1), some (.int n), some (.int (pw (n + 1) (n - 1).toNat)), some (.int ((0 : Int) + (k : Int))), some (.int m), some (.ref x), some (.int h), some (.int (pw (h + 1) (h - 1).toNat - 1)), some (.ref pt), o10, o11, o12] ∧ Same H8 H', ?_, ?_⟩
      · refine ⟨_, rfl, _, rfl, a, ns, 4, rfl, (t8.trans sA).seq hS, by decide, _, _, rfl, rfl, pm (by decide), rfl, _, rfl, ite2 (fun _ => ?_) (fun _ => ⟨_, _, _, rfl, sA⟩)⟩
        have hxA := sA _ _ hx8
        refine (.inr (.inl ⟨_, rfl, x, dx, fs, rfl, hxA, fl.no "number_of" (by decide) (by decide), (.inr (.inl ⟨_, rfl, x, dx, fs, rfl, hxA, fl.no "thing_of" (by decide) (by decide), _, rfl, _, rfl, x, dx, fs, _, h, pw (h + 1) (h - 1).toNat - 1, rfl, hxA, fl, h1, h40, by omega, by omega, fun pu us HB sB fB hB rgu => ⟨x, dx, fs, _, pu, us, _, rfl, sB _ _ hxA, fl, hB, rgu, by have := figs_len (h + 1) (h - 1).toNat (pw (h + 1) (h - 1).toNat - 1); omega, fun HC sC => ?_⟩⟩))⟩))
        have lu := figs_len (h + 1) (h - 1).toNat (pw (h + 1) (h - 1).toNat - 1)
        have e1 : fig (((figs (h + 1) (h - 1).toNat (pw (h + 1) (h - 1).toNat - 1)).length : Int) + 2) (figs (h + 1) (h - 1).toNat (pw (h + 1) (h - 1).toNat - 1)) = pw (h + 1) (h - 1).toNat - 1 := by
          rw [show ((figs (h + 1) (h - 1).toNat (pw (h + 1) (h - 1).toNat - 1)).length : Int) + 2 = h + 1 by omega]
          exact fig_figs (by omega) _ _ (by omega) (by omega)
        rw [e1]
        exact ⟨_, rfl, _, rfl, _, rfl, iteF ⟨_, rfl, _, rfl, rfl, _, rfl, iteNS rfl ⟨_, _, _, rfl, sA.trans (sB.trans sC)⟩⟩⟩
      rintro σ HB ⟨o10, o11, o12, rfl, sB⟩
      have hxB := sB _ _ hx8
      refine ⟨_, rfl, pt, _, rfl, .inl (SqL.of (sB _ _ h8)), fun pn hpn => ?_⟩
      have kC := Same.new (Same.refl HB) hpn (.lst (ts.map V.int))
      have hnC : upd HB pn (.lst (ts.map V.int)) pn = some (.lst (ts.map V.int)) := upd_same
      have sC := sB.trans kC
      generalize upd HB pn (.lst (ts.map V.int)) = HC at kC hnC sC ⊢
      have hxC := sC _ _ hx8
      refine (.inr (.inl ⟨_, rfl, x, dx, fs, rfl, hxC, fl.no "number_of" (by decide) (by decide), _, rfl, x, dx, fs, _, pn, ts, _, rfl, hxC, fl, hnC, rg, by omega, fun HD sD => ?_⟩))
      rw [eb, ef]
      have hxD := sD _ _ hxC
      have hnD := sD _ _ hnC
      have sD' := sC.trans sD
      refine (.inr (.inl ⟨_, rfl, x, dx, fs, rfl, hxD, fl.no "next_of" (by decide) (by decide), _, rfl, x, dx, fs, _, pn, ts, _, rfl, hxD, fl, hnD, rg, by omega, fun HE sE e => ?_, fun pr rs HE sE fE hE lt rg2 => ?_⟩))
      · rw [eb, ec, ef] at e
        have ht := (sD'.trans sE) _ _ h8
        refine ⟨_, rfl, _, rfl, _, rfl, iteF ⟨_, rfl, _, rfl, rfl, _, rfl, iteNS rfl ⟨_, rfl, _, rfl, pn, pt, _, _, rfl, rfl, SqL.of (sE _ _ hnD), SqL.of ht, flat_ints _, flat_ints _, _, rfl, ?_⟩⟩⟩
        rw [eqL_self]
        refine iteF ⟨_, rfl, _, _, rfl, rfl, _, rfl, rfl, _, rfl, iteP (congrArg V.int e) ⟨_, rfl, rfl, _, rfl, ?_⟩⟩
        have eN : (!decide (V.non = V.non)) = false := by simp
        rw [eN]
        exact iteF ⟨_, _, _, _, rfl, sD'.trans sE⟩
      · rw [eb, ec, ef] at lt rg2
        have ht := (sD'.trans sE) _ _ h8
        refine ⟨_, rfl, _, rfl, _, rfl, iteF ⟨_, rfl, _, rfl, rfl, _, rfl, iteNS rfl ⟨_, rfl, _, rfl, pn, pt, _, _, rfl, rfl, SqL.of (sE _ _ hnD), SqL.of ht, flat_ints _, flat_ints _, _, rfl, ?_⟩⟩⟩
        rw [eqL_self]
        have lg := figs_len (n + 1) (n - 1).toNat (m + 1)
        refine iteF ⟨_, rfl, _, _, rfl, rfl, _, rfl, rfl, _, rfl, iteN (fun z => by injection z with z; omega) ⟨_, rfl, _, rfl, _, rfl, _, rfl, _, _, rfl, rfl, n, m + 1, rfl, n1, n40, fun pd HF sF fF hF => ⟨1, pr, pd, rs, _, rfl, by decide, sF _ _ hE, hF, rg2, by omega, fun HG sG => ⟨_, rfl, iteF ?_⟩⟩⟩⟩
        have sFG := sF.trans sG
        have hrG := sFG _ _ hE
        have lr := rg2.len
        refine ⟨_, rfl, .inl ⟨rfl, _, SqL.of hrG⟩, pr, _, _, rfl, rfl, hrG, sz' (by rw [List.length_map]; omega), ?_⟩
        exact ⟨_, _, _, _, rfl, (((sD'.trans sE).trans sFG).upd (sD'.free fE) _)⟩
    · rintro σ HA ⟨o4, o10, o11, o12, rfl, sA⟩
      exact q _

  · skip
    subst ew
    refine ⟨_, rfl, _, _, _, _, _, rfl, relRef, CA.in_Cars.ty hx, CA.kit_Cars_Family, _, rfl, iteF ⟨_, rfl, _, _, _, _, _, rfl, relRef, CA.in_Cars.ty hx, CA.kit_Cars_RingFamily, _, rfl, iteF ?_⟩⟩
    refine ⟨_, rfl, x, _, dx, fs, _, rfl, hx, CA.c_Cars, CA.na_Cars_word, fl.word, (by show 3 ≤ sizeLine; decide), fun pl hpl => ⟨_, rfl, pl, _, _, _, rfl, rfl, SqL.of upd_same, rfl, rfl, _, rfl, iteNS rfl ?_⟩⟩
    have s3 := Same.new (Same.refl H2) hpl (.lst [.str "codes", .str "trees", .str "cars"])
    have hx3 := s3 _ _ hx
    have t3 := s2.trans s3
    generalize upd H2 pl (.lst [.str "codes", .str "trees", .str "cars"]) = H3 at s3 hx3 t3 ⊢
    refine ⟨_, rfl, x, _, dx, fs, _, rfl, hx3, CA.c_Cars, CA.na_Cars_least, fl.least, 1, rfl, _, rfl, iteF ⟨_, rfl, x, _, dx, fs, _, rfl, hx3, CA.c_Cars, CA.na_Cars_least, fl.least, rfl, _, rfl, iteNS rfl ?_⟩⟩
    refine (.inr (.inr ⟨_, rfl, x, dx, fs, rfl, hx3, fl.no "many" (by decide) (by decide), _, rfl, x, dx, fs, _, n, rfl, hx3, fl, n1, n40, fun H4 s4 => ⟨_, rfl, _, rfl, iteF ((.inr (.inr ⟨_, rfl, x, dx, fs, rfl, s4 _ _ hx3, fl.no "many" (by decide) (by decide), _, rfl, x, dx, fs, _, n, rfl, s4 _ _ hx3, fl, n1, n40, fun H5 s5 => ⟨_, rfl, rfl, _, rfl, iteNS rfl ?_⟩⟩)))⟩⟩))
    have s45 := s4.trans s5
    have hx5 := s45 _ _ hx3
    have t5 := t3.trans s45
    have g0 := Int.emod_nonneg (ns.getD (3 : Int).toNat 0) (show (40 : Int) ≠ 0 by decide)
    have g1 := Int.emod_lt_of_pos (ns.getD (3 : Int).toNat 0) (show (0 : Int) < 40 by decide)
    refine ⟨_, rfl, a, ns, 3, rfl, t5.seq hS, by decide, _, _, rfl, rfl, pm (by decide), _, _, rfl, rfl, ?_⟩
    obtain ⟨h, eh⟩ : ∃ h, 1 + ns.getD (3 : Int).toNat 0 % 40 = h := ⟨_, rfl⟩
    have h1 : 1 ≤ h := by omega
    have h40 : h ≤ 40 := by omega
    refine ⟨_, rfl, _, _, rfl, rfl, _, rfl, by omega, by omega, for_range (lo := 0) (n := (1 + ns.getD (3 : Int).toNat 0 % 40 - 1).toNat) (fun i σ H' => ∃ (o4 o9 o10 o11 o12 : Option V), σ = [some (.ref a), some (.int 2), some (.int n), some (.int (pw (n + 1) (n - 1).toNat)), o4, some (.int m), some (.ref x), some (.int (1 + ns.getD (3 : Int).toNat 0 % 40)), some (.int (pw (h + 1) i - 1)), o9, o10, o11, o12] ∧ H5 = H') ⟨_, _, _, _, _, rfl, rfl⟩ ?_ ?_⟩
    · rintro i σ H' hi ⟨o4, o9, o10, o11, o12, rfl, rfl⟩
      have e : pw (h + 1) (i + 1) - 1 = (pw (h + 1) i - 1) * (1 + ns.getD (3 : Int).toNat 0 % 40 + 1) + (1 + ns.getD (3 : Int).toNat 0 % 40) := by
        rw [eh]
        show pw (h + 1) i * (h + 1) - 1 = _
        rw [Int.sub_mul, Int.one_mul]
        omega
      rw [e]
      exact ⟨_, rfl, _, rfl, _, _, rfl, rfl, _, _, rfl, rfl, .inr ⟨by omega, by omega⟩, _, rfl, _, _, rfl, rfl, _, _, _, _, _, rfl, rfl⟩
    rintro σ H' ⟨o4, o9, o10, o11, o12, rfl, rfl⟩
    rw [eh]
    have ph := pw_pos (b := h + 1) (by omega) (h - 1).toNat
    refine (.inr (.inr ⟨_, rfl, x, dx, fs, rfl, hx5, fl.no "thing_of" (by decide) (by decide), _, rfl, _, rfl, x, dx, fs, _, n, m, rfl, hx5, fl, n1, n40, m0, m1, fun pt ts H6 s6 f6 h6 rg => ?_⟩))
    have t6 := t5.trans s6
    have hx6 := s6 _ _ hx5
    have lf := figs_len (n + 1) (n - 1).toNat m
    refine ⟨_, rfl, _, rfl, _, rfl, _, rfl, n, m, rfl, n1, n40, fun pc H7 s7 f7 h7 => ⟨2, pt, pc, ts, _, rfl, by decide, s7 _ _ h6, h7, rg, by omega, fun H8 s8 => ⟨_, rfl, iteF ?_⟩⟩⟩
    have s78 := s7.trans s8
    have t8 := t6.trans s78
    have hx8 := s78 _ _ hx6
    have h8 := s78 _ _ h6
    have eb : ((figs (n + 1) (n - 1).toNat m).length : Int) + 2 = n + 1 := by omega
    have ec : (figs (n + 1) (n - 1).toNat m).length = (n - 1).toNat := lf
    have ef : fig (n + 1) (figs (n + 1) (n - 1).toNat m) = m := fig_figs (by omega) _ _ m0 m1
    refine ⟨_, rfl, by decide, by decide, for_range (lo := 0) (n := 2) (fun k σ H' => ∃ (o4 o10 o11 o12 : Option V), σ = [some (.ref a), some (.int 2), some (.int n), some (.int (pw (n + 1) (n - 1).toNat)), o4, some (.int m), some (.ref x), some (.int h), some (.int (pw (h + 1) (h - 1).toNat - 1)), some (.ref pt), o10, o11, o12] ∧ Same H8 H') ⟨_, _, _, _, rfl, Same.refl H8⟩ ?_ ?_⟩
    · rintro k σ HA hk ⟨o4, o10, o11, o12, rfl, sA⟩
      refine ⟨fun σ H' => ∃ (o10 o11 o12 : Option V), σ = [some (.ref a), some (.int 2), some (.int n), some (.int (pw (n + 1) (n - 1).toNat)), some (.int ((0 : Int) + (k : Int))), some (.int m), some (.ref x), some (.int h), some (.int (pw (h + 1) (h - 1).toNat - 1)), some (.ref pt), o10, o11, o12] ∧ Same H8 H', ?_, ?_⟩
      · refine ⟨_, rfl, _, rfl, a, ns, 4, rfl, (t8.trans sA).seq hS, by decide, _, _, rfl, rfl, pm (by decide), rfl, _, rfl, ite2 (fun _ => ?_) (fun _ => ⟨_, _, _, rfl, sA⟩)⟩
        have hxA := sA _ _ hx8
        refine (.inr (.inr ⟨_, rfl, x, dx, fs, rfl, hxA, fl.no "number_of" (by decide) (by decide), (.inr (.inr ⟨_, rfl, x, dx, fs, rfl, hxA, fl.no "thing_of" (by decide) (by decide), _, rfl, _, rfl, x, dx, fs, _, h, pw (h + 1) (h - 1).toNat - 1, rfl, hxA, fl, h1, h40, by omega, by omega, fun pu us HB sB fB hB rgu => ⟨x, dx, fs, _, pu, us, _, rfl, sB _ _ hxA, fl, hB, rgu, by have := figs_len (h + 1) (h - 1).toNat (pw (h + 1) (h - 1).toNat - 1); omega, fun HC sC => ?_⟩⟩))⟩))
        have lu := figs_len (h + 1) (h - 1).toNat (pw (h + 1) (h - 1).toNat - 1)
        have e1 : fig (((figs (h + 1) (h - 1).toNat (pw (h + 1) (h - 1).toNat - 1)).length : Int) + 2) (figs (h + 1) (h - 1).toNat (pw (h + 1) (h - 1).toNat - 1)) = pw (h + 1) (h - 1).toNat - 1 := by
          rw [show ((figs (h + 1) (h - 1).toNat (pw (h + 1) (h - 1).toNat - 1)).length : Int) + 2 = h + 1 by omega]
          exact fig_figs (by omega) _ _ (by omega) (by omega)
        rw [e1]
        exact ⟨_, rfl, _, rfl, _, rfl, iteF ⟨_, rfl, _, rfl, rfl, _, rfl, iteNS rfl ⟨_, _, _, rfl, sA.trans (sB.trans sC)⟩⟩⟩
      rintro σ HB ⟨o10, o11, o12, rfl, sB⟩
      have hxB := sB _ _ hx8
      refine ⟨_, rfl, pt, _, rfl, .inl (SqL.of (sB _ _ h8)), fun pn hpn => ?_⟩
      have kC := Same.new (Same.refl HB) hpn (.lst (ts.map V.int))
      have hnC : upd HB pn (.lst (ts.map V.int)) pn = some (.lst (ts.map V.int)) := upd_same
      have sC := sB.trans kC
      generalize upd HB pn (.lst (ts.map V.int)) = HC at kC hnC sC ⊢
      have hxC := sC _ _ hx8
      refine (.inr (.inr ⟨_, rfl, x, dx, fs, rfl, hxC, fl.no "number_of" (by decide) (by decide), _, rfl, x, dx, fs, _, pn, ts, _, rfl, hxC, fl, hnC, rg, by omega, fun HD sD => ?_⟩))
      rw [eb, ef]
      have hxD := sD _ _ hxC
      have hnD := sD _ _ hnC
      have sD' := sC.trans sD
      refine (.inr (.inr ⟨_, rfl, x, dx, fs, rfl, hxD, fl.no "next_of" (by decide) (by decide), _, rfl, x, dx, fs, _, pn, ts, _, rfl, hxD, fl, hnD, rg, by omega, fun HE sE e => ?_, fun pr rs HE sE fE hE lt rg2 => ?_⟩))
      · rw [eb, ec, ef] at e
        have ht := (sD'.trans sE) _ _ h8
        refine ⟨_, rfl, _, rfl, _, rfl, iteF ⟨_, rfl, _, rfl, rfl, _, rfl, iteNS rfl ⟨_, rfl, _, rfl, pn, pt, _, _, rfl, rfl, SqL.of (sE _ _ hnD), SqL.of ht, flat_ints _, flat_ints _, _, rfl, ?_⟩⟩⟩
        rw [eqL_self]
        refine iteF ⟨_, rfl, _, _, rfl, rfl, _, rfl, rfl, _, rfl, iteP (congrArg V.int e) ⟨_, rfl, rfl, _, rfl, ?_⟩⟩
        have eN : (!decide (V.non = V.non)) = false := by simp
        rw [eN]
        exact iteF ⟨_, _, _, _, rfl, sD'.trans sE⟩
      · rw [eb, ec, ef] at lt rg2
        have ht := (sD'.trans sE) _ _ h8
        refine ⟨_, rfl, _, rfl, _, rfl, iteF ⟨_, rfl, _, rfl, rfl, _, rfl, iteNS rfl ⟨_, rfl, _, rfl, pn, pt, _, _, rfl, rfl, SqL.of (sE _ _ hnD), SqL.of ht, flat_ints _, flat_ints _, _, rfl, ?_⟩⟩⟩
        rw [eqL_self]
        have lg := figs_len (n + 1) (n - 1).toNat (m + 1)
        refine iteF ⟨_, rfl, _, _, rfl, rfl, _, rfl, rfl, _, rfl, iteN (fun z => by injection z with z; omega) ⟨_, rfl, _, rfl, _, rfl, _, rfl, _, _, rfl, rfl, n, m + 1, rfl, n1, n40, fun pd HF sF fF hF => ⟨2, pr, pd, rs, _, rfl, by decide, sF _ _ hE, hF, rg2, by omega, fun HG sG => ⟨_, rfl, iteF ?_⟩⟩⟩⟩
        have sFG := sF.trans sG
        have hrG := sFG _ _ hE
        have lr := rg2.len
        refine ⟨_, rfl, .inl ⟨rfl, _, SqL.of hrG⟩, pr, _, _, rfl, rfl, hrG, sz' (by rw [List.length_map]; omega), ?_⟩
        exact ⟨_, _, _, _, rfl, (((sD'.trans sE).trans sFG).upd (sD'.free fE) _)⟩
    · rintro σ HA ⟨o4, o10, o11, o12, rfl, sA⟩
      exact q _
end
noncomputable def spL (K : PySem.W.Frag) : Sp := fun vs H Q _ => ∃ (a : Addr) (ns : List Int), vs = [.ref a] ∧ SqL K H a (ns.map V.int) ∧ ns.length ≤ 63 ∧ ∀ H', Q (.bl true) H'
theorem lenAll1 {P : List Value → Prop} (h : ∀ a0 : Value, P [a0]) : ∀ us : List Value, us.length = 1 → P us
  | [a0], _ => h a0
theorem lenAll2 {P : List Value → Prop} (h : ∀ a0 a1 : Value, P [a0, a1]) : ∀ us : List Value, us.length = 2 → P us
  | [a0, a1], _ => h a0 a1
theorem lenAll3 {P : List Value → Prop} (h : ∀ a0 a1 a2 : Value, P [a0, a1, a2]) : ∀ us : List Value, us.length = 3 → P us
  | [a0, a1, a2], _ => h a0 a1 a2
theorem all_mk {l : PySem.W.OpenLaw} {w : World} {K : PySem.W.Frag} {h : Heap} {mg : Str → Option Value} {fa : Addr} (X : K.In h) (G : h.Ns mainGlobals mg) (hfa : mg "law" = some (.ref fa)) {C_Codes : Addr} {C_Family : Addr} {C_Trees : Addr} {C_Cars : Addr} {C_RingFamily : Addr}
    {f1 : Addr} {od1 an1 : Option Addr} {sl1 : Array (Option Value)} {oc1 kV1 dc1 pm1 cd1 ct1 : Value}
    {f2 : Addr} {od2 an2 : Option Addr} {sl2 : Array (Option Value)} {oc2 kV2 dc2 pm2 cd2 ct2 : Value}
    {f3 : Addr} {od3 an3 : Option Addr} {sl3 : Array (Option Value)} {oc3 kV3 dc3 pm3 cd3 ct3 : Value}
    {f4 : Addr} {od4 an4 : Option Addr} {sl4 : Array (Option Value)} {oc4 kV4 dc4 pm4 cd4 ct4 : Value}
    {f5 : Addr} {od5 an5 : Option Addr} {sl5 : Array (Option Value)} {oc5 kV5 dc5 pm5 cd5 ct5 : Value}
    {f6 : Addr} {od6 an6 : Option Addr} {sl6 : Array (Option Value)} {oc6 kV6 dc6 pm6 cd6 ct6 : Value}
    {f7 : Addr} {od7 an7 : Option Addr} {sl7 : Array (Option Value)} {oc7 kV7 dc7 pm7 cd7 ct7 : Value}
    {f8 : Addr} {od8 an8 : Option Addr} {sl8 : Array (Option Value)} {oc8 kV8 dc8 pm8 cd8 ct8 : Value}
    {f9 : Addr} {od9 an9 : Option Addr} {sl9 : Array (Option Value)} {oc9 kV9 dc9 pm9 cd9 ct9 : Value}
    {f10 : Addr} {od10 an10 : Option Addr} {sl10 : Array (Option Value)} {oc10 kV10 dc10 pm10 cd10 ct10 : Value}
    {f11 : Addr} {od11 an11 : Option Addr} {sl11 : Array (Option Value)} {oc11 kV11 dc11 pm11 cd11 ct11 : Value}
    {f12 : Addr} {od12 an12 : Option Addr} {sl12 : Array (Option Value)} {oc12 kV12 dc12 pm12 cd12 ct12 : Value}
    {f13 : Addr} {od13 an13 : Option Addr} {sl13 : Array (Option Value)} {oc13 kV13 dc13 pm13 cd13 ct13 : Value}
    {f14 : Addr} {od14 an14 : Option Addr} {sl14 : Array (Option Value)} {oc14 kV14 dc14 pm14 cd14 ct14 : Value}
    {f15 : Addr} {od15 an15 : Option Addr} {sl15 : Array (Option Value)} {oc15 kV15 dc15 pm15 cd15 ct15 : Value}
    {f16 : Addr} {od16 an16 : Option Addr} {sl16 : Array (Option Value)} {oc16 kV16 dc16 pm16 cd16 ct16 : Value}
    {f17 : Addr} {od17 an17 : Option Addr} {sl17 : Array (Option Value)} {oc17 kV17 dc17 pm17 cd17 ct17 : Value}
    {f18 : Addr} {od18 an18 : Option Addr} {sl18 : Array (Option Value)} {oc18 kV18 dc18 pm18 cd18 ct18 : Value}
    {f19 : Addr} {od19 an19 : Option Addr} {sl19 : Array (Option Value)} {oc19 kV19 dc19 pm19 cd19 ct19 : Value}
    {f20 : Addr} {od20 an20 : Option Addr} {sl20 : Array (Option Value)} {oc20 kV20 dc20 pm20 cd20 ct20 : Value}
    {f21 : Addr} {od21 an21 : Option Addr} {sl21 : Array (Option Value)} {oc21 kV21 dc21 pm21 cd21 ct21 : Value}
    {f22 : Addr} {od22 an22 : Option Addr} {sl22 : Array (Option Value)} {oc22 kV22 dc22 pm22 cd22 ct22 : Value}
    {f23 : Addr} {od23 an23 : Option Addr} {sl23 : Array (Option Value)} {oc23 kV23 dc23 pm23 cd23 ct23 : Value}
    {f24 : Addr} {od24 an24 : Option Addr} {sl24 : Array (Option Value)} {oc24 kV24 dc24 pm24 cd24 ct24 : Value}
    {f25 : Addr} {od25 an25 : Option Addr} {sl25 : Array (Option Value)} {oc25 kV25 dc25 pm25 cd25 ct25 : Value}
    {f26 : Addr} {od26 an26 : Option Addr} {sl26 : Array (Option Value)} {oc26 kV26 dc26 pm26 cd26 ct26 : Value}
    {f27 : Addr} {od27 an27 : Option Addr} {sl27 : Array (Option Value)} {oc27 kV27 dc27 pm27 cd27 ct27 : Value}
    {f28 : Addr} {od28 an28 : Option Addr} {sl28 : Array (Option Value)} {oc28 kV28 dc28 pm28 cd28 ct28 : Value}
    {f29 : Addr} {od29 an29 : Option Addr} {sl29 : Array (Option Value)} {oc29 kV29 dc29 pm29 cd29 ct29 : Value}
    {f30 : Addr} {od30 an30 : Option Addr} {sl30 : Array (Option Value)} {oc30 kV30 dc30 pm30 cd30 ct30 : Value}
    {f31 : Addr} {od31 an31 : Option Addr} {sl31 : Array (Option Value)} {oc31 kV31 dc31 pm31 cd31 ct31 : Value}
    {f32 : Addr} {od32 an32 : Option Addr} {sl32 : Array (Option Value)} {oc32 kV32 dc32 pm32 cd32 ct32 : Value}
    {f33 : Addr} {od33 an33 : Option Addr} {sl33 : Array (Option Value)} {oc33 kV33 dc33 pm33 cd33 ct33 : Value}
    {f34 : Addr} {od34 an34 : Option Addr} {sl34 : Array (Option Value)} {oc34 kV34 dc34 pm34 cd34 ct34 : Value}
    {f35 : Addr} {od35 an35 : Option Addr} {sl35 : Array (Option Value)} {oc35 kV35 dc35 pm35 cd35 ct35 : Value}
    {f36 : Addr} {od36 an36 : Option Addr} {sl36 : Array (Option Value)} {oc36 kV36 dc36 pm36 cd36 ct36 : Value}
    {f37 : Addr} {od37 an37 : Option Addr} {sl37 : Array (Option Value)} {oc37 kV37 dc37 pm37 cd37 ct37 : Value}
    {f38 : Addr} {od38 an38 : Option Addr} {sl38 : Array (Option Value)} {oc38 kV38 dc38 pm38 cd38 ct38 : Value}
    {f39 : Addr} {od39 an39 : Option Addr} {sl39 : Array (Option Value)} {oc39 kV39 dc39 pm39 cd39 ct39 : Value}
    {f40 : Addr} {od40 an40 : Option Addr} {sl40 : Array (Option Value)} {oc40 kV40 dc40 pm40 cd40 ct40 : Value}
    {f41 : Addr} {od41 an41 : Option Addr} {sl41 : Array (Option Value)} {oc41 kV41 dc41 pm41 cd41 ct41 : Value}
    {f42 : Addr} {od42 an42 : Option Addr} {sl42 : Array (Option Value)} {oc42 kV42 dc42 pm42 cd42 ct42 : Value}
    {f43 : Addr} {od43 an43 : Option Addr} {sl43 : Array (Option Value)} {oc43 kV43 dc43 pm43 cd43 ct43 : Value}
    {f44 : Addr} {od44 an44 : Option Addr} {sl44 : Array (Option Value)} {oc44 kV44 dc44 pm44 cd44 ct44 : Value}
    {f45 : Addr} {od45 an45 : Option Addr} {sl45 : Array (Option Value)} {oc45 kV45 dc45 pm45 cd45 ct45 : Value}
    {f46 : Addr} {od46 an46 : Option Addr} {sl46 : Array (Option Value)} {oc46 kV46 dc46 pm46 cd46 ct46 : Value}
    {f47 : Addr} {od47 an47 : Option Addr} {sl47 : Array (Option Value)} {oc47 kV47 dc47 pm47 cd47 ct47 : Value}
    {f48 : Addr} {od48 an48 : Option Addr} {sl48 : Array (Option Value)} {oc48 kV48 dc48 pm48 cd48 ct48 : Value}
    {f49 : Addr} {od49 an49 : Option Addr} {sl49 : Array (Option Value)} {oc49 kV49 dc49 pm49 cd49 ct49 : Value}
    {f50 : Addr} {od50 an50 : Option Addr} {sl50 : Array (Option Value)} {oc50 kV50 dc50 pm50 cd50 ct50 : Value}
    {f51 : Addr} {od51 an51 : Option Addr} {sl51 : Array (Option Value)} {oc51 kV51 dc51 pm51 cd51 ct51 : Value}
    {f52 : Addr} {od52 an52 : Option Addr} {sl52 : Array (Option Value)} {oc52 kV52 dc52 pm52 cd52 ct52 : Value}
    {f53 : Addr} {od53 an53 : Option Addr} {sl53 : Array (Option Value)} {oc53 kV53 dc53 pm53 cd53 ct53 : Value}
    {f54 : Addr} {od54 an54 : Option Addr} {sl54 : Array (Option Value)} {oc54 kV54 dc54 pm54 cd54 ct54 : Value}
    {f55 : Addr} {od55 an55 : Option Addr} {sl55 : Array (Option Value)} {oc55 kV55 dc55 pm55 cd55 ct55 : Value}
    {f56 : Addr} {od56 an56 : Option Addr} {sl56 : Array (Option Value)} {oc56 kV56 dc56 pm56 cd56 ct56 : Value}
    {f57 : Addr} {od57 an57 : Option Addr} {sl57 : Array (Option Value)} {oc57 kV57 dc57 pm57 cd57 ct57 : Value}
    {f58 : Addr} {od58 an58 : Option Addr} {sl58 : Array (Option Value)} {oc58 kV58 dc58 pm58 cd58 ct58 : Value}
    {f59 : Addr} {od59 an59 : Option Addr} {sl59 : Array (Option Value)} {oc59 kV59 dc59 pm59 cd59 ct59 : Value}
    {f60 : Addr} {od60 an60 : Option Addr} {sl60 : Array (Option Value)} {oc60 kV60 dc60 pm60 cd60 ct60 : Value}
    (nc_Family : PySem.W.nsIn K mainGlobals "Family" = some (some (.ref C_Family)))
    (nc_RingFamily : PySem.W.nsIn K mainGlobals "RingFamily" = some (some (.ref C_RingFamily)))
    (nc_Codes : PySem.W.nsIn K mainGlobals "Codes" = some (some (.ref C_Codes)))
    (nc_Trees : PySem.W.nsIn K mainGlobals "Trees" = some (some (.ref C_Trees)))
    (nc_Cars : PySem.W.nsIn K mainGlobals "Cars" = some (some (.ref C_Cars)))
    (a_Codes_many : PySem.W.findIn K (.ref C_Codes) "many" = some (some (.ref f16)))
    (a_Trees_many : PySem.W.findIn K (.ref C_Trees) "many" = some (some (.ref f18)))
    (a_Cars_many : PySem.W.findIn K (.ref C_Cars) "many" = some (some (.ref f20)))
    (a_Codes_thing_of : PySem.W.findIn K (.ref C_Codes) "thing_of" = some (some (.ref f24)))
    (a_Trees_thing_of : PySem.W.findIn K (.ref C_Trees) "thing_of" = some (some (.ref f27)))
    (a_Cars_thing_of : PySem.W.findIn K (.ref C_Cars) "thing_of" = some (some (.ref f31)))
    (a_Codes_number_of : PySem.W.findIn K (.ref C_Codes) "number_of" = some (some (.ref f44)))
    (a_Trees_number_of : PySem.W.findIn K (.ref C_Trees) "number_of" = some (some (.ref f51)))
    (a_Cars_number_of : PySem.W.findIn K (.ref C_Cars) "number_of" = some (some (.ref f56)))
    (a_Codes_next_of : PySem.W.findIn K (.ref C_Codes) "next_of" = some (some (.ref f57)))
    (a_Trees_next_of : PySem.W.findIn K (.ref C_Trees) "next_of" = some (some (.ref f58)))
    (a_Cars_next_of : PySem.W.findIn K (.ref C_Cars) "next_of" = some (some (.ref f59)))
    (a_Codes_unchecked_many : PySem.W.findIn K (.ref C_Codes) "unchecked_many" = some (some (.ref f15)))
    (a_Trees_unchecked_many : PySem.W.findIn K (.ref C_Trees) "unchecked_many" = some (some (.ref f17)))
    (a_Cars_unchecked_many : PySem.W.findIn K (.ref C_Cars) "unchecked_many" = some (some (.ref f19)))
    (a_Codes_unchecked_thing : PySem.W.findIn K (.ref C_Codes) "unchecked_thing" = some (some (.ref f23)))
    (a_Codes_of_code : PySem.W.findIn K (.ref C_Codes) "of_code" = some (some (.ref f21)))
    (a_Trees_unchecked_thing : PySem.W.findIn K (.ref C_Trees) "unchecked_thing" = some (some (.ref f26)))
    (a_Trees_of_code : PySem.W.findIn K (.ref C_Trees) "of_code" = some (some (.ref f25)))
    (a_Cars_unchecked_thing : PySem.W.findIn K (.ref C_Cars) "unchecked_thing" = some (some (.ref f30)))
    (a_Cars_of_code : PySem.W.findIn K (.ref C_Cars) "of_code" = some (some (.ref f29)))
    (a_Cars_is_one : PySem.W.findIn K (.ref C_Cars) "is_one" = some (some (.ref f28)))
    (a_Codes_refuse_other : PySem.W.findIn K (.ref C_Codes) "refuse_other" = some (some (.ref f39)))
    (a_Codes_unchecked_number : PySem.W.findIn K (.ref C_Codes) "unchecked_number" = some (some (.ref f43)))
    (a_Codes_is_one : PySem.W.findIn K (.ref C_Codes) "is_one" = some (some (.ref f38)))
    (a_Codes_size_of : PySem.W.findIn K (.ref C_Codes) "size_of" = some (some (.ref f41)))
    (a_Codes_code_of : PySem.W.findIn K (.ref C_Codes) "code_of" = some (some (.ref f42)))
    (a_Trees_refuse_other : PySem.W.findIn K (.ref C_Trees) "refuse_other" = some (some (.ref f47)))
    (a_Trees_unchecked_number : PySem.W.findIn K (.ref C_Trees) "unchecked_number" = some (some (.ref f50)))
    (a_Trees_is_one : PySem.W.findIn K (.ref C_Trees) "is_one" = some (some (.ref f46)))
    (a_Trees_size_of : PySem.W.findIn K (.ref C_Trees) "size_of" = some (some (.ref f48)))
    (a_Trees_code_of : PySem.W.findIn K (.ref C_Trees) "code_of" = some (some (.ref f49)))
    (a_Cars_refuse_other : PySem.W.findIn K (.ref C_Cars) "refuse_other" = some (some (.ref f52)))
    (a_Cars_unchecked_number : PySem.W.findIn K (.ref C_Cars) "unchecked_number" = some (some (.ref f55)))
    (a_Cars_size_of : PySem.W.findIn K (.ref C_Cars) "size_of" = some (some (.ref f53)))
    (a_Cars_code_of : PySem.W.findIn K (.ref C_Cars) "code_of" = some (some (.ref f54)))
    (ai_Codes : PySem.W.findIn K (.ref C_Codes) "__init__" = some (some (.ref f5)))
    (ai_Trees : PySem.W.findIn K (.ref C_Trees) "__init__" = some (some (.ref f8)))
    (ai_Cars : PySem.W.findIn K (.ref C_Cars) "__init__" = some (some (.ref f11)))
    (ch_RingFamily___init___Codes : PySem.W.findCls K (.ref C_RingFamily) (.type "type") "__init__" = some (.val (.ref f4)))
    (cg_RingFamily___init___Codes : PySem.W.specialIn K (.ref C_RingFamily) "__getattribute__" = some (some (.builtin "type.__getattribute__")))
    (cr_RingFamily___init___Codes : PySem.W.readsIn K C_RingFamily (.type "type") = true)
    (ch_Family___init___Codes : PySem.W.findCls K (.ref C_Family) (.type "type") "__init__" = some (.val (.ref f3)))
    (cg_Family___init___Codes : PySem.W.specialIn K (.ref C_Family) "__getattribute__" = some (some (.builtin "type.__getattribute__")))
    (cr_Family___init___Codes : PySem.W.readsIn K C_Family (.type "type") = true)
    (ch_RingFamily___init___Trees : PySem.W.findCls K (.ref C_RingFamily) (.type "type") "__init__" = some (.val (.ref f7)))
    (cg_RingFamily___init___Trees : PySem.W.specialIn K (.ref C_RingFamily) "__getattribute__" = some (some (.builtin "type.__getattribute__")))
    (cr_RingFamily___init___Trees : PySem.W.readsIn K C_RingFamily (.type "type") = true)
    (ch_Family___init___Trees : PySem.W.findCls K (.ref C_Family) (.type "type") "__init__" = some (.val (.ref f6)))
    (cg_Family___init___Trees : PySem.W.specialIn K (.ref C_Family) "__getattribute__" = some (some (.builtin "type.__getattribute__")))
    (cr_Family___init___Trees : PySem.W.readsIn K C_Family (.type "type") = true)
    (ch_RingFamily___init___Cars : PySem.W.findCls K (.ref C_RingFamily) (.type "type") "__init__" = some (.val (.ref f10)))
    (cg_RingFamily___init___Cars : PySem.W.specialIn K (.ref C_RingFamily) "__getattribute__" = some (some (.builtin "type.__getattribute__")))
    (cr_RingFamily___init___Cars : PySem.W.readsIn K C_RingFamily (.type "type") = true)
    (ch_Family___init___Cars : PySem.W.findCls K (.ref C_Family) (.type "type") "__init__" = some (.val (.ref f9)))
    (cg_Family___init___Cars : PySem.W.specialIn K (.ref C_Family) "__getattribute__" = some (some (.builtin "type.__getattribute__")))
    (cr_Family___init___Cars : PySem.W.readsIn K C_Family (.type "type") = true)
    (a1 : PySem.W.nsIn K mainGlobals "_law_cell_at" = some (some (.ref f1)))
    (l1 : K.lookup f1 = some ⟨oc1, od1, .func (PySem.W.fnOf "_law_cell_at" "_law_cell_at" (defArgs s__law_cell_at) (defBody s__law_cell_at) (defScope s__law_cell_at) .none kV1 dc1 pm1 an1 cd1 ct1), sl1⟩)
    (c1 : PySem.W.codeIn K cd1 "_law_cell_at" = true)
    (k1 : PySem.W.keepIn K (.ref f1) = true)
    (a2 : PySem.W.nsIn K mainGlobals "_law_number" = some (some (.ref f2)))
    (l2 : K.lookup f2 = some ⟨oc2, od2, .func (PySem.W.fnOf "_law_number" "_law_number" (defArgs s__law_number) (defBody s__law_number) (defScope s__law_number) .none kV2 dc2 pm2 an2 cd2 ct2), sl2⟩)
    (c2 : PySem.W.codeIn K cd2 "_law_number" = true)
    (k2 : PySem.W.keepIn K (.ref f2) = true)
    (l3 : K.lookup f3 = some ⟨oc3, od3, .func (PySem.W.fnOf "__init__" "Family.__init__" (defArgs s_Codes__Family___init__) (defBody s_Codes__Family___init__) (defScope s_Codes__Family___init__) .none kV3 dc3 pm3 an3 cd3 ct3), sl3⟩)
    (c3 : PySem.W.codeIn K cd3 "Family.__init__" = true)
    (k3 : PySem.W.keepIn K (.ref f3) = true)
    (i3 : PySem.W.isFn K (.ref f3) = true)
    (l4 : K.lookup f4 = some ⟨oc4, od4, .func (PySem.W.fnOf "__init__" "RingFamily.__init__" (defArgs s_Codes__RingFamily___init__) (defBody s_Codes__RingFamily___init__) (defScope s_Codes__RingFamily___init__) .none kV4 dc4 pm4 an4 cd4 ct4), sl4⟩)
    (c4 : PySem.W.codeIn K cd4 "RingFamily.__init__" = true)
    (k4 : PySem.W.keepIn K (.ref f4) = true)
    (i4 : PySem.W.isFn K (.ref f4) = true)
    (l5 : K.lookup f5 = some ⟨oc5, od5, .func (PySem.W.fnOf "__init__" "Codes.__init__" (defArgs s_Codes____init__) (defBody s_Codes____init__) (defScope s_Codes____init__) .none kV5 dc5 pm5 an5 cd5 ct5), sl5⟩)
    (c5 : PySem.W.codeIn K cd5 "Codes.__init__" = true)
    (k5 : PySem.W.keepIn K (.ref f5) = true)
    (i5 : PySem.W.isFn K (.ref f5) = true)
    (l6 : K.lookup f6 = some ⟨oc6, od6, .func (PySem.W.fnOf "__init__" "Family.__init__" (defArgs s_Trees__Family___init__) (defBody s_Trees__Family___init__) (defScope s_Trees__Family___init__) .none kV6 dc6 pm6 an6 cd6 ct6), sl6⟩)
    (c6 : PySem.W.codeIn K cd6 "Family.__init__" = true)
    (k6 : PySem.W.keepIn K (.ref f6) = true)
    (i6 : PySem.W.isFn K (.ref f6) = true)
    (l7 : K.lookup f7 = some ⟨oc7, od7, .func (PySem.W.fnOf "__init__" "RingFamily.__init__" (defArgs s_Trees__RingFamily___init__) (defBody s_Trees__RingFamily___init__) (defScope s_Trees__RingFamily___init__) .none kV7 dc7 pm7 an7 cd7 ct7), sl7⟩)
    (c7 : PySem.W.codeIn K cd7 "RingFamily.__init__" = true)
    (k7 : PySem.W.keepIn K (.ref f7) = true)
    (i7 : PySem.W.isFn K (.ref f7) = true)
    (l8 : K.lookup f8 = some ⟨oc8, od8, .func (PySem.W.fnOf "__init__" "Trees.__init__" (defArgs s_Trees____init__) (defBody s_Trees____init__) (defScope s_Trees____init__) .none kV8 dc8 pm8 an8 cd8 ct8), sl8⟩)
    (c8 : PySem.W.codeIn K cd8 "Trees.__init__" = true)
    (k8 : PySem.W.keepIn K (.ref f8) = true)
    (i8 : PySem.W.isFn K (.ref f8) = true)
    (l9 : K.lookup f9 = some ⟨oc9, od9, .func (PySem.W.fnOf "__init__" "Family.__init__" (defArgs s_Cars__Family___init__) (defBody s_Cars__Family___init__) (defScope s_Cars__Family___init__) .none kV9 dc9 pm9 an9 cd9 ct9), sl9⟩)
    (c9 : PySem.W.codeIn K cd9 "Family.__init__" = true)
    (k9 : PySem.W.keepIn K (.ref f9) = true)
    (i9 : PySem.W.isFn K (.ref f9) = true)
    (l10 : K.lookup f10 = some ⟨oc10, od10, .func (PySem.W.fnOf "__init__" "RingFamily.__init__" (defArgs s_Cars__RingFamily___init__) (defBody s_Cars__RingFamily___init__) (defScope s_Cars__RingFamily___init__) .none kV10 dc10 pm10 an10 cd10 ct10), sl10⟩)
    (c10 : PySem.W.codeIn K cd10 "RingFamily.__init__" = true)
    (k10 : PySem.W.keepIn K (.ref f10) = true)
    (i10 : PySem.W.isFn K (.ref f10) = true)
    (l11 : K.lookup f11 = some ⟨oc11, od11, .func (PySem.W.fnOf "__init__" "Cars.__init__" (defArgs s_Cars____init__) (defBody s_Cars____init__) (defScope s_Cars____init__) .none kV11 dc11 pm11 an11 cd11 ct11), sl11⟩)
    (c11 : PySem.W.codeIn K cd11 "Cars.__init__" = true)
    (k11 : PySem.W.keepIn K (.ref f11) = true)
    (i11 : PySem.W.isFn K (.ref f11) = true)
    (a12 : PySem.W.nsIn K mainGlobals "_law_kin" = some (some (.ref f12)))
    (l12 : K.lookup f12 = some ⟨oc12, od12, .func (PySem.W.fnOf "_law_kin" "_law_kin" (defArgs s__law_kin) (defBody s__law_kin) (defScope s__law_kin) .none kV12 dc12 pm12 an12 cd12 ct12), sl12⟩)
    (c12 : PySem.W.codeIn K cd12 "_law_kin" = true)
    (k12 : PySem.W.keepIn K (.ref f12) = true)
    (a13 : PySem.W.nsIn K mainGlobals "_law_whole" = some (some (.ref f13)))
    (l13 : K.lookup f13 = some ⟨oc13, od13, .func (PySem.W.fnOf "_law_whole" "_law_whole" (defArgs s__law_whole) (defBody s__law_whole) (defScope s__law_whole) .none kV13 dc13 pm13 an13 cd13 ct13), sl13⟩)
    (c13 : PySem.W.codeIn K cd13 "_law_whole" = true)
    (k13 : PySem.W.keepIn K (.ref f13) = true)
    (a14 : PySem.W.nsIn K mainGlobals "ring_many" = some (some (.ref f14)))
    (l14 : K.lookup f14 = some ⟨oc14, od14, .func (PySem.W.fnOf "ring_many" "ring_many" (defArgs s_ring_many) (defBody s_ring_many) (defScope s_ring_many) .none kV14 dc14 pm14 an14 cd14 ct14), sl14⟩)
    (c14 : PySem.W.codeIn K cd14 "ring_many" = true)
    (k14 : PySem.W.keepIn K (.ref f14) = true)
    (l15 : K.lookup f15 = some ⟨oc15, od15, .func (PySem.W.fnOf "unchecked_many" "RingFamily.unchecked_many" (defArgs s_Codes__RingFamily_unchecked_many) (defBody s_Codes__RingFamily_unchecked_many) (defScope s_Codes__RingFamily_unchecked_many) .none kV15 dc15 pm15 an15 cd15 ct15), sl15⟩)
    (c15 : PySem.W.codeIn K cd15 "RingFamily.unchecked_many" = true)
    (k15 : PySem.W.keepIn K (.ref f15) = true)
    (i15 : PySem.W.isFn K (.ref f15) = true)
    (l16 : K.lookup f16 = some ⟨oc16, od16, .func (PySem.W.fnOf "many" "Family.many" (defArgs s_Codes__Family_many) (defBody s_Codes__Family_many) (defScope s_Codes__Family_many) .none kV16 dc16 pm16 an16 cd16 ct16), sl16⟩)
    (c16 : PySem.W.codeIn K cd16 "Family.many" = true)
    (k16 : PySem.W.keepIn K (.ref f16) = true)
    (i16 : PySem.W.isFn K (.ref f16) = true)
    (l17 : K.lookup f17 = some ⟨oc17, od17, .func (PySem.W.fnOf "unchecked_many" "RingFamily.unchecked_many" (defArgs s_Trees__RingFamily_unchecked_many) (defBody s_Trees__RingFamily_unchecked_many) (defScope s_Trees__RingFamily_unchecked_many) .none kV17 dc17 pm17 an17 cd17 ct17), sl17⟩)
    (c17 : PySem.W.codeIn K cd17 "RingFamily.unchecked_many" = true)
    (k17 : PySem.W.keepIn K (.ref f17) = true)
    (i17 : PySem.W.isFn K (.ref f17) = true)
    (l18 : K.lookup f18 = some ⟨oc18, od18, .func (PySem.W.fnOf "many" "Family.many" (defArgs s_Trees__Family_many) (defBody s_Trees__Family_many) (defScope s_Trees__Family_many) .none kV18 dc18 pm18 an18 cd18 ct18), sl18⟩)
    (c18 : PySem.W.codeIn K cd18 "Family.many" = true)
    (k18 : PySem.W.keepIn K (.ref f18) = true)
    (i18 : PySem.W.isFn K (.ref f18) = true)
    (l19 : K.lookup f19 = some ⟨oc19, od19, .func (PySem.W.fnOf "unchecked_many" "RingFamily.unchecked_many" (defArgs s_Cars__RingFamily_unchecked_many) (defBody s_Cars__RingFamily_unchecked_many) (defScope s_Cars__RingFamily_unchecked_many) .none kV19 dc19 pm19 an19 cd19 ct19), sl19⟩)
    (c19 : PySem.W.codeIn K cd19 "RingFamily.unchecked_many" = true)
    (k19 : PySem.W.keepIn K (.ref f19) = true)
    (i19 : PySem.W.isFn K (.ref f19) = true)
    (l20 : K.lookup f20 = some ⟨oc20, od20, .func (PySem.W.fnOf "many" "Family.many" (defArgs s_Cars__Family_many) (defBody s_Cars__Family_many) (defScope s_Cars__Family_many) .none kV20 dc20 pm20 an20 cd20 ct20), sl20⟩)
    (c20 : PySem.W.codeIn K cd20 "Family.many" = true)
    (k20 : PySem.W.keepIn K (.ref f20) = true)
    (i20 : PySem.W.isFn K (.ref f20) = true)
    (l21 : K.lookup f21 = some ⟨oc21, od21, .func (PySem.W.fnOf "of_code" "Codes.of_code" (defArgs s_Codes__of_code) (defBody s_Codes__of_code) (defScope s_Codes__of_code) .none kV21 dc21 pm21 an21 cd21 ct21), sl21⟩)
    (c21 : PySem.W.codeIn K cd21 "Codes.of_code" = true)
    (k21 : PySem.W.keepIn K (.ref f21) = true)
    (i21 : PySem.W.isFn K (.ref f21) = true)
    (a22 : PySem.W.nsIn K mainGlobals "number_figures" = some (some (.ref f22)))
    (l22 : K.lookup f22 = some ⟨oc22, od22, .func (PySem.W.fnOf "number_figures" "number_figures" (defArgs s_number_figures) (defBody s_number_figures) (defScope s_number_figures) .none kV22 dc22 pm22 an22 cd22 ct22), sl22⟩)
    (c22 : PySem.W.codeIn K cd22 "number_figures" = true)
    (k22 : PySem.W.keepIn K (.ref f22) = true)
    (l23 : K.lookup f23 = some ⟨oc23, od23, .func (PySem.W.fnOf "unchecked_thing" "RingFamily.unchecked_thing" (defArgs s_Codes__RingFamily_unchecked_thing) (defBody s_Codes__RingFamily_unchecked_thing) (defScope s_Codes__RingFamily_unchecked_thing) .none kV23 dc23 pm23 an23 cd23 ct23), sl23⟩)
    (c23 : PySem.W.codeIn K cd23 "RingFamily.unchecked_thing" = true)
    (k23 : PySem.W.keepIn K (.ref f23) = true)
    (i23 : PySem.W.isFn K (.ref f23) = true)
    (l24 : K.lookup f24 = some ⟨oc24, od24, .func (PySem.W.fnOf "thing_of" "Family.thing_of" (defArgs s_Codes__Family_thing_of) (defBody s_Codes__Family_thing_of) (defScope s_Codes__Family_thing_of) .none kV24 dc24 pm24 an24 cd24 ct24), sl24⟩)
    (c24 : PySem.W.codeIn K cd24 "Family.thing_of" = true)
    (k24 : PySem.W.keepIn K (.ref f24) = true)
    (i24 : PySem.W.isFn K (.ref f24) = true)
    (l25 : K.lookup f25 = some ⟨oc25, od25, .func (PySem.W.fnOf "of_code" "Trees.of_code" (defArgs s_Trees__of_code) (defBody s_Trees__of_code) (defScope s_Trees__of_code) .none kV25 dc25 pm25 an25 cd25 ct25), sl25⟩)
    (c25 : PySem.W.codeIn K cd25 "Trees.of_code" = true)
    (k25 : PySem.W.keepIn K (.ref f25) = true)
    (i25 : PySem.W.isFn K (.ref f25) = true)
    (l26 : K.lookup f26 = some ⟨oc26, od26, .func (PySem.W.fnOf "unchecked_thing" "RingFamily.unchecked_thing" (defArgs s_Trees__RingFamily_unchecked_thing) (defBody s_Trees__RingFamily_unchecked_thing) (defScope s_Trees__RingFamily_unchecked_thing) .none kV26 dc26 pm26 an26 cd26 ct26), sl26⟩)
    (c26 : PySem.W.codeIn K cd26 "RingFamily.unchecked_thing" = true)
    (k26 : PySem.W.keepIn K (.ref f26) = true)
    (i26 : PySem.W.isFn K (.ref f26) = true)
    (l27 : K.lookup f27 = some ⟨oc27, od27, .func (PySem.W.fnOf "thing_of" "Family.thing_of" (defArgs s_Trees__Family_thing_of) (defBody s_Trees__Family_thing_of) (defScope s_Trees__Family_thing_of) .none kV27 dc27 pm27 an27 cd27 ct27), sl27⟩)
    (c27 : PySem.W.codeIn K cd27 "Family.thing_of" = true)
    (k27 : PySem.W.keepIn K (.ref f27) = true)
    (i27 : PySem.W.isFn K (.ref f27) = true)
    (l28 : K.lookup f28 = some ⟨oc28, od28, .func (PySem.W.fnOf "is_one" "Cars.is_one" (defArgs s_Cars__is_one) (defBody s_Cars__is_one) (defScope s_Cars__is_one) .none kV28 dc28 pm28 an28 cd28 ct28), sl28⟩)
    (c28 : PySem.W.codeIn K cd28 "Cars.is_one" = true)
    (k28 : PySem.W.keepIn K (.ref f28) = true)
    (i28 : PySem.W.isFn K (.ref f28) = true)
    (l29 : K.lookup f29 = some ⟨oc29, od29, .func (PySem.W.fnOf "of_code" "Cars.of_code" (defArgs s_Cars__of_code) (defBody s_Cars__of_code) (defScope s_Cars__of_code) .none kV29 dc29 pm29 an29 cd29 ct29), sl29⟩)
    (c29 : PySem.W.codeIn K cd29 "Cars.of_code" = true)
    (k29 : PySem.W.keepIn K (.ref f29) = true)
    (i29 : PySem.W.isFn K (.ref f29) = true)
    (l30 : K.lookup f30 = some ⟨oc30, od30, .func (PySem.W.fnOf "unchecked_thing" "RingFamily.unchecked_thing" (defArgs s_Cars__RingFamily_unchecked_thing) (defBody s_Cars__RingFamily_unchecked_thing) (defScope s_Cars__RingFamily_unchecked_thing) .none kV30 dc30 pm30 an30 cd30 ct30), sl30⟩)
    (c30 : PySem.W.codeIn K cd30 "RingFamily.unchecked_thing" = true)
    (k30 : PySem.W.keepIn K (.ref f30) = true)
    (i30 : PySem.W.isFn K (.ref f30) = true)
    (l31 : K.lookup f31 = some ⟨oc31, od31, .func (PySem.W.fnOf "thing_of" "Family.thing_of" (defArgs s_Cars__Family_thing_of) (defBody s_Cars__Family_thing_of) (defScope s_Cars__Family_thing_of) .none kV31 dc31 pm31 an31 cd31 ct31), sl31⟩)
    (c31 : PySem.W.codeIn K cd31 "Family.thing_of" = true)
    (k31 : PySem.W.keepIn K (.ref f31) = true)
    (i31 : PySem.W.isFn K (.ref f31) = true)
    (a32 : PySem.W.nsIn K mainGlobals "_law_is_tree" = some (some (.ref f32)))
    (l32 : K.lookup f32 = some ⟨oc32, od32, .func (PySem.W.fnOf "_law_is_tree" "_law_is_tree" (defArgs s__law_is_tree) (defBody s__law_is_tree) (defScope s__law_is_tree) .none kV32 dc32 pm32 an32 cd32 ct32), sl32⟩)
    (c32 : PySem.W.codeIn K cd32 "_law_is_tree" = true)
    (k32 : PySem.W.keepIn K (.ref f32) = true)
    (a33 : PySem.W.nsIn K mainGlobals "_law_code" = some (some (.ref f33)))
    (l33 : K.lookup f33 = some ⟨oc33, od33, .func (PySem.W.fnOf "_law_code" "_law_code" (defArgs s__law_code) (defBody s__law_code) (defScope s__law_code) .none kV33 dc33 pm33 an33 cd33 ct33), sl33⟩)
    (c33 : PySem.W.codeIn K cd33 "_law_code" = true)
    (k33 : PySem.W.keepIn K (.ref f33) = true)
    (a34 : PySem.W.nsIn K mainGlobals "_law_all_park" = some (some (.ref f34)))
    (l34 : K.lookup f34 = some ⟨oc34, od34, .func (PySem.W.fnOf "_law_all_park" "_law_all_park" (defArgs s__law_all_park) (defBody s__law_all_park) (defScope s__law_all_park) .none kV34 dc34 pm34 an34 cd34 ct34), sl34⟩)
    (c34 : PySem.W.codeIn K cd34 "_law_all_park" = true)
    (k34 : PySem.W.keepIn K (.ref f34) = true)
    (a35 : PySem.W.nsIn K mainGlobals "_law_steps" = some (some (.ref f35)))
    (l35 : K.lookup f35 = some ⟨oc35, od35, .func (PySem.W.fnOf "_law_steps" "_law_steps" (defArgs s__law_steps) (defBody s__law_steps) (defScope s__law_steps) .none kV35 dc35 pm35 an35 cd35 ct35), sl35⟩)
    (c35 : PySem.W.codeIn K cd35 "_law_steps" = true)
    (k35 : PySem.W.keepIn K (.ref f35) = true)
    (a36 : PySem.W.nsIn K mainGlobals "_law_has_code" = some (some (.ref f36)))
    (l36 : K.lookup f36 = some ⟨oc36, od36, .func (PySem.W.fnOf "_law_has_code" "_law_has_code" (defArgs s__law_has_code) (defBody s__law_has_code) (defScope s__law_has_code) .none kV36 dc36 pm36 an36 cd36 ct36), sl36⟩)
    (c36 : PySem.W.codeIn K cd36 "_law_has_code" = true)
    (k36 : PySem.W.keepIn K (.ref f36) = true)
    (a37 : PySem.W.nsIn K mainGlobals "_law_figures_of" = some (some (.ref f37)))
    (l37 : K.lookup f37 = some ⟨oc37, od37, .func (PySem.W.fnOf "_law_figures_of" "_law_figures_of" (defArgs s__law_figures_of) (defBody s__law_figures_of) (defScope s__law_figures_of) .none kV37 dc37 pm37 an37 cd37 ct37), sl37⟩)
    (c37 : PySem.W.codeIn K cd37 "_law_figures_of" = true)
    (k37 : PySem.W.keepIn K (.ref f37) = true)
    (l38 : K.lookup f38 = some ⟨oc38, od38, .func (PySem.W.fnOf "is_one" "Codes.is_one" (defArgs s_Codes__is_one) (defBody s_Codes__is_one) (defScope s_Codes__is_one) .none kV38 dc38 pm38 an38 cd38 ct38), sl38⟩)
    (c38 : PySem.W.codeIn K cd38 "Codes.is_one" = true)
    (k38 : PySem.W.keepIn K (.ref f38) = true)
    (i38 : PySem.W.isFn K (.ref f38) = true)
    (l39 : K.lookup f39 = some ⟨oc39, od39, .func (PySem.W.fnOf "refuse_other" "Family.refuse_other" (defArgs s_Codes__Family_refuse_other) (defBody s_Codes__Family_refuse_other) (defScope s_Codes__Family_refuse_other) .none kV39 dc39 pm39 an39 cd39 ct39), sl39⟩)
    (c39 : PySem.W.codeIn K cd39 "Family.refuse_other" = true)
    (k39 : PySem.W.keepIn K (.ref f39) = true)
    (i39 : PySem.W.isFn K (.ref f39) = true)
    (a40 : PySem.W.nsIn K mainGlobals "figures_number" = some (some (.ref f40)))
    (l40 : K.lookup f40 = some ⟨oc40, od40, .func (PySem.W.fnOf "figures_number" "figures_number" (defArgs s_figures_number) (defBody s_figures_number) (defScope s_figures_number) .none kV40 dc40 pm40 an40 cd40 ct40), sl40⟩)
    (c40 : PySem.W.codeIn K cd40 "figures_number" = true)
    (k40 : PySem.W.keepIn K (.ref f40) = true)
    (l41 : K.lookup f41 = some ⟨oc41, od41, .func (PySem.W.fnOf "size_of" "Codes.size_of" (defArgs s_Codes__size_of) (defBody s_Codes__size_of) (defScope s_Codes__size_of) .none kV41 dc41 pm41 an41 cd41 ct41), sl41⟩)
    (c41 : PySem.W.codeIn K cd41 "Codes.size_of" = true)
    (k41 : PySem.W.keepIn K (.ref f41) = true)
    (i41 : PySem.W.isFn K (.ref f41) = true)
    (l42 : K.lookup f42 = some ⟨oc42, od42, .func (PySem.W.fnOf "code_of" "Codes.code_of" (defArgs s_Codes__code_of) (defBody s_Codes__code_of) (defScope s_Codes__code_of) .none kV42 dc42 pm42 an42 cd42 ct42), sl42⟩)
    (c42 : PySem.W.codeIn K cd42 "Codes.code_of" = true)
    (k42 : PySem.W.keepIn K (.ref f42) = true)
    (i42 : PySem.W.isFn K (.ref f42) = true)
    (l43 : K.lookup f43 = some ⟨oc43, od43, .func (PySem.W.fnOf "unchecked_number" "RingFamily.unchecked_number" (defArgs s_Codes__RingFamily_unchecked_number) (defBody s_Codes__RingFamily_unchecked_number) (defScope s_Codes__RingFamily_unchecked_number) .none kV43 dc43 pm43 an43 cd43 ct43), sl43⟩)
    (c43 : PySem.W.codeIn K cd43 "RingFamily.unchecked_number" = true)
    (k43 : PySem.W.keepIn K (.ref f43) = true)
    (i43 : PySem.W.isFn K (.ref f43) = true)
    (l44 : K.lookup f44 = some ⟨oc44, od44, .func (PySem.W.fnOf "number_of" "Family.number_of" (defArgs s_Codes__Family_number_of) (defBody s_Codes__Family_number_of) (defScope s_Codes__Family_number_of) .none kV44 dc44 pm44 an44 cd44 ct44), sl44⟩)
    (c44 : PySem.W.codeIn K cd44 "Family.number_of" = true)
    (k44 : PySem.W.keepIn K (.ref f44) = true)
    (i44 : PySem.W.isFn K (.ref f44) = true)
    (a45 : PySem.W.nsIn K mainGlobals "comes_to_0" = some (some (.ref f45)))
    (l45 : K.lookup f45 = some ⟨oc45, od45, .func (PySem.W.fnOf "comes_to_0" "comes_to_0" (defArgs s_comes_to_0) (defBody s_comes_to_0) (defScope s_comes_to_0) .none kV45 dc45 pm45 an45 cd45 ct45), sl45⟩)
    (c45 : PySem.W.codeIn K cd45 "comes_to_0" = true)
    (k45 : PySem.W.keepIn K (.ref f45) = true)
    (l46 : K.lookup f46 = some ⟨oc46, od46, .func (PySem.W.fnOf "is_one" "Trees.is_one" (defArgs s_Trees__is_one) (defBody s_Trees__is_one) (defScope s_Trees__is_one) .none kV46 dc46 pm46 an46 cd46 ct46), sl46⟩)
    (c46 : PySem.W.codeIn K cd46 "Trees.is_one" = true)
    (k46 : PySem.W.keepIn K (.ref f46) = true)
    (i46 : PySem.W.isFn K (.ref f46) = true)
    (l47 : K.lookup f47 = some ⟨oc47, od47, .func (PySem.W.fnOf "refuse_other" "Family.refuse_other" (defArgs s_Trees__Family_refuse_other) (defBody s_Trees__Family_refuse_other) (defScope s_Trees__Family_refuse_other) .none kV47 dc47 pm47 an47 cd47 ct47), sl47⟩)
    (c47 : PySem.W.codeIn K cd47 "Family.refuse_other" = true)
    (k47 : PySem.W.keepIn K (.ref f47) = true)
    (i47 : PySem.W.isFn K (.ref f47) = true)
    (l48 : K.lookup f48 = some ⟨oc48, od48, .func (PySem.W.fnOf "size_of" "Trees.size_of" (defArgs s_Trees__size_of) (defBody s_Trees__size_of) (defScope s_Trees__size_of) .none kV48 dc48 pm48 an48 cd48 ct48), sl48⟩)
    (c48 : PySem.W.codeIn K cd48 "Trees.size_of" = true)
    (k48 : PySem.W.keepIn K (.ref f48) = true)
    (i48 : PySem.W.isFn K (.ref f48) = true)
    (l49 : K.lookup f49 = some ⟨oc49, od49, .func (PySem.W.fnOf "code_of" "Trees.code_of" (defArgs s_Trees__code_of) (defBody s_Trees__code_of) (defScope s_Trees__code_of) .none kV49 dc49 pm49 an49 cd49 ct49), sl49⟩)
    (c49 : PySem.W.codeIn K cd49 "Trees.code_of" = true)
    (k49 : PySem.W.keepIn K (.ref f49) = true)
    (i49 : PySem.W.isFn K (.ref f49) = true)
    (l50 : K.lookup f50 = some ⟨oc50, od50, .func (PySem.W.fnOf "unchecked_number" "RingFamily.unchecked_number" (defArgs s_Trees__RingFamily_unchecked_number) (defBody s_Trees__RingFamily_unchecked_number) (defScope s_Trees__RingFamily_unchecked_number) .none kV50 dc50 pm50 an50 cd50 ct50), sl50⟩)
    (c50 : PySem.W.codeIn K cd50 "RingFamily.unchecked_number" = true)
    (k50 : PySem.W.keepIn K (.ref f50) = true)
    (i50 : PySem.W.isFn K (.ref f50) = true)
    (l51 : K.lookup f51 = some ⟨oc51, od51, .func (PySem.W.fnOf "number_of" "Family.number_of" (defArgs s_Trees__Family_number_of) (defBody s_Trees__Family_number_of) (defScope s_Trees__Family_number_of) .none kV51 dc51 pm51 an51 cd51 ct51), sl51⟩)
    (c51 : PySem.W.codeIn K cd51 "Family.number_of" = true)
    (k51 : PySem.W.keepIn K (.ref f51) = true)
    (i51 : PySem.W.isFn K (.ref f51) = true)
    (l52 : K.lookup f52 = some ⟨oc52, od52, .func (PySem.W.fnOf "refuse_other" "Family.refuse_other" (defArgs s_Cars__Family_refuse_other) (defBody s_Cars__Family_refuse_other) (defScope s_Cars__Family_refuse_other) .none kV52 dc52 pm52 an52 cd52 ct52), sl52⟩)
    (c52 : PySem.W.codeIn K cd52 "Family.refuse_other" = true)
    (k52 : PySem.W.keepIn K (.ref f52) = true)
    (i52 : PySem.W.isFn K (.ref f52) = true)
    (l53 : K.lookup f53 = some ⟨oc53, od53, .func (PySem.W.fnOf "size_of" "Cars.size_of" (defArgs s_Cars__size_of) (defBody s_Cars__size_of) (defScope s_Cars__size_of) .none kV53 dc53 pm53 an53 cd53 ct53), sl53⟩)
    (c53 : PySem.W.codeIn K cd53 "Cars.size_of" = true)
    (k53 : PySem.W.keepIn K (.ref f53) = true)
    (i53 : PySem.W.isFn K (.ref f53) = true)
    (l54 : K.lookup f54 = some ⟨oc54, od54, .func (PySem.W.fnOf "code_of" "Cars.code_of" (defArgs s_Cars__code_of) (defBody s_Cars__code_of) (defScope s_Cars__code_of) .none kV54 dc54 pm54 an54 cd54 ct54), sl54⟩)
    (c54 : PySem.W.codeIn K cd54 "Cars.code_of" = true)
    (k54 : PySem.W.keepIn K (.ref f54) = true)
    (i54 : PySem.W.isFn K (.ref f54) = true)
    (l55 : K.lookup f55 = some ⟨oc55, od55, .func (PySem.W.fnOf "unchecked_number" "RingFamily.unchecked_number" (defArgs s_Cars__RingFamily_unchecked_number) (defBody s_Cars__RingFamily_unchecked_number) (defScope s_Cars__RingFamily_unchecked_number) .none kV55 dc55 pm55 an55 cd55 ct55), sl55⟩)
    (c55 : PySem.W.codeIn K cd55 "RingFamily.unchecked_number" = true)
    (k55 : PySem.W.keepIn K (.ref f55) = true)
    (i55 : PySem.W.isFn K (.ref f55) = true)
    (l56 : K.lookup f56 = some ⟨oc56, od56, .func (PySem.W.fnOf "number_of" "Family.number_of" (defArgs s_Cars__Family_number_of) (defBody s_Cars__Family_number_of) (defScope s_Cars__Family_number_of) .none kV56 dc56 pm56 an56 cd56 ct56), sl56⟩)
    (c56 : PySem.W.codeIn K cd56 "Family.number_of" = true)
    (k56 : PySem.W.keepIn K (.ref f56) = true)
    (i56 : PySem.W.isFn K (.ref f56) = true)
    (l57 : K.lookup f57 = some ⟨oc57, od57, .func (PySem.W.fnOf "next_of" "Family.next_of" (defArgs s_Codes__Family_next_of) (defBody s_Codes__Family_next_of) (defScope s_Codes__Family_next_of) .none kV57 dc57 pm57 an57 cd57 ct57), sl57⟩)
    (c57 : PySem.W.codeIn K cd57 "Family.next_of" = true)
    (k57 : PySem.W.keepIn K (.ref f57) = true)
    (i57 : PySem.W.isFn K (.ref f57) = true)
    (l58 : K.lookup f58 = some ⟨oc58, od58, .func (PySem.W.fnOf "next_of" "Family.next_of" (defArgs s_Trees__Family_next_of) (defBody s_Trees__Family_next_of) (defScope s_Trees__Family_next_of) .none kV58 dc58 pm58 an58 cd58 ct58), sl58⟩)
    (c58 : PySem.W.codeIn K cd58 "Family.next_of" = true)
    (k58 : PySem.W.keepIn K (.ref f58) = true)
    (i58 : PySem.W.isFn K (.ref f58) = true)
    (l59 : K.lookup f59 = some ⟨oc59, od59, .func (PySem.W.fnOf "next_of" "Family.next_of" (defArgs s_Cars__Family_next_of) (defBody s_Cars__Family_next_of) (defScope s_Cars__Family_next_of) .none kV59 dc59 pm59 an59 cd59 ct59), sl59⟩)
    (c59 : PySem.W.codeIn K cd59 "Family.next_of" = true)
    (k59 : PySem.W.keepIn K (.ref f59) = true)
    (i59 : PySem.W.isFn K (.ref f59) = true)
    (a60 : PySem.W.nsIn K mainGlobals "law" = some (some (.ref f60)))
    (l60 : K.lookup f60 = some ⟨oc60, od60, .func (PySem.W.fnOf "law" "law" (defArgs s_law) (defBody s_law) (defScope s_law) .none kV60 dc60 pm60 an60 cd60 ct60), sl60⟩)
    (c60 : PySem.W.codeIn K cd60 "law" = true)
    (k60 : PySem.W.keepIn K (.ref f60) = true)
    (pg_Codes : PySem.W.plainGet K C_Codes Str.empty = true)
    (hd_Codes : PySem.W.hasDictIn K C_Codes = true)
    (po_Codes : PySem.W.plainOver K C_Codes = true)
    (sa_Codes : PySem.W.findIn K (.ref C_Codes) "__setattr__" = some (some (.builtin "object.__setattr__")))
    (pg_Trees : PySem.W.plainGet K C_Trees Str.empty = true)
    (hd_Trees : PySem.W.hasDictIn K C_Trees = true)
    (po_Trees : PySem.W.plainOver K C_Trees = true)
    (sa_Trees : PySem.W.findIn K (.ref C_Trees) "__setattr__" = some (some (.builtin "object.__setattr__")))
    (pg_Cars : PySem.W.plainGet K C_Cars Str.empty = true)
    (hd_Cars : PySem.W.hasDictIn K C_Cars = true)
    (po_Cars : PySem.W.plainOver K C_Cars = true)
    (sa_Cars : PySem.W.findIn K (.ref C_Cars) "__setattr__" = some (some (.builtin "object.__setattr__")))
    (mk_Codes : PySem.W.makesIn K C_Codes = true)
    (kc_Codes : PySem.W.keepIn K (.ref C_Codes) = true)
    (mk_Trees : PySem.W.makesIn K C_Trees = true)
    (kc_Trees : PySem.W.keepIn K (.ref C_Trees) = true)
    (mk_Cars : PySem.W.makesIn K C_Cars = true)
    (kc_Cars : PySem.W.keepIn K (.ref C_Cars) = true)
    (na_Codes_word : PySem.W.findIn K (.ref C_Codes) "word" = some none)
    (na_Trees_word : PySem.W.findIn K (.ref C_Trees) "word" = some none)
    (na_Cars_word : PySem.W.findIn K (.ref C_Cars) "word" = some none)
    (na_Codes_least : PySem.W.findIn K (.ref C_Codes) "least" = some none)
    (na_Trees_least : PySem.W.findIn K (.ref C_Trees) "least" = some none)
    (na_Cars_least : PySem.W.findIn K (.ref C_Cars) "least" = some none)
    (ia_Codes : PySem.W.findIn K (.ref C_Codes) "__class__" = some (some (.builtin "object.__class__")))
    (im_Codes : PySem.W.mroIn K C_Codes (.type "object") = some true)
    (ia_Trees : PySem.W.findIn K (.ref C_Trees) "__class__" = some (some (.builtin "object.__class__")))
    (im_Trees : PySem.W.mroIn K C_Trees (.type "object") = some true)
    (ia_Cars : PySem.W.findIn K (.ref C_Cars) "__class__" = some (some (.builtin "object.__class__")))
    (im_Cars : PySem.W.mroIn K C_Cars (.type "object") = some true)
    (in_get : PySem.W.specialIn K (.builtin "object.__class__") "__get__" = some (some (.builtin "getset_descriptor.__get__")))
    (in_tk : PySem.W.takesIn K (.builtin "object.__class__") = some true)
    (ki_Codes_Family : PySem.W.kitOne K (.ref C_Codes) (.ref C_Family) = some true)
    (ki_Trees_Family : PySem.W.kitOne K (.ref C_Trees) (.ref C_Family) = some true)
    (ki_Cars_Family : PySem.W.kitOne K (.ref C_Cars) (.ref C_Family) = some true)
    (ki_Codes_RingFamily : PySem.W.kitOne K (.ref C_Codes) (.ref C_RingFamily) = some true)
    (ki_Trees_RingFamily : PySem.W.kitOne K (.ref C_Trees) (.ref C_RingFamily) = some true)
    (ki_Cars_RingFamily : PySem.W.kitOne K (.ref C_Cars) (.ref C_RingFamily) = some true)
    (z_len : PySem.W.nsIn K mainGlobals "len" = some none)
    (z_range : PySem.W.nsIn K mainGlobals "range" = some none)
    (z_isinstance : PySem.W.nsIn K mainGlobals "isinstance" = some none)
    (z_int : PySem.W.nsIn K mainGlobals "int" = some none)
    (z_bool : PySem.W.nsIn K mainGlobals "bool" = some none)
    (z_list : PySem.W.nsIn K mainGlobals "list" = some none)
    (z_enumerate : PySem.W.nsIn K mainGlobals "enumerate" = some none)
    (z_min : PySem.W.nsIn K mainGlobals "min" = some none)
    (z_all : PySem.W.nsIn K mainGlobals "all" = some none)
    (z_sorted : PySem.W.nsIn K mainGlobals "sorted" = some none) {t_GREATEST_SIZE : Tok}
    (y_GREATEST_SIZE : PySem.W.nsIn K mainGlobals "GREATEST_SIZE" = some (some (Value.int 40 t_GREATEST_SIZE))) :
    ∃ fd : FuncData, (∀ (s : Shared) (v : Value), BindsTo s fd ⟨[v], []⟩ [("_law_script", v)]) ∧ ∀ base : Heap, K.In base → base.Ns mainGlobals mg → FnOk l.prog w K mg base CX0 8 fa fd ["_law_script"] (spL K) := by
  have e := hfa.symm.trans (PySem.W.mg_of X G a60)
  cases e
  have CA : ClOk K mg ⟨C_Codes, C_Family, C_Trees, C_Cars, C_RingFamily, f3, f4, f5, f6, f7, f8, f9, f10, f11, f15, f16, f17, f18, f19, f20, f21, f23, f24, f25, f26, f27, f28, f29, f30, f31, f38, f39, f41, f42, f43, f44, f46, f47, f48, f49, f50, f51, f52, f53, f54, f55, f56, f57, f58, f59⟩ := ⟨PySem.W.mg_of X G nc_Family, PySem.W.mg_of X G nc_RingFamily, PySem.W.mg_of X G nc_Codes, PySem.W.mg_of X G nc_Trees, PySem.W.mg_of X G nc_Cars, ⟨pg_Codes, hd_Codes, po_Codes, sa_Codes⟩, ⟨pg_Trees, hd_Trees, po_Trees, sa_Trees⟩, ⟨pg_Cars, hd_Cars, po_Cars, sa_Cars⟩, ⟨a_Codes_many, i16, k16⟩, ⟨a_Trees_many, i18, k18⟩, ⟨a_Cars_many, i20, k20⟩, ⟨a_Codes_thing_of, i24, k24⟩, ⟨a_Trees_thing_of, i27, k27⟩, ⟨a_Cars_thing_of, i31, k31⟩, ⟨a_Codes_number_of, i44, k44⟩, ⟨a_Trees_number_of, i51, k51⟩, ⟨a_Cars_number_of, i56, k56⟩, ⟨a_Codes_next_of, i57, k57⟩, ⟨a_Trees_next_of, i58, k58⟩, ⟨a_Cars_next_of, i59, k59⟩, ⟨a_Codes_unchecked_many, i15, k15⟩, ⟨a_Trees_unchecked_many, i17, k17⟩, ⟨a_Cars_unchecked_many, i19, k19⟩, ⟨a_Codes_unchecked_thing, i23, k23⟩, ⟨a_Codes_of_code, i21, k21⟩, ⟨a_Trees_unchecked_thing, i26, k26⟩, ⟨a_Trees_of_code, i25, k25⟩, ⟨a_Cars_unchecked_thing, i30, k30⟩, ⟨a_Cars_of_code, i29, k29⟩, ⟨a_Cars_is_one, i28, k28⟩, ⟨a_Codes_refuse_other, i39, k39⟩, ⟨a_Codes_unchecked_number, i43, k43⟩, ⟨a_Codes_is_one, i38, k38⟩, ⟨a_Codes_size_of, i41, k41⟩, ⟨a_Codes_code_of, i42, k42⟩, ⟨a_Trees_refuse_other, i47, k47⟩, ⟨a_Trees_unchecked_number, i50, k50⟩, ⟨a_Trees_is_one, i46, k46⟩, ⟨a_Trees_size_of, i48, k48⟩, ⟨a_Trees_code_of, i49, k49⟩, ⟨a_Cars_refuse_other, i52, k52⟩, ⟨a_Cars_unchecked_number, i55, k55⟩, ⟨a_Cars_size_of, i53, k53⟩, ⟨a_Cars_code_of, i54, k54⟩, ⟨mk_Codes, ai_Codes, i5, kc_Codes⟩, ⟨mk_Trees, ai_Trees, i8, kc_Trees⟩, ⟨mk_Cars, ai_Cars, i11, kc_Cars⟩, ⟨cg_RingFamily___init___Codes, cr_RingFamily___init___Codes, ch_RingFamily___init___Codes, k4⟩, ⟨cg_Family___init___Codes, cr_Family___init___Codes, ch_Family___init___Codes, k3⟩, ⟨cg_RingFamily___init___Trees, cr_RingFamily___init___Trees, ch_RingFamily___init___Trees, k7⟩, ⟨cg_Family___init___Trees, cr_Family___init___Trees, ch_Family___init___Trees, k6⟩, ⟨cg_RingFamily___init___Cars, cr_RingFamily___init___Cars, ch_RingFamily___init___Cars, k10⟩, ⟨cg_Family___init___Cars, cr_Family___init___Cars, ch_Family___init___Cars, k9⟩, na_Codes_word, na_Trees_word, na_Cars_word, na_Codes_least, na_Trees_least, na_Cars_least, ⟨⟨pg_Codes, hd_Codes, po_Codes, sa_Codes⟩, ia_Codes, in_get, in_tk, im_Codes⟩, ⟨⟨pg_Trees, hd_Trees, po_Trees, sa_Trees⟩, ia_Trees, in_get, in_tk, im_Trees⟩, ⟨⟨pg_Cars, hd_Cars, po_Cars, sa_Cars⟩, ia_Cars, in_get, in_tk, im_Cars⟩, ki_Codes_Family, ki_Trees_Family, ki_Cars_Family, ki_Codes_RingFamily, ki_Trees_RingFamily, ki_Cars_RingFamily⟩
  have F1 := fun_mk (st := s__law_cell_at) l1 c1 k1
  have b1 := F1.binds (ps := ["_law_script", "_law_k"]) fun _ _ _ _ _ _ => lenAll2 (fun _ _ => rfl)
  have F2 := fun_mk (st := s__law_number) l2 c2 k2
  have b2 := F2.binds (ps := ["_law_script", "_law_size", "_law_many"]) fun _ _ _ _ _ _ => lenAll3 (fun _ _ _ => rfl)
  have F3 := fun_mk (st := s_Codes__Family___init__) l3 c3 k3
  have b3 := F3.binds (ps := ["self", "word", "least"]) fun _ _ _ _ _ _ => lenAll3 (fun _ _ _ => rfl)
  have F4 := fun_mk (st := s_Codes__RingFamily___init__) l4 c4 k4
  have b4 := F4.binds (ps := ["self", "word"]) fun _ _ _ _ _ _ => lenAll2 (fun _ _ => rfl)
  have F5 := fun_mk (st := s_Codes____init__) l5 c5 k5
  have b5 := F5.binds (ps := ["self"]) fun _ _ _ _ _ _ => lenAll1 (fun _ => rfl)
  have F6 := fun_mk (st := s_Trees__Family___init__) l6 c6 k6
  have b6 := F6.binds (ps := ["self", "word", "least"]) fun _ _ _ _ _ _ => lenAll3 (fun _ _ _ => rfl)
  have F7 := fun_mk (st := s_Trees__RingFamily___init__) l7 c7 k7
  have b7 := F7.binds (ps := ["self", "word"]) fun _ _ _ _ _ _ => lenAll2 (fun _ _ => rfl)
  have F8 := fun_mk (st := s_Trees____init__) l8 c8 k8
  have b8 := F8.binds (ps := ["self"]) fun _ _ _ _ _ _ => lenAll1 (fun _ => rfl)
  have F9 := fun_mk (st := s_Cars__Family___init__) l9 c9 k9
  have b9 := F9.binds (ps := ["self", "word", "least"]) fun _ _ _ _ _ _ => lenAll3 (fun _ _ _ => rfl)
  have F10 := fun_mk (st := s_Cars__RingFamily___init__) l10 c10 k10
  have b10 := F10.binds (ps := ["self", "word"]) fun _ _ _ _ _ _ => lenAll2 (fun _ _ => rfl)
  have F11 := fun_mk (st := s_Cars____init__) l11 c11 k11
  have b11 := F11.binds (ps := ["self"]) fun _ _ _ _ _ _ => lenAll1 (fun _ => rfl)
  have F12 := fun_mk (st := s__law_kin) l12 c12 k12
  have b12 := F12.binds (ps := ["_law_word"]) fun _ _ _ _ _ _ => lenAll1 (fun _ => rfl)
  have F13 := fun_mk (st := s__law_whole) l13 c13 k13
  have b13 := F13.binds (ps := ["_law_found"]) fun _ _ _ _ _ _ => lenAll1 (fun _ => rfl)
  have F14 := fun_mk (st := s_ring_many) l14 c14 k14
  have b14 := F14.binds (ps := ["size"]) fun _ _ _ _ _ _ => lenAll1 (fun _ => rfl)
  have F15 := fun_mk (st := s_Codes__RingFamily_unchecked_many) l15 c15 k15
  have b15 := F15.binds (ps := ["self", "size"]) fun _ _ _ _ _ _ => lenAll2 (fun _ _ => rfl)
  have F16 := fun_mk (st := s_Codes__Family_many) l16 c16 k16
  have b16 := F16.binds (ps := ["self", "size"]) fun _ _ _ _ _ _ => lenAll2 (fun _ _ => rfl)
  have F17 := fun_mk (st := s_Trees__RingFamily_unchecked_many) l17 c17 k17
  have b17 := F17.binds (ps := ["self", "size"]) fun _ _ _ _ _ _ => lenAll2 (fun _ _ => rfl)
  have F18 := fun_mk (st := s_Trees__Family_many) l18 c18 k18
  have b18 := F18.binds (ps := ["self", "size"]) fun _ _ _ _ _ _ => lenAll2 (fun _ _ => rfl)
  have F19 := fun_mk (st := s_Cars__RingFamily_unchecked_many) l19 c19 k19
  have b19 := F19.binds (ps := ["self", "size"]) fun _ _ _ _ _ _ => lenAll2 (fun _ _ => rfl)
  have F20 := fun_mk (st := s_Cars__Family_many) l20 c20 k20
  have b20 := F20.binds (ps := ["self", "size"]) fun _ _ _ _ _ _ => lenAll2 (fun _ _ => rfl)
  have F21 := fun_mk (st := s_Codes__of_code) l21 c21 k21
  have b21 := F21.binds (ps := ["self", "code"]) fun _ _ _ _ _ _ => lenAll2 (fun _ _ => rfl)
  have F22 := fun_mk (st := s_number_figures) l22 c22 k22
  have b22 := F22.binds (ps := ["number", "base", "length"]) fun _ _ _ _ _ _ => lenAll3 (fun _ _ _ => rfl)
  have F23 := fun_mk (st := s_Codes__RingFamily_unchecked_thing) l23 c23 k23
  have b23 := F23.binds (ps := ["self", "size", "number"]) fun _ _ _ _ _ _ => lenAll3 (fun _ _ _ => rfl)
  have F24 := fun_mk (st := s_Codes__Family_thing_of) l24 c24 k24
  have b24 := F24.binds (ps := ["self", "size", "number"]) fun _ _ _ _ _ _ => lenAll3 (fun _ _ _ => rfl)
  have F25 := fun_mk (st := s_Trees__of_code) l25 c25 k25
  have b25 := F25.binds (ps := ["self", "code"]) fun _ _ _ _ _ _ => lenAll2 (fun _ _ => rfl)
  have F26 := fun_mk (st := s_Trees__RingFamily_unchecked_thing) l26 c26 k26
  have b26 := F26.binds (ps := ["self", "size", "number"]) fun _ _ _ _ _ _ => lenAll3 (fun _ _ _ => rfl)
  have F27 := fun_mk (st := s_Trees__Family_thing_of) l27 c27 k27
  have b27 := F27.binds (ps := ["self", "size", "number"]) fun _ _ _ _ _ _ => lenAll3 (fun _ _ _ => rfl)
  have F28 := fun_mk (st := s_Cars__is_one) l28 c28 k28
  have b28 := F28.binds (ps := ["self", "thing"]) fun _ _ _ _ _ _ => lenAll2 (fun _ _ => rfl)
  have F29 := fun_mk (st := s_Cars__of_code) l29 c29 k29
  have b29 := F29.binds (ps := ["self", "code"]) fun _ _ _ _ _ _ => lenAll2 (fun _ _ => rfl)
  have F30 := fun_mk (st := s_Cars__RingFamily_unchecked_thing) l30 c30 k30
  have b30 := F30.binds (ps := ["self", "size", "number"]) fun _ _ _ _ _ _ => lenAll3 (fun _ _ _ => rfl)
  have F31 := fun_mk (st := s_Cars__Family_thing_of) l31 c31 k31
  have b31 := F31.binds (ps := ["self", "size", "number"]) fun _ _ _ _ _ _ => lenAll3 (fun _ _ _ => rfl)
  have F32 := fun_mk (st := s__law_is_tree) l32 c32 k32
  have b32 := F32.binds (ps := ["_law_elders"]) fun _ _ _ _ _ _ => lenAll1 (fun _ => rfl)
  have F33 := fun_mk (st := s__law_code) l33 c33 k33
  have b33 := F33.binds (ps := ["_law_elders"]) fun _ _ _ _ _ _ => lenAll1 (fun _ => rfl)
  have F34 := fun_mk (st := s__law_all_park) l34 c34 k34
  have b34 := F34.binds (ps := ["_law_wishes"]) fun _ _ _ _ _ _ => lenAll1 (fun _ => rfl)
  have F35 := fun_mk (st := s__law_steps) l35 c35 k35
  have b35 := F35.binds (ps := ["_law_wishes"]) fun _ _ _ _ _ _ => lenAll1 (fun _ => rfl)
  have F36 := fun_mk (st := s__law_has_code) l36 c36 k36
  have b36 := F36.binds (ps := ["_law_word", "_law_found", "_law_code_here"]) fun _ _ _ _ _ _ => lenAll3 (fun _ _ _ => rfl)
  have F37 := fun_mk (st := s__law_figures_of) l37 c37 k37
  have b37 := F37.binds (ps := ["_law_size", "_law_number_here"]) fun _ _ _ _ _ _ => lenAll2 (fun _ _ => rfl)
  have F38 := fun_mk (st := s_Codes__is_one) l38 c38 k38
  have b38 := F38.binds (ps := ["self", "thing"]) fun _ _ _ _ _ _ => lenAll2 (fun _ _ => rfl)
  have F39 := fun_mk (st := s_Codes__Family_refuse_other) l39 c39 k39
  have b39 := F39.binds (ps := ["self", "thing"]) fun _ _ _ _ _ _ => lenAll2 (fun _ _ => rfl)
  have F40 := fun_mk (st := s_figures_number) l40 c40 k40
  have b40 := F40.binds (ps := ["figures", "base"]) fun _ _ _ _ _ _ => lenAll2 (fun _ _ => rfl)
  have F41 := fun_mk (st := s_Codes__size_of) l41 c41 k41
  have b41 := F41.binds (ps := ["self", "thing"]) fun _ _ _ _ _ _ => lenAll2 (fun _ _ => rfl)
  have F42 := fun_mk (st := s_Codes__code_of) l42 c42 k42
  have b42 := F42.binds (ps := ["self", "thing"]) fun _ _ _ _ _ _ => lenAll2 (fun _ _ => rfl)
  have F43 := fun_mk (st := s_Codes__RingFamily_unchecked_number) l43 c43 k43
  have b43 := F43.binds (ps := ["self", "thing"]) fun _ _ _ _ _ _ => lenAll2 (fun _ _ => rfl)
  have F44 := fun_mk (st := s_Codes__Family_number_of) l44 c44 k44
  have b44 := F44.binds (ps := ["self", "thing"]) fun _ _ _ _ _ _ => lenAll2 (fun _ _ => rfl)
  have F45 := fun_mk (st := s_comes_to_0) l45 c45 k45
  have b45 := F45.binds (ps := ["elders", "knot"]) fun _ _ _ _ _ _ => lenAll2 (fun _ _ => rfl)
  have F46 := fun_mk (st := s_Trees__is_one) l46 c46 k46
  have b46 := F46.binds (ps := ["self", "thing"]) fun _ _ _ _ _ _ => lenAll2 (fun _ _ => rfl)
  have F47 := fun_mk (st := s_Trees__Family_refuse_other) l47 c47 k47
  have b47 := F47.binds (ps := ["self", "thing"]) fun _ _ _ _ _ _ => lenAll2 (fun _ _ => rfl)
  have F48 := fun_mk (st := s_Trees__size_of) l48 c48 k48
  have b48 := F48.binds (ps := ["self", "thing"]) fun _ _ _ _ _ _ => lenAll2 (fun _ _ => rfl)
  have F49 := fun_mk (st := s_Trees__code_of) l49 c49 k49
  have b49 := F49.binds (ps := ["self", "thing"]) fun _ _ _ _ _ _ => lenAll2 (fun _ _ => rfl)
  have F50 := fun_mk (st := s_Trees__RingFamily_unchecked_number) l50 c50 k50
  have b50 := F50.binds (ps := ["self", "thing"]) fun _ _ _ _ _ _ => lenAll2 (fun _ _ => rfl)
  have F51 := fun_mk (st := s_Trees__Family_number_of) l51 c51 k51
  have b51 := F51.binds (ps := ["self", "thing"]) fun _ _ _ _ _ _ => lenAll2 (fun _ _ => rfl)
  have F52 := fun_mk (st := s_Cars__Family_refuse_other) l52 c52 k52
  have b52 := F52.binds (ps := ["self", "thing"]) fun _ _ _ _ _ _ => lenAll2 (fun _ _ => rfl)
  have F53 := fun_mk (st := s_Cars__size_of) l53 c53 k53
  have b53 := F53.binds (ps := ["self", "thing"]) fun _ _ _ _ _ _ => lenAll2 (fun _ _ => rfl)
  have F54 := fun_mk (st := s_Cars__code_of) l54 c54 k54
  have b54 := F54.binds (ps := ["self", "thing"]) fun _ _ _ _ _ _ => lenAll2 (fun _ _ => rfl)
  have F55 := fun_mk (st := s_Cars__RingFamily_unchecked_number) l55 c55 k55
  have b55 := F55.binds (ps := ["self", "thing"]) fun _ _ _ _ _ _ => lenAll2 (fun _ _ => rfl)
  have F56 := fun_mk (st := s_Cars__Family_number_of) l56 c56 k56
  have b56 := F56.binds (ps := ["self", "thing"]) fun _ _ _ _ _ _ => lenAll2 (fun _ _ => rfl)
  have F57 := fun_mk (st := s_Codes__Family_next_of) l57 c57 k57
  have b57 := F57.binds (ps := ["self", "thing"]) fun _ _ _ _ _ _ => lenAll2 (fun _ _ => rfl)
  have F58 := fun_mk (st := s_Trees__Family_next_of) l58 c58 k58
  have b58 := F58.binds (ps := ["self", "thing"]) fun _ _ _ _ _ _ => lenAll2 (fun _ _ => rfl)
  have F59 := fun_mk (st := s_Cars__Family_next_of) l59 c59 k59
  have b59 := F59.binds (ps := ["self", "thing"]) fun _ _ _ _ _ _ => lenAll2 (fun _ _ => rfl)
  have F60 := fun_mk (st := s_law) l60 c60 k60
  have m_len := PySem.W.mg_none_of X G z_len
  have m_range := PySem.W.mg_none_of X G z_range
  have m_isinstance := PySem.W.mg_none_of X G z_isinstance
  have m_int := PySem.W.mg_none_of X G z_int
  have m_bool := PySem.W.mg_none_of X G z_bool
  have m_list := PySem.W.mg_none_of X G z_list
  have m_enumerate := PySem.W.mg_none_of X G z_enumerate
  have m_min := PySem.W.mg_none_of X G z_min
  have m_all := PySem.W.mg_none_of X G z_all
  have m_sorted := PySem.W.mg_none_of X G z_sorted
  have g_GREATEST_SIZE : mg "GREATEST_SIZE" = some (Value.int 40 t_GREATEST_SIZE) ∧ RelV (.int 40) (Value.int 40 t_GREATEST_SIZE) := ⟨PySem.W.mg_of X G y_GREATEST_SIZE, ⟨_, rfl⟩⟩
  refine ⟨PySem.W.fnOf "law" "law" (defArgs s_law) (defBody s_law) (defScope s_law) .none kV60 dc60 pm60 an60 cd60 ct60, fun s v => .of_eq rfl, fun base _ _ => ?_⟩
  have d__law_cell_at : Def l.prog w K mg base "_law_cell_at" ["_law_script", "_law_k"] 1 (sp__law_cell_at K ⟨C_Codes, C_Family, C_Trees, C_Cars, C_RingFamily, f3, f4, f5, f6, f7, f8, f9, f10, f11, f15, f16, f17, f18, f19, f20, f21, f23, f24, f25, f26, f27, f28, f29, f30, f31, f38, f39, f41, f42, f43, f44, f46, f47, f48, f49, f50, f51, f52, f53, f54, f55, f56, f57, f58, f59⟩) f1 _ := ⟨(ok__law_cell_at (P := l.prog) (w := w) (base := base) CA F1 m_len).up, b1, k1, PySem.W.mg_of X G a1⟩
  have d__law_number : Def l.prog w K mg base "_law_number" ["_law_script", "_law_size", "_law_many"] 2 (sp__law_number K ⟨C_Codes, C_Family, C_Trees, C_Cars, C_RingFamily, f3, f4, f5, f6, f7, f8, f9, f10, f11, f15, f16, f17, f18, f19, f20, f21, f23, f24, f25, f26, f27, f28, f29, f30, f31, f38, f39, f41, f42, f43, f44, f46, f47, f48, f49, f50, f51, f52, f53, f54, f55, f56, f57, f58, f59⟩) f2 _ := ⟨(ok__law_number (P := l.prog) (w := w) (base := base) CA F2 d__law_cell_at m_range).up, b2, k2, PySem.W.mg_of X G a2⟩
  have d_Codes__Family___init__ : MDef l.prog w K mg base ["self", "word", "least"] 1 (sp_Codes__Family___init__ K ⟨C_Codes, C_Family, C_Trees, C_Cars, C_RingFamily, f3, f4, f5, f6, f7, f8, f9, f10, f11, f15, f16, f17, f18, f19, f20, f21, f23, f24, f25, f26, f27, f28, f29, f30, f31, f38, f39, f41, f42, f43, f44, f46, f47, f48, f49, f50, f51, f52, f53, f54, f55, f56, f57, f58, f59⟩) f3 _ := ⟨(ok_Codes__Family___init__ (P := l.prog) (w := w) (base := base) CA F3).up, b3⟩
  have d_Codes__RingFamily___init__ : MDef l.prog w K mg base ["self", "word"] 3 (sp_Codes__RingFamily___init__ K ⟨C_Codes, C_Family, C_Trees, C_Cars, C_RingFamily, f3, f4, f5, f6, f7, f8, f9, f10, f11, f15, f16, f17, f18, f19, f20, f21, f23, f24, f25, f26, f27, f28, f29, f30, f31, f38, f39, f41, f42, f43, f44, f46, f47, f48, f49, f50, f51, f52, f53, f54, f55, f56, f57, f58, f59⟩) f4 _ := ⟨(ok_Codes__RingFamily___init__ (P := l.prog) (w := w) (base := base) CA F4 d_Codes__Family___init__).up, b4⟩
  have d_Codes____init__ : MDef l.prog w K mg base ["self"] 5 (sp_Codes____init__ K ⟨C_Codes, C_Family, C_Trees, C_Cars, C_RingFamily, f3, f4, f5, f6, f7, f8, f9, f10, f11, f15, f16, f17, f18, f19, f20, f21, f23, f24, f25, f26, f27, f28, f29, f30, f31, f38, f39, f41, f42, f43, f44, f46, f47, f48, f49, f50, f51, f52, f53, f54, f55, f56, f57, f58, f59⟩) f5 _ := ⟨(ok_Codes____init__ (P := l.prog) (w := w) (base := base) CA F5 d_Codes__RingFamily___init__).up, b5⟩
  have d_Trees__Family___init__ : MDef l.prog w K mg base ["self", "word", "least"] 1 (sp_Trees__Family___init__ K ⟨C_Codes, C_Family, C_Trees, C_Cars, C_RingFamily, f3, f4, f5, f6, f7, f8, f9, f10, f11, f15, f16, f17, f18, f19, f20, f21, f23, f24, f25, f26, f27, f28, f29, f30, f31, f38, f39, f41, f42, f43, f44, f46, f47, f48, f49, f50, f51, f52, f53, f54, f55, f56, f57, f58, f59⟩) f6 _ := ⟨(ok_Trees__Family___init__ (P := l.prog) (w := w) (base := base) CA F6).up, b6⟩
  have d_Trees__RingFamily___init__ : MDef l.prog w K mg base ["self", "word"] 3 (sp_Trees__RingFamily___init__ K ⟨C_Codes, C_Family, C_Trees, C_Cars, C_RingFamily, f3, f4, f5, f6, f7, f8, f9, f10, f11, f15, f16, f17, f18, f19, f20, f21, f23, f24, f25, f26, f27, f28, f29, f30, f31, f38, f39, f41, f42, f43, f44, f46, f47, f48, f49, f50, f51, f52, f53, f54, f55, f56, f57, f58, f59⟩) f7 _ := ⟨(ok_Trees__RingFamily___init__ (P := l.prog) (w := w) (base := base) CA F7 d_Trees__Family___init__).up, b7⟩
  have d_Trees____init__ : MDef l.prog w K mg base ["self"] 5 (sp_Trees____init__ K ⟨C_Codes, C_Family, C_Trees, C_Cars, C_RingFamily, f3, f4, f5, f6, f7, f8, f9, f10, f11, f15, f16, f17, f18, f19, f20, f21, f23, f24, f25, f26, f27, f28, f29, f30, f31, f38, f39, f41, f42, f43, f44, f46, f47, f48, f49, f50, f51, f52, f53, f54, f55, f56, f57, f58, f59⟩) f8 _ := ⟨(ok_Trees____init__ (P := l.prog) (w := w) (base := base) CA F8 d_Trees__RingFamily___init__).up, b8⟩
  have d_Cars__Family___init__ : MDef l.prog w K mg base ["self", "word", "least"] 1 (sp_Cars__Family___init__ K ⟨C_Codes, C_Family, C_Trees, C_Cars, C_RingFamily, f3, f4, f5, f6, f7, f8, f9, f10, f11, f15, f16, f17, f18, f19, f20, f21, f23, f24, f25, f26, f27, f28, f29, f30, f31, f38, f39, f41, f42, f43, f44, f46, f47, f48, f49, f50, f51, f52, f53, f54, f55, f56, f57, f58, f59⟩) f9 _ := ⟨(ok_Cars__Family___init__ (P := l.prog) (w := w) (base := base) CA F9).up, b9⟩
  have d_Cars__RingFamily___init__ : MDef l.prog w K mg base ["self", "word"] 3 (sp_Cars__RingFamily___init__ K ⟨C_Codes, C_Family, C_Trees, C_Cars, C_RingFamily, f3, f4, f5, f6, f7, f8, f9, f10, f11, f15, f16, f17, f18, f19, f20, f21, f23, f24, f25, f26, f27, f28, f29, f30, f31, f38, f39, f41, f42, f43, f44, f46, f47, f48, f49, f50, f51, f52, f53, f54, f55, f56, f57, f58, f59⟩) f10 _ := ⟨(ok_Cars__RingFamily___init__ (P := l.prog) (w := w) (base := base) CA F10 d_Cars__Family___init__).up, b10⟩
  have d_Cars____init__ : MDef l.prog w K mg base ["self"] 5 (sp_Cars____init__ K ⟨C_Codes, C_Family, C_Trees, C_Cars, C_RingFamily, f3, f4, f5, f6, f7, f8, f9, f10, f11, f15, f16, f17, f18, f19, f20, f21, f23, f24, f25, f26, f27, f28, f29, f30, f31, f38, f39, f41, f42, f43, f44, f46, f47, f48, f49, f50, f51, f52, f53, f54, f55, f56, f57, f58, f59⟩) f11 _ := ⟨(ok_Cars____init__ (P := l.prog) (w := w) (base := base) CA F11 d_Cars__RingFamily___init__).up, b11⟩
  have d__law_kin : Def l.prog w K mg base "_law_kin" ["_law_word"] 7 (sp__law_kin K ⟨C_Codes, C_Family, C_Trees, C_Cars, C_RingFamily, f3, f4, f5, f6, f7, f8, f9, f10, f11, f15, f16, f17, f18, f19, f20, f21, f23, f24, f25, f26, f27, f28, f29, f30, f31, f38, f39, f41, f42, f43, f44, f46, f47, f48, f49, f50, f51, f52, f53, f54, f55, f56, f57, f58, f59⟩) f12 _ := ⟨(ok__law_kin (P := l.prog) (w := w) (base := base) CA F12 d_Codes____init__ d_Trees____init__ d_Cars____init__).up, b12, k12, PySem.W.mg_of X G a12⟩
  have d__law_whole : Def l.prog w K mg base "_law_whole" ["_law_found"] 1 (sp__law_whole K ⟨C_Codes, C_Family, C_Trees, C_Cars, C_RingFamily, f3, f4, f5, f6, f7, f8, f9, f10, f11, f15, f16, f17, f18, f19, f20, f21, f23, f24, f25, f26, f27, f28, f29, f30, f31, f38, f39, f41, f42, f43, f44, f46, f47, f48, f49, f50, f51, f52, f53, f54, f55, f56, f57, f58, f59⟩) f13 _ := ⟨(ok__law_whole (P := l.prog) (w := w) (base := base) CA F13 m_isinstance m_int m_bool).up, b13, k13, PySem.W.mg_of X G a13⟩
  have d_ring_many : Def l.prog w K mg base "ring_many" ["size"] 1 (sp_ring_many K ⟨C_Codes, C_Family, C_Trees, C_Cars, C_RingFamily, f3, f4, f5, f6, f7, f8, f9, f10, f11, f15, f16, f17, f18, f19, f20, f21, f23, f24, f25, f26, f27, f28, f29, f30, f31, f38, f39, f41, f42, f43, f44, f46, f47, f48, f49, f50, f51, f52, f53, f54, f55, f56, f57, f58, f59⟩) f14 _ := ⟨(ok_ring_many (P := l.prog) (w := w) (base := base) CA F14).up, b14, k14, PySem.W.mg_of X G a14⟩
  have d_Codes__RingFamily_unchecked_many : MDef l.prog w K mg base ["self", "size"] 2 (sp_Codes__RingFamily_unchecked_many K ⟨C_Codes, C_Family, C_Trees, C_Cars, C_RingFamily, f3, f4, f5, f6, f7, f8, f9, f10, f11, f15, f16, f17, f18, f19, f20, f21, f23, f24, f25, f26, f27, f28, f29, f30, f31, f38, f39, f41, f42, f43, f44, f46, f47, f48, f49, f50, f51, f52, f53, f54, f55, f56, f57, f58, f59⟩) f15 _ := ⟨(ok_Codes__RingFamily_unchecked_many (P := l.prog) (w := w) (base := base) CA F15 d_ring_many).up, b15⟩
  have d_Codes__Family_many : MDef l.prog w K mg base ["self", "size"] 3 (sp_Codes__Family_many K ⟨C_Codes, C_Family, C_Trees, C_Cars, C_RingFamily, f3, f4, f5, f6, f7, f8, f9, f10, f11, f15, f16, f17, f18, f19, f20, f21, f23, f24, f25, f26, f27, f28, f29, f30, f31, f38, f39, f41, f42, f43, f44, f46, f47, f48, f49, f50, f51, f52, f53, f54, f55, f56, f57, f58, f59⟩) f16 _ := ⟨(ok_Codes__Family_many (P := l.prog) (w := w) (base := base) CA F16 d_Codes__RingFamily_unchecked_many g_GREATEST_SIZE).up, b16⟩
  have d_Trees__RingFamily_unchecked_many : MDef l.prog w K mg base ["self", "size"] 2 (sp_Trees__RingFamily_unchecked_many K ⟨C_Codes, C_Family, C_Trees, C_Cars, C_RingFamily, f3, f4, f5, f6, f7, f8, f9, f10, f11, f15, f16, f17, f18, f19, f20, f21, f23, f24, f25, f26, f27, f28, f29, f30, f31, f38, f39, f41, f42, f43, f44, f46, f47, f48, f49, f50, f51, f52, f53, f54, f55, f56, f57, f58, f59⟩) f17 _ := ⟨(ok_Trees__RingFamily_unchecked_many (P := l.prog) (w := w) (base := base) CA F17 d_ring_many).up, b17⟩
  have d_Trees__Family_many : MDef l.prog w K mg base ["self", "size"] 3 (sp_Trees__Family_many K ⟨C_Codes, C_Family, C_Trees, C_Cars, C_RingFamily, f3, f4, f5, f6, f7, f8, f9, f10, f11, f15, f16, f17, f18, f19, f20, f21, f23, f24, f25, f26, f27, f28, f29, f30, f31, f38, f39, f41, f42, f43, f44, f46, f47, f48, f49, f50, f51, f52, f53, f54, f55, f56, f57, f58, f59⟩) f18 _ := ⟨(ok_Trees__Family_many (P := l.prog) (w := w) (base := base) CA F18 d_Trees__RingFamily_unchecked_many g_GREATEST_SIZE).up, b18⟩
  have d_Cars__RingFamily_unchecked_many : MDef l.prog w K mg base ["self", "size"] 2 (sp_Cars__RingFamily_unchecked_many K ⟨C_Codes, C_Family, C_Trees, C_Cars, C_RingFamily, f3, f4, f5, f6, f7, f8, f9, f10, f11, f15, f16, f17, f18, f19, f20, f21, f23, f24, f25, f26, f27, f28, f29, f30, f31, f38, f39, f41, f42, f43, f44, f46, f47, f48, f49, f50, f51, f52, f53, f54, f55, f56, f57, f58, f59⟩) f19 _ := ⟨(ok_Cars__RingFamily_unchecked_many (P := l.prog) (w := w) (base := base) CA F19 d_ring_many).up, b19⟩
  have d_Cars__Family_many : MDef l.prog w K mg base ["self", "size"] 3 (sp_Cars__Family_many K ⟨C_Codes, C_Family, C_Trees, C_Cars, C_RingFamily, f3, f4, f5, f6, f7, f8, f9, f10, f11, f15, f16, f17, f18, f19, f20, f21, f23, f24, f25, f26, f27, f28, f29, f30, f31, f38, f39, f41, f42, f43, f44, f46, f47, f48, f49, f50, f51, f52, f53, f54, f55, f56, f57, f58, f59⟩) f20 _ := ⟨(ok_Cars__Family_many (P := l.prog) (w := w) (base := base) CA F20 d_Cars__RingFamily_unchecked_many g_GREATEST_SIZE).up, b20⟩
  have d_Codes__of_code : MDef l.prog w K mg base ["self", "code"] 1 (sp_Codes__of_code K ⟨C_Codes, C_Family, C_Trees, C_Cars, C_RingFamily, f3, f4, f5, f6, f7, f8, f9, f10, f11, f15, f16, f17, f18, f19, f20, f21, f23, f24, f25, f26, f27, f28, f29, f30, f31, f38, f39, f41, f42, f43, f44, f46, f47, f48, f49, f50, f51, f52, f53, f54, f55, f56, f57, f58, f59⟩) f21 _ := ⟨(ok_Codes__of_code (P := l.prog) (w := w) (base := base) CA F21 m_list).up, b21⟩
  have d_number_figures : Def l.prog w K mg base "number_figures" ["number", "base", "length"] 1 (sp_number_figures K ⟨C_Codes, C_Family, C_Trees, C_Cars, C_RingFamily, f3, f4, f5, f6, f7, f8, f9, f10, f11, f15, f16, f17, f18, f19, f20, f21, f23, f24, f25, f26, f27, f28, f29, f30, f31, f38, f39, f41, f42, f43, f44, f46, f47, f48, f49, f50, f51, f52, f53, f54, f55, f56, f57, f58, f59⟩) f22 _ := ⟨(ok_number_figures (P := l.prog) (w := w) (base := base) CA F22 m_range).up, b22, k22, PySem.W.mg_of X G a22⟩
  have d_Codes__RingFamily_unchecked_thing : MDef l.prog w K mg base ["self", "size", "number"] 2 (sp_Codes__RingFamily_unchecked_thing K ⟨C_Codes, C_Family, C_Trees, C_Cars, C_RingFamily, f3, f4, f5, f6, f7, f8, f9, f10, f11, f15, f16, f17, f18, f19, f20, f21, f23, f24, f25, f26, f27, f28, f29, f30, f31, f38, f39, f41, f42, f43, f44, f46, f47, f48, f49, f50, f51, f52, f53, f54, f55, f56, f57, f58, f59⟩) f23 _ := ⟨(ok_Codes__RingFamily_unchecked_thing (P := l.prog) (w := w) (base := base) CA F23 d_Codes__of_code d_number_figures).up, b23⟩
  have d_Codes__Family_thing_of : MDef l.prog w K mg base ["self", "size", "number"] 4 (sp_Codes__Family_thing_of K ⟨C_Codes, C_Family, C_Trees, C_Cars, C_RingFamily, f3, f4, f5, f6, f7, f8, f9, f10, f11, f15, f16, f17, f18, f19, f20, f21, f23, f24, f25, f26, f27, f28, f29, f30, f31, f38, f39, f41, f42, f43, f44, f46, f47, f48, f49, f50, f51, f52, f53, f54, f55, f56, f57, f58, f59⟩) f24 _ := ⟨(ok_Codes__Family_thing_of (P := l.prog) (w := w) (base := base) CA F24 d_Codes__Family_many d_Codes__RingFamily_unchecked_thing).up, b24⟩
  have d_Trees__of_code : MDef l.prog w K mg base ["self", "code"] 1 (sp_Trees__of_code K ⟨C_Codes, C_Family, C_Trees, C_Cars, C_RingFamily, f3, f4, f5, f6, f7, f8, f9, f10, f11, f15, f16, f17, f18, f19, f20, f21, f23, f24, f25, f26, f27, f28, f29, f30, f31, f38, f39, f41, f42, f43, f44, f46, f47, f48, f49, f50, f51, f52, f53, f54, f55, f56, f57, f58, f59⟩) f25 _ := ⟨(ok_Trees__of_code (P := l.prog) (w := w) (base := base) CA F25 m_list m_range m_len m_enumerate m_min).up, b25⟩
  have d_Trees__RingFamily_unchecked_thing : MDef l.prog w K mg base ["self", "size", "number"] 2 (sp_Trees__RingFamily_unchecked_thing K ⟨C_Codes, C_Family, C_Trees, C_Cars, C_RingFamily, f3, f4, f5, f6, f7, f8, f9, f10, f11, f15, f16, f17, f18, f19, f20, f21, f23, f24, f25, f26, f27, f28, f29, f30, f31, f38, f39, f41, f42, f43, f44, f46, f47, f48, f49, f50, f51, f52, f53, f54, f55, f56, f57, f58, f59⟩) f26 _ := ⟨(ok_Trees__RingFamily_unchecked_thing (P := l.prog) (w := w) (base := base) CA F26 d_Trees__of_code d_number_figures).up, b26⟩
  have d_Trees__Family_thing_of : MDef l.prog w K mg base ["self", "size", "number"] 4 (sp_Trees__Family_thing_of K ⟨C_Codes, C_Family, C_Trees, C_Cars, C_RingFamily, f3, f4, f5, f6, f7, f8, f9, f10, f11, f15, f16, f17, f18, f19, f20, f21, f23, f24, f25, f26, f27, f28, f29, f30, f31, f38, f39, f41, f42, f43, f44, f46, f47, f48, f49, f50, f51, f52, f53, f54, f55, f56, f57, f58, f59⟩) f27 _ := ⟨(ok_Trees__Family_thing_of (P := l.prog) (w := w) (base := base) CA F27 d_Trees__Family_many d_Trees__RingFamily_unchecked_thing).up, b27⟩
  have d_Cars__is_one : MDef l.prog w K mg base ["self", "thing"] 1 (sp_Cars__is_one K ⟨C_Codes, C_Family, C_Trees, C_Cars, C_RingFamily, f3, f4, f5, f6, f7, f8, f9, f10, f11, f15, f16, f17, f18, f19, f20, f21, f23, f24, f25, f26, f27, f28, f29, f30, f31, f38, f39, f41, f42, f43, f44, f46, f47, f48, f49, f50, f51, f52, f53, f54, f55, f56, f57, f58, f59⟩) f28 _ := ⟨(ok_Cars__is_one (P := l.prog) (w := w) (base := base) CA F28 m_min m_all m_sorted m_enumerate).up, b28⟩
  have d_Cars__of_code : MDef l.prog w K mg base ["self", "code"] 2 (sp_Cars__of_code K ⟨C_Codes, C_Family, C_Trees, C_Cars, C_RingFamily, f3, f4, f5, f6, f7, f8, f9, f10, f11, f15, f16, f17, f18, f19, f20, f21, f23, f24, f25, f26, f27, f28, f29, f30, f31, f38, f39, f41, f42, f43, f44, f46, f47, f48, f49, f50, f51, f52, f53, f54, f55, f56, f57, f58, f59⟩) f29 _ := ⟨(ok_Cars__of_code (P := l.prog) (w := w) (base := base) CA F29 d_Cars__is_one m_len).up, b29⟩
  have d_Cars__RingFamily_unchecked_thing : MDef l.prog w K mg base ["self", "size", "number"] 3 (sp_Cars__RingFamily_unchecked_thing K ⟨C_Codes, C_Family, C_Trees, C_Cars, C_RingFamily, f3, f4, f5, f6, f7, f8, f9, f10, f11, f15, f16, f17, f18, f19, f20, f21, f23, f24, f25, f26, f27, f28, f29, f30, f31, f38, f39, f41, f42, f43, f44, f46, f47, f48, f49, f50, f51, f52, f53, f54, f55, f56, f57, f58, f59⟩) f30 _ := ⟨(ok_Cars__RingFamily_unchecked_thing (P := l.prog) (w := w) (base := base) CA F30 d_Cars__of_code d_number_figures).up, b30⟩
  have d_Cars__Family_thing_of : MDef l.prog w K mg base ["self", "size", "number"] 4 (sp_Cars__Family_thing_of K ⟨C_Codes, C_Family, C_Trees, C_Cars, C_RingFamily, f3, f4, f5, f6, f7, f8, f9, f10, f11, f15, f16, f17, f18, f19, f20, f21, f23, f24, f25, f26, f27, f28, f29, f30, f31, f38, f39, f41, f42, f43, f44, f46, f47, f48, f49, f50, f51, f52, f53, f54, f55, f56, f57, f58, f59⟩) f31 _ := ⟨(ok_Cars__Family_thing_of (P := l.prog) (w := w) (base := base) CA F31 d_Cars__Family_many d_Cars__RingFamily_unchecked_thing).up, b31⟩
  have d__law_is_tree : Def l.prog w K mg base "_law_is_tree" ["_law_elders"] 1 (sp__law_is_tree K ⟨C_Codes, C_Family, C_Trees, C_Cars, C_RingFamily, f3, f4, f5, f6, f7, f8, f9, f10, f11, f15, f16, f17, f18, f19, f20, f21, f23, f24, f25, f26, f27, f28, f29, f30, f31, f38, f39, f41, f42, f43, f44, f46, f47, f48, f49, f50, f51, f52, f53, f54, f55, f56, f57, f58, f59⟩) f32 _ := ⟨(ok__law_is_tree (P := l.prog) (w := w) (base := base) CA F32 m_len m_range).up, b32, k32, PySem.W.mg_of X G a32⟩
  have d__law_code : Def l.prog w K mg base "_law_code" ["_law_elders"] 1 (sp__law_code K ⟨C_Codes, C_Family, C_Trees, C_Cars, C_RingFamily, f3, f4, f5, f6, f7, f8, f9, f10, f11, f15, f16, f17, f18, f19, f20, f21, f23, f24, f25, f26, f27, f28, f29, f30, f31, f38, f39, f41, f42, f43, f44, f46, f47, f48, f49, f50, f51, f52, f53, f54, f55, f56, f57, f58, f59⟩) f33 _ := ⟨(ok__law_code (P := l.prog) (w := w) (base := base) CA F33 m_list m_range m_len).up, b33, k33, PySem.W.mg_of X G a33⟩
  have d__law_all_park : Def l.prog w K mg base "_law_all_park" ["_law_wishes"] 1 (sp__law_all_park K ⟨C_Codes, C_Family, C_Trees, C_Cars, C_RingFamily, f3, f4, f5, f6, f7, f8, f9, f10, f11, f15, f16, f17, f18, f19, f20, f21, f23, f24, f25, f26, f27, f28, f29, f30, f31, f38, f39, f41, f42, f43, f44, f46, f47, f48, f49, f50, f51, f52, f53, f54, f55, f56, f57, f58, f59⟩) f34 _ := ⟨(ok__law_all_park (P := l.prog) (w := w) (base := base) CA F34 m_len m_range).up, b34, k34, PySem.W.mg_of X G a34⟩
  have d__law_steps : Def l.prog w K mg base "_law_steps" ["_law_wishes"] 1 (sp__law_steps K ⟨C_Codes, C_Family, C_Trees, C_Cars, C_RingFamily, f3, f4, f5, f6, f7, f8, f9, f10, f11, f15, f16, f17, f18, f19, f20, f21, f23, f24, f25, f26, f27, f28, f29, f30, f31, f38, f39, f41, f42, f43, f44, f46, f47, f48, f49, f50, f51, f52, f53, f54, f55, f56, f57, f58, f59⟩) f35 _ := ⟨(ok__law_steps (P := l.prog) (w := w) (base := base) CA F35 m_len m_range).up, b35, k35, PySem.W.mg_of X G a35⟩
  have d__law_has_code : Def l.prog w K mg base "_law_has_code" ["_law_word", "_law_found", "_law_code_here"] 2 (sp__law_has_code K ⟨C_Codes, C_Family, C_Trees, C_Cars, C_RingFamily, f3, f4, f5, f6, f7, f8, f9, f10, f11, f15, f16, f17, f18, f19, f20, f21, f23, f24, f25, f26, f27, f28, f29, f30, f31, f38, f39, f41, f42, f43, f44, f46, f47, f48, f49, f50, f51, f52, f53, f54, f55, f56, f57, f58, f59⟩) f36 _ := ⟨(ok__law_has_code (P := l.prog) (w := w) (base := base) CA F36 d__law_whole d__law_is_tree d__law_code d__law_all_park d__law_steps m_isinstance m_list m_len m_int).up, b36, k36, PySem.W.mg_of X G a36⟩
  have d__law_figures_of : Def l.prog w K mg base "_law_figures_of" ["_law_size", "_law_number_here"] 1 (sp__law_figures_of K ⟨C_Codes, C_Family, C_Trees, C_Cars, C_RingFamily, f3, f4, f5, f6, f7, f8, f9, f10, f11, f15, f16, f17, f18, f19, f20, f21, f23, f24, f25, f26, f27, f28, f29, f30, f31, f38, f39, f41, f42, f43, f44, f46, f47, f48, f49, f50, f51, f52, f53, f54, f55, f56, f57, f58, f59⟩) f37 _ := ⟨(ok__law_figures_of (P := l.prog) (w := w) (base := base) CA F37 m_range).up, b37, k37, PySem.W.mg_of X G a37⟩
  have d_Codes__is_one : MDef l.prog w K mg base ["self", "thing"] 1 (sp_Codes__is_one K ⟨C_Codes, C_Family, C_Trees, C_Cars, C_RingFamily, f3, f4, f5, f6, f7, f8, f9, f10, f11, f15, f16, f17, f18, f19, f20, f21, f23, f24, f25, f26, f27, f28, f29, f30, f31, f38, f39, f41, f42, f43, f44, f46, f47, f48, f49, f50, f51, f52, f53, f54, f55, f56, f57, f58, f59⟩) f38 _ := ⟨(ok_Codes__is_one (P := l.prog) (w := w) (base := base) CA F38 m_len m_all).up, b38⟩
  have d_Codes__Family_refuse_other : MDef l.prog w K mg base ["self", "thing"] 2 (sp_Codes__Family_refuse_other K ⟨C_Codes, C_Family, C_Trees, C_Cars, C_RingFamily, f3, f4, f5, f6, f7, f8, f9, f10, f11, f15, f16, f17, f18, f19, f20, f21, f23, f24, f25, f26, f27, f28, f29, f30, f31, f38, f39, f41, f42, f43, f44, f46, f47, f48, f49, f50, f51, f52, f53, f54, f55, f56, f57, f58, f59⟩) f39 _ := ⟨(ok_Codes__Family_refuse_other (P := l.prog) (w := w) (base := base) CA F39 d_Codes__is_one).up, b39⟩
  have d_figures_number : Def l.prog w K mg base "figures_number" ["figures", "base"] 1 (sp_figures_number K ⟨C_Codes, C_Family, C_Trees, C_Cars, C_RingFamily, f3, f4, f5, f6, f7, f8, f9, f10, f11, f15, f16, f17, f18, f19, f20, f21, f23, f24, f25, f26, f27, f28, f29, f30, f31, f38, f39, f41, f42, f43, f44, f46, f47, f48, f49, f50, f51, f52, f53, f54, f55, f56, f57, f58, f59⟩) f40 _ := ⟨(ok_figures_number (P := l.prog) (w := w) (base := base) CA F40).up, b40, k40, PySem.W.mg_of X G a40⟩
  have d_Codes__size_of : MDef l.prog w K mg base ["self", "thing"] 1 (sp_Codes__size_of K ⟨C_Codes, C_Family, C_Trees, C_Cars, C_RingFamily, f3, f4, f5, f6, f7, f8, f9, f10, f11, f15, f16, f17, f18, f19, f20, f21, f23, f24, f25, f26, f27, f28, f29, f30, f31, f38, f39, f41, f42, f43, f44, f46, f47, f48, f49, f50, f51, f52, f53, f54, f55, f56, f57, f58, f59⟩) f41 _ := ⟨(ok_Codes__size_of (P := l.prog) (w := w) (base := base) CA F41 m_len).up, b41⟩
  have d_Codes__code_of : MDef l.prog w K mg base ["self", "thing"] 1 (sp_Codes__code_of K ⟨C_Codes, C_Family, C_Trees, C_Cars, C_RingFamily, f3, f4, f5, f6, f7, f8, f9, f10, f11, f15, f16, f17, f18, f19, f20, f21, f23, f24, f25, f26, f27, f28, f29, f30, f31, f38, f39, f41, f42, f43, f44, f46, f47, f48, f49, f50, f51, f52, f53, f54, f55, f56, f57, f58, f59⟩) f42 _ := ⟨(ok_Codes__code_of (P := l.prog) (w := w) (base := base) CA F42 m_list).up, b42⟩
  have d_Codes__RingFamily_unchecked_number : MDef l.prog w K mg base ["self", "thing"] 2 (sp_Codes__RingFamily_unchecked_number K ⟨C_Codes, C_Family, C_Trees, C_Cars, C_RingFamily, f3, f4, f5, f6, f7, f8, f9, f10, f11, f15, f16, f17, f18, f19, f20, f21, f23, f24, f25, f26, f27, f28, f29, f30, f31, f38, f39, f41, f42, f43, f44, f46, f47, f48, f49, f50, f51, f52, f53, f54, f55, f56, f57, f58, f59⟩) f43 _ := ⟨(ok_Codes__RingFamily_unchecked_number (P := l.prog) (w := w) (base := base) CA F43 d_figures_number d_Codes__size_of d_Codes__code_of).up, b43⟩
  have d_Codes__Family_number_of : MDef l.prog w K mg base ["self", "thing"] 3 (sp_Codes__Family_number_of K ⟨C_Codes, C_Family, C_Trees, C_Cars, C_RingFamily, f3, f4, f5, f6, f7, f8, f9, f10, f11, f15, f16, f17, f18, f19, f20, f21, f23, f24, f25, f26, f27, f28, f29, f30, f31, f38, f39, f41, f42, f43, f44, f46, f47, f48, f49, f50, f51, f52, f53, f54, f55, f56, f57, f58, f59⟩) f44 _ := ⟨(ok_Codes__Family_number_of (P := l.prog) (w := w) (base := base) CA F44 d_Codes__Family_refuse_other d_Codes__RingFamily_unchecked_number).up, b44⟩
  have d_comes_to_0 : Def l.prog w K mg base "comes_to_0" ["elders", "knot"] 1 (sp_comes_to_0 K ⟨C_Codes, C_Family, C_Trees, C_Cars, C_RingFamily, f3, f4, f5, f6, f7, f8, f9, f10, f11, f15, f16, f17, f18, f19, f20, f21, f23, f24, f25, f26, f27, f28, f29, f30, f31, f38, f39, f41, f42, f43, f44, f46, f47, f48, f49, f50, f51, f52, f53, f54, f55, f56, f57, f58, f59⟩) f45 _ := ⟨(ok_comes_to_0 (P := l.prog) (w := w) (base := base) CA F45 m_range m_len).up, b45, k45, PySem.W.mg_of X G a45⟩
  have d_Trees__is_one : MDef l.prog w K mg base ["self", "thing"] 2 (sp_Trees__is_one K ⟨C_Codes, C_Family, C_Trees, C_Cars, C_RingFamily, f3, f4, f5, f6, f7, f8, f9, f10, f11, f15, f16, f17, f18, f19, f20, f21, f23, f24, f25, f26, f27, f28, f29, f30, f31, f38, f39, f41, f42, f43, f44, f46, f47, f48, f49, f50, f51, f52, f53, f54, f55, f56, f57, f58, f59⟩) f46 _ := ⟨(ok_Trees__is_one (P := l.prog) (w := w) (base := base) CA F46 d_comes_to_0 m_len m_all m_range).up, b46⟩
  have d_Trees__Family_refuse_other : MDef l.prog w K mg base ["self", "thing"] 3 (sp_Trees__Family_refuse_other K ⟨C_Codes, C_Family, C_Trees, C_Cars, C_RingFamily, f3, f4, f5, f6, f7, f8, f9, f10, f11, f15, f16, f17, f18, f19, f20, f21, f23, f24, f25, f26, f27, f28, f29, f30, f31, f38, f39, f41, f42, f43, f44, f46, f47, f48, f49, f50, f51, f52, f53, f54, f55, f56, f57, f58, f59⟩) f47 _ := ⟨(ok_Trees__Family_refuse_other (P := l.prog) (w := w) (base := base) CA F47 d_Trees__is_one).up, b47⟩
  have d_Trees__size_of : MDef l.prog w K mg base ["self", "thing"] 1 (sp_Trees__size_of K ⟨C_Codes, C_Family, C_Trees, C_Cars, C_RingFamily, f3, f4, f5, f6, f7, f8, f9, f10, f11, f15, f16, f17, f18, f19, f20, f21, f23, f24, f25, f26, f27, f28, f29, f30, f31, f38, f39, f41, f42, f43, f44, f46, f47, f48, f49, f50, f51, f52, f53, f54, f55, f56, f57, f58, f59⟩) f48 _ := ⟨(ok_Trees__size_of (P := l.prog) (w := w) (base := base) CA F48 m_len).up, b48⟩
  have d_Trees__code_of : MDef l.prog w K mg base ["self", "thing"] 1 (sp_Trees__code_of K ⟨C_Codes, C_Family, C_Trees, C_Cars, C_RingFamily, f3, f4, f5, f6, f7, f8, f9, f10, f11, f15, f16, f17, f18, f19, f20, f21, f23, f24, f25, f26, f27, f28, f29, f30, f31, f38, f39, f41, f42, f43, f44, f46, f47, f48, f49, f50, f51, f52, f53, f54, f55, f56, f57, f58, f59⟩) f49 _ := ⟨(ok_Trees__code_of (P := l.prog) (w := w) (base := base) CA F49 m_list m_range m_len m_min).up, b49⟩
  have d_Trees__RingFamily_unchecked_number : MDef l.prog w K mg base ["self", "thing"] 2 (sp_Trees__RingFamily_unchecked_number K ⟨C_Codes, C_Family, C_Trees, C_Cars, C_RingFamily, f3, f4, f5, f6, f7, f8, f9, f10, f11, f15, f16, f17, f18, f19, f20, f21, f23, f24, f25, f26, f27, f28, f29, f30, f31, f38, f39, f41, f42, f43, f44, f46, f47, f48, f49, f50, f51, f52, f53, f54, f55, f56, f57, f58, f59⟩) f50 _ := ⟨(ok_Trees__RingFamily_unchecked_number (P := l.prog) (w := w) (base := base) CA F50 d_figures_number d_Trees__size_of d_Trees__code_of).up, b50⟩
  have d_Trees__Family_number_of : MDef l.prog w K mg base ["self", "thing"] 4 (sp_Trees__Family_number_of K ⟨C_Codes, C_Family, C_Trees, C_Cars, C_RingFamily, f3, f4, f5, f6, f7, f8, f9, f10, f11, f15, f16, f17, f18, f19, f20, f21, f23, f24, f25, f26, f27, f28, f29, f30, f31, f38, f39, f41, f42, f43, f44, f46, f47, f48, f49, f50, f51, f52, f53, f54, f55, f56, f57, f58, f59⟩) f51 _ := ⟨(ok_Trees__Family_number_of (P := l.prog) (w := w) (base := base) CA F51 d_Trees__Family_refuse_other d_Trees__RingFamily_unchecked_number).up, b51⟩
  have d_Cars__Family_refuse_other : MDef l.prog w K mg base ["self", "thing"] 2 (sp_Cars__Family_refuse_other K ⟨C_Codes, C_Family, C_Trees, C_Cars, C_RingFamily, f3, f4, f5, f6, f7, f8, f9, f10, f11, f15, f16, f17, f18, f19, f20, f21, f23, f24, f25, f26, f27, f28, f29, f30, f31, f38, f39, f41, f42, f43, f44, f46, f47, f48, f49, f50, f51, f52, f53, f54, f55, f56, f57, f58, f59⟩) f52 _ := ⟨(ok_Cars__Family_refuse_other (P := l.prog) (w := w) (base := base) CA F52 d_Cars__is_one).up, b52⟩
  have d_Cars__size_of : MDef l.prog w K mg base ["self", "thing"] 1 (sp_Cars__size_of K ⟨C_Codes, C_Family, C_Trees, C_Cars, C_RingFamily, f3, f4, f5, f6, f7, f8, f9, f10, f11, f15, f16, f17, f18, f19, f20, f21, f23, f24, f25, f26, f27, f28, f29, f30, f31, f38, f39, f41, f42, f43, f44, f46, f47, f48, f49, f50, f51, f52, f53, f54, f55, f56, f57, f58, f59⟩) f53 _ := ⟨(ok_Cars__size_of (P := l.prog) (w := w) (base := base) CA F53 m_len).up, b53⟩
  have d_Cars__code_of : MDef l.prog w K mg base ["self", "thing"] 1 (sp_Cars__code_of K ⟨C_Codes, C_Family, C_Trees, C_Cars, C_RingFamily, f3, f4, f5, f6, f7, f8, f9, f10, f11, f15, f16, f17, f18, f19, f20, f21, f23, f24, f25, f26, f27, f28, f29, f30, f31, f38, f39, f41, f42, f43, f44, f46, f47, f48, f49, f50, f51, f52, f53, f54, f55, f56, f57, f58, f59⟩) f54 _ := ⟨(ok_Cars__code_of (P := l.prog) (w := w) (base := base) CA F54 m_len m_range).up, b54⟩
  have d_Cars__RingFamily_unchecked_number : MDef l.prog w K mg base ["self", "thing"] 2 (sp_Cars__RingFamily_unchecked_number K ⟨C_Codes, C_Family, C_Trees, C_Cars, C_RingFamily, f3, f4, f5, f6, f7, f8, f9, f10, f11, f15, f16, f17, f18, f19, f20, f21, f23, f24, f25, f26, f27, f28, f29, f30, f31, f38, f39, f41, f42, f43, f44, f46, f47, f48, f49, f50, f51, f52, f53, f54, f55, f56, f57, f58, f59⟩) f55 _ := ⟨(ok_Cars__RingFamily_unchecked_number (P := l.prog) (w := w) (base := base) CA F55 d_figures_number d_Cars__size_of d_Cars__code_of).up, b55⟩
  have d_Cars__Family_number_of : MDef l.prog w K mg base ["self", "thing"] 3 (sp_Cars__Family_number_of K ⟨C_Codes, C_Family, C_Trees, C_Cars, C_RingFamily, f3, f4, f5, f6, f7, f8, f9, f10, f11, f15, f16, f17, f18, f19, f20, f21, f23, f24, f25, f26, f27, f28, f29, f30, f31, f38, f39, f41, f42, f43, f44, f46, f47, f48, f49, f50, f51, f52, f53, f54, f55, f56, f57, f58, f59⟩) f56 _ := ⟨(ok_Cars__Family_number_of (P := l.prog) (w := w) (base := base) CA F56 d_Cars__Family_refuse_other d_Cars__RingFamily_unchecked_number).up, b56⟩
  have d_Codes__Family_next_of : MDef l.prog w K mg base ["self", "thing"] 4 (sp_Codes__Family_next_of K ⟨C_Codes, C_Family, C_Trees, C_Cars, C_RingFamily, f3, f4, f5, f6, f7, f8, f9, f10, f11, f15, f16, f17, f18, f19, f20, f21, f23, f24, f25, f26, f27, f28, f29, f30, f31, f38, f39, f41, f42, f43, f44, f46, f47, f48, f49, f50, f51, f52, f53, f54, f55, f56, f57, f58, f59⟩) f57 _ := ⟨(ok_Codes__Family_next_of (P := l.prog) (w := w) (base := base) CA F57 d_Codes__Family_number_of d_Codes__size_of d_Codes__RingFamily_unchecked_many d_Codes__RingFamily_unchecked_thing).up, b57⟩
  have d_Trees__Family_next_of : MDef l.prog w K mg base ["self", "thing"] 5 (sp_Trees__Family_next_of K ⟨C_Codes, C_Family, C_Trees, C_Cars, C_RingFamily, f3, f4, f5, f6, f7, f8, f9, f10, f11, f15, f16, f17, f18, f19, f20, f21, f23, f24, f25, f26, f27, f28, f29, f30, f31, f38, f39, f41, f42, f43, f44, f46, f47, f48, f49, f50, f51, f52, f53, f54, f55, f56, f57, f58, f59⟩) f58 _ := ⟨(ok_Trees__Family_next_of (P := l.prog) (w := w) (base := base) CA F58 d_Trees__Family_number_of d_Trees__size_of d_Trees__RingFamily_unchecked_many d_Trees__RingFamily_unchecked_thing).up, b58⟩
  have d_Cars__Family_next_of : MDef l.prog w K mg base ["self", "thing"] 4 (sp_Cars__Family_next_of K ⟨C_Codes, C_Family, C_Trees, C_Cars, C_RingFamily, f3, f4, f5, f6, f7, f8, f9, f10, f11, f15, f16, f17, f18, f19, f20, f21, f23, f24, f25, f26, f27, f28, f29, f30, f31, f38, f39, f41, f42, f43, f44, f46, f47, f48, f49, f50, f51, f52, f53, f54, f55, f56, f57, f58, f59⟩) f59 _ := ⟨(ok_Cars__Family_next_of (P := l.prog) (w := w) (base := base) CA F59 d_Cars__Family_number_of d_Cars__size_of d_Cars__RingFamily_unchecked_many d_Cars__RingFamily_unchecked_thing).up, b59⟩
  exact ok_law (P := l.prog) (w := w) (base := base) CA F60 d__law_cell_at d__law_number d__law_kin d__law_whole d_Codes__Family_many d_Trees__Family_many d_Cars__Family_many d_Codes__Family_thing_of d_Trees__Family_thing_of d_Cars__Family_thing_of d__law_has_code d__law_figures_of d_Codes__Family_number_of d_Trees__Family_number_of d_Cars__Family_number_of d_Codes__Family_next_of d_Trees__Family_next_of d_Cars__Family_next_of m_range m_isinstance m_list

theorem walk {l : PySem.W.OpenLaw} {q : Program} {loose : List Str} {XP : (Str → Option Value) → Heap → Prop} {YP : World → Heap → Prop} {d : DefRec} {K : Params → PySem.W.Frag} (hn : l.most = some 63) (hdf : d.params.defaults = [])
    (hY : ∀ (w : World) (h : Heap), YP w h → (K w.params).In h)
    (F : ∀ (w : World) (mg : Str → Option Value) (fa : Addr) (h : Heap), (K w.params).In h → h.Ns mainGlobals mg → mg d.name = some (.ref fa) →
      ∃ fd : FuncData, (∀ (s : Shared) (u : Value), BindsTo s fd ⟨[u], []⟩ [("_law_script", u)]) ∧ ∀ base : Heap, (K w.params).In base → base.Ns mainGlobals mg → FnOk l.prog w (K w.params) mg base CX0 8 fa fd ["_law_script"] (spL (K w.params))) :
    PySem.W.WalkO q loose XP YP l.row.toRowW d [] (fun f vs => PySem.call f vs) :=
  L2.walk_of (n := 63) (k := 8) (x := "_law_script") (CX := fun _ => CX0) (sp := fun w => spL (K w.params)) hn (by decide) hdf ⟨rfl, by decide, by decide⟩ hY F (fun _ _ a ns hl _ hS => ⟨a, ns, rfl, hS, hl, fun _ => rfl⟩) fun _ _ _ _ _ z => z
end Ck
open L2
namespace Ck
open PySem PySem.W PySem.Calls PyProof.Rows
noncomputable def hB : List Stmt := behindTheImports PySem.Challenge.pw_countkin_k38_rings_numbered
noncomputable def hE : Env := { scope := PySem.Challenge.pw_countkin_k38_rings_numbered.main.scope, locals := mainNs, globals := mainNs, cells := [], code := (.ref 13), frame := some 14 }
noncomputable def hC : Code := .body hB hE
noncomputable def hTree (P : Params) : BT := (.node (boot_o_0 P) (.node (boot_o_1 P) (.node (boot_o_3 P) (.node (boot_o_7 P) .nil .nil) (.node ⟨(.type "tuple"), none, (.seq #[] 0), #[]⟩ .nil .nil)) (.node (boot_o_5 P) (.node (boot_o_9 P) .nil .nil) (.node ⟨(.type "code"), none, (.fields #[(.str "<module>" 182), (.str "<module>" 183), (.str "/claim/cut.py" 184), (.int 1 0), (.int 0 0), (.int 0 0), (.int 0 0), (.int 0 0), (.ref 11), (.bool false), (.int 181 0), (.ref 12), .none, .none, .none, .none, (.int 185 0), (.int 1 0), (.str "/claim/cut.py" 186)]), #[]⟩ .nil .nil))) (.node (boot_o_2 P) (.node (boot_o_4 P) (.node (boot_o_8 P) .nil .nil) (.node ⟨.none, none, (.fields #[]), #[]⟩ .nil .nil)) (.node (boot_o_6 P) (.node (boot_o_10 P) .nil .nil) (.node ⟨(.type "frame"), none, .plain, #[(some (.ref 13)), (some (.ref 3)), (some (.ref 3)), none, (some (.str "__main__" 164)), none, (some (.ref 0))]⟩ .nil .nil))))
noncomputable def hS (w : World) (os : OsState) : SharedT := ⟨hTree w.params, 15, ({} : Life), Array.mk [], ⟨0, 0, 0, 0⟩, 187, os⟩
noncomputable def hQ : Program := { PySem.Challenge.pw_countkin_k38_rings_numbered with main := { PySem.Challenge.pw_countkin_k38_rings_numbered.main with body := [top 31] } }
noncomputable def hL : List Str := ["GREATEST_SIZE", "ring_many", "KinError", "NoSize", "NoNumber", "NoThing", "Family", "RingFamily", "figures_number", "number_figures", "Codes", "Cars", "Trees", "comes_to_0", "_law_cell_at", "_law_whole", "_law_is_tree", "_law_code", "_law_all_park", "_law_steps", "_law_kin", "_law_has_code", "_law_figures_of", "_law_number"]
noncomputable def hK : Params → Frag := fun P => (nat_lit 2, ⟨.none, none, (.dict #[] 0), #[]⟩) :: (nat_lit 3, ⟨(.type "dict"), none, (.dict #[⟨PyData.keyHash P "__name__", .str "__name__" 165, (.str "law_countkin_k38_rings_numbered" 640)⟩, ⟨PyData.keyHash P "__doc__", .str "__doc__" 166, .none⟩, ⟨PyData.keyHash P "__package__", .str "__package__" 167, .none⟩, ⟨PyData.keyHash P "__loader__", .str "__loader__" 168, (.builtin "__main__.__loader__#opaque")⟩, ⟨PyData.keyHash P "__spec__", .str "__spec__" 169, .none⟩, ⟨PyData.keyHash P "__annotations__", .str "__annotations__" 170, (.ref 6)⟩, ⟨PyData.keyHash P "__builtins__", .str "__builtins__" 171, (.ref 4)⟩, ⟨PyData.keyHash P "__file__", .str "__file__" 173, (.str "/claim/cut.py" 172)⟩, ⟨PyData.keyHash P "__cached__", .str "__cached__" 174, .none⟩, ⟨PyData.keyHash P "GREATEST_SIZE", .str "GREATEST_SIZE" 190, (.int 40 189)⟩, ⟨PyData.keyHash P "ring_many", .str "ring_many" 199, (.ref 21)⟩, ⟨PyData.keyHash P "KinError", .str "KinError" 219, (.ref 31)⟩, ⟨PyData.keyHash P "NoSize", .str "NoSize" 235, (.ref 44)⟩, ⟨PyData.keyHash P "NoNumber", .str "NoNumber" 251, (.ref 56)⟩, ⟨PyData.keyHash P "NoThing", .str "NoThing" 267, (.ref 68)⟩, ⟨PyData.keyHash P "Family", .str "Family" 385, (.ref 157)⟩, ⟨PyData.keyHash P "RingFamily", .str "RingFamily" 452, (.ref 213)⟩, ⟨PyData.keyHash P "figures_number", .str "figures_number" 462, (.ref 222)⟩, ⟨PyData.keyHash P "number_figures", .str "number_figures" 474, (.ref 229)⟩, ⟨PyData.keyHash P "Codes", .str "Codes" 527, (.ref 272)⟩, ⟨PyData.keyHash P "Cars", .str "Cars" 578, (.ref 313)⟩, ⟨PyData.keyHash P "Trees", .str "Trees" 629, (.ref 354)⟩, ⟨PyData.keyHash P "comes_to_0", .str "comes_to_0" 639, (.ref 363)⟩, ⟨PyData.keyHash P "_law_cell_at", .str "_law_cell_at" 649, (.ref 370)⟩, ⟨PyData.keyHash P "_law_whole", .str "_law_whole" 656, (.ref 377)⟩, ⟨PyData.keyHash P "_law_is_tree", .str "_law_is_tree" 668, (.ref 384)⟩, ⟨PyData.keyHash P "_law_code", .str "_law_code" 674, (.ref 389)⟩, ⟨PyData.keyHash P "_law_all_park", .str "_law_all_park" 680, (.ref 394)⟩, ⟨PyData.keyHash P "_law_steps", .str "_law_steps" 686, (.ref 399)⟩, ⟨PyData.keyHash P "_law_kin", .str "_law_kin" 693, (.ref 406)⟩, ⟨PyData.keyHash P "_law_has_code", .str "_law_has_code" 703, (.ref 413)⟩, ⟨PyData.keyHash P "_law_figures_of", .str "_law_figures_of" 713, (.ref 420)⟩, ⟨PyData.keyHash P "_law_number", .str "_law_number" 727, (.ref 427)⟩, ⟨PyData.keyHash P "law", .str "law" 746, (.ref 434)⟩] 34), #[]⟩) :: (nat_lit 15, ⟨(.type "tuple"), none, (.seq #[] 0), #[]⟩) :: (nat_lit 17, ⟨(.type "tuple"), none, (.seq #[(.str "size" 194), (.str "product" 195), (.str "factor" 196)] 0), #[]⟩) :: (nat_lit 18, ⟨(.type "tuple"), none, (.seq #[] 0), #[]⟩) :: (nat_lit 20, ⟨(.type "code"), none, (.fields #[(.str "ring_many" 191), (.str "ring_many" 192), (.str "/claim/cut.py" 193), (.int 3 0), (.int 1 0), (.int 0 0), (.int 0 0), (.int 3 0), (.ref 15), (.bool true), (.int 181 0), (.ref 16), .none, (.ref 17), (.ref 18), (.ref 19), (.int 197 0), (.int 3 0), (.str "/claim/cut.py" 198)]), #[]⟩) :: (nat_lit 21, ⟨(.type "function"), none, (.func (fnOf "ring_many" "ring_many" (defArgs (top 2)) (defBody (top 2)) (defScope (top 2)) .none .none .none (.str "countkin.counts" 187) none (.ref 20) .none)), #[]⟩) :: (nat_lit 22, ⟨(.type "tuple"), none, (.seq #[(.type "ValueError")] 0), #[]⟩) :: (nat_lit 29, ⟨(.type "tuple"), none, (.seq #[] 0), #[]⟩) :: (nat_lit 30, ⟨(.type "dict"), none, (.dict #[⟨PyData.keyHash P "__module__", .str "__module__" 209, (.str "countkin.errors" 200)⟩, ⟨PyData.keyHash P "__firstlineno__", .str "__firstlineno__" 213, (.int 9 212)⟩, ⟨PyData.keyHash P "__static_attributes__", .str "__static_attributes__" 214, (.ref 29)⟩, ⟨PyData.keyHash P "__weakref__", .str "__weakref__" 216, (.ref 32)⟩, ⟨PyData.keyHash P "__doc__", .str "__doc__" 217, .none⟩] 3), #[]⟩) :: (nat_lit 31, ⟨(.type "type"), none, (.cls ⟨"KinError", [(.type "ValueError")], [(.ref 31), (.type "ValueError"), (.type "Exception"), (.type "BaseException"), (.type "object")], 30, "KinError", true, [], [(.ref 44), (.ref 56), (.ref 68)], false, none, false⟩), #[(some (.ref 22)), none, (some (.str "KinError" 202)), (some (.str "KinError" 210)), (some (.builtin "ValueError.__new__")), (some (.bool true))]⟩) :: (nat_lit 32, ⟨(.type "getset_descriptor"), none, (.fields #[(.str "__weakref__" 215), (.ref 31), (.builtin "ExceptionGroup.__weakref__"), .none]), #[]⟩) :: (nat_lit 35, ⟨(.type "tuple"), none, (.seq #[(.ref 31)] 0), #[]⟩) :: (nat_lit 42, ⟨(.type "tuple"), none, (.seq #[] 0), #[]⟩) :: (nat_lit 43, ⟨(.type "dict"), none, (.dict #[⟨PyData.keyHash P "__module__", .str "__module__" 227, (.str "countkin.errors" 200)⟩, ⟨PyData.keyHash P "__firstlineno__", .str "__firstlineno__" 231, (.int 11 230)⟩, ⟨PyData.keyHash P "__static_attributes__", .str "__static_attributes__" 232, (.ref 42)⟩, ⟨PyData.keyHash P "__doc__", .str "__doc__" 233, .none⟩] 2), #[]⟩) :: (nat_lit 44, ⟨(.type "type"), none, (.cls ⟨"NoSize", [(.ref 31)], [(.ref 44), (.ref 31), (.type "ValueError"), (.type "Exception"), (.type "BaseException"), (.type "object")], 43, "NoSize", true, [], [], false, none, false⟩), #[(some (.ref 35)), none, (some (.str "NoSize" 220)), (some (.str "NoSize" 228)), (some (.builtin "ValueError.__new__")), (some (.bool true))]⟩) :: (nat_lit 47, ⟨(.type "tuple"), none, (.seq #[(.ref 31)] 0), #[]⟩) :: (nat_lit 54, ⟨(.type "tuple"), none, (.seq #[] 0), #[]⟩) :: (nat_lit 55, ⟨(.type "dict"), none, (.dict #[⟨PyData.keyHash P "__module__", .str "__module__" 243, (.str "countkin.errors" 200)⟩, ⟨PyData.keyHash P "__firstlineno__", .str "__firstlineno__" 247, (.int 13 246)⟩, ⟨PyData.keyHash P "__static_attributes__", .str "__static_attributes__" 248, (.ref 54)⟩, ⟨PyData.keyHash P "__doc__", .str "__doc__" 249, .none⟩] 2), #[]⟩) :: (nat_lit 56, ⟨(.type "type"), none, (.cls ⟨"NoNumber", [(.ref 31)], [(.ref 56), (.ref 31), (.type "ValueError"), (.type "Exception"), (.type "BaseException"), (.type "object")], 55, "NoNumber", true, [], [], false, none, false⟩), #[(some (.ref 47)), none, (some (.str "NoNumber" 236)), (some (.str "NoNumber" 244)), (some (.builtin "ValueError.__new__")), (some (.bool true))]⟩) :: (nat_lit 59, ⟨(.type "tuple"), none, (.seq #[(.ref 31)] 0), #[]⟩) :: (nat_lit 66, ⟨(.type "tuple"), none, (.seq #[] 0), #[]⟩) :: (nat_lit 67, ⟨(.type "dict"), none, (.dict #[⟨PyData.keyHash P "__module__", .str "__module__" 259, (.str "countkin.errors" 200)⟩, ⟨PyData.keyHash P "__firstlineno__", .str "__firstlineno__" 263, (.int 15 262)⟩, ⟨PyData.keyHash P "__static_attributes__", .str "__static_attributes__" 264, (.ref 66)⟩, ⟨PyData.keyHash P "__doc__", .str "__doc__" 265, .none⟩] 2), #[]⟩) :: (nat_lit 68, ⟨(.type "type"), none, (.cls ⟨"NoThing", [(.ref 31)], [(.ref 68), (.ref 31), (.type "ValueError"), (.type "Exception"), (.type "BaseException"), (.type "object")], 67, "NoThing", true, [], [], false, none, false⟩), #[(some (.ref 59)), none, (some (.str "NoThing" 252)), (some (.str "NoThing" 260)), (some (.builtin "ValueError.__new__")), (some (.bool true))]⟩) :: (nat_lit 78, ⟨(.type "tuple"), none, (.seq #[] 0), #[]⟩) :: (nat_lit 80, ⟨(.type "tuple"), none, (.seq #[(.str "self" 285), (.str "word" 286), (.str "least" 287)] 0), #[]⟩) :: (nat_lit 81, ⟨(.type "tuple"), none, (.seq #[] 0), #[]⟩) :: (nat_lit 83, ⟨(.type "code"), none, (.fields #[(.str "__init__" 282), (.str "Family.__init__" 283), (.str "/claim/cut.py" 284), (.int 20 0), (.int 3 0), (.int 0 0), (.int 0 0), (.int 3 0), (.ref 78), (.bool true), (.int 181 0), (.ref 79), .none, (.ref 80), (.ref 81), (.ref 82), (.int 288 0), (.int 20 0), (.str "/claim/cut.py" 289)]), #[]⟩) :: (nat_lit 84, ⟨(.type "function"), none, (.func (fnOf "__init__" "Family.__init__" (defArgs (inClass (top 9) 0)) (defBody (inClass (top 9) 0)) (defScope (inClass (top 9) 0)) .none .none .none (.str "countkin.kin" 268) none (.ref 83) .none)), #[]⟩) :: (nat_lit 85, ⟨(.type "tuple"), none, (.seq #[] 0), #[]⟩) :: (nat_lit 87, ⟨(.type "tuple"), none, (.seq #[(.str "self" 294), (.str "thing" 295)] 0), #[]⟩) :: (nat_lit 88, ⟨(.type "tuple"), none, (.seq #[] 0), #[]⟩) :: (nat_lit 90, ⟨(.type "code"), none, (.fields #[(.str "size_of" 291), (.str "Family.size_of" 292), (.str "/claim/cut.py" 293), (.int 24 0), (.int 2 0), (.int 0 0), (.int 0 0), (.int 3 0), (.ref 85), (.bool true), (.int 181 0), (.ref 86), .none, (.ref 87), (.ref 88), (.ref 89), (.int 296 0), (.int 24 0), (.str "/claim/cut.py" 297)]), #[]⟩) :: (nat_lit 91, ⟨(.type "function"), none, (.func (fnOf "size_of" "Family.size_of" (defArgs (inClass (top 9) 1)) (defBody (inClass (top 9) 1)) (defScope (inClass (top 9) 1)) .none .none .none (.str "countkin.kin" 268) none (.ref 90) .none)), #[]⟩) :: (nat_lit 92, ⟨(.type "tuple"), none, (.seq #[] 0), #[]⟩) :: (nat_lit 94, ⟨(.type "tuple"), none, (.seq #[(.str "self" 302), (.str "thing" 303)] 0), #[]⟩) :: (nat_lit 95, ⟨(.type "tuple"), none, (.seq #[] 0), #[]⟩) :: (nat_lit 97, ⟨(.type "code"), none, (.fields #[(.str "is_one" 299), (.str "Family.is_one" 300), (.str "/claim/cut.py" 301), (.int 27 0), (.int 2 0), (.int 0 0), (.int 0 0), (.int 3 0), (.ref 92), (.bool true), (.int 181 0), (.ref 93), .none, (.ref 94), (.ref 95), (.ref 96), (.int 304 0), (.int 27 0), (.str "/claim/cut.py" 305)]), #[]⟩) :: (nat_lit 98, ⟨(.type "function"), none, (.func (fnOf "is_one" "Family.is_one" (defArgs (inClass (top 9) 2)) (defBody (inClass (top 9) 2)) (defScope (inClass (top 9) 2)) .none .none .none (.str "countkin.kin" 268) none (.ref 97) .none)), #[]⟩) :: (nat_lit 99, ⟨(.type "tuple"), none, (.seq #[] 0), #[]⟩) :: (nat_lit 101, ⟨(.type "tuple"), none, (.seq #[(.str "self" 310), (.str "size" 311)] 0), #[]⟩) :: (nat_lit 102, ⟨(.type "tuple"), none, (.seq #[] 0), #[]⟩) :: (nat_lit 104, ⟨(.type "code"), none, (.fields #[(.str "unchecked_many" 307), (.str "Family.unchecked_many" 308), (.str "/claim/cut.py" 309), (.int 30 0), (.int 2 0), (.int 0 0), (.int 0 0), (.int 3 0), (.ref 99), (.bool true), (.int 181 0), (.ref 100), .none, (.ref 101), (.ref 102), (.ref 103), (.int 312 0), (.int 30 0), (.str "/claim/cut.py" 313)]), #[]⟩) :: (nat_lit 105, ⟨(.type "function"), none, (.func (fnOf "unchecked_many" "Family.unchecked_many" (defArgs (inClass (top 9) 3)) (defBody (inClass (top 9) 3)) (defScope (inClass (top 9) 3)) .none .none .none (.str "countkin.kin" 268) none (.ref 104) .none)), #[]⟩) :: (nat_lit 106, ⟨(.type "tuple"), none, (.seq #[] 0), #[]⟩) :: (nat_lit 108, ⟨(.type "tuple"), none, (.seq #[(.str "self" 318), (.str "thing" 319)] 0), #[]⟩) :: (nat_lit 109, ⟨(.type "tuple"), none, (.seq #[] 0), #[]⟩) :: (nat_lit 111, ⟨(.type "code"), none, (.fields #[(.str "unchecked_number" 315), (.str "Family.unchecked_number" 316), (.str "/claim/cut.py" 317), (.int 33 0), (.int 2 0), (.int 0 0), (.int 0 0), (.int 3 0), (.ref 106), (.bool true), (.int 181 0), (.ref 107), .none, (.ref 108), (.ref 109), (.ref 110), (.int 320 0), (.int 33 0), (.str "/claim/cut.py" 321)]), #[]⟩) :: (nat_lit 112, ⟨(.type "function"), none, (.func (fnOf "unchecked_number" "Family.unchecked_number" (defArgs (inClass (top 9) 4)) (defBody (inClass (top 9) 4)) (defScope (inClass (top 9) 4)) .none .none .none (.str "countkin.kin" 268) none (.ref 111) .none)), #[]⟩) :: (nat_lit 113, ⟨(.type "tuple"), none, (.seq #[] 0), #[]⟩) :: (nat_lit 115, ⟨(.type "tuple"), none, (.seq #[(.str "self" 326), (.str "size" 327), (.str "number" 328)] 0), #[]⟩) :: (nat_lit 116, ⟨(.type "tuple"), none, (.seq #[] 0), #[]⟩) :: (nat_lit 118, ⟨(.type "code"), none, (.fields #[(.str "unchecked_thing" 323), (.str "Family.unchecked_thing" 324), (.str "/claim/cut.py" 325), (.int 36 0), (.int 3 0), (.int 0 0), (.int 0 0), (.int 3 0), (.ref 113), (.bool true), (.int 181 0), (.ref 114), .none, (.ref 115), (.ref 116), (.ref 117), (.int 329 0), (.int 36 0), (.str "/claim/cut.py" 330)]), #[]⟩) :: (nat_lit 119, ⟨(.type "function"), none, (.func (fnOf "unchecked_thing" "Family.unchecked_thing" (defArgs (inClass (top 9) 5)) (defBody (inClass (top 9) 5)) (defScope (inClass (top 9) 5)) .none .none .none (.str "countkin.kin" 268) none (.ref 118) .none)), #[]⟩) :: (nat_lit 120, ⟨(.type "tuple"), none, (.seq #[] 0), #[]⟩) :: (nat_lit 122, ⟨(.type "tuple"), none, (.seq #[(.str "self" 335), (.str "size" 336)] 0), #[]⟩) :: (nat_lit 123, ⟨(.type "tuple"), none, (.seq #[] 0), #[]⟩) :: (nat_lit 125, ⟨(.type "code"), none, (.fields #[(.str "many" 332), (.str "Family.many" 333), (.str "/claim/cut.py" 334), (.int 39 0), (.int 2 0), (.int 0 0), (.int 0 0), (.int 3 0), (.ref 120), (.bool true), (.int 181 0), (.ref 121), .none, (.ref 122), (.ref 123), (.ref 124), (.int 337 0), (.int 39 0), (.str "/claim/cut.py" 338)]), #[]⟩) :: (nat_lit 126, ⟨(.type "function"), none, (.func (fnOf "many" "Family.many" (defArgs (inClass (top 9) 6)) (defBody (inClass (top 9) 6)) (defScope (inClass (top 9) 6)) .none .none .none (.str "countkin.kin" 268) none (.ref 125) .none)), #[]⟩) :: (nat_lit 127, ⟨(.type "tuple"), none, (.seq #[] 0), #[]⟩) :: (nat_lit 129, ⟨(.type "tuple"), none, (.seq #[(.str "self" 343), (.str "thing" 344)] 0), #[]⟩) :: (nat_lit 130, ⟨(.type "tuple"), none, (.seq #[] 0), #[]⟩) :: (nat_lit 132, ⟨(.type "code"), none, (.fields #[(.str "refuse_other" 340), (.str "Family.refuse_other" 341), (.str "/claim/cut.py" 342), (.int 44 0), (.int 2 0), (.int 0 0), (.int 0 0), (.int 3 0), (.ref 127), (.bool true), (.int 181 0), (.ref 128), .none, (.ref 129), (.ref 130), (.ref 131), (.int 345 0), (.int 44 0), (.str "/claim/cut.py" 346)]), #[]⟩) :: (nat_lit 133, ⟨(.type "function"), none, (.func (fnOf "refuse_other" "Family.refuse_other" (defArgs (inClass (top 9) 7)) (defBody (inClass (top 9) 7)) (defScope (inClass (top 9) 7)) .none .none .none (.str "countkin.kin" 268) none (.ref 132) .none)), #[]⟩) :: (nat_lit 134, ⟨(.type "tuple"), none, (.seq #[] 0), #[]⟩) :: (nat_lit 136, ⟨(.type "tuple"), none, (.seq #[(.str "self" 351), (.str "thing" 352)] 0), #[]⟩) :: (nat_lit 137, ⟨(.type "tuple"), none, (.seq #[] 0), #[]⟩) :: (nat_lit 139, ⟨(.type "code"), none, (.fields #[(.str "number_of" 348), (.str "Family.number_of" 349), (.str "/claim/cut.py" 350), (.int 48 0), (.int 2 0), (.int 0 0), (.int 0 0), (.int 3 0), (.ref 134), (.bool true), (.int 181 0), (.ref 135), .none, (.ref 136), (.ref 137), (.ref 138), (.int 353 0), (.int 48 0), (.str "/claim/cut.py" 354)]), #[]⟩) :: (nat_lit 140, ⟨(.type "function"), none, (.func (fnOf "number_of" "Family.number_of" (defArgs (inClass (top 9) 8)) (defBody (inClass (top 9) 8)) (defScope (inClass (top 9) 8)) .none .none .none (.str "countkin.kin" 268) none (.ref 139) .none)), #[]⟩) :: (nat_lit 141, ⟨(.type "tuple"), none, (.seq #[] 0), #[]⟩) :: (nat_lit 143, ⟨(.type "tuple"), none, (.seq #[(.str "self" 359), (.str "size" 360), (.str "number" 361), (.str "most" 362)] 0), #[]⟩) :: (nat_lit 144, ⟨(.type "tuple"), none, (.seq #[] 0), #[]⟩) :: (nat_lit 146, ⟨(.type "code"), none, (.fields #[(.str "thing_of" 356), (.str "Family.thing_of" 357), (.str "/claim/cut.py" 358), (.int 52 0), (.int 3 0), (.int 0 0), (.int 0 0), (.int 3 0), (.ref 141), (.bool true), (.int 181 0), (.ref 142), .none, (.ref 143), (.ref 144), (.ref 145), (.int 363 0), (.int 52 0), (.str "/claim/cut.py" 364)]), #[]⟩) :: (nat_lit 147, ⟨(.type "function"), none, (.func (fnOf "thing_of" "Family.thing_of" (defArgs (inClass (top 9) 9)) (defBody (inClass (top 9) 9)) (defScope (inClass (top 9) 9)) .none .none .none (.str "countkin.kin" 268) none (.ref 146) .none)), #[]⟩) :: (nat_lit 148, ⟨(.type "tuple"), none, (.seq #[] 0), #[]⟩) :: (nat_lit 150, ⟨(.type "tuple"), none, (.seq #[(.str "self" 369), (.str "thing" 370), (.str "number" 371), (.str "size" 372)] 0), #[]⟩) :: (nat_lit 151, ⟨(.type "tuple"), none, (.seq #[] 0), #[]⟩) :: (nat_lit 153, ⟨(.type "code"), none, (.fields #[(.str "next_of" 366), (.str "Family.next_of" 367), (.str "/claim/cut.py" 368), (.int 58 0), (.int 2 0), (.int 0 0), (.int 0 0), (.int 3 0), (.ref 148), (.bool true), (.int 181 0), (.ref 149), .none, (.ref 150), (.ref 151), (.ref 152), (.int 373 0), (.int 58 0), (.str "/claim/cut.py" 374)]), #[]⟩) :: (nat_lit 154, ⟨(.type "function"), none, (.func (fnOf "next_of" "Family.next_of" (defArgs (inClass (top 9) 10)) (defBody (inClass (top 9) 10)) (defScope (inClass (top 9) 10)) .none .none .none (.str "countkin.kin" 268) none (.ref 153) .none)), #[]⟩) :: (nat_lit 155, ⟨(.type "tuple"), none, (.seq #[(.str "least" 376), (.str "word" 377)] 0), #[]⟩) :: (nat_lit 156, ⟨(.type "dict"), none, (.dict #[⟨PyData.keyHash P "__module__", .str "__module__" 277, (.str "countkin.kin" 268)⟩, ⟨PyData.keyHash P "__firstlineno__", .str "__firstlineno__" 281, (.int 18 280)⟩, ⟨PyData.keyHash P "__init__", .str "__init__" 290, (.ref 84)⟩, ⟨PyData.keyHash P "size_of", .str "size_of" 298, (.ref 91)⟩, ⟨PyData.keyHash P "is_one", .str "is_one" 306, (.ref 98)⟩, ⟨PyData.keyHash P "unchecked_many", .str "unchecked_many" 314, (.ref 105)⟩, ⟨PyData.keyHash P "unchecked_number", .str "unchecked_number" 322, (.ref 112)⟩, ⟨PyData.keyHash P "unchecked_thing", .str "unchecked_thing" 331, (.ref 119)⟩, ⟨PyData.keyHash P "many", .str "many" 339, (.ref 126)⟩, ⟨PyData.keyHash P "refuse_other", .str "refuse_other" 347, (.ref 133)⟩, ⟨PyData.keyHash P "number_of", .str "number_of" 355, (.ref 140)⟩, ⟨PyData.keyHash P "thing_of", .str "thing_of" 365, (.ref 147)⟩, ⟨PyData.keyHash P "next_of", .str "next_of" 375, (.ref 154)⟩, ⟨PyData.keyHash P "__static_attributes__", .str "__static_attributes__" 378, (.ref 155)⟩, ⟨PyData.keyHash P "__dict__", .str "__dict__" 380, (.ref 158)⟩, ⟨PyData.keyHash P "__weakref__", .str "__weakref__" 382, (.ref 159)⟩, ⟨PyData.keyHash P "__doc__", .str "__doc__" 383, .none⟩] 4), #[]⟩) :: (nat_lit 157, ⟨(.type "type"), none, (.cls ⟨"Family", [(.type "object")], [(.ref 157), (.type "object")], 156, "Family", true, [], [(.ref 213)], false, none, false⟩), #[none, none, (some (.str "Family" 270)), (some (.str "Family" 278)), (some (.builtin "object.__new__")), (some (.bool true))]⟩) :: (nat_lit 158, ⟨(.type "getset_descriptor"), none, (.fields #[(.str "__dict__" 379), (.ref 157), (.builtin "function.__dict__"), (.builtin "function.__dict__#set")]), #[]⟩) :: (nat_lit 159, ⟨(.type "getset_descriptor"), none, (.fields #[(.str "__weakref__" 381), (.ref 157), (.builtin "ExceptionGroup.__weakref__"), .none]), #[]⟩) :: (nat_lit 162, ⟨(.type "tuple"), none, (.seq #[(.ref 157)] 0), #[]⟩) :: (nat_lit 169, ⟨(.type "tuple"), none, (.seq #[] 0), #[]⟩) :: (nat_lit 171, ⟨(.type "tuple"), none, (.seq #[(.str "self" 403), (.str "word" 404)] 0), #[]⟩) :: (nat_lit 172, ⟨(.type "tuple"), none, (.seq #[] 0), #[]⟩) :: (nat_lit 174, ⟨(.type "code"), none, (.fields #[(.str "__init__" 400), (.str "RingFamily.__init__" 401), (.str "/claim/cut.py" 402), (.int 67 0), (.int 2 0), (.int 0 0), (.int 0 0), (.int 3 0), (.ref 169), (.bool true), (.int 181 0), (.ref 170), .none, (.ref 171), (.ref 172), (.ref 173), (.int 405 0), (.int 67 0), (.str "/claim/cut.py" 406)]), #[]⟩) :: (nat_lit 175, ⟨(.type "function"), none, (.func (fnOf "__init__" "RingFamily.__init__" (defArgs (inClass (top 11) 0)) (defBody (inClass (top 11) 0)) (defScope (inClass (top 11) 0)) .none .none .none (.str "countkin.ring" 386) none (.ref 174) .none)), #[]⟩) :: (nat_lit 176, ⟨(.type "tuple"), none, (.seq #[] 0), #[]⟩) :: (nat_lit 178, ⟨(.type "tuple"), none, (.seq #[(.str "self" 411), (.str "thing" 412)] 0), #[]⟩) :: (nat_lit 179, ⟨(.type "tuple"), none, (.seq #[] 0), #[]⟩) :: (nat_lit 181, ⟨(.type "code"), none, (.fields #[(.str "code_of" 408), (.str "RingFamily.code_of" 409), (.str "/claim/cut.py" 410), (.int 70 0), (.int 2 0), (.int 0 0), (.int 0 0), (.int 3 0), (.ref 176), (.bool true), (.int 181 0), (.ref 177), .none, (.ref 178), (.ref 179), (.ref 180), (.int 413 0), (.int 70 0), (.str "/claim/cut.py" 414)]), #[]⟩) :: (nat_lit 182, ⟨(.type "function"), none, (.func (fnOf "code_of" "RingFamily.code_of" (defArgs (inClass (top 11) 1)) (defBody (inClass (top 11) 1)) (defScope (inClass (top 11) 1)) .none .none .none (.str "countkin.ring" 386) none (.ref 181) .none)), #[]⟩) :: (nat_lit 183, ⟨(.type "tuple"), none, (.seq #[] 0), #[]⟩) :: (nat_lit 185, ⟨(.type "tuple"), none, (.seq #[(.str "self" 419), (.str "code" 420)] 0), #[]⟩) :: (nat_lit 186, ⟨(.type "tuple"), none, (.seq #[] 0), #[]⟩) :: (nat_lit 188, ⟨(.type "code"), none, (.fields #[(.str "of_code" 416), (.str "RingFamily.of_code" 417), (.str "/claim/cut.py" 418), (.int 73 0), (.int 2 0), (.int 0 0), (.int 0 0), (.int 3 0), (.ref 183), (.bool true), (.int 181 0), (.ref 184), .none, (.ref 185), (.ref 186), (.ref 187), (.int 421 0), (.int 73 0), (.str "/claim/cut.py" 422)]), #[]⟩) :: (nat_lit 189, ⟨(.type "function"), none, (.func (fnOf "of_code" "RingFamily.of_code" (defArgs (inClass (top 11) 2)) (defBody (inClass (top 11) 2)) (defScope (inClass (top 11) 2)) .none .none .none (.str "countkin.ring" 386) none (.ref 188) .none)), #[]⟩) :: (nat_lit 190, ⟨(.type "tuple"), none, (.seq #[] 0), #[]⟩) :: (nat_lit 192, ⟨(.type "tuple"), none, (.seq #[(.str "self" 427), (.str "size" 428)] 0), #[]⟩) :: (nat_lit 193, ⟨(.type "tuple"), none, (.seq #[] 0), #[]⟩) :: (nat_lit 195, ⟨(.type "code"), none, (.fields #[(.str "unchecked_many" 424), (.str "RingFamily.unchecked_many" 425), (.str "/claim/cut.py" 426), (.int 76 0), (.int 2 0), (.int 0 0), (.int 0 0), (.int 3 0), (.ref 190), (.bool true), (.int 181 0), (.ref 191), .none, (.ref 192), (.ref 193), (.ref 194), (.int 429 0), (.int 76 0), (.str "/claim/cut.py" 430)]), #[]⟩) :: (nat_lit 196, ⟨(.type "function"), none, (.func (fnOf "unchecked_many" "RingFamily.unchecked_many" (defArgs (inClass (top 11) 3)) (defBody (inClass (top 11) 3)) (defScope (inClass (top 11) 3)) .none .none .none (.str "countkin.ring" 386) none (.ref 195) .none)), #[]⟩) :: (nat_lit 197, ⟨(.type "tuple"), none, (.seq #[] 0), #[]⟩) :: (nat_lit 199, ⟨(.type "tuple"), none, (.seq #[(.str "self" 435), (.str "thing" 436)] 0), #[]⟩) :: (nat_lit 200, ⟨(.type "tuple"), none, (.seq #[] 0), #[]⟩) :: (nat_lit 202, ⟨(.type "code"), none, (.fields #[(.str "unchecked_number" 432), (.str "RingFamily.unchecked_number" 433), (.str "/claim/cut.py" 434), (.int 79 0), (.int 2 0), (.int 0 0), (.int 0 0), (.int 3 0), (.ref 197), (.bool true), (.int 181 0), (.ref 198), .none, (.ref 199), (.ref 200), (.ref 201), (.int 437 0), (.int 79 0), (.str "/claim/cut.py" 438)]), #[]⟩) :: (nat_lit 203, ⟨(.type "function"), none, (.func (fnOf "unchecked_number" "RingFamily.unchecked_number" (defArgs (inClass (top 11) 4)) (defBody (inClass (top 11) 4)) (defScope (inClass (top 11) 4)) .none .none .none (.str "countkin.ring" 386) none (.ref 202) .none)), #[]⟩) :: (nat_lit 204, ⟨(.type "tuple"), none, (.seq #[] 0), #[]⟩) :: (nat_lit 206, ⟨(.type "tuple"), none, (.seq #[(.str "self" 443), (.str "size" 444), (.str "number" 445)] 0), #[]⟩) :: (nat_lit 207, ⟨(.type "tuple"), none, (.seq #[] 0), #[]⟩) :: (nat_lit 209, ⟨(.type "code"), none, (.fields #[(.str "unchecked_thing" 440), (.str "RingFamily.unchecked_thing" 441), (.str "/claim/cut.py" 442), (.int 82 0), (.int 3 0), (.int 0 0), (.int 0 0), (.int 3 0), (.ref 204), (.bool true), (.int 181 0), (.ref 205), .none, (.ref 206), (.ref 207), (.ref 208), (.int 446 0), (.int 82 0), (.str "/claim/cut.py" 447)]), #[]⟩) :: (nat_lit 210, ⟨(.type "function"), none, (.func (fnOf "unchecked_thing" "RingFamily.unchecked_thing" (defArgs (inClass (top 11) 5)) (defBody (inClass (top 11) 5)) (defScope (inClass (top 11) 5)) .none .none .none (.str "countkin.ring" 386) none (.ref 209) .none)), #[]⟩) :: (nat_lit 211, ⟨(.type "tuple"), none, (.seq #[] 0), #[]⟩) :: (nat_lit 212, ⟨(.type "dict"), none, (.dict #[⟨PyData.keyHash P "__module__", .str "__module__" 395, (.str "countkin.ring" 386)⟩, ⟨PyData.keyHash P "__firstlineno__", .str "__firstlineno__" 399, (.int 65 398)⟩, ⟨PyData.keyHash P "__init__", .str "__init__" 407, (.ref 175)⟩, ⟨PyData.keyHash P "code_of", .str "code_of" 415, (.ref 182)⟩, ⟨PyData.keyHash P "of_code", .str "of_code" 423, (.ref 189)⟩, ⟨PyData.keyHash P "unchecked_many", .str "unchecked_many" 431, (.ref 196)⟩, ⟨PyData.keyHash P "unchecked_number", .str "unchecked_number" 439, (.ref 203)⟩, ⟨PyData.keyHash P "unchecked_thing", .str "unchecked_thing" 448, (.ref 210)⟩, ⟨PyData.keyHash P "__static_attributes__", .str "__static_attributes__" 449, (.ref 211)⟩, ⟨PyData.keyHash P "__doc__", .str "__doc__" 450, .none⟩] 2), #[]⟩) :: (nat_lit 213, ⟨(.type "type"), none, (.cls ⟨"RingFamily", [(.ref 157)], [(.ref 213), (.ref 157), (.type "object")], 212, "RingFamily", true, [], [(.ref 272), (.ref 313), (.ref 354)], false, none, false⟩), #[(some (.ref 162)), none, (some (.str "RingFamily" 388)), (some (.str "RingFamily" 396)), (some (.builtin "object.__new__")), (some (.bool true))]⟩) :: (nat_lit 216, ⟨(.type "tuple"), none, (.seq #[] 0), #[]⟩) :: (nat_lit 218, ⟨(.type "tuple"), none, (.seq #[(.str "figures" 456), (.str "base" 457), (.str "number" 458), (.str "figure" 459)] 0), #[]⟩) :: (nat_lit 219, ⟨(.type "tuple"), none, (.seq #[] 0), #[]⟩) :: (nat_lit 221, ⟨(.type "code"), none, (.fields #[(.str "figures_number" 453), (.str "figures_number" 454), (.str "/claim/cut.py" 455), (.int 84 0), (.int 2 0), (.int 0 0), (.int 0 0), (.int 3 0), (.ref 216), (.bool true), (.int 181 0), (.ref 217), .none, (.ref 218), (.ref 219), (.ref 220), (.int 460 0), (.int 84 0), (.str "/claim/cut.py" 461)]), #[]⟩) :: (nat_lit 222, ⟨(.type "function"), none, (.func (fnOf "figures_number" "figures_number" (defArgs (top 12)) (defBody (top 12)) (defScope (top 12)) .none .none .none (.str "countkin.ring" 386) none (.ref 221) .none)), #[]⟩) :: (nat_lit 223, ⟨(.type "tuple"), none, (.seq #[] 0), #[]⟩) :: (nat_lit 225, ⟨(.type "tuple"), none, (.seq #[(.str "number" 466), (.str "base" 467), (.str "length" 468), (.str "figures" 469), (.str "rest" 470), (.str "place" 471)] 0), #[]⟩) :: (nat_lit 226, ⟨(.type "tuple"), none, (.seq #[] 0), #[]⟩) :: (nat_lit 228, ⟨(.type "code"), none, (.fields #[(.str "number_figures" 463), (.str "number_figures" 464), (.str "/claim/cut.py" 465), (.int 89 0), (.int 3 0), (.int 0 0), (.int 0 0), (.int 3 0), (.ref 223), (.bool true), (.int 181 0), (.ref 224), .none, (.ref 225), (.ref 226), (.ref 227), (.int 472 0), (.int 89 0), (.str "/claim/cut.py" 473)]), #[]⟩) :: (nat_lit 229, ⟨(.type "function"), none, (.func (fnOf "number_figures" "number_figures" (defArgs (top 13)) (defBody (top 13)) (defScope (top 13)) .none .none .none (.str "countkin.ring" 386) none (.ref 228) .none)), #[]⟩) :: (nat_lit 230, ⟨(.type "tuple"), none, (.seq #[(.ref 213)] 0), #[]⟩) :: (nat_lit 237, ⟨(.type "tuple"), none, (.seq #[] 0), #[]⟩) :: (nat_lit 239, ⟨(.type "tuple"), none, (.seq #[(.str "self" 490)] 0), #[]⟩) :: (nat_lit 240, ⟨(.type "tuple"), none, (.seq #[] 0), #[]⟩) :: (nat_lit 242, ⟨(.type "code"), none, (.fields #[(.str "__init__" 487), (.str "Codes.__init__" 488), (.str "/claim/cut.py" 489), (.int 98 0), (.int 1 0), (.int 0 0), (.int 0 0), (.int 3 0), (.ref 237), (.bool true), (.int 181 0), (.ref 238), .none, (.ref 239), (.ref 240), (.ref 241), (.int 491 0), (.int 98 0), (.str "/claim/cut.py" 492)]), #[]⟩) :: (nat_lit 243, ⟨(.type "function"), none, (.func (fnOf "__init__" "Codes.__init__" (defArgs (inClass (top 14) 0)) (defBody (inClass (top 14) 0)) (defScope (inClass (top 14) 0)) .none .none .none (.str "countkin.ring" 386) none (.ref 242) .none)), #[]⟩) :: (nat_lit 244, ⟨(.type "tuple"), none, (.seq #[] 0), #[]⟩) :: (nat_lit 246, ⟨(.type "tuple"), none, (.seq #[(.str "self" 497), (.str "thing" 498)] 0), #[]⟩) :: (nat_lit 247, ⟨(.type "tuple"), none, (.seq #[] 0), #[]⟩) :: (nat_lit 249, ⟨(.type "code"), none, (.fields #[(.str "size_of" 494), (.str "Codes.size_of" 495), (.str "/claim/cut.py" 496), (.int 101 0), (.int 2 0), (.int 0 0), (.int 0 0), (.int 3 0), (.ref 244), (.bool true), (.int 181 0), (.ref 245), .none, (.ref 246), (.ref 247), (.ref 248), (.int 499 0), (.int 101 0), (.str "/claim/cut.py" 500)]), #[]⟩) :: (nat_lit 250, ⟨(.type "function"), none, (.func (fnOf "size_of" "Codes.size_of" (defArgs (inClass (top 14) 1)) (defBody (inClass (top 14) 1)) (defScope (inClass (top 14) 1)) .none .none .none (.str "countkin.ring" 386) none (.ref 249) .none)), #[]⟩) :: (nat_lit 251, ⟨(.type "tuple"), none, (.seq #[] 0), #[]⟩) :: (nat_lit 254, ⟨(.type "code"), none, (.fields #[(.str "is_one" 502), (.str "Codes.is_one" 503), (.str "/claim/cut.py" 504), (.int 104 0), (.int 2 0), (.int 0 0), (.int 0 0), (.int 3 0), (.ref 251), (.bool true), (.int 181 0), (.ref 252), .none, .none, .none, (.ref 253), (.int 505 0), (.int 104 0), (.str "/claim/cut.py" 506)]), #[]⟩) :: (nat_lit 255, ⟨(.type "function"), none, (.func (fnOf "is_one" "Codes.is_one" (defArgs (inClass (top 14) 2)) (defBody (inClass (top 14) 2)) (defScope (inClass (top 14) 2)) .none .none .none (.str "countkin.ring" 386) none (.ref 254) .none)), #[]⟩) :: (nat_lit 256, ⟨(.type "tuple"), none, (.seq #[] 0), #[]⟩) :: (nat_lit 258, ⟨(.type "tuple"), none, (.seq #[(.str "self" 511), (.str "thing" 512)] 0), #[]⟩) :: (nat_lit 259, ⟨(.type "tuple"), none, (.seq #[] 0), #[]⟩) :: (nat_lit 261, ⟨(.type "code"), none, (.fields #[(.str "code_of" 508), (.str "Codes.code_of" 509), (.str "/claim/cut.py" 510), (.int 108 0), (.int 2 0), (.int 0 0), (.int 0 0), (.int 3 0), (.ref 256), (.bool true), (.int 181 0), (.ref 257), .none, (.ref 258), (.ref 259), (.ref 260), (.int 513 0), (.int 108 0), (.str "/claim/cut.py" 514)]), #[]⟩) :: (nat_lit 262, ⟨(.type "function"), none, (.func (fnOf "code_of" "Codes.code_of" (defArgs (inClass (top 14) 3)) (defBody (inClass (top 14) 3)) (defScope (inClass (top 14) 3)) .none .none .none (.str "countkin.ring" 386) none (.ref 261) .none)), #[]⟩) :: (nat_lit 263, ⟨(.type "tuple"), none, (.seq #[] 0), #[]⟩) :: (nat_lit 265, ⟨(.type "tuple"), none, (.seq #[(.str "self" 519), (.str "code" 520)] 0), #[]⟩) :: (nat_lit 266, ⟨(.type "tuple"), none, (.seq #[] 0), #[]⟩) :: (nat_lit 268, ⟨(.type "code"), none, (.fields #[(.str "of_code" 516), (.str "Codes.of_code" 517), (.str "/claim/cut.py" 518), (.int 111 0), (.int 2 0), (.int 0 0), (.int 0 0), (.int 3 0), (.ref 263), (.bool true), (.int 181 0), (.ref 264), .none, (.ref 265), (.ref 266), (.ref 267), (.int 521 0), (.int 111 0), (.str "/claim/cut.py" 522)]), #[]⟩) :: (nat_lit 269, ⟨(.type "function"), none, (.func (fnOf "of_code" "Codes.of_code" (defArgs (inClass (top 14) 4)) (defBody (inClass (top 14) 4)) (defScope (inClass (top 14) 4)) .none .none .none (.str "countkin.ring" 386) none (.ref 268) .none)), #[]⟩) :: (nat_lit 270, ⟨(.type "tuple"), none, (.seq #[] 0), #[]⟩) :: (nat_lit 271, ⟨(.type "dict"), none, (.dict #[⟨PyData.keyHash P "__module__", .str "__module__" 482, (.str "countkin.ring" 386)⟩, ⟨PyData.keyHash P "__firstlineno__", .str "__firstlineno__" 486, (.int 96 485)⟩, ⟨PyData.keyHash P "__init__", .str "__init__" 493, (.ref 243)⟩, ⟨PyData.keyHash P "size_of", .str "size_of" 501, (.ref 250)⟩, ⟨PyData.keyHash P "is_one", .str "is_one" 507, (.ref 255)⟩, ⟨PyData.keyHash P "code_of", .str "code_of" 515, (.ref 262)⟩, ⟨PyData.keyHash P "of_code", .str "of_code" 523, (.ref 269)⟩, ⟨PyData.keyHash P "__static_attributes__", .str "__static_attributes__" 524, (.ref 270)⟩, ⟨PyData.keyHash P "__doc__", .str "__doc__" 525, .none⟩] 2), #[]⟩) :: (nat_lit 272, ⟨(.type "type"), none, (.cls ⟨"Codes", [(.ref 213)], [(.ref 272), (.ref 213), (.ref 157), (.type "object")], 271, "Codes", true, [], [], false, none, false⟩), #[(some (.ref 230)), none, (some (.str "Codes" 475)), (some (.str "Codes" 483)), (some (.builtin "object.__new__")), (some (.bool true))]⟩) :: (nat_lit 275, ⟨(.type "tuple"), none, (.seq #[(.ref 213)] 0), #[]⟩) :: (nat_lit 282, ⟨(.type "tuple"), none, (.seq #[] 0), #[]⟩) :: (nat_lit 284, ⟨(.type "tuple"), none, (.seq #[(.str "self" 545)] 0), #[]⟩) :: (nat_lit 285, ⟨(.type "tuple"), none, (.seq #[] 0), #[]⟩) :: (nat_lit 287, ⟨(.type "code"), none, (.fields #[(.str "__init__" 542), (.str "Cars.__init__" 543), (.str "/claim/cut.py" 544), (.int 116 0), (.int 1 0), (.int 0 0), (.int 0 0), (.int 3 0), (.ref 282), (.bool true), (.int 181 0), (.ref 283), .none, (.ref 284), (.ref 285), (.ref 286), (.int 546 0), (.int 116 0), (.str "/claim/cut.py" 547)]), #[]⟩) :: (nat_lit 288, ⟨(.type "function"), none, (.func (fnOf "__init__" "Cars.__init__" (defArgs (inClass (top 16) 0)) (defBody (inClass (top 16) 0)) (defScope (inClass (top 16) 0)) .none .none .none (.str "countkin.cars" 528) none (.ref 287) .none)), #[]⟩) :: (nat_lit 289, ⟨(.type "tuple"), none, (.seq #[] 0), #[]⟩) :: (nat_lit 291, ⟨(.type "tuple"), none, (.seq #[(.str "self" 552), (.str "thing" 553)] 0), #[]⟩) :: (nat_lit 292, ⟨(.type "tuple"), none, (.seq #[] 0), #[]⟩) :: (nat_lit 294, ⟨(.type "code"), none, (.fields #[(.str "size_of" 549), (.str "Cars.size_of" 550), (.str "/claim/cut.py" 551), (.int 119 0), (.int 2 0), (.int 0 0), (.int 0 0), (.int 3 0), (.ref 289), (.bool true), (.int 181 0), (.ref 290), .none, (.ref 291), (.ref 292), (.ref 293), (.int 554 0), (.int 119 0), (.str "/claim/cut.py" 555)]), #[]⟩) :: (nat_lit 295, ⟨(.type "function"), none, (.func (fnOf "size_of" "Cars.size_of" (defArgs (inClass (top 16) 1)) (defBody (inClass (top 16) 1)) (defScope (inClass (top 16) 1)) .none .none .none (.str "countkin.cars" 528) none (.ref 294) .none)), #[]⟩) :: (nat_lit 296, ⟨(.type "tuple"), none, (.seq #[] 0), #[]⟩) :: (nat_lit 299, ⟨(.type "code"), none, (.fields #[(.str "is_one" 557), (.str "Cars.is_one" 558), (.str "/claim/cut.py" 559), (.int 122 0), (.int 2 0), (.int 0 0), (.int 0 0), (.int 3 0), (.ref 296), (.bool true), (.int 181 0), (.ref 297), .none, .none, .none, (.ref 298), (.int 560 0), (.int 122 0), (.str "/claim/cut.py" 561)]), #[]⟩) :: (nat_lit 300, ⟨(.type "function"), none, (.func (fnOf "is_one" "Cars.is_one" (defArgs (inClass (top 16) 2)) (defBody (inClass (top 16) 2)) (defScope (inClass (top 16) 2)) .none .none .none (.str "countkin.cars" 528) none (.ref 299) .none)), #[]⟩) :: (nat_lit 301, ⟨(.type "tuple"), none, (.seq #[] 0), #[]⟩) :: (nat_lit 304, ⟨(.type "code"), none, (.fields #[(.str "code_of" 563), (.str "Cars.code_of" 564), (.str "/claim/cut.py" 565), (.int 127 0), (.int 2 0), (.int 0 0), (.int 0 0), (.int 3 0), (.ref 301), (.bool true), (.int 181 0), (.ref 302), .none, .none, .none, (.ref 303), (.int 566 0), (.int 127 0), (.str "/claim/cut.py" 567)]), #[]⟩) :: (nat_lit 305, ⟨(.type "function"), none, (.func (fnOf "code_of" "Cars.code_of" (defArgs (inClass (top 16) 3)) (defBody (inClass (top 16) 3)) (defScope (inClass (top 16) 3)) .none .none .none (.str "countkin.cars" 528) none (.ref 304) .none)), #[]⟩) :: (nat_lit 306, ⟨(.type "tuple"), none, (.seq #[] 0), #[]⟩) :: (nat_lit 309, ⟨(.type "code"), none, (.fields #[(.str "of_code" 569), (.str "Cars.of_code" 570), (.str "/claim/cut.py" 571), (.int 131 0), (.int 2 0), (.int 0 0), (.int 0 0), (.int 3 0), (.ref 306), (.bool true), (.int 181 0), (.ref 307), .none, .none, .none, (.ref 308), (.int 572 0), (.int 131 0), (.str "/claim/cut.py" 573)]), #[]⟩) :: (nat_lit 310, ⟨(.type "function"), none, (.func (fnOf "of_code" "Cars.of_code" (defArgs (inClass (top 16) 4)) (defBody (inClass (top 16) 4)) (defScope (inClass (top 16) 4)) .none .none .none (.str "countkin.cars" 528) none (.ref 309) .none)), #[]⟩) :: (nat_lit 311, ⟨(.type "tuple"), none, (.seq #[] 0), #[]⟩) :: (nat_lit 312, ⟨(.type "dict"), none, (.dict #[⟨PyData.keyHash P "__module__", .str "__module__" 537, (.str "countkin.cars" 528)⟩, ⟨PyData.keyHash P "__firstlineno__", .str "__firstlineno__" 541, (.int 114 540)⟩, ⟨PyData.keyHash P "__init__", .str "__init__" 548, (.ref 288)⟩, ⟨PyData.keyHash P "size_of", .str "size_of" 556, (.ref 295)⟩, ⟨PyData.keyHash P "is_one", .str "is_one" 562, (.ref 300)⟩, ⟨PyData.keyHash P "code_of", .str "code_of" 568, (.ref 305)⟩, ⟨PyData.keyHash P "of_code", .str "of_code" 574, (.ref 310)⟩, ⟨PyData.keyHash P "__static_attributes__", .str "__static_attributes__" 575, (.ref 311)⟩, ⟨PyData.keyHash P "__doc__", .str "__doc__" 576, .none⟩] 2), #[]⟩) :: (nat_lit 313, ⟨(.type "type"), none, (.cls ⟨"Cars", [(.ref 213)], [(.ref 313), (.ref 213), (.ref 157), (.type "object")], 312, "Cars", true, [], [], false, none, false⟩), #[(some (.ref 275)), none, (some (.str "Cars" 530)), (some (.str "Cars" 538)), (some (.builtin "object.__new__")), (some (.bool true))]⟩) :: (nat_lit 316, ⟨(.type "tuple"), none, (.seq #[(.ref 213)] 0), #[]⟩) :: (nat_lit 323, ⟨(.type "tuple"), none, (.seq #[] 0), #[]⟩) :: (nat_lit 325, ⟨(.type "tuple"), none, (.seq #[(.str "self" 596)] 0), #[]⟩) :: (nat_lit 326, ⟨(.type "tuple"), none, (.seq #[] 0), #[]⟩) :: (nat_lit 328, ⟨(.type "code"), none, (.fields #[(.str "__init__" 593), (.str "Trees.__init__" 594), (.str "/claim/cut.py" 595), (.int 142 0), (.int 1 0), (.int 0 0), (.int 0 0), (.int 3 0), (.ref 323), (.bool true), (.int 181 0), (.ref 324), .none, (.ref 325), (.ref 326), (.ref 327), (.int 597 0), (.int 142 0), (.str "/claim/cut.py" 598)]), #[]⟩) :: (nat_lit 329, ⟨(.type "function"), none, (.func (fnOf "__init__" "Trees.__init__" (defArgs (inClass (top 18) 0)) (defBody (inClass (top 18) 0)) (defScope (inClass (top 18) 0)) .none .none .none (.str "countkin.elders" 579) none (.ref 328) .none)), #[]⟩) :: (nat_lit 330, ⟨(.type "tuple"), none, (.seq #[] 0), #[]⟩) :: (nat_lit 332, ⟨(.type "tuple"), none, (.seq #[(.str "self" 603), (.str "thing" 604)] 0), #[]⟩) :: (nat_lit 333, ⟨(.type "tuple"), none, (.seq #[] 0), #[]⟩) :: (nat_lit 335, ⟨(.type "code"), none, (.fields #[(.str "size_of" 600), (.str "Trees.size_of" 601), (.str "/claim/cut.py" 602), (.int 145 0), (.int 2 0), (.int 0 0), (.int 0 0), (.int 3 0), (.ref 330), (.bool true), (.int 181 0), (.ref 331), .none, (.ref 332), (.ref 333), (.ref 334), (.int 605 0), (.int 145 0), (.str "/claim/cut.py" 606)]), #[]⟩) :: (nat_lit 336, ⟨(.type "function"), none, (.func (fnOf "size_of" "Trees.size_of" (defArgs (inClass (top 18) 1)) (defBody (inClass (top 18) 1)) (defScope (inClass (top 18) 1)) .none .none .none (.str "countkin.elders" 579) none (.ref 335) .none)), #[]⟩) :: (nat_lit 337, ⟨(.type "tuple"), none, (.seq #[] 0), #[]⟩) :: (nat_lit 340, ⟨(.type "code"), none, (.fields #[(.str "is_one" 608), (.str "Trees.is_one" 609), (.str "/claim/cut.py" 610), (.int 148 0), (.int 2 0), (.int 0 0), (.int 0 0), (.int 3 0), (.ref 337), (.bool true), (.int 181 0), (.ref 338), .none, .none, .none, (.ref 339), (.int 611 0), (.int 148 0), (.str "/claim/cut.py" 612)]), #[]⟩) :: (nat_lit 341, ⟨(.type "function"), none, (.func (fnOf "is_one" "Trees.is_one" (defArgs (inClass (top 18) 2)) (defBody (inClass (top 18) 2)) (defScope (inClass (top 18) 2)) .none .none .none (.str "countkin.elders" 579) none (.ref 340) .none)), #[]⟩) :: (nat_lit 342, ⟨(.type "tuple"), none, (.seq #[] 0), #[]⟩) :: (nat_lit 345, ⟨(.type "code"), none, (.fields #[(.str "code_of" 614), (.str "Trees.code_of" 615), (.str "/claim/cut.py" 616), (.int 154 0), (.int 2 0), (.int 0 0), (.int 0 0), (.int 3 0), (.ref 342), (.bool true), (.int 181 0), (.ref 343), .none, .none, .none, (.ref 344), (.int 617 0), (.int 154 0), (.str "/claim/cut.py" 618)]), #[]⟩) :: (nat_lit 346, ⟨(.type "function"), none, (.func (fnOf "code_of" "Trees.code_of" (defArgs (inClass (top 18) 3)) (defBody (inClass (top 18) 3)) (defScope (inClass (top 18) 3)) .none .none .none (.str "countkin.elders" 579) none (.ref 345) .none)), #[]⟩) :: (nat_lit 347, ⟨(.type "tuple"), none, (.seq #[] 0), #[]⟩) :: (nat_lit 350, ⟨(.type "code"), none, (.fields #[(.str "of_code" 620), (.str "Trees.of_code" 621), (.str "/claim/cut.py" 622), (.int 164 0), (.int 2 0), (.int 0 0), (.int 0 0), (.int 3 0), (.ref 347), (.bool true), (.int 181 0), (.ref 348), .none, .none, .none, (.ref 349), (.int 623 0), (.int 164 0), (.str "/claim/cut.py" 624)]), #[]⟩) :: (nat_lit 351, ⟨(.type "function"), none, (.func (fnOf "of_code" "Trees.of_code" (defArgs (inClass (top 18) 4)) (defBody (inClass (top 18) 4)) (defScope (inClass (top 18) 4)) .none .none .none (.str "countkin.elders" 579) none (.ref 350) .none)), #[]⟩) :: (nat_lit 352, ⟨(.type "tuple"), none, (.seq #[] 0), #[]⟩) :: (nat_lit 353, ⟨(.type "dict"), none, (.dict #[⟨PyData.keyHash P "__module__", .str "__module__" 588, (.str "countkin.elders" 579)⟩, ⟨PyData.keyHash P "__firstlineno__", .str "__firstlineno__" 592, (.int 140 591)⟩, ⟨PyData.keyHash P "__init__", .str "__init__" 599, (.ref 329)⟩, ⟨PyData.keyHash P "size_of", .str "size_of" 607, (.ref 336)⟩, ⟨PyData.keyHash P "is_one", .str "is_one" 613, (.ref 341)⟩, ⟨PyData.keyHash P "code_of", .str "code_of" 619, (.ref 346)⟩, ⟨PyData.keyHash P "of_code", .str "of_code" 625, (.ref 351)⟩, ⟨PyData.keyHash P "__static_attributes__", .str "__static_attributes__" 626, (.ref 352)⟩, ⟨PyData.keyHash P "__doc__", .str "__doc__" 627, .none⟩] 2), #[]⟩) :: (nat_lit 354, ⟨(.type "type"), none, (.cls ⟨"Trees", [(.ref 213)], [(.ref 354), (.ref 213), (.ref 157), (.type "object")], 353, "Trees", true, [], [], false, none, false⟩), #[(some (.ref 316)), none, (some (.str "Trees" 581)), (some (.str "Trees" 589)), (some (.builtin "object.__new__")), (some (.bool true))]⟩) :: (nat_lit 357, ⟨(.type "tuple"), none, (.seq #[] 0), #[]⟩) :: (nat_lit 359, ⟨(.type "tuple"), none, (.seq #[(.str "elders" 633), (.str "knot" 634), (.str "reached" 635), (.str "step" 636)] 0), #[]⟩) :: (nat_lit 360, ⟨(.type "tuple"), none, (.seq #[] 0), #[]⟩) :: (nat_lit 362, ⟨(.type "code"), none, (.fields #[(.str "comes_to_0" 630), (.str "comes_to_0" 631), (.str "/claim/cut.py" 632), (.int 173 0), (.int 2 0), (.int 0 0), (.int 0 0), (.int 3 0), (.ref 357), (.bool true), (.int 181 0), (.ref 358), .none, (.ref 359), (.ref 360), (.ref 361), (.int 637 0), (.int 173 0), (.str "/claim/cut.py" 638)]), #[]⟩) :: (nat_lit 363, ⟨(.type "function"), none, (.func (fnOf "comes_to_0" "comes_to_0" (defArgs (top 19)) (defBody (top 19)) (defScope (top 19)) .none .none .none (.str "countkin.elders" 579) none (.ref 362) .none)), #[]⟩) :: (nat_lit 364, ⟨(.type "tuple"), none, (.seq #[] 0), #[]⟩) :: (nat_lit 366, ⟨(.type "tuple"), none, (.seq #[(.str "_law_script" 645), (.str "_law_k" 646)] 0), #[]⟩) :: (nat_lit 367, ⟨(.type "tuple"), none, (.seq #[] 0), #[]⟩) :: (nat_lit 369, ⟨(.type "code"), none, (.fields #[(.str "_law_cell_at" 642), (.str "_law_cell_at" 643), (.str "/claim/cut.py" 644), (.int 180 0), (.int 2 0), (.int 0 0), (.int 0 0), (.int 3 0), (.ref 364), (.bool true), (.int 181 0), (.ref 365), .none, (.ref 366), (.ref 367), (.ref 368), (.int 647 0), (.int 180 0), (.str "/claim/cut.py" 648)]), #[]⟩) :: (nat_lit 370, ⟨(.type "function"), none, (.func (fnOf "_law_cell_at" "_law_cell_at" (defArgs (top 21)) (defBody (top 21)) (defScope (top 21)) .none .none .none (.str "law_countkin_k38_rings_numbered" 640) none (.ref 369) .none)), #[]⟩) :: (nat_lit 371, ⟨(.type "tuple"), none, (.seq #[] 0), #[]⟩) :: (nat_lit 373, ⟨(.type "tuple"), none, (.seq #[(.str "_law_found" 653)] 0), #[]⟩) :: (nat_lit 374, ⟨(.type "tuple"), none, (.seq #[] 0), #[]⟩) :: (nat_lit 376, ⟨(.type "code"), none, (.fields #[(.str "_law_whole" 650), (.str "_law_whole" 651), (.str "/claim/cut.py" 652), (.int 184 0), (.int 1 0), (.int 0 0), (.int 0 0), (.int 3 0), (.ref 371), (.bool true), (.int 181 0), (.ref 372), .none, (.ref 373), (.ref 374), (.ref 375), (.int 654 0), (.int 184 0), (.str "/claim/cut.py" 655)]), #[]⟩) :: (nat_lit 377, ⟨(.type "function"), none, (.func (fnOf "_law_whole" "_law_whole" (defArgs (top 22)) (defBody (top 22)) (defScope (top 22)) .none .none .none (.str "law_countkin_k38_rings_numbered" 640) none (.ref 376) .none)), #[]⟩) :: (nat_lit 378, ⟨(.type "tuple"), none, (.seq #[] 0), #[]⟩) :: (nat_lit 380, ⟨(.type "tuple"), none, (.seq #[(.str "_law_elders" 660), (.str "_law_size" 661), (.str "_law_elder" 662), (.str "_law_knot" 663), (.str "_law_here" 664), (.str "_law_k" 665)] 0), #[]⟩) :: (nat_lit 381, ⟨(.type "tuple"), none, (.seq #[] 0), #[]⟩) :: (nat_lit 383, ⟨(.type "code"), none, (.fields #[(.str "_law_is_tree" 657), (.str "_law_is_tree" 658), (.str "/claim/cut.py" 659), (.int 186 0), (.int 1 0), (.int 0 0), (.int 0 0), (.int 3 0), (.ref 378), (.bool true), (.int 181 0), (.ref 379), .none, (.ref 380), (.ref 381), (.ref 382), (.int 666 0), (.int 186 0), (.str "/claim/cut.py" 667)]), #[]⟩) :: (nat_lit 384, ⟨(.type "function"), none, (.func (fnOf "_law_is_tree" "_law_is_tree" (defArgs (top 23)) (defBody (top 23)) (defScope (top 23)) .none .none .none (.str "law_countkin_k38_rings_numbered" 640) none (.ref 383) .none)), #[]⟩) :: (nat_lit 385, ⟨(.type "tuple"), none, (.seq #[] 0), #[]⟩) :: (nat_lit 388, ⟨(.type "code"), none, (.fields #[(.str "_law_code" 669), (.str "_law_code" 670), (.str "/claim/cut.py" 671), (.int 199 0), (.int 1 0), (.int 0 0), (.int 0 0), (.int 3 0), (.ref 385), (.bool true), (.int 181 0), (.ref 386), .none, .none, .none, (.ref 387), (.int 672 0), (.int 199 0), (.str "/claim/cut.py" 673)]), #[]⟩) :: (nat_lit 389, ⟨(.type "function"), none, (.func (fnOf "_law_code" "_law_code" (defArgs (top 24)) (defBody (top 24)) (defScope (top 24)) .none .none .none (.str "law_countkin_k38_rings_numbered" 640) none (.ref 388) .none)), #[]⟩) :: (nat_lit 390, ⟨(.type "tuple"), none, (.seq #[] 0), #[]⟩) :: (nat_lit 393, ⟨(.type "code"), none, (.fields #[(.str "_law_all_park" 675), (.str "_law_all_park" 676), (.str "/claim/cut.py" 677), (.int 210 0), (.int 1 0), (.int 0 0), (.int 0 0), (.int 3 0), (.ref 390), (.bool true), (.int 181 0), (.ref 391), .none, .none, .none, (.ref 392), (.int 678 0), (.int 210 0), (.str "/claim/cut.py" 679)]), #[]⟩) :: (nat_lit 394, ⟨(.type "function"), none, (.func (fnOf "_law_all_park" "_law_all_park" (defArgs (top 25)) (defBody (top 25)) (defScope (top 25)) .none .none .none (.str "law_countkin_k38_rings_numbered" 640) none (.ref 393) .none)), #[]⟩) :: (nat_lit 395, ⟨(.type "tuple"), none, (.seq #[] 0), #[]⟩) :: (nat_lit 398, ⟨(.type "code"), none, (.fields #[(.str "_law_steps" 681), (.str "_law_steps" 682), (.str "/claim/cut.py" 683), (.int 218 0), (.int 1 0), (.int 0 0), (.int 0 0), (.int 3 0), (.ref 395), (.bool true), (.int 181 0), (.ref 396), .none, .none, .none, (.ref 397), (.int 684 0), (.int 218 0), (.str "/claim/cut.py" 685)]), #[]⟩) :: (nat_lit 399, ⟨(.type "function"), none, (.func (fnOf "_law_steps" "_law_steps" (defArgs (top 26)) (defBody (top 26)) (defScope (top 26)) .none .none .none (.str "law_countkin_k38_rings_numbered" 640) none (.ref 398) .none)), #[]⟩) :: (nat_lit 400, ⟨(.type "tuple"), none, (.seq #[] 0), #[]⟩) :: (nat_lit 402, ⟨(.type "tuple"), none, (.seq #[(.str "_law_word" 690)] 0), #[]⟩) :: (nat_lit 403, ⟨(.type "tuple"), none, (.seq #[] 0), #[]⟩) :: (nat_lit 405, ⟨(.type "code"), none, (.fields #[(.str "_law_kin" 687), (.str "_law_kin" 688), (.str "/claim/cut.py" 689), (.int 221 0), (.int 1 0), (.int 0 0), (.int 0 0), (.int 3 0), (.ref 400), (.bool true), (.int 181 0), (.ref 401), .none, (.ref 402), (.ref 403), (.ref 404), (.int 691 0), (.int 221 0), (.str "/claim/cut.py" 692)]), #[]⟩) :: (nat_lit 406, ⟨(.type "function"), none, (.func (fnOf "_law_kin" "_law_kin" (defArgs (top 27)) (defBody (top 27)) (defScope (top 27)) .none .none .none (.str "law_countkin_k38_rings_numbered" 640) none (.ref 405) .none)), #[]⟩) :: (nat_lit 407, ⟨(.type "tuple"), none, (.seq #[] 0), #[]⟩) :: (nat_lit 409, ⟨(.type "tuple"), none, (.seq #[(.str "_law_word" 697), (.str "_law_found" 698), (.str "_law_code_here" 699), (.str "_law_number_here" 700)] 0), #[]⟩) :: (nat_lit 410, ⟨(.type "tuple"), none, (.seq #[] 0), #[]⟩) :: (nat_lit 412, ⟨(.type "code"), none, (.fields #[(.str "_law_has_code" 694), (.str "_law_has_code" 695), (.str "/claim/cut.py" 696), (.int 227 0), (.int 3 0), (.int 0 0), (.int 0 0), (.int 3 0), (.ref 407), (.bool true), (.int 181 0), (.ref 408), .none, (.ref 409), (.ref 410), (.ref 411), (.int 701 0), (.int 227 0), (.str "/claim/cut.py" 702)]), #[]⟩) :: (nat_lit 413, ⟨(.type "function"), none, (.func (fnOf "_law_has_code" "_law_has_code" (defArgs (top 28)) (defBody (top 28)) (defScope (top 28)) .none .none .none (.str "law_countkin_k38_rings_numbered" 640) none (.ref 412) .none)), #[]⟩) :: (nat_lit 414, ⟨(.type "tuple"), none, (.seq #[] 0), #[]⟩) :: (nat_lit 416, ⟨(.type "tuple"), none, (.seq #[(.str "_law_size" 707), (.str "_law_number_here" 708), (.str "_law_code_here" 709), (.str "_law_k" 710)] 0), #[]⟩) :: (nat_lit 417, ⟨(.type "tuple"), none, (.seq #[] 0), #[]⟩) :: (nat_lit 419, ⟨(.type "code"), none, (.fields #[(.str "_law_figures_of" 704), (.str "_law_figures_of" 705), (.str "/claim/cut.py" 706), (.int 238 0), (.int 2 0), (.int 0 0), (.int 0 0), (.int 3 0), (.ref 414), (.bool true), (.int 181 0), (.ref 415), .none, (.ref 416), (.ref 417), (.ref 418), (.int 711 0), (.int 238 0), (.str "/claim/cut.py" 712)]), #[]⟩) :: (nat_lit 420, ⟨(.type "function"), none, (.func (fnOf "_law_figures_of" "_law_figures_of" (defArgs (top 29)) (defBody (top 29)) (defScope (top 29)) .none .none .none (.str "law_countkin_k38_rings_numbered" 640) none (.ref 419) .none)), #[]⟩) :: (nat_lit 421, ⟨(.type "tuple"), none, (.seq #[] 0), #[]⟩) :: (nat_lit 423, ⟨(.type "tuple"), none, (.seq #[(.str "_law_script" 717), (.str "_law_size" 718), (.str "_law_many" 719), (.str "_law_some" 720), (.str "_law_number_here" 721), (.str "_law_cell" 722), (.str "_law_low" 723), (.str "_law_k" 724)] 0), #[]⟩) :: (nat_lit 424, ⟨(.type "tuple"), none, (.seq #[] 0), #[]⟩) :: (nat_lit 426, ⟨(.type "code"), none, (.fields #[(.str "_law_number" 714), (.str "_law_number" 715), (.str "/claim/cut.py" 716), (.int 244 0), (.int 3 0), (.int 0 0), (.int 0 0), (.int 3 0), (.ref 421), (.bool true), (.int 181 0), (.ref 422), .none, (.ref 423), (.ref 424), (.ref 425), (.int 725 0), (.int 244 0), (.str "/claim/cut.py" 726)]), #[]⟩) :: (nat_lit 427, ⟨(.type "function"), none, (.func (fnOf "_law_number" "_law_number" (defArgs (top 30)) (defBody (top 30)) (defScope (top 30)) .none .none .none (.str "law_countkin_k38_rings_numbered" 640) none (.ref 426) .none)), #[]⟩) :: (nat_lit 428, ⟨(.type "tuple"), none, (.seq #[] 0), #[]⟩) :: (nat_lit 430, ⟨(.type "tuple"), none, (.seq #[(.str "_law_script" 731), (.str "_law_word" 732), (.str "_law_size" 733), (.str "_law_many" 734), (.str "_law_k" 735), (.str "_law_number_here" 736), (.str "_law_kin_here" 737), (.str "_law_other" 738), (.str "_law_last" 739), (.str "_law_thing" 740), (.str "_law_told" 741), (.str "_law_handed" 742), (.str "_law_later" 743)] 0), #[]⟩) :: (nat_lit 431, ⟨(.type "tuple"), none, (.seq #[] 0), #[]⟩) :: (nat_lit 433, ⟨(.type "code"), none, (.fields #[(.str "law" 728), (.str "law" 729), (.str "/claim/cut.py" 730), (.int 259 0), (.int 1 0), (.int 0 0), (.int 0 0), (.int 3 0), (.ref 428), (.bool true), (.int 181 0), (.ref 429), .none, (.ref 430), (.ref 431), (.ref 432), (.int 744 0), (.int 259 0), (.str "/claim/cut.py" 745)]), #[]⟩) :: (nat_lit 434, ⟨(.type "function"), none, (.func (fnOf "law" "law" (defArgs (top 31)) (defBody (top 31)) (defScope (top 31)) .none .none .none (.str "law_countkin_k38_rings_numbered" 640) none (.ref 433) .none)), #[]⟩) :: []
noncomputable def hA : List Addr := (2 :: 3 :: 15 :: 17 :: 18 :: 20 :: 21 :: 22 :: 29 :: 30 :: 31 :: 32 :: 35 :: 42 :: 43 :: 44 :: 47 :: 54 :: 55 :: 56 :: 59 :: 66 :: 67 :: 68 :: 78 :: 80 :: 81 :: 83 :: 84 :: 85 :: 87 :: 88 :: 90 :: 91 :: 92 :: 94 :: 95 :: 97 :: 98 :: 99 :: 101 :: 102 :: 104 :: 105 :: 106 :: 108 :: 109 :: 111 :: 112 :: 113 :: 115 :: 116 :: 118 :: 119 :: 120 :: 122 :: 123 :: 125 :: 126 :: 127 :: 129 :: 130 :: 132 :: 133 :: 134 :: 136 :: 137 :: 139 :: 140 :: 141 :: 143 :: 144 :: 146 :: 147 :: 148 :: 150 :: 151 :: 153 :: 154 :: 155 :: 156 :: 157 :: 158 :: 159 :: 162 :: 169 :: 171 :: 172 :: 174 :: 175 :: 176 :: 178 :: 179 :: 181 :: 182 :: 183 :: 185 :: 186 :: 188 :: 189 :: 190 :: 192 :: 193 :: 195 :: 196 :: 197 :: 199 :: 200 :: 202 :: 203 :: 204 :: 206 :: 207 :: 209 :: 210 :: 211 :: 212 :: 213 :: 216 :: 218 :: 219 :: 221 :: 222 :: 223 :: 225 :: 226 :: 228 :: 229 :: 230 :: 237 :: 239 :: 240 :: 242 :: 243 :: 244 :: 246 :: 247 :: 249 :: 250 :: 251 :: 254 :: 255 :: 256 :: 258 :: 259 :: 261 :: 262 :: 263 :: 265 :: 266 :: 268 :: 269 :: 270 :: 271 :: 272 :: 275 :: 282 :: 284 :: 285 :: 287 :: 288 :: 289 :: 291 :: 292 :: 294 :: 295 :: 296 :: 299 :: 300 :: 301 :: 304 :: 305 :: 306 :: 309 :: 310 :: 311 :: 312 :: 313 :: 316 :: 323 :: 325 :: 326 :: 328 :: 329 :: 330 :: 332 :: 333 :: 335 :: 336 :: 337 :: 340 :: 341 :: 342 :: 345 :: 346 :: 347 :: 350 :: 351 :: 352 :: 353 :: 354 :: 357 :: 359 :: 360 :: 362 :: 363 :: 364 :: 366 :: 367 :: 369 :: 370 :: 371 :: 373 :: 374 :: 376 :: 377 :: 378 :: 380 :: 381 :: 383 :: 384 :: 385 :: 388 :: 389 :: 390 :: 393 :: 394 :: 395 :: 398 :: 399 :: 400 :: 402 :: 403 :: 405 :: 406 :: 407 :: 409 :: 410 :: 412 :: 413 :: 414 :: 416 :: 417 :: 419 :: 420 :: 421 :: 423 :: 424 :: 426 :: 427 :: 428 :: 430 :: 431 :: 433 :: 434 :: [])
noncomputable abbrev hX : Shared → Bool := (fun s => xlAt hQ [] s && recOk (RowW.records (OpenRow.toRowW (OpenLaw.row PySem.Challenge.rw_countkin_k38_rings_numbered))) s)
theorem hKA : ∀ P : Params, hA = (hK P).map (·.1) := fun _ => by kernel_rfl
noncomputable abbrev hH : Hook := kHook hK hA hKA
noncomputable def hLook (P : Params) (s : Shared) := ((staticsOk (importedModules PySem.Challenge.pw_countkin_k38_rings_numbered.main.body) (boot_heap P) s.heap && namesBound PySem.Challenge.pw_countkin_k38_rings_numbered s.heap && gensDone s && laidKept (boot_heap P) s.heap), openSeen hQ hL (importedModules PySem.Challenge.pw_countkin_k38_rings_numbered.main.body) hX true s, hA.map s.heap.get?)
noncomputable def hPreF (w : World) (os : OsState) := topGo treeTable PySem.Challenge.pw_countkin_k38_rings_numbered w 11 (some (.ref 6)) 12 ⟨boot_heap w.params, Array.mk [], boot_drawn, boot_toks, os⟩ (topStub PySem.Challenge.pw_countkin_k38_rings_numbered)
noncomputable def hPreG (w : World) (os : OsState) : Option (Shared × Thread) := some ((hS w os).abs, ⟨denote treeTable hC, hC, ⟨0, 0, 0, 0⟩, [topFrame ⟨0, 0, 0, 0⟩]⟩)
noncomputable def hBlkF (w : World) (os : OsState) := segRun treeTable PySem.Challenge.pw_countkin_k38_rings_numbered w 11 (some (.ref 6)) 1 1 (hS w os).abs (blockOf hB hE hC ⟨0, 0, 0, 0⟩ [topFrame ⟨0, 0, 0, 0⟩])
noncomputable def hBlkG (w : World) (os : OsState) : Option (Flow × Shared × Code × Pos) := some (.next, (hS w os).abs, hC, ⟨0, 0, 0, 0⟩)
noncomputable def hRunF (w : World) (os : OsState) := (segRunT treeTable PySem.Challenge.pw_countkin_k38_rings_numbered w 11 (some (.ref 6)) 1 3449 (hS w os) (piecesOf hB hE hC ⟨0, 0, 0, 0⟩ [topFrame ⟨0, 0, 0, 0⟩])).map (lookEnd treeTable PySem.Challenge.pw_countkin_k38_rings_numbered w 11 (some (.ref 6)) ⟨0, 0, 0, 0⟩ hC 2 (hLook w.params))
noncomputable def hRunG (w : World) (_ : OsState) := some (Flow.next, hC, some (true, openGood hQ hL, (hK w.params).map fun p => some p.2))
noncomputable def hSizF (w : World) := ((boot_heap w.params).isNs mainGlobals && (Array.mk [] : Array GenState).size == 0, (boot_heap w.params).objs.size, (boot_heap w.params).nsMap mainGlobals "__annotations__")
noncomputable def hSizG (_ : World) : Bool × Nat × Option Value := (true, 11, (some (.ref 6)))
theorem hSeed : (fun _ _ _ _ _ _ _ _ => true) hPreF hPreG hBlkF hBlkG hRunF hRunG hSizF hSizG = true := by k_qdec
theorem hPre : hPreF = hPreG := Eq.trans PySem.W.Fast.te5317814654954331368 (Eq.trans (by kernel_rfl) (Eq.symm PySem.W.Fast.te14277440360295502494))
theorem hBlk : hBlkF = hBlkG := Eq.trans PySem.W.Fast.te2033988648308832629 (Eq.trans (by kernel_rfl) (Eq.symm PySem.W.Fast.te1798457917166677164))
theorem hRun : hRunF = hRunG := Eq.trans PySem.W.Fast.te6412348297585774662 (Eq.trans (by kernel_rfl) (Eq.symm PySem.W.Fast.te15447895654253735931))
theorem hSiz : hSizF = hSizG := Eq.trans PySem.W.Fast.te13693962943478796877 (by kernel_rfl)
theorem hLeft : LeftO PySem.Challenge.pw_countkin_k38_rings_numbered hQ hL hX (Hook.obs hH) (Hook.val hH) 7022 :=
  left_whole (boot_open (by kernel_rfl) (by decide) (fun _ => by kernel_rfl)) (fun w => congrFun hSiz w)
    (fun w os => run_whole (b := hB) (env := hE) (L := hLook w.params) rfl (congrFun (congrFun hPre w) os) (congrFun (congrFun hBlk w) os) (congrFun (congrFun hRun w) os)) (by decide)
end Ck
open PySem PySem.W PyProof.Rows
set_option maxRecDepth 100000 in
set_option maxHeartbeats 0 in
theorem PySem.Challenge.cw_countkin_k38_rings_numbered_holds : PySem.Challenge.rw_countkin_k38_rings_numbered.Holds := by
  w_on; o_law
  refine holds_open (q := Ck.hQ) (loose := Ck.hL) (Xt := Ck.hX) (XP := XL Ck.hQ []) (Yf := Hook.obs (kHook Ck.hK Ck.hA Ck.hKA)) (Ya := Hook.val (kHook Ck.hK Ck.hA Ck.hKA)) (YP := Hook.says (kHook Ck.hK Ck.hA Ck.hKA)) (N := 7022) Ck.hLeft (Hook.of (kHook Ck.hK Ck.hA Ck.hKA)) (Hook.keeps (kHook Ck.hK Ck.hA Ck.hKA))
    (fun s e => xl_of s (Bool.and_eq_true_iff.mp e).1) XL.keeps (by rfl) (by rfl) (by rfl) (fun s e => recFacts_of (Bool.and_eq_true_iff.mp e).2) (by rfl) (by first | assumption | decide +kernel) (by decide +kernel) ⟨rfl, rfl, rfl, rfl, rfl, by decide +kernel⟩ ?hw ?hc
  case hw => w_witness2
  k_fill
  refine Ck.walk (l := PySem.Challenge.rw_countkin_k38_rings_numbered) rfl rfl (fun w h Y => PySem.W.kIn_of Y) ?F
  case F =>
    intro w mg fa h KX G hmg
    refine' Ck.all_mk KX G hmg ?nc_Family ?nc_RingFamily ?nc_Codes ?nc_Trees ?nc_Cars ?a_Codes_many ?a_Trees_many ?a_Cars_many ?a_Codes_thing_of ?a_Trees_thing_of ?a_Cars_thing_of ?a_Codes_number_of ?a_Trees_number_of ?a_Cars_number_of ?a_Codes_next_of ?a_Trees_next_of ?a_Cars_next_of ?a_Codes_unchecked_many ?a_Trees_unchecked_many ?a_Cars_unchecked_many ?a_Codes_unchecked_thing ?a_Codes_of_code ?a_Trees_unchecked_thing ?a_Trees_of_code ?a_Cars_unchecked_thing ?a_Cars_of_code ?a_Cars_is_one ?a_Codes_refuse_other ?a_Codes_unchecked_number ?a_Codes_is_one ?a_Codes_size_of ?a_Codes_code_of ?a_Trees_refuse_other ?a_Trees_unchecked_number ?a_Trees_is_one ?a_Trees_size_of ?a_Trees_code_of ?a_Cars_refuse_other ?a_Cars_unchecked_number ?a_Cars_size_of ?a_Cars_code_of ?ai_Codes ?ai_Trees ?ai_Cars ?ch_RingFamily___init___Codes ?cg_RingFamily___init___Codes ?cr_RingFamily___init___Codes ?ch_Family___init___Codes ?cg_Family___init___Codes ?cr_Family___init___Codes ?ch_RingFamily___init___Trees ?cg_RingFamily___init___Trees ?cr_RingFamily___init___Trees ?ch_Family___init___Trees ?cg_Family___init___Trees ?cr_Family___init___Trees ?ch_RingFamily___init___Cars ?cg_RingFamily___init___Cars ?cr_RingFamily___init___Cars ?ch_Family___init___Cars ?cg_Family___init___Cars ?cr_Family___init___Cars ?a1 ?l1 ?c1 ?k1 ?a2 ?l2 ?c2 ?k2 ?l3 ?c3 ?k3 ?i3 ?l4 ?c4 ?k4 ?i4 ?l5 ?c5 ?k5 ?i5 ?l6 ?c6 ?k6 ?i6 ?l7 ?c7 ?k7 ?i7 ?l8 ?c8 ?k8 ?i8 ?l9 ?c9 ?k9 ?i9 ?l10 ?c10 ?k10 ?i10 ?l11 ?c11 ?k11 ?i11 ?a12 ?l12 ?c12 ?k12 ?a13 ?l13 ?c13 ?k13 ?a14 ?l14 ?c14 ?k14 ?l15 ?c15 ?k15 ?i15 ?l16 ?c16 ?k16 ?i16 ?l17 ?c17 ?k17 ?i17 ?l18 ?c18 ?k18 ?i18 ?l19 ?c19 ?k19 ?i19 ?l20 ?c20 ?k20 ?i20 ?l21 ?c21 ?k21 ?i21 ?a22 ?l22 ?c22 ?k22 ?l23 ?c23 ?k23 ?i23 ?l24 ?c24 ?k24 ?i24 ?l25 ?c25 ?k25 ?i25 ?l26 ?c26 ?k26 ?i26 ?l27 ?c27 ?k27 ?i27 ?l28 ?c28 ?k28 ?i28 ?l29 ?c29 ?k29 ?i29 ?l30 ?c30 ?k30 ?i30 ?l31 ?c31 ?k31 ?i31 ?a32 ?l32 ?c32 ?k32 ?a33 ?l33 ?c33 ?k33 ?a34 ?l34 ?c34 ?k34 ?a35 ?l35 ?c35 ?k35 ?a36 ?l36 ?c36 ?k36 ?a37 ?l37 ?c37 ?k37 ?l38 ?c38 ?k38 ?i38 ?l39 ?c39 ?k39 ?i39 ?a40 ?l40 ?c40 ?k40 ?l41 ?c41 ?k41 ?i41 ?l42 ?c42 ?k42 ?i42 ?l43 ?c43 ?k43 ?i43 ?l44 ?c44 ?k44 ?i44 ?a45 ?l45 ?c45 ?k45 ?l46 ?c46 ?k46 ?i46 ?l47 ?c47 ?k47 ?i47 ?l48 ?c48 ?k48 ?i48 ?l49 ?c49 ?k49 ?i49 ?l50 ?c50 ?k50 ?i50 ?l51 ?c51 ?k51 ?i51 ?l52 ?c52 ?k52 ?i52 ?l53 ?c53 ?k53 ?i53 ?l54 ?c54 ?k54 ?i54 ?l55 ?c55 ?k55 ?i55 ?l56 ?c56 ?k56 ?i56 ?l57 ?c57 ?k57 ?i57 ?l58 ?c58 ?k58 ?i58 ?l59 ?c59 ?k59 ?i59 ?a60 ?l60 ?c60 ?k60 ?pg_Codes ?hd_Codes ?po_Codes ?sa_Codes ?pg_Trees ?hd_Trees ?po_Trees ?sa_Trees ?pg_Cars ?hd_Cars ?po_Cars ?sa_Cars ?mk_Codes ?kc_Codes ?mk_Trees ?kc_Trees ?mk_Cars ?kc_Cars ?na_Codes_word ?na_Trees_word ?na_Cars_word ?na_Codes_least ?na_Trees_least ?na_Cars_least ?ia_Codes ?im_Codes ?ia_Trees ?im_Trees ?ia_Cars ?im_Cars ?in_get ?in_tk ?ki_Codes_Family ?ki_Trees_Family ?ki_Cars_Family ?ki_Codes_RingFamily ?ki_Trees_RingFamily ?ki_Cars_RingFamily ?z_len ?z_range ?z_isinstance ?z_int ?z_bool ?z_list ?z_enumerate ?z_min ?z_all ?z_sorted ?y_GREATEST_SIZE
    (case nc_Family => k_is)
    (case nc_RingFamily => k_is)
    (case nc_Codes => k_is)
    (case nc_Trees => k_is)
    (case nc_Cars => k_is)
    (case a_Codes_many => k_is)
    (case a_Trees_many => k_is)
    (case a_Cars_many => k_is)
    (case a_Codes_thing_of => k_is)
    (case a_Trees_thing_of => k_is)
    (case a_Cars_thing_of => k_is)
    (case a_Codes_number_of => k_is)
    (case a_Trees_number_of => k_is)
    (case a_Cars_number_of => k_is)
    (case a_Codes_next_of => k_is)
    (case a_Trees_next_of => k_is)
    (case a_Cars_next_of => k_is)
    (case a_Codes_unchecked_many => k_is)
    (case a_Trees_unchecked_many => k_is)
    (case a_Cars_unchecked_many => k_is)
    (case a_Codes_unchecked_thing => k_is)
    (case a_Codes_of_code => k_is)
    (case a_Trees_unchecked_thing => k_is)
    (case a_Trees_of_code => k_is)
    (case a_Cars_unchecked_thing => k_is)
    (case a_Cars_of_code => k_is)
    (case a_Cars_is_one => k_is)
    (case a_Codes_refuse_other => k_is)
    (case a_Codes_unchecked_number => k_is)
    (case a_Codes_is_one => k_is)
    (case a_Codes_size_of => k_is)
    (case a_Codes_code_of => k_is)
    (case a_Trees_refuse_other => k_is)
    (case a_Trees_unchecked_number => k_is)
    (case a_Trees_is_one => k_is)
    (case a_Trees_size_of => k_is)
    (case a_Trees_code_of => k_is)
    (case a_Cars_refuse_other => k_is)
    (case a_Cars_unchecked_number => k_is)
    (case a_Cars_size_of => k_is)
    (case a_Cars_code_of => k_is)
    (case ai_Codes => k_is)
    (case ai_Trees => k_is)
    (case ai_Cars => k_is)
    (case ch_RingFamily___init___Codes => k_is)
    (case cg_RingFamily___init___Codes => k_is)
    (case cr_RingFamily___init___Codes => k_is)
    (case ch_Family___init___Codes => k_is)
    (case cg_Family___init___Codes => k_is)
    (case cr_Family___init___Codes => k_is)
    (case ch_RingFamily___init___Trees => k_is)
    (case cg_RingFamily___init___Trees => k_is)
    (case cr_RingFamily___init___Trees => k_is)
    (case ch_Family___init___Trees => k_is)
    (case cg_Family___init___Trees => k_is)
    (case cr_Family___init___Trees => k_is)
    (case ch_RingFamily___init___Cars => k_is)
    (case cg_RingFamily___init___Cars => k_is)
    (case cr_RingFamily___init___Cars => k_is)
    (case ch_Family___init___Cars => k_is)
    (case cg_Family___init___Cars => k_is)
    (case cr_Family___init___Cars => k_is)
    (case a1 => k_is)
    (case l1 => k_is)
    (case c1 => k_is)
    (case k1 => k_is)
    (case a2 => k_is)
    (case l2 => k_is)
    (case c2 => k_is)
    (case k2 => k_is)
    (case l3 => k_is)
    (case c3 => k_is)
    (case k3 => k_is)
    (case i3 => k_is)
    (case l4 => k_is)
    (case c4 => k_is)
    (case k4 => k_is)
    (case i4 => k_is)
    (case l5 => k_is)
    (case c5 => k_is)
    (case k5 => k_is)
    (case i5 => k_is)
    (case l6 => k_is)
    (case c6 => k_is)
    (case k6 => k_is)
    (case i6 => k_is)
    (case l7 => k_is)
    (case c7 => k_is)
    (case k7 => k_is)
    (case i7 => k_is)
    (case l8 => k_is)
    (case c8 => k_is)
    (case k8 => k_is)
    (case i8 => k_is)
    (case l9 => k_is)
    (case c9 => k_is)
    (case k9 => k_is)
    (case i9 => k_is)
    (case l10 => k_is)
    (case c10 => k_is)
    (case k10 => k_is)
    (case i10 => k_is)
    (case l11 => k_is)
    (case c11 => k_is)
    (case k11 => k_is)
    (case i11 => k_is)
    (case a12 => k_is)
    (case l12 => k_is)
    (case c12 => k_is)
    (case k12 => k_is)
    (case a13 => k_is)
    (case l13 => k_is)
    (case c13 => k_is)
    (case k13 => k_is)
    (case a14 => k_is)
    (case l14 => k_is)
    (case c14 => k_is)
    (case k14 => k_is)
    (case l15 => k_is)
    (case c15 => k_is)
    (case k15 => k_is)
    (case i15 => k_is)
    (case l16 => k_is)
    (case c16 => k_is)
    (case k16 => k_is)
    (case i16 => k_is)
    (case l17 => k_is)
    (case c17 => k_is)
    (case k17 => k_is)
    (case i17 => k_is)
    (case l18 => k_is)
    (case c18 => k_is)
    (case k18 => k_is)
    (case i18 => k_is)
    (case l19 => k_is)
    (case c19 => k_is)
    (case k19 => k_is)
    (case i19 => k_is)
    (case l20 => k_is)
    (case c20 => k_is)
    (case k20 => k_is)
    (case i20 => k_is)
    (case l21 => k_is)
    (case c21 => k_is)
    (case k21 => k_is)
    (case i21 => k_is)
    (case a22 => k_is)
    (case l22 => k_is)
    (case c22 => k_is)
    (case k22 => k_is)
    (case l23 => k_is)
    (case c23 => k_is)
    (case k23 => k_is)
    (case i23 => k_is)
    (case l24 => k_is)
    (case c24 => k_is)
    (case k24 => k_is)
    (case i24 => k_is)
    (case l25 => k_is)
    (case c25 => k_is)
    (case k25 => k_is)
    (case i25 => k_is)
    (case l26 => k_is)
    (case c26 => k_is)
    (case k26 => k_is)
    (case i26 => k_is)
    (case l27 => k_is)
    (case c27 => k_is)
    (case k27 => k_is)
    (case i27 => k_is)
    (case l28 => k_is)
    (case c28 => k_is)
    (case k28 => k_is)
    (case i28 => k_is)
    (case l29 => k_is)
    (case c29 => k_is)
    (case k29 => k_is)
    (case i29 => k_is)
    (case l30 => k_is)
    (case c30 => k_is)
    (case k30 => k_is)
    (case i30 => k_is)
    (case l31 => k_is)
    (case c31 => k_is)
    (case k31 => k_is)
    (case i31 => k_is)
    (case a32 => k_is)
    (case l32 => k_is)
    (case c32 => k_is)
    (case k32 => k_is)
    (case a33 => k_is)
    (case l33 => k_is)
    (case c33 => k_is)
    (case k33 => k_is)
    (case a34 => k_is)
    (case l34 => k_is)
    (case c34 => k_is)
    (case k34 => k_is)
    (case a35 => k_is)
    (case l35 => k_is)
    (case c35 => k_is)
    (case k35 => k_is)
    (case a36 => k_is)
    (case l36 => k_is)
    (case c36 => k_is)
    (case k36 => k_is)
    (case a37 => k_is)
    (case l37 => k_is)
    (case c37 => k_is)
    (case k37 => k_is)
    (case l38 => k_is)
    (case c38 => k_is)
    (case k38 => k_is)
    (case i38 => k_is)
    (case l39 => k_is)
    (case c39 => k_is)
    (case k39 => k_is)
    (case i39 => k_is)
    (case a40 => k_is)
    (case l40 => k_is)
    (case c40 => k_is)
    (case k40 => k_is)
    (case l41 => k_is)
    (case c41 => k_is)
    (case k41 => k_is)
    (case i41 => k_is)
    (case l42 => k_is)
    (case c42 => k_is)
    (case k42 => k_is)
    (case i42 => k_is)
    (case l43 => k_is)
    (case c43 => k_is)
    (case k43 => k_is)
    (case i43 => k_is)
    (case l44 => k_is)
    (case c44 => k_is)
    (case k44 => k_is)
    (case i44 => k_is)
    (case a45 => k_is)
    (case l45 => k_is)
    (case c45 => k_is)
    (case k45 => k_is)
    (case l46 => k_is)
    (case c46 => k_is)
    (case k46 => k_is)
    (case i46 => k_is)
    (case l47 => k_is)
    (case c47 => k_is)
    (case k47 => k_is)
    (case i47 => k_is)
    (case l48 => k_is)
    (case c48 => k_is)
    (case k48 => k_is)
    (case i48 => k_is)
    (case l49 => k_is)
    (case c49 => k_is)
    (case k49 => k_is)
    (case i49 => k_is)
    (case l50 => k_is)
    (case c50 => k_is)
    (case k50 => k_is)
    (case i50 => k_is)
    (case l51 => k_is)
    (case c51 => k_is)
    (case k51 => k_is)
    (case i51 => k_is)
    (case l52 => k_is)
    (case c52 => k_is)
    (case k52 => k_is)
    (case i52 => k_is)
    (case l53 => k_is)
    (case c53 => k_is)
    (case k53 => k_is)
    (case i53 => k_is)
    (case l54 => k_is)
    (case c54 => k_is)
    (case k54 => k_is)
    (case i54 => k_is)
    (case l55 => k_is)
    (case c55 => k_is)
    (case k55 => k_is)
    (case i55 => k_is)
    (case l56 => k_is)
    (case c56 => k_is)
    (case k56 => k_is)
    (case i56 => k_is)
    (case l57 => k_is)
    (case c57 => k_is)
    (case k57 => k_is)
    (case i57 => k_is)
    (case l58 => k_is)
    (case c58 => k_is)
    (case k58 => k_is)
    (case i58 => k_is)
    (case l59 => k_is)
    (case c59 => k_is)
    (case k59 => k_is)
    (case i59 => k_is)
    (case a60 => k_is)
    (case l60 => k_is)
    (case c60 => k_is)
    (case k60 => k_is)
    (case pg_Codes => k_is)
    (case hd_Codes => k_is)
    (case po_Codes => k_is)
    (case sa_Codes => k_is)
    (case pg_Trees => k_is)
    (case hd_Trees => k_is)
    (case po_Trees => k_is)
    (case sa_Trees => k_is)
    (case pg_Cars => k_is)
    (case hd_Cars => k_is)
    (case po_Cars => k_is)
    (case sa_Cars => k_is)
    (case mk_Codes => k_is)
    (case kc_Codes => k_is)
    (case mk_Trees => k_is)
    (case kc_Trees => k_is)
    (case mk_Cars => k_is)
    (case kc_Cars => k_is)
    (case na_Codes_word => k_is)
    (case na_Trees_word => k_is)
    (case na_Cars_word => k_is)
    (case na_Codes_least => k_is)
    (case na_Trees_least => k_is)
    (case na_Cars_least => k_is)
    (case ia_Codes => k_is)
    (case im_Codes => k_is)
    (case ia_Trees => k_is)
    (case im_Trees => k_is)
    (case ia_Cars => k_is)
    (case im_Cars => k_is)
    (case in_get => k_is)
    (case in_tk => k_is)
    (case ki_Codes_Family => kernel_rfl)
    (case ki_Trees_Family => kernel_rfl)
    (case ki_Cars_Family => kernel_rfl)
    (case ki_Codes_RingFamily => kernel_rfl)
    (case ki_Trees_RingFamily => kernel_rfl)
    (case ki_Cars_RingFamily => kernel_rfl)
    (case z_len => k_is)
    (case z_range => k_is)
    (case z_isinstance => k_is)
    (case z_int => k_is)
    (case z_bool => k_is)
    (case z_list => k_is)
    (case z_enumerate => k_is)
    (case z_min => k_is)
    (case z_all => k_is)
    (case z_sorted => k_is)
    (case y_GREATEST_SIZE => k_is)

